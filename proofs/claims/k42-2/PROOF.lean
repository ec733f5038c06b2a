import PyProof.Rows.All
import Wide.All
import OpenK.AllK
import Wide.FinOn
import Lean
import PyProof.EqAt
import PyProof.EqKinds
import PyProof.TupleCall
import PySem.Challenge.RW_figuresort_k42_pours_apart
set_option compiler.extract_closed false
-- CHANGE: your row's module here, as the last of these rows
set_option Elab.async false
set_option linter.all false
set_option maxRecDepth 100000
namespace L2
open PySem PySem.Spec PyProof.Rows

abbrev Key := Sum Int Str
def keyIs : Key → Value → Bool
  | .inl k, v => Value.isInt k v
  | .inr x, v => Value.isStrOf x v
def keyH (w : World) : Key → Int
  | .inl k => hashInt k
  | .inr x => hashStr w x
theorem keyIs_shape : ∀ {k : Key} {v : Value}, keyIs k v = true → (∃ i t, k = Sum.inl i ∧ v = Value.int i t) ∨ (∃ x t, k = Sum.inr x ∧ v = Value.str x t)
  | .inl i, v, h => by
    obtain ⟨t, e⟩ := Value.isInt_shape (k := i) (v := v) h
    exact .inl ⟨i, t, rfl, e⟩
  | .inr x, v, h => by
    obtain ⟨t, e⟩ := Value.isStrOf_shape (x := x) (v := v) h
    exact .inr ⟨x, t, rfl, e⟩
theorem key_ll (a b : Int) : decide ((Sum.inl a : Key) = Sum.inl b) = (a == b) := by
  by_cases e : a = b
  · subst e; simp
  · have h : ¬ (Sum.inl a : Key) = Sum.inl b := fun q => e (Sum.inl.inj q)
    rw [decide_eq_false h]
    exact (beq_eq_false_iff_ne.mpr e).symm
theorem key_rr (a b : Str) : decide ((Sum.inr a : Key) = Sum.inr b) = decide (a = b) := by
  by_cases e : a = b
  · subst e; simp
  · have h : ¬ (Sum.inr a : Key) = Sum.inr b := fun q => e (Sum.inr.inj q)
    rw [decide_eq_false h, decide_eq_false e]
theorem key_lr (a : Int) (b : Str) : decide ((Sum.inl a : Key) = Sum.inr b) = false := decide_eq_false (fun q => nomatch q)
theorem key_rl (a : Str) (b : Int) : decide ((Sum.inr a : Key) = Sum.inl b) = false := decide_eq_false (fun q => nomatch q)

def mixKind (prog : Program) (w : World) : PySem.KeyKind prog w Key where
  is := keyIs
  hash := keyH w
  inj := fun v a b ha hb => by
    rcases keyIs_shape ha with ⟨i, t, rfl, rfl⟩ | ⟨x, t, rfl, rfl⟩
    · rcases keyIs_shape hb with ⟨j, u, rfl, e⟩ | ⟨y, u, rfl, e⟩
      · injection e with e1 _; rw [e1]
      · exact nomatch e
    · rcases keyIs_shape hb with ⟨j, u, rfl, e⟩ | ⟨y, u, rfl, e⟩
      · exact nomatch e
      · injection e with e1 _; rw [e1]
  byValue := fun k v h => by
    rcases keyIs_shape h with ⟨i, t, rfl, rfl⟩ | ⟨x, t, rfl, rfl⟩ <;> rfl
  pyHash := fun hv h => by
    rcases keyIs_shape hv with ⟨i, t, rfl, rfl⟩ | ⟨x, t, rfl, rfl⟩
    · exact wpAny_pyHash_int h
    · exact wpAny_pyHash_str h
  eqBool := fun hu hv h => by
    rcases keyIs_shape hu with ⟨i, t, rfl, rfl⟩ | ⟨x, t, rfl, rfl⟩
    · rcases keyIs_shape hv with ⟨j, u, rfl, rfl⟩ | ⟨y, u, rfl, rfl⟩
      · rw [key_ll] at h; exact wpAny_eqBool_int h
      · rw [key_lr] at h; exact SeqAt.EqAt.int_str i t y u _ _ _ _ h
    · rcases keyIs_shape hv with ⟨j, u, rfl, rfl⟩ | ⟨y, u, rfl, rfl⟩
      · rw [key_rl] at h; exact SeqAt.EqAt.str_int x t j u _ _ _ _ h
      · rw [key_rr] at h; exact wpAny_eqBool_str h
  «strs» := fun k x t v h => by
    rcases keyIs_shape h with ⟨i, u, rfl, e⟩ | ⟨y, u, rfl, e⟩
    · exact nomatch e
    · injection e with e1 _
      subst e1
      cases v <;> rfl

end L2

namespace L2
open PySem PySem.Spec PyProof.Rows

inductive V where
  | non | bl (b : Bool) | int (i : Int) | str (x : Str) | byt (b : Array UInt8) | flt (b : UInt64) | ref (a : Addr) | ty (n : String)
  deriving DecidableEq

def RelV : V → Value → Prop
  | .non, u => u = Value.none
  | .bl b, u => u = Value.bool b
  | .int i, u => ∃ t, u = Value.int i t
  | .str x, u => ∃ t, u = Value.str x t
  | .byt b, u => ∃ t, u = Value.bytes b t
  | .flt b, u => ∃ t, u = Value.float b t
  | .ref a, u => u = Value.ref a
  | .ty n, u => u = Value.type n

abbrev Vals : List V → List Value → Prop := Paired RelV
theorem Vals.length {xs : List V} {us : List Value} (r : Vals xs us) : xs.length = us.length := Paired.length r
theorem Vals.get : ∀ {xs : List V} {us : List Value} {i : Nat} {x : V}, Vals xs us → xs[i]? = some x → ∃ u, us[i]? = some u ∧ RelV x u
  | _, _, _, _, .nil, e => by simp at e
  | _, _, 0, _, .cons r _, e => by simp at e; subst e; exact ⟨_, rfl, r⟩
  | _, _, i + 1, x, .cons _ t, e => by
    obtain ⟨u, h1, h2⟩ := Vals.get (i := i) (x := x) t (by simpa using e)
    exact ⟨u, by simpa using h1, h2⟩
theorem Vals.set {x : V} {u : Value} (r : RelV x u) : ∀ {xs : List V} {us : List Value} (i : Nat), Vals xs us → Vals (xs.set i x) (us.set i u)
  | _, _, _, .nil => .nil
  | _, _, 0, .cons _ t => .cons r t
  | _, _, i + 1, .cons q t => .cons q (Vals.set r i t)
theorem Vals.append : ∀ {xs ys : List V} {us ws : List Value}, Vals xs us → Vals ys ws → Vals (xs ++ ys) (us ++ ws)
  | _, _, _, _, .nil, s => s
  | _, _, _, _, .cons r t, s => .cons r (Vals.append t s)
theorem Vals.take : ∀ {xs : List V} {us : List Value} (n : Nat), Vals xs us → Vals (xs.take n) (us.take n)
  | _, _, 0, _ => .nil
  | _, _, _ + 1, .nil => .nil
  | _, _, n + 1, .cons r t => .cons r (Vals.take n t)
theorem Vals.drop : ∀ {xs : List V} {us : List Value} (n : Nat), Vals xs us → Vals (xs.drop n) (us.drop n)
  | _, _, 0, r => r
  | _, _, _ + 1, .nil => .nil
  | _, _, n + 1, .cons _ t => Vals.drop n t
def RelO : Option V → Option Value → Prop
  | some v, some u => RelV v u
  | none, none => True
  | _, _ => False
def KV {κ : Type} : List (κ × V) → List (κ × Value) → Prop := Paired fun (p : κ × V) (q : κ × Value) => p.1 = q.1 ∧ RelV p.2 q.2

def kV : Key → V
  | .inl i => .int i
  | .inr x => .str x

inductive HO where
  /-- a list -/
  | lst (xs : List V)
  /-- a tuple (never changes) -/
  | tup (xs : List V)
  /-- a dict whose keys are ints and texts; one whose keys are tuples of ints and texts (the empty one is both) -/
  | dK (kvs : List (Key × V)) | dT (kvs : List (List Key × V))
  /-- a set of ints: its members, its size -/
  | set (S : Int → Bool) (n : Nat)
  /-- an instance of the class at C, its dict at dx, its attributes -/
  | ins (C dx : Addr) (fs : List (Str × V))
  /-- the dict of the instance at x -/
  | own (x : Addr)
  /-- the dict of an exception -/
  | xd (fs : List (Str × V))
  /-- a bound method, f of x -/
  | met (f x : Addr)
  /-- a range object lo, lo + 1, .. below hi -/
  | rng (lo hi : Int)
  /-- a thing that is known to the object (the script; a dict while a loop walks it): read, never written while it is so -/
  | frz (o : Obj) (u : HO)
  /-- a code object's table -/
  | tbl (ps : Array Value)
  /-- any other thing, by what is true of its one object (a def of one's own: SetO a S n := HO.ext fun h => ..) -/
  | ext (φ : Heap → Prop)

abbrev Hp := Addr → Option HO
def upd (H : Hp) (a : Addr) (o : HO) : Hp := fun b => if b = a then some o else H b
theorem upd_same {H : Hp} {a : Addr} {o : HO} : upd H a o a = some o := by unfold upd; rw [if_pos rfl]
theorem upd_ne {H : Hp} {a b : Addr} {o : HO} (h : b ≠ a) : upd H a o b = H b := by unfold upd; rw [if_neg h]
theorem ne_of {H : Hp} {a b : Addr} {o u : HO} (h : H a = some o) (h' : H b = some u) (d : o ≠ u) : a ≠ b := by
  intro e; subst e; rw [h] at h'; exact d (Option.some.inj h')
theorem ne_of_none {H : Hp} {a b : Addr} {o : HO} (h : H a = some o) (h' : H b = none) : a ≠ b := by
  intro e; subst e; rw [h] at h'; cases h'

section
variable (P : Program) (w : World)
def ObjOk (H : Hp) (h : Heap) (a : Addr) : HO → Prop
  | .lst xs => xs.length ≤ sizeLine ∧ ∃ (its : List Value) (n : Nat), Vals xs its ∧ h.get? a = some { cls := .type "list", data := .seq its.toArray n }
  | .tup xs => xs.length ≤ sizeLine ∧ ∃ its : List Value, Vals xs its ∧ IsTup h a its.toArray
  | .dK kvs => kvs.length ≤ sizeLine ∧ (a == sysModules) = false ∧ ∃ vs, KV kvs vs ∧ h.DictOf (mixKind P w) a vs
  | .dT kvs => kvs.length ≤ sizeLine ∧ (a == sysModules) = false ∧ ∃ xs : List (List Key × Addr × Value),
      Paired (fun (p : List Key × V) (q : List Key × Addr × Value) => p.1 = q.1 ∧ H q.2.1 = some (.tup (p.1.map kV)) ∧ RelV p.2 q.2.2) kvs xs ∧
      ∃ o es ep, h.get? a = some o ∧ o.ExactDict ∧ o.data = .dict es ep ∧ es.toList = xs.map (entryOfKey (tupleKind (mixKind P w))) ∧ (xs.map (·.1)).Nodup
  | .set S n => h.SetOf (intKind P w) a S n
  | .ins C dx fs => H dx = some (.own a) ∧ fs.length ≤ 1000 ∧ dx ≠ a ∧ h.get? a = some (PySem.W.instObj C dx) ∧
      ∃ mA, h.Ns1 dx mA ∧ (∀ f, RelO (fs.lookup f) (mA f)) ∧ PySem.Within mA (fs.map (·.1))
  | .own _ => ∃ o, h.get? a = some o
  | .xd fs => ∃ mA, h.Ns1 a mA ∧ ∀ f, RelO (fs.lookup f) (mA f)
  | .rng lo hi => ∃ t u v, h.get? a = some { cls := .type "range", data := .fields #[.int lo t, .int hi u, .int 1 v] }
  | .frz o u => h.get? a = some o ∧ ObjOk H h a u
  | .tbl ps => h.get? a = some { cls := .none, data := .fields ps }
  | .met f x => h.get? a = some (PySem.W.methodObj (.ref f) (.ref x))
  | .ext φ => φ h ∧ (∃ o, h.get? a = some o) ∧ ∀ h1 h2 : Heap, φ h1 → (∀ o, h1.get? a = some o → h2.get? a = some o) → φ h2
def HOk (H : Hp) (h : Heap) : Prop := ∀ a o, H a = some o → ObjOk P w H h a o
end

section
variable {P : Program} {w : World} {H H' : Hp} {h h' : Heap} {a : Addr} {o : HO}
theorem ObjOk.lt (x : ObjOk P w H h a o) : a < h.objs.size := by
  cases o with
  | lst xs => obtain ⟨_, _, _, _, e⟩ := x; exact Heap.lt_size e
  | tup xs => obtain ⟨_, _, _, p⟩ := x; exact p.lt
  | dK kvs => obtain ⟨_, _, _, _, o, _, _, e, _⟩ := x; exact Heap.lt_size e
  | dT kvs => obtain ⟨_, _, _, _, o, _, _, e, _⟩ := x; exact Heap.lt_size e
  | set S n => obtain ⟨o, _, _, _, e, _⟩ := x; exact Heap.lt_size e
  | ins C dx fs => obtain ⟨_, _, _, e, _⟩ := x; exact Heap.lt_size e
  | own y => obtain ⟨_, e⟩ := x; exact Heap.lt_size e
  | xd fs => obtain ⟨_, ⟨_, _, _, e, _⟩, _⟩ := x; exact Heap.lt_size e
  | rng lo hi => obtain ⟨_, _, _, e⟩ := x; exact Heap.lt_size e
  | frz ob u => obtain ⟨e, _⟩ := x; exact Heap.lt_size e
  | tbl ps => exact Heap.lt_size (show h.get? a = some _ from x)
  | met f y => exact Heap.lt_size (show h.get? a = some _ from x)
  | ext φ => obtain ⟨_, ⟨_, e⟩, _⟩ := x; exact Heap.lt_size e
theorem Paired.mapP {α β : Type} {F G : α → β → Prop} : ∀ {l₁ : List α} {l₂ : List β}, Paired F l₁ l₂ → (∀ a b, F a b → G a b) → Paired G l₁ l₂
  | _, _, .nil, _ => .nil
  | _, _, .cons r t, f => .cons (f _ _ r) (Paired.mapP t f)
theorem ObjOk.stay (x : ObjOk P w H h a o) (k : ∀ b u, (b = a ∨ H b = some (.own a)) → h.get? b = some u → h'.get? b = some u)
    (ho : ∀ b, H b = some (.own a) → H' b = some (.own a)) (ht : ∀ b xs, H b = some (.tup xs) → H' b = some (.tup xs)) : ObjOk P w H' h' a o := by
  induction o with
  | lst xs => obtain ⟨z, its, n, r, e⟩ := x; exact ⟨z, its, n, r, k _ _ (.inl rfl) e⟩
  | tup xs => obtain ⟨z, its, r, ob, e, c⟩ := x; exact ⟨z, its, r, ob, k _ _ (.inl rfl) e, c⟩
  | dK kvs => obtain ⟨z, y, vs, r, ob, es, ep, e, c⟩ := x; exact ⟨z, y, vs, r, ob, es, ep, k _ _ (.inl rfl) e, c⟩
  | dT kvs =>
    obtain ⟨z, y, xs, r, ob, es, ep, e, c⟩ := x
    exact ⟨z, y, xs, Paired.mapP r fun p q z => ⟨z.1, ht _ _ z.2.1, z.2.2⟩, ob, es, ep, k _ _ (.inl rfl) e, c⟩
  | set S n => obtain ⟨ob, es, ep, t, e, c⟩ := x; exact ⟨ob, es, ep, t, k _ _ (.inl rfl) e, c⟩
  | ins C dx fs =>
    obtain ⟨d, z, ne, e, mA, ⟨od, es, ep, e2, c⟩, r⟩ := x
    exact ⟨ho _ d, z, ne, k _ _ (.inl rfl) e, mA, ⟨od, es, ep, k _ _ (.inr d) e2, c⟩, r⟩
  | own y => obtain ⟨ob, e⟩ := x; exact ⟨ob, k _ _ (.inl rfl) e⟩
  | xd fs => obtain ⟨mA, ⟨od, es, ep, e, c⟩, r⟩ := x; exact ⟨mA, ⟨od, es, ep, k _ _ (.inl rfl) e, c⟩, r⟩
  | rng lo hi => obtain ⟨t, u, v, e⟩ := x; exact ⟨t, u, v, k _ _ (.inl rfl) e⟩
  | frz ob u ih => obtain ⟨e, q⟩ := x; exact ⟨k _ _ (.inl rfl) e, ih q⟩
  | tbl ps =>
    have e : h.get? a = some { cls := .none, data := .fields ps } := x
    show h'.get? a = some { cls := .none, data := .fields ps }
    exact k a _ (.inl rfl) e
  | met f y =>
    have e : h.get? a = some (PySem.W.methodObj (.ref f) (.ref y)) := x
    show h'.get? a = some (PySem.W.methodObj (.ref f) (.ref y))
    exact k a _ (.inl rfl) e
  | ext φ => obtain ⟨p, ⟨o, e⟩, st⟩ := x; exact ⟨st _ _ p fun o q => k _ _ (.inl rfl) q, ⟨o, k _ _ (.inl rfl) e⟩, st⟩
theorem HOk.lt (x : HOk P w H h) (e : H a = some o) : a < h.objs.size := (x a o e).lt
theorem HOk.fresh (x : HOk P w H h) (e : h.objs.size ≤ a) : H a = none := by
  cases q : H a with
  | none => rfl
  | some u => exact absurd (Nat.lt_of_lt_of_le (x.lt q) e) (Nat.lt_irrefl _)
theorem HOk.kept (x : HOk P w H h) (k : ∀ b u, h.get? b = some u → h'.get? b = some u) : HOk P w H h' := fun a o e =>
  (x a o e).stay (fun b u _ q => k b u q) (fun _ q => q) fun _ _ q => q
theorem HOk.laid (x : HOk P w H h) (k : ∀ b u, h.get? b = some u → h'.get? b = some u) (hp : h.objs.size ≤ a) (new : ObjOk P w (upd H a o) h' a o) : HOk P w (upd H a o) h' := fun b u e => by
  have hn := x.fresh hp
  by_cases hb : b = a
  · subst hb; rw [upd_same] at e; cases e; exact new
  · rw [upd_ne hb] at e
    exact (x b u e).stay (fun c v _ q => k c v q) (fun c q => by rw [upd_ne (ne_of_none q hn)]; exact q) fun c xs q => by rw [upd_ne (ne_of_none q hn)]; exact q
end

def Rd (H : Hp) (a : Addr) (u : HO) : Prop := H a = some u ∨ ∃ o, H a = some (.frz o u)
theorem Rd.ok {P : Program} {w : World} {H : Hp} {h : Heap} {a : Addr} {u : HO} (r : Rd H a u) (x : HOk P w H h) : ObjOk P w H h a u := by
  rcases r with r | ⟨o, r⟩
  · exact x a u r
  · obtain ⟨_, q⟩ := x a _ r
    exact q
def Mut : Option HO → Prop
  | some (.lst _) => True
  | some (.dK _) => True
  | some (.dT _) => True
  | some (.set _ _) => True
  | some (.ins _ _ _) => True
  | some (.ext _) => True
  | _ => False
section
variable {P : Program} {w : World} {H : Hp} {h h' : Heap} {x e : Addr} {o' : HO}
theorem HOk.write (ok : HOk P w H h) (mu : Mut (H x)) (he : e = x ∨ H e = some (.own x)) (k : ∀ b u, b ≠ e → h.get? b = some u → h'.get? b = some u) (heo : ∃ u, h'.get? e = some u)
    (new : ObjOk P w (upd H x o') h' x o') : HOk P w (upd H x o') h' := fun b u q => by
  have nown : ∀ c y, H c = some (.own y) → c ≠ x := fun c y r z => by subst z; rw [r] at mu; exact mu
  have ntup : ∀ c xs, H c = some (.tup xs) → c ≠ x := fun c xs r z => by subst z; rw [r] at mu; exact mu
  by_cases hb : b = x
  · subst hb; rw [upd_same] at q; cases q; exact new
  · rw [upd_ne hb] at q
    by_cases hbe : b = e
    · have q' : H b = some (.own x) := by
        rcases he with z | z
        · exact absurd (hbe.trans z) hb
        · rw [hbe]; exact z
      rw [q] at q'; cases q'
      obtain ⟨v, hv⟩ := heo
      exact ⟨v, by rw [hbe]; exact hv⟩
    · refine (ok b u q).stay (fun c v hc r => k c v ?_ r) (fun c r => by rw [upd_ne (nown c b r)]; exact r) fun c xs r => by rw [upd_ne (ntup c xs r)]; exact r
      rcases hc with rfl | hc
      · exact hbe
      · rintro rfl
        rcases he with z | z
        · exact nown c b hc z
        · rw [hc] at z; cases z; exact hb rfl
end

structure Un (fs ex : List Addr) (H H' : Hp) (h h' : Heap) : Prop where
  keep : ∀ b o, h.get? b = some o → H b = none → b ∉ fs → b ∉ ex → h'.get? b = some o
  slot : ∀ b o, h.get? b = some o → H b = none → b ∈ fs → b ∉ ex → ∃ sl, h'.get? b = some { o with slots := sl }
  free : ∀ b o, h.get? b = some o → H b = none → b ∉ ex → H' b = none
  there : ∀ b o, h.get? b = some o → b ∉ ex → ∃ o', h'.get? b = some o'
  tups : ∀ b xs, H b = some (.tup xs) → H' b = some (.tup xs)
  frzs : ∀ b o u, H b = some (.frz o u) → H' b = some (.frz o u)
  tbls : ∀ b ps, H b = some (.tbl ps) → ∃ more, H' b = some (.tbl (ps ++ more))
section
variable {fs fs' ex ex' : List Addr} {H H1 H2 : Hp} {h h1 h2 h' : Heap} {a x e : Addr} {o : HO}
theorem Un.any (u : Un fs ex H H1 h h1) {b : Addr} {ob : Obj} (q : h.get? b = some ob) (n : H b = none) (hx : b ∉ ex) : ∃ sl, h1.get? b = some { ob with slots := sl } := by
  by_cases hb : b ∈ fs
  · exact u.slot b ob q n hb hx
  · exact ⟨ob.slots, u.keep b ob q n hb hx⟩
theorem Un.kept (k : ∀ b u, h.get? b = some u → h'.get? b = some u) : Un fs ex H H h h' :=
  ⟨fun b ob q _ _ _ => k b ob q, fun b ob q _ _ _ => ⟨ob.slots, k b ob q⟩, fun _ _ _ n _ => n, fun b ob q _ => ⟨ob, k b ob q⟩, fun _ _ q => q, fun _ _ _ q => q, fun _ ps q => ⟨#[], by rw [q]; simp⟩⟩
theorem Un.refl : Un fs ex H H h h := Un.kept fun _ _ q => q
theorem Un.laid (k : ∀ b u, h.get? b = some u → h'.get? b = some u) (hp : h.objs.size ≤ a) (hn : H a = none) : Un fs ex H (upd H a o) h h' where
  keep := fun b u q _ _ _ => k b u q
  slot := fun b u q _ _ _ => ⟨u.slots, k b u q⟩
  free := fun b u q n _ => by rw [upd_ne (Nat.ne_of_lt (Nat.lt_of_lt_of_le (Heap.lt_size q) hp))]; exact n
  there := fun b u q _ => ⟨u, k b u q⟩
  tups := fun b xs q => by rw [upd_ne (ne_of_none q hn)]; exact q
  frzs := fun b u xs q => by rw [upd_ne (ne_of_none q hn)]; exact q
  tbls := fun b ps q => ⟨#[], by rw [upd_ne (ne_of_none q hn), q]; simp⟩
theorem Un.write (mu : Mut (H x)) (he : e = x ∨ H e = some (.own x)) (k : ∀ b u, b ≠ e → h.get? b = some u → h'.get? b = some u) (heo : ∃ u, h'.get? e = some u) : Un fs ex H (upd H x o) h h' := by
  have hx : ∀ b, H b = none → b ≠ x := fun b n z => by subst z; rw [n] at mu; exact mu
  have hb : ∀ b, H b = none → b ≠ e := fun b n z => by
    subst z
    rcases he with r | r
    · exact hx b n r
    · rw [n] at r; cases r
  have hm : ∀ b u, H b = some u → ¬ Mut (some u) → b ≠ x := fun b u q nm z => by subst z; rw [q] at mu; exact nm mu
  refine ⟨fun b u q n _ _ => k b u (hb b n) q, fun b u q n _ _ => ⟨u.slots, k b u (hb b n) q⟩, fun b u q n _ => by rw [upd_ne (hx b n)]; exact n, fun b u q _ => ?_,
    fun b xs q => by rw [upd_ne (hm b _ q fun z => z)]; exact q, fun b u xs q => by rw [upd_ne (hm b _ q fun z => z)]; exact q, fun b ps q => ⟨#[], by rw [upd_ne (hm b _ q fun z => z), q]; simp⟩⟩
  by_cases hbe : b = e
  · subst hbe; exact heo
  · exact ⟨u, k b u hbe q⟩
end

def trk (h : Heap) (H : Hp) : List Addr := (List.range h.objs.size).filter fun a => (H a).isSome
def hidT (h : Heap) (H : Hp) : Heap := PySem.W.hideAll h (trk h H)
theorem hidT_size (h : Heap) (H : Hp) : (hidT h H).objs.size = h.objs.size := PySem.W.hideAll_size _ _
theorem hidT_get {h : Heap} {H : Hp} {b : Addr} {o : Obj} (e : h.get? b = some o) (n : H b = none) : (hidT h H).get? b = some o :=
  PySem.W.hideAll_get _ e fun hm => by
    have q : (H b).isSome = true := (List.mem_filter.mp hm).2
    rw [n] at q; simp at q
theorem of_hidT {h : Heap} {H : Hp} {b : Addr} {o : Obj} (e : (hidT h H).get? b = some o) : h.get? b = some o ∧ H b = none := by
  have e' : h.get? b = some o := PySem.W.of_hideAll (trk h H) e
  refine ⟨e', ?_⟩
  cases q : H b with
  | none => rfl
  | some x =>
    have hm : b ∈ trk h H := List.mem_filter.mpr ⟨List.mem_range.mpr (Heap.lt_size e'), by simp [q]⟩
    have z : (hidT h H).get? b = none := PySem.W.hideAll_none (trk h H) hm
    rw [z] at e; cases e

def allNews (g h : Heap) (L : Addr) : List (Addr × Obj) := (List.range h.objs.size).filterMap fun a => if a = L ∨ (g.get? a).isSome = true then none else (h.get? a).map fun o => (a, o)
def rest (g h : Heap) (L d : Addr) : List (Addr × Obj) := (allNews g h L).filter fun p => decide (p.1 ≠ d)
end L2

namespace L2
open PySem PySem.Spec PyProof.Rows

structure Mod (K : PySem.W.Frag) (mg : Str → Option Value) (base : Heap) : Prop where
  kin : K.In base
  glob : base.Ns mainGlobals mg
  blt : ∃ mb, base.Ns builtinsNs mb ∧ ∀ x : Str, x ≠ "__name__" → mb x = bootBuiltins x
  nolimit : base.NoLimit

/-- the context: a def's body (or a comprehension's block) running. base: fixed through the whole law; s₀, H₀: the entry; outer: the frames whose slots others may change (a def's callers); stack: all frames that run;
   ex: iterators that were made ahead of the entry and are walked here (a comprehension's); fn: the names whose cells were made at the entry (a def: all; a comprehension's block: its own); calm: not within an except suite; pn: pins that every state bears; xe: what is wanted of an exception that leaves the code -/
structure Cx where
  prog : Program
  w : World
  K : PySem.W.Frag
  mg : Str → Option Value
  base : Heap
  A : Around
  N : List Str
  s₀ : Shared
  H₀ : Hp
  env : Env
  outer : List Env
  stack : List Env
  ex : List Addr
  fn : Str → Bool
  calm : Bool
  pn : List (Addr × Obj)
  xe : Value → Shared → Prop
def frs (l : List Env) : List Addr := l.filterMap (·.frame)
abbrev Cx.fs (X : Cx) : List Addr := frs X.outer

def Vis (sc : Scope) (x : Str) : Prop := sc.names.lookup x = some .local ∨ sc.names.lookup x = some .cell ∨ sc.names.lookup x = some .free
def Loc (sc : Scope) (x : Str) : Prop := sc.names.lookup x = some .local ∨ sc.names.lookup x = some .cell
def Look (env : Env) (h : Heap) (m : Str → Option Value) (x : Str) (u : Value) : Prop :=
  (env.kindOf x = some .local ∧ m x = some u) ∨ ((env.kindOf x = some .cell ∨ env.kindOf x = some .free) ∧ ∃ c, env.cells.lookup x = some c ∧ h.IsCell c (some u))

structure Cx.Ok (X : Cx) : Prop where
  mod : Mod X.K X.mg X.base
  kind : X.env.scope.kind = .function
  glob : X.env.globals = mainGlobals
  blt : X.env.builtins = builtinsNs
  above : X.s₀.heap.objs.size ≤ X.env.locals
  inj : ∀ x y c, X.env.cells.lookup x = some c → X.env.cells.lookup y = some c → x = y
  has : ∀ x, (X.env.kindOf x = some .cell ∨ X.env.kindOf x = some .free) → ∃ c, X.env.cells.lookup x = some c
  cab : ∀ x c, X.fn x = true → X.env.cells.lookup x = some c → X.s₀.heap.objs.size ≤ c
  hd : X.calm = true → X.A.handled = none
  frames : X.A.frames = some X.stack
  stk : X.stack = X.outer ∨ (X.stack = X.env :: X.outer ∧ X.env.frame = some X.env.locals)
  exf : ∀ b ∈ X.ex, b ≠ X.env.locals ∧ ∀ x c, X.env.cells.lookup x = some c → c ≠ b
  bs : ∀ b o, X.base.get? b = some o → X.s₀.heap.get? b = some o ∧ X.H₀ b = none
  bsz : X.base.objs.size ≤ X.s₀.heap.objs.size
  noex : ∀ b o, X.base.get? b = some o → b ∉ X.ex
  exfs : ∀ b ∈ X.ex, b ∉ X.fs
  funs : X.s₀.heap.FunFrames X.base X.outer
  frf : ∀ b ∈ X.fs, X.H₀ b = none

structure Inv (X : Cx) (pins : List (Addr × Obj)) (σ : List (Option V)) (H : Hp) (s : Shared) : Prop where
  ok : X.Ok
  os : s.os = X.s₀.os
  bare : AllBare s.gens
  base : Un X.fs X.ex X.H₀ H X.s₀.heap s.heap
  loc : ∃ m, s.heap.Ns X.env.locals m ∧ ∀ (i : Nat) (x : Str) (v : V), X.N[i]? = some x → σ[i]? = some (some v) → Vis X.env.scope x → ∃ u, RelV v u ∧ Look X.env s.heap m x u
  cell : ∀ x c, X.env.cells.lookup x = some c → ∃ v, s.heap.IsCell c v
  free : H X.env.locals = none
  freeC : ∀ x c, X.env.cells.lookup x = some c → H c = none
  pin : ∀ p ∈ X.pn ++ pins, s.heap.get? p.1 = some p.2 ∧ H p.1 = none ∧ p.1 ≠ X.env.locals ∧ p.1 ∉ X.fs ∧ ∀ v, p.2.data ≠ .cell v
  hok : HOk X.prog X.w H s.heap
  len : σ.length = X.N.length

section
variable {X : Cx} {pins : List (Addr × Obj)} {σ : List (Option V)} {H H' : Hp} {s : Shared} {h' : Heap}

theorem Cx.Ok.nofr (ok : X.Ok) {b : Addr} {o : Obj} (e : X.base.get? b = some o) : b ∉ X.fs := fun hb => by
  have := (ok.funs.mem hb).1
  rw [e] at this; cases this
theorem Inv.bs (I : Inv X pins σ H s) : ∀ b o, X.base.get? b = some o → s.heap.get? b = some o ∧ H b = none := fun b o e =>
  ⟨I.base.keep b o (I.ok.bs b o e).1 (I.ok.bs b o e).2 (I.ok.nofr e) (I.ok.noex b o e), I.base.free b o (I.ok.bs b o e).1 (I.ok.bs b o e).2 (I.ok.noex b o e)⟩
theorem Inv.bk (I : Inv X pins σ H s) : ∀ b o, X.base.get? b = some o → s.heap.get? b = some o := fun b o e => (I.bs b o e).1
theorem Inv.mod (I : Inv X pins σ H s) : Mod X.K X.mg X.base := I.ok.mod
theorem Inv.kIn (I : Inv X pins σ H s) : X.K.In s.heap := I.ok.mod.kin.keeps I.bk
theorem Inv.nolimit (I : Inv X pins σ H s) : s.heap.NoLimit := I.ok.mod.nolimit.keeps I.bk
theorem Inv.lt (I : Inv X pins σ H s) : X.env.locals < s.heap.objs.size := let ⟨_, hn, _⟩ := I.loc; hn.lt
theorem Inv.sz (I : Inv X pins σ H s) : X.s₀.heap.objs.size ≤ s.heap.objs.size := Nat.le_trans I.ok.above (Nat.le_of_lt I.lt)
theorem Inv.nofs (I : Inv X pins σ H s) {a : Addr} (h : s.heap.objs.size ≤ a) : a ∉ X.fs := fun hb => by
  obtain ⟨_, o, ho, _⟩ := I.ok.funs.mem hb
  exact absurd (Nat.lt_of_lt_of_le (Heap.lt_size ho) (Nat.le_trans I.sz h)) (Nat.lt_irrefl _)
theorem Inv.cne (I : Inv X pins σ H s) : ∀ x c, X.env.cells.lookup x = some c → c ≠ X.env.locals := fun x c e z => by
  obtain ⟨v, o, ho, hd⟩ := I.cell x c e
  obtain ⟨m, ⟨o', es, ep, ho', hd', _⟩, _⟩ := I.loc
  rw [z, ho'] at ho; cases ho; rw [hd'] at hd; cases hd
theorem Inv.funs (I : Inv X pins σ H s) : s.heap.FunFrames X.base X.outer := by
  have all : ∀ (l : List Env), (∀ b ∈ frs l, b ∈ X.fs) → X.s₀.heap.FunFrames X.base l → s.heap.FunFrames X.base l := by
    intro l
    induction l with
    | nil => intro _ _; trivial
    | cons env r ih =>
      intro hs hl
      obtain ⟨hk, ⟨L, o, hf, hn, ho, hd⟩, hr⟩ := hl
      have hL : L ∈ X.fs := hs L (by unfold frs; rw [List.filterMap_cons, hf]; exact List.mem_cons_self)
      obtain ⟨sl, e⟩ := I.base.slot L o ho (I.ok.frf L hL) hL fun z => I.ok.exfs L z hL
      exact ⟨hk, ⟨L, _, hf, hn, e, hd⟩, ih (fun b hb => hs b (by unfold frs; rw [List.filterMap_cons, hf]; exact List.mem_cons_of_mem _ hb)) hr⟩
  exact all X.outer (fun _ hb => hb) I.ok.funs

theorem Inv.stack (I : Inv X pins σ H s) : s.heap.FunFrames X.base X.stack := by
  rcases I.ok.stk with e | ⟨e, hf⟩
  · rw [e]; exact I.funs
  · rw [e]
    obtain ⟨m, hn, _⟩ := I.loc
    refine .cons (by rw [I.ok.kind]; decide) hf hn ?_ I.funs
    exact Heap.get?_none_of_le (Nat.le_trans I.ok.bsz I.ok.above)
theorem Inv.stkSub (I : Inv X pins σ H s) : ∀ b ∈ frs X.stack, b ∈ X.env.locals :: X.fs := fun b hb => by
  rcases I.ok.stk with e | ⟨e, hf⟩
  · rw [e] at hb; exact List.mem_cons_of_mem _ hb
  · rw [e] at hb
    unfold frs at hb
    rw [List.filterMap_cons, hf] at hb
    exact hb
theorem Inv.stkFree (I : Inv X pins σ H s) : ∀ b ∈ frs X.stack, H b = none := fun b hb => by
  rcases List.mem_cons.mp (I.stkSub b hb) with e | hb
  · rw [e]; exact I.free
  · obtain ⟨_, o, ho, _⟩ := I.ok.funs.mem hb
    exact I.base.free b o ho (I.ok.frf b hb) fun z => I.ok.exfs b z hb

theorem Inv.step {g' : Array GenState} {t' : Nat} {d' : Drawn} {ch : List Addr} (I : Inv X pins σ H s)
    (hch : ∀ b ∈ ch, (b ∈ X.ex ∨ X.s₀.heap.objs.size ≤ b) ∧ b ≠ X.env.locals ∧ (∀ x c, X.env.cells.lookup x = some c → c ≠ b) ∧ ∀ p ∈ X.pn ++ pins, p.1 ≠ b)
    (keep : ∀ b o, b ≠ X.env.locals → b ∉ X.fs → b ∉ ch → s.heap.get? b = some o → H b = none → h'.get? b = some o)
    (slot : ∀ b o, b ≠ X.env.locals → b ∈ X.fs → b ∉ ch → s.heap.get? b = some o → H b = none → ∃ sl, h'.get? b = some { o with slots := sl }) (free : ∀ b o, b ∉ ch → s.heap.get? b = some o → H b = none → H' b = none)
    (there : ∀ b o, b ∉ ch → s.heap.get? b = some o → ∃ o', h'.get? b = some o')
    (tups : ∀ b xs, H b = some (.tup xs) → H' b = some (.tup xs)) (frzs : ∀ b o u, H b = some (.frz o u) → H' b = some (.frz o u)) (tbls : ∀ b ps, H b = some (.tbl ps) → ∃ more, H' b = some (.tbl (ps ++ more)))
    (ns : ∀ m, s.heap.Ns X.env.locals m → h'.Ns X.env.locals m) (hok : HOk X.prog X.w H' h') (hg : AllBare g') :
    Inv X pins σ H' { s with heap := h', gens := g', drawn := d', toks := t' } := by
  have neL : ∀ b o, X.s₀.heap.get? b = some o → b ≠ X.env.locals := fun b o e => Nat.ne_of_lt (Nat.lt_of_lt_of_le (Heap.lt_size e) I.ok.above)
  have neC : ∀ b o, X.s₀.heap.get? b = some o → b ∉ X.ex → b ∉ ch := fun b o e hx hb => by
    rcases (hch b hb).1 with z | z
    · exact hx z
    · exact absurd (Nat.lt_of_lt_of_le (Heap.lt_size e) z) (Nat.lt_irrefl _)
  have cellK : ∀ x c, X.env.cells.lookup x = some c → ∀ v, s.heap.IsCell c v → h'.IsCell c v := fun x c e v ⟨o, ho, hd⟩ => by
    have nch : c ∉ ch := fun z => (hch c z).2.2.1 x c e rfl
    by_cases hc : c ∈ X.fs
    · obtain ⟨sl, q⟩ := slot c o (I.cne x c e) hc nch ho (I.freeC x c e)
      exact ⟨_, q, hd⟩
    · exact ⟨o, keep c o (I.cne x c e) hc nch ho (I.freeC x c e), hd⟩
  refine ⟨I.ok, I.os, hg, ⟨fun b o e n hb hx => ?_, fun b o e n hb hx => ?_, fun b o e n hx => ?_, fun b o e hx => ?_, fun b xs e => tups b xs (I.base.tups b xs e), fun b o xs e => frzs b o xs (I.base.frzs b o xs e), fun b ps e => ?_⟩, ?_, fun x c e => ?_, ?_, fun x c e => ?_, fun p hp => ?_, hok, I.len⟩
  · exact keep b o (neL b o e) hb (neC b o e hx) (I.base.keep b o e n hb hx) (I.base.free b o e n hx)
  · obtain ⟨sl, e1⟩ := I.base.slot b o e n hb hx
    obtain ⟨sl', e2⟩ := slot b _ (neL b o e) hb (neC b o e hx) e1 (I.base.free b o e n hx)
    exact ⟨sl', e2⟩
  · obtain ⟨o', e1⟩ := I.base.there b o e hx
    exact free b o' (neC b o e hx) e1 (I.base.free b o e n hx)
  · obtain ⟨o', e1⟩ := I.base.there b o e hx
    exact there b o' (neC b o e hx) e1
  · obtain ⟨m1, e1⟩ := I.base.tbls b ps e
    obtain ⟨m2, e2⟩ := tbls b _ e1
    exact ⟨m1 ++ m2, by rw [e2, Array.append_assoc]⟩
  · obtain ⟨m, hn, hl⟩ := I.loc
    refine ⟨m, ns m hn, fun i x v e1 e2 e3 => ?_⟩
    obtain ⟨u, r, l⟩ := hl i x v e1 e2 e3
    refine ⟨u, r, ?_⟩
    rcases l with l | ⟨k, c, e, z⟩
    · exact .inl l
    · exact .inr ⟨k, c, e, cellK x c e _ z⟩
  · obtain ⟨v, z⟩ := I.cell x c e
    exact ⟨v, cellK x c e v z⟩
  · obtain ⟨m, ⟨o, _, _, ho, _⟩, _⟩ := I.loc
    exact free _ o (fun z => (hch _ z).2.1 rfl) ho I.free
  · obtain ⟨v, o, ho, hd⟩ := I.cell x c e
    exact free c o (fun z => (hch c z).2.2.1 x c e rfl) ho (I.freeC x c e)
  · obtain ⟨e, n, ne, nf, d⟩ := I.pin p hp
    have nch : p.1 ∉ ch := fun z => (hch p.1 z).2.2.2 p hp rfl
    exact ⟨keep p.1 p.2 ne nf nch e n, free p.1 p.2 nch e n, ne, nf, d⟩
theorem Inv.un {t' : Nat} (I : Inv X pins σ H s) (u : Un X.fs [] H H' s.heap h') (hok : HOk X.prog X.w H' h') : Inv X pins σ H' { s with heap := h', toks := t' } := by
  obtain ⟨m, ⟨o, es, ep, ho, r⟩, _⟩ := id I.loc
  obtain ⟨sl, hL⟩ := u.any ho I.free (by simp)
  exact I.step (g' := s.gens) (d' := s.drawn) (ch := []) (fun _ z => nomatch z) (fun b o _ hb _ e n => u.keep b o e n hb (by simp)) (fun b o _ hb _ e n => u.slot b o e n hb (by simp)) (fun b o _ e n => u.free b o e n (by simp)) (fun b o _ e => u.there b o e (by simp)) u.tups u.frzs u.tbls (fun m' hm => by
    obtain ⟨o', es', ep', ho', r'⟩ := hm
    rw [ho] at ho'; cases ho'
    exact ⟨_, es', ep', hL, r'⟩) hok I.bare
theorem Inv.call {g' : Array GenState} {t' : Nat} {d' : Drawn} {ch : List Addr} (I : Inv X pins σ H s) (u : Un (frs X.stack) ch H H' s.heap h') (hok : HOk X.prog X.w H' h') (hg : AllBare g')
    (hch : ∀ b ∈ ch, (b ∈ X.ex ∨ X.s₀.heap.objs.size ≤ b) ∧ b ≠ X.env.locals ∧ (∀ x c, X.env.cells.lookup x = some c → c ≠ b) ∧ ∀ p ∈ X.pn ++ pins, p.1 ≠ b) :
    Inv X pins σ H' { s with heap := h', gens := g', drawn := d', toks := t' } := by
  obtain ⟨m, ⟨o, es, ep, ho, r⟩, _⟩ := id I.loc
  obtain ⟨sl, hL⟩ := u.any ho I.free fun z => (hch _ z).2.1 rfl
  exact I.step (ch := ch) hch (fun b o hL hb hc e n => u.keep b o e n (fun z => (List.mem_cons.mp (I.stkSub b z)).elim hL hb) hc) (fun b o _ _ hc e n => u.any e n hc) (fun b o hc e n => u.free b o e n hc) (fun b o hc e => u.there b o e hc) u.tups u.frzs u.tbls (fun m' hm => by
    obtain ⟨o', es', ep', ho', r'⟩ := hm
    rw [ho] at ho'; cases ho'
    exact ⟨_, es', ep', hL, r'⟩) hok hg
theorem Inv.turned {t' : Nat} {it : Addr} (I : Inv X pins σ H s) (k : ∀ b o, b ≠ it → s.heap.get? b = some o → h'.get? b = some o) (hn : H it = none) (hL : it ≠ X.env.locals)
    (h1 : it ∈ X.ex ∨ X.s₀.heap.objs.size ≤ it) (h2 : ∀ x c, X.env.cells.lookup x = some c → c ≠ it) (h3 : ∀ p ∈ X.pn ++ pins, p.1 ≠ it) : Inv X pins σ H { s with heap := h', toks := t' } := by
  have nit : ∀ b u, H b = some u → b ≠ it := fun b u e z => by rw [z, hn] at e; cases e
  refine I.step (g' := s.gens) (d' := s.drawn) (ch := [it]) (fun b hb => ?_) (fun b o _ _ hc e _ => k b o (fun z => hc (by simp [z])) e) (fun b o _ _ hc e _ => ⟨o.slots, k b o (fun z => hc (by simp [z])) e⟩) (fun _ _ _ _ n => n)
    (fun b o hc e => ⟨o, k b o (fun z => hc (by simp [z])) e⟩) (fun _ _ e => e) (fun _ _ _ e => e) (fun b ps e => ⟨#[], by rw [e]; simp⟩) (fun m hm => ?_) (fun b u e => ?_) I.bare
  · have e : b = it := by simpa using hb
    subst e
    exact ⟨h1, hL, h2, h3⟩
  · obtain ⟨o, es, ep, ho, r⟩ := hm
    exact ⟨o, es, ep, k _ o (Ne.symm hL) ho, r⟩
  · refine (I.hok b u e).stay (fun c v hc q => k c v ?_ q) (fun _ q => q) fun _ _ q => q
    rcases hc with z | z
    · rw [z]; exact nit b u e
    · exact nit c _ z
theorem Inv.tok (I : Inv X pins σ H s) (t : Nat) : Inv X pins σ H { s with toks := t } := I.un (h' := s.heap) (t' := t) Un.refl I.hok
theorem Inv.kept {t' : Nat} (I : Inv X pins σ H s) (k : ∀ b u, s.heap.get? b = some u → h'.get? b = some u) : Inv X pins σ H { s with heap := h', toks := t' } := I.un (Un.kept k) (I.hok.kept k)
theorem Inv.laid {a : Addr} {o : HO} {t' : Nat} (I : Inv X pins σ H s) (k : ∀ b u, s.heap.get? b = some u → h'.get? b = some u) (hp : s.heap.objs.size ≤ a) (new : ObjOk X.prog X.w (upd H a o) h' a o) :
    Inv X pins σ (upd H a o) { s with heap := h', toks := t' } := I.un (Un.laid k hp (I.hok.fresh hp)) (I.hok.laid k hp new)
theorem Inv.write {x e : Addr} {o : HO} {t' : Nat} (I : Inv X pins σ H s) (mu : Mut (H x)) (he : e = x ∨ H e = some (.own x)) (k : ∀ b u, b ≠ e → s.heap.get? b = some u → h'.get? b = some u) (heo : ∃ u, h'.get? e = some u)
    (new : ObjOk X.prog X.w (upd H x o) h' x o) : Inv X pins σ (upd H x o) { s with heap := h', toks := t' } := I.un (Un.write mu he k heo) (I.hok.write mu he k heo new)
theorem Inv.pins_of {pins' : List (Addr × Obj)} (I : Inv X pins σ H s) (h : ∀ p ∈ pins', s.heap.get? p.1 = some p.2 ∧ H p.1 = none ∧ p.1 ≠ X.env.locals ∧ p.1 ∉ X.fs ∧ ∀ v, p.2.data ≠ .cell v) : Inv X pins' σ H s :=
  ⟨I.ok, I.os, I.bare, I.base, I.loc, I.cell, I.free, I.freeC, fun p hp => (List.mem_append.mp hp).elim (fun z => I.pin p (List.mem_append_left _ z)) (h p), I.hok, I.len⟩

theorem nodup_ix {N : List Str} (hN : N.Nodup) {i j : Nat} {x : Str} (a : N[i]? = some x) (b : N[j]? = some x) : i = j := by
  obtain ⟨h1, e1⟩ := List.getElem?_eq_some_iff.mp a
  obtain ⟨h2, e2⟩ := List.getElem?_eq_some_iff.mp b
  exact (List.getElem_inj hN).mp (e1.trans e2.symm)

theorem store_ok2 {M : Model} {A : Around} {E : Value → Shared → Prop} {i : Nat} {x : Str} {v : V} {u : Value} {Q : Unit → Shared → Prop} (I : Inv X pins σ H s) (hN : X.N.Nodup) (hi : X.N[i]? = some x) (hx : Loc X.env.scope x) (r : RelV v u)
    (h : ∀ s', Inv X pins (σ.set i (some v)) H s' → (∃ a, Heap.SameBut a s.heap s'.heap ∧ (a = X.env.locals ∨ X.env.cells.lookup x = some a)) → Q () s') (hf : X.fn x = true ∨ X.env.scope.names.lookup x = some .local := by first | exact .inl rfl | exact .inr rfl | assumption) : wpAny M A (storeName X.env x u) Q E s := by
  obtain ⟨m, hn, hl⟩ := id I.loc
  have hcls : (X.env.scope.kind == .class || (X.env.scope.kind == .module && X.env.locals != X.env.globals)) = false := by rw [I.ok.kind]; rfl
  have hiσ : i < σ.length := by rw [I.len]; exact (List.getElem?_eq_some_iff.mp hi).1
  have cne := I.cne
  have tracked : ∀ {a : Addr} {h' : Heap}, (∃ o, s.heap.get? a = some o ∧ H a = none) → Heap.SameBut a s.heap h' → HOk X.prog X.w H h' := fun {a h'} ha hs b ob e => by
    obtain ⟨_, _, hfree⟩ := ha
    refine (I.hok b ob e).stay (fun c w' hc q => (hs.2 c ?_).trans q) (fun _ q => q) fun _ _ q => q
    rintro rfl
    rcases hc with rfl | hc
    · rw [hfree] at e; cases e
    · rw [hfree] at hc; cases hc
  rcases hx with hk | hk
  · refine wpAny_storeName_local hk hn (fun h' hn' hs => ?_) hcls
    obtain ⟨oL, _, _, hoL, _⟩ := id hn
    refine h _ ⟨I.ok, I.os, I.bare, ⟨fun b o e n hb hx => ?_, fun b o e n hb hx => ?_, I.base.free, fun b o e hx => ?_, I.base.tups, I.base.frzs, I.base.tbls⟩, ⟨_, hn', fun j y v' e1 e2 e3 => ?_⟩, fun y c e => ?_, I.free, I.freeC, fun p hp => ?_, tracked ⟨oL, hoL, I.free⟩ hs, by simpa using I.len⟩ ⟨_, hs, .inl rfl⟩
    · exact (hs.2 b (Nat.ne_of_lt (Nat.lt_of_lt_of_le (Heap.lt_size e) I.ok.above))).trans (I.base.keep b o e n hb hx)
    · obtain ⟨sl, e1⟩ := I.base.slot b o e n hb hx
      exact ⟨sl, (hs.2 b (Nat.ne_of_lt (Nat.lt_of_lt_of_le (Heap.lt_size e) I.ok.above))).trans e1⟩
    · obtain ⟨o', e1⟩ := I.base.there b o e hx
      exact ⟨o', (hs.2 b (Nat.ne_of_lt (Nat.lt_of_lt_of_le (Heap.lt_size e) I.ok.above))).trans e1⟩
    · by_cases hj : j = i
      · subst hj
        rw [hi] at e1; cases e1
        rw [List.getElem?_set_self hiσ] at e2
        cases e2
        exact ⟨u, r, .inl ⟨hk, by simp⟩⟩
      · rw [List.getElem?_set_ne (Ne.symm hj)] at e2
        obtain ⟨u', r', q⟩ := hl j y v' e1 e2 e3
        refine ⟨u', r', ?_⟩
        rcases q with ⟨k, e⟩ | ⟨k, c, e, z⟩
        · refine .inl ⟨k, ?_⟩
          have : y ≠ x := fun e => hj (nodup_ix hN e1 (e ▸ hi))
          simp [this, e]
        · exact .inr ⟨k, c, e, z.sameBut hs (cne y c e)⟩
    · obtain ⟨w', z⟩ := I.cell y c e
      exact ⟨w', z.sameBut hs (cne y c e)⟩
    · obtain ⟨e, n, ne, nf, d⟩ := I.pin p hp
      exact ⟨(hs.2 p.1 ne).trans e, n, ne, nf, d⟩
  · have hfn : X.fn x = true := by
      rcases hf with z | z
      · exact z
      · rw [z] at hk; cases hk
    obtain ⟨c, hc⟩ := I.ok.has x (.inl hk)
    obtain ⟨w', z⟩ := I.cell x c hc
    refine wpAny_storeName_cell I.ok.kind hk hc z (fun h' hc' hs => ?_)
    obtain ⟨oc, hoc, hocd⟩ := id z
    refine h { s with heap := h' } ⟨I.ok, I.os, I.bare, ⟨fun b o e n hb hx => ?_, fun b o e n hb hx => ?_, I.base.free, fun b o e hx => ?_, I.base.tups, I.base.frzs, I.base.tbls⟩, ⟨m, hn.sameBut hs (Ne.symm (cne x c hc)), fun j y v' e1 e2 e3 => ?_⟩, fun y c' e => ?_, I.free, I.freeC, fun p hp => ?_, tracked ⟨oc, hoc, I.freeC x c hc⟩ hs, by simpa using I.len⟩ ⟨c, hs, .inr hc⟩
    · exact (hs.2 b (Nat.ne_of_lt (Nat.lt_of_lt_of_le (Heap.lt_size e) (I.ok.cab x c hfn hc)))).trans (I.base.keep b o e n hb hx)
    · obtain ⟨sl, e1⟩ := I.base.slot b o e n hb hx
      exact ⟨sl, (hs.2 b (Nat.ne_of_lt (Nat.lt_of_lt_of_le (Heap.lt_size e) (I.ok.cab x c hfn hc)))).trans e1⟩
    · obtain ⟨o', e1⟩ := I.base.there b o e hx
      exact ⟨o', (hs.2 b (Nat.ne_of_lt (Nat.lt_of_lt_of_le (Heap.lt_size e) (I.ok.cab x c hfn hc)))).trans e1⟩
    · by_cases hj : j = i
      · subst hj
        rw [hi] at e1; cases e1
        rw [List.getElem?_set_self hiσ] at e2
        cases e2
        exact ⟨u, r, .inr ⟨.inl hk, c, hc, hc'⟩⟩
      · rw [List.getElem?_set_ne (Ne.symm hj)] at e2
        obtain ⟨u', r', q⟩ := hl j y v' e1 e2 e3
        refine ⟨u', r', ?_⟩
        rcases q with q | ⟨k, c', e, z'⟩
        · exact .inl q
        · refine .inr ⟨k, c', e, z'.sameBut hs ?_⟩
          rintro rfl
          exact hj (nodup_ix hN e1 (I.ok.inj _ _ _ e hc ▸ hi))
    · by_cases hcc : c' = c
      · subst hcc; exact ⟨_, hc'⟩
      · obtain ⟨w2, z2⟩ := I.cell y c' e
        exact ⟨w2, z2.sameBut hs hcc⟩
    · obtain ⟨e, n, ne, nf, d⟩ := I.pin p hp
      refine ⟨(hs.2 p.1 ?_).trans e, n, ne, nf, d⟩
      intro q
      rw [q, hoc] at e
      have q' : oc = p.2 := Option.some.inj e
      exact d w' (by rw [← q']; exact hocd)
theorem store_ok {M : Model} {A : Around} {E : Value → Shared → Prop} {i : Nat} {x : Str} {v : V} {u : Value} {Q : Unit → Shared → Prop} (I : Inv X pins σ H s) (hN : X.N.Nodup) (hi : X.N[i]? = some x) (hx : Loc X.env.scope x) (r : RelV v u)
    (h : ∀ s', Inv X pins (σ.set i (some v)) H s' → Q () s') (hf : X.fn x = true ∨ X.env.scope.names.lookup x = some .local := by first | exact .inl rfl | exact .inr rfl | assumption) : wpAny M A (storeName X.env x u) Q E s :=
  store_ok2 I hN hi hx r (fun s' I' _ => h s' I') hf
theorem Inv.call' {s' : Shared} {ch : List Addr} (I : Inv X pins σ H s) (ho : s'.os = s.os) (u : Un (frs X.stack) ch H H' s.heap s'.heap) (hok : HOk X.prog X.w H' s'.heap) (hg : AllBare s'.gens)
    (hch : ∀ b ∈ ch, (b ∈ X.ex ∨ X.s₀.heap.objs.size ≤ b) ∧ b ≠ X.env.locals ∧ (∀ x c, X.env.cells.lookup x = some c → c ≠ b) ∧ ∀ p ∈ X.pn ++ pins, p.1 ≠ b) : Inv X pins σ H' s' := by
  obtain ⟨h', g', d', t', o'⟩ := s'
  have e : o' = s.os := ho
  subst e
  exact I.call (g' := g') (t' := t') (d' := d') u hok hg hch
end

abbrev XK := Value → Option Addr → Hp → Prop
abbrev St := List (Option V)
abbrev VK := V → Hp → Prop
abbrev TE := St → Hp → VK → Prop
abbrev TT := St → Hp → (Bool → Hp → Prop) → Prop
abbrev TA := St → Hp → (List V → Hp → Prop) → Prop
structure Ends where
  nx : St → Hp → Prop
  rt : VK
  bk : St → Hp → Prop := fun _ _ => False
  ct : St → Hp → Prop := fun _ _ => False
abbrev TS := Ends → St → Hp → Prop

def EP (X : Cx) (pins : List (Addr × Obj)) (σ : St) (Q : VK) (u : Value) (s' : Shared) : Prop := ∃ v H', Inv X pins σ H' s' ∧ RelV v u ∧ Q v H'
def TP (X : Cx) (pins : List (Addr × Obj)) (σ : St) (Q : Bool → Hp → Prop) (b : Bool) (s' : Shared) : Prop := ∃ H', Inv X pins σ H' s' ∧ Q b H'
def AP (X : Cx) (pins : List (Addr × Obj)) (σ : St) (Q : List V → Hp → Prop) (us : List Value) (s' : Shared) : Prop := ∃ vs H', Inv X pins σ H' s' ∧ Vals vs us ∧ Q vs H'
def SP (X : Cx) (pins : List (Addr × Obj)) (D : Ends) (f : Flow) (s' : Shared) : Prop :=
  match f with
  | .next => ∃ σ' H', Inv X pins σ' H' s' ∧ D.nx σ' H'
  | .brk => ∃ σ' H', Inv X pins σ' H' s' ∧ D.bk σ' H'
  | .cont => ∃ σ' H', Inv X pins σ' H' s' ∧ D.ct σ' H'
  | .ret u => ∃ v σ' H', Inv X pins σ' H' s' ∧ RelV v u ∧ D.rt v H'

def PE (X : Cx) (e : Expr) (t : TE) : Prop :=
  ∀ (pins : List (Addr × Obj)) (s : Shared) (σ : St) (H : Hp) (Q : VK), Inv X pins σ H s → t σ H Q → wpAny (model X.prog X.w) X.A (eval e X.env) (EP X pins σ Q) X.xe s
def PT (X : Cx) (e : Expr) (t : TT) : Prop :=
  ∀ (pins : List (Addr × Obj)) (s : Shared) (σ : St) (H : Hp) (Q : Bool → Hp → Prop), Inv X pins σ H s → t σ H Q → wpAny (model X.prog X.w) X.A (isTrue e X.env (eval e X.env)) (TP X pins σ Q) X.xe s
def PW (X : Cx) (e : Expr) (t : TT) : Prop :=
  ∀ (whole : Sem Value) (pins : List (Addr × Obj)) (s : Shared) (σ : St) (H : Hp) (Q : Bool → Hp → Prop), Inv X pins σ H s → t σ H Q → wpAny (model X.prog X.w) X.A (isTrue e X.env whole) (TP X pins σ Q) X.xe s
theorem PW.pt {X : Cx} {e : Expr} {t : TT} (h : PW X e t) : PT X e t := h _
def PA (X : Cx) (es : List Expr) (t : TA) : Prop :=
  ∀ (pos : Pos) (pins : List (Addr × Obj)) (s : Shared) (σ : St) (H : Hp) (Q : List V → Hp → Prop), Inv X pins σ H s → t σ H Q → wpAny (model X.prog X.w) X.A (spliced (backTo pos (starEach es X.env))) (AP X pins σ Q) X.xe s
def PS (X : Cx) (st : Stmt) (t : TS) : Prop :=
  ∀ (pins : List (Addr × Obj)) (s : Shared) (σ : St) (H : Hp) (D : Ends), Inv X pins σ H s → t D σ H → wpAny (model X.prog X.w) X.A (exec st X.env) (SP X pins D) X.xe s
def PSs (X : Cx) (st : List Stmt) (t : TS) : Prop :=
  ∀ (pins : List (Addr × Obj)) (s : Shared) (σ : St) (H : Hp) (D : Ends), Inv X pins σ H s → t D σ H → wpAny (model X.prog X.w) X.A (execs st X.env) (SP X pins D) X.xe s
theorem thn {α : Type} {t : Sem α} {Q Q' : α → Shared → Prop} {M : Model} {A : Around} {E : Value → Shared → Prop} {s : Shared} (h : wpAny M A t Q E s) (hQ : ∀ a s, Q a s → Q' a s) : wpAny M A t Q' E s := wpAny_mono h hQ fun _ _ x => x
end L2

namespace L2
open PySem PySem.Spec PyProof.Rows
section
variable {X : Cx}

theorem bin {a b : Expr} {ta tb : TE} (ha : PE X a ta) (hb : PE X b tb) {pins : List (Addr × Obj)} {s : Shared} {σ : St} {H : Hp} {R : V → V → Hp → Prop} (I : Inv X pins σ H s) (h : ta σ H fun x H1 => tb σ H1 fun y H2 => R x y H2)
    {α : Type} {Q : α → Shared → Prop} {f : Value → Value → Sem α}
    (hf : ∀ v u s2 x y H2, Inv X pins σ H2 s2 → RelV x v → RelV y u → R x y H2 → wpAny (model X.prog X.w) X.A (f v u) Q X.xe s2) :
    wpAny (model X.prog X.w) X.A (eval a X.env) (fun v s₁ => wpAny (model X.prog X.w) X.A (eval b X.env) (fun u s₂ => wpAny (model X.prog X.w) X.A (f v u) Q X.xe s₂) X.xe s₁) X.xe s := by
  refine thn (ha pins s σ H _ I h) fun v s1 ⟨x, H1, I1, r1, q1⟩ => ?_
  refine thn (hb pins s1 σ H1 _ I1 q1) fun u s2 ⟨y, H2, I2, r2, q2⟩ => ?_
  exact hf v u s2 x y H2 I2 r1 r2 q2

def tVar (i : Nat) : TE := fun σ H Q => ∃ v, σ[i]? = some (some v) ∧ Q v H
def tC (v : V) : TE := fun _ H Q => Q v H
theorem pe_var {i : Nat} {x : Str} {pos : Pos} (hN : X.N[i]? = some x) (hv : Vis X.env.scope x) (hd : (x == ("__debug__" : Str)) = false := by decide) (hcd : (x == ("__classdict__" : Str)) = false := by decide) : PE X (.Name x pos) (tVar i) := by
  intro pins s σ H Q I h
  obtain ⟨v, e, h⟩ := h
  obtain ⟨m, hn, hl⟩ := I.loc
  obtain ⟨u, r, l⟩ := hl i x v hN e hv
  have fin : EP X pins σ Q u s := ⟨v, H, I, r, h⟩
  rcases l with ⟨hk, hm⟩ | ⟨hk, c, hc, hcell⟩
  · exact wpAny_Name (wpAny_loadName_local I.ok.kind hk hn hm fin) hd
  · rcases hk with hk | hk
    · exact wpAny_Name (wpAny_loadName_cell I.ok.kind hk hc hcell fin) hd
    · exact wpAny_Name (wpAny_loadName_free I.ok.kind hk hc hcell fin hcd) hd
theorem pe_int {i j pos} : PE X (.Constant (.int i) j pos) (tC (.int i)) := fun _ _ _ H _ I h => wpAny_Constant_int ⟨.int i, H, I.tok _, ⟨_, rfl⟩, h⟩
theorem pe_bl {b j pos} : PE X (.Constant (.bool b) j pos) (tC (.bl b)) := fun _ _ _ H _ I h => Constant_bool ⟨.bl b, H, I, rfl, h⟩
theorem pe_str {x j pos} : PE X (.Constant (.str x) j pos) (tC (.str x)) := fun _ _ _ H _ I h => Calls.Constant_str ⟨.str x, H, I.tok _, ⟨_, rfl⟩, h⟩

def Gl (X : Cx) (x : Str) : Prop := X.env.kindOf x = some .globalImplicit
theorem ld_glob {E : Value → Shared → Prop} {pins : List (Addr × Obj)} {s : Shared} {σ : St} {H : Hp} {x : Str} {u : Value} {pos : Pos} {Q : Value → Shared → Prop} (I : Inv X pins σ H s) (hg : Gl X x) (hm : X.mg x = some u) (h : Q u s)
    (hd : (x == ("__debug__" : Str)) = false := by decide) : wpAny (model X.prog X.w) X.A (eval (.Name x pos) X.env) Q E s :=
  Calls.Name_function_global I.ok.kind hg (Calls.loadGlobal_global (by rw [I.ok.glob]; exact I.mod.glob.keeps I.bk) hm h) hd
theorem ld_blt {E : Value → Shared → Prop} {pins : List (Addr × Obj)} {s : Shared} {σ : St} {H : Hp} {x : Str} {u : Value} {pos : Pos} {Q : Value → Shared → Prop} (I : Inv X pins σ H s) (hg : Gl X x) (hm : X.mg x = none) (hv : bootBuiltins x = some u) (h : Q u s)
    (hn : x ≠ "__name__" := by decide) (hd : (x == ("__debug__" : Str)) = false := by decide) : wpAny (model X.prog X.w) X.A (eval (.Name x pos) X.env) Q E s := by
  obtain ⟨mb, h1, h2⟩ := I.mod.blt
  exact Calls.Name_function_global I.ok.kind hg (Calls.loadGlobal_builtin (by rw [I.ok.glob]; exact I.mod.glob.keeps I.bk) hm (by rw [I.ok.blt]; exact h1.keeps I.bk) ((h2 x hn).trans hv) h) hd
variable {a b : Expr} {ta tb : TE} {pos : Pos}
def tB (t : TE) : TT := fun σ H Q => t σ H fun x H1 => ∃ c, x = .bl c ∧ Q c H1
theorem pt_val {e : Expr} {t : TE} (h : PE X e t) (he : ∀ whole, isTrue e X.env whole = (do let v ← whole; standAt e.pos; holding [v] (truthy v)) := by intro _; rfl) : PT X e (tB t) := by
  intro pins s σ H Q I hw
  refine isTrue_plain (thn (h pins s σ H _ I hw) fun v s1 ⟨x, H1, I1, r1, q1⟩ => ?_) (he _)
  obtain ⟨d, rfl, q⟩ := q1
  cases r1
  exact wpAny_truthy_bool ⟨H1, I1, q⟩

variable {tA tB' : TT} {rest : List Expr}
def tAnd (t u : TT) : TT := fun σ H Q => t σ H fun c H1 => if c = true then u σ H1 Q else Q false H1
def tOr (t u : TT) : TT := fun σ H Q => t σ H fun c H1 => if c = true then Q true H1 else u σ H1 Q
def tNot (t : TT) : TT := fun σ H Q => t σ H fun c H1 => Q (!c) H1
theorem pw_and1 (ha : PT X a tA) : PW X (.BoolOp .And [a] pos) tA := by
  intro wh pins s σ H Q I h
  refine isTrue_and (thn (ha pins s σ H Q I h) fun c s1 e => ?_)
  cases c with
  | true => exact isTrue_and_nil e
  | false => exact e
theorem pw_or1 (ha : PT X a tA) : PW X (.BoolOp .Or [a] pos) tA := by
  intro wh pins s σ H Q I h
  refine isTrue_or (thn (ha pins s σ H Q I h) fun c s1 e => ?_)
  cases c with
  | false => exact isTrue_or_nil e
  | true => exact e
theorem pw_and (ha : PT X a tA) (hb : PW X (.BoolOp .And (b :: rest) pos) tB') : PW X (.BoolOp .And (a :: b :: rest) pos) (tAnd tA tB') := by
  intro wh pins s σ H Q I h
  refine isTrue_and (thn (ha pins s σ H _ I h) fun c s1 ⟨H1, I1, q1⟩ => ?_)
  cases c with
  | true => exact hb wh pins s1 σ H1 Q I1 q1
  | false => exact ⟨H1, I1, q1⟩
theorem pw_or (ha : PT X a tA) (hb : PW X (.BoolOp .Or (b :: rest) pos) tB') : PW X (.BoolOp .Or (a :: b :: rest) pos) (tOr tA tB') := by
  intro wh pins s σ H Q I h
  refine isTrue_or (thn (ha pins s σ H _ I h) fun c s1 ⟨H1, I1, q1⟩ => ?_)
  cases c with
  | true => exact ⟨H1, I1, q1⟩
  | false => exact hb wh pins s1 σ H1 Q I1 q1
theorem pt_not (ha : PT X a tA) : PT X (.UnaryOp .Not a pos) (tNot tA) := by
  intro pins s σ H Q I h
  exact isTrue_not (ha pins s σ H (fun c H1 => Q (!c) H1) I h)
def tAndV (ta tb : TE) : TE := fun σ H Q => ta σ H fun x H1 => ∃ c, x = .bl c ∧ if c = true then tb σ H1 Q else Q (.bl false) H1
def tOrV (ta tb : TE) : TE := fun σ H Q => ta σ H fun x H1 => ∃ c, x = .bl c ∧ if c = true then Q (.bl true) H1 else tb σ H1 Q
def tNotV (ta : TE) : TE := fun σ H Q => ta σ H fun x H1 => ∃ c, x = .bl c ∧ Q (.bl (!c)) H1
theorem pe_one {op} {t : TE} (h : PE X a t) : PE X (.BoolOp op [a] pos) t := fun pins s σ H Q I hw => BoolOp_one (h pins s σ H Q I hw)
theorem pe_and (ha : PE X a ta) (hb : PE X (.BoolOp .And (b :: rest) pos) tb) : PE X (.BoolOp .And (a :: b :: rest) pos) (tAndV ta tb) := by
  intro pins s σ H Q I h
  refine BoolOp_and (thn (ha pins s σ H _ I h) fun v s1 ⟨x, H1, I1, r1, q1⟩ => ?_)
  obtain ⟨c, rfl, q1⟩ := q1
  cases r1
  refine wpAny_truthy_bool ?_
  cases c with
  | true => exact hb pins s1 σ H1 Q I1 q1
  | false => exact ⟨.bl false, H1, I1, rfl, q1⟩
def tIf (t : TT) (ta tb : TE) : TE := fun σ H Q => t σ H fun c H1 => if c = true then ta σ H1 Q else tb σ H1 Q
end
end L2

namespace L2
open PySem PySem.Spec PyProof.Rows

def SqL (K : PySem.W.Frag) (H : Hp) (a : Addr) (xs : List V) : Prop :=
  Rd H a (.lst xs) ∨
    ∃ (o : Obj) (its : Array Value) (n : Nat), K.lookup a = some o ∧ o.cls = .type "list" ∧ o.dict = none ∧ o.data = .seq its n ∧ its.size ≤ sizeLine ∧ Vals xs its.toList
def SqT (K : PySem.W.Frag) (H : Hp) (a : Addr) (xs : List V) : Prop :=
  Rd H a (.tup xs) ∨
    ∃ (o : Obj) (its : Array Value) (n : Nat), K.lookup a = some o ∧ o.cls = .type "tuple" ∧ o.data = .seq its n ∧ its.size ≤ sizeLine ∧ Vals xs its.toList
def absV : Value → Option V
  | .none => some .non
  | .bool b => some (.bl b)
  | .int i _ => some (.int i)
  | .str x _ => some (.str x)
  | .bytes b _ => some (.byt b)
  | .float b _ => some (.flt b)
  | .ref a => some (.ref a)
  | .type n => some (.ty n)
  | _ => none
theorem RelV.abs {x : V} {u : Value} (r : RelV x u) : absV u = some x := by
  cases x with
  | non => cases r; rfl
  | bl _ => cases r; rfl
  | int _ => obtain ⟨t, rfl⟩ := r; rfl
  | str _ => obtain ⟨t, rfl⟩ := r; rfl
  | byt _ => obtain ⟨t, rfl⟩ := r; rfl
  | flt _ => obtain ⟨t, rfl⟩ := r; rfl
  | ref _ => cases r; rfl
  | ty _ => cases r; rfl
theorem RelV.inj {x y : V} {u : Value} (r : RelV x u) (q : RelV y u) : x = y := Option.some.inj (r.abs.symm.trans q.abs)
theorem Vals.inj : ∀ {xs ys : List V} {us : List Value}, Vals xs us → Vals ys us → xs = ys
  | _, _, _, .nil, .nil => rfl
  | _, _, _, .cons r t, .cons r' t' => by rw [r.inj r', Vals.inj t t']
section
variable {X : Cx} {pins : List (Addr × Obj)} {σ : St} {H : Hp} {s : Shared} {a : Addr} {xs ys : List V}
theorem SqL.of {K : PySem.W.Frag} (h : H a = some (.lst xs)) : SqL K H a xs := .inl (.inl h)
theorem SqT.of {K : PySem.W.Frag} (h : H a = some (.tup xs)) : SqT K H a xs := .inl (.inl h)
theorem Inv.list (I : Inv X pins σ H s) (h : SqL X.K H a xs) : ∃ its : List Value, Vals xs its ∧ PlainL s.heap a its.toArray ∧ xs.length ≤ sizeLine := by
  rcases h with h | ⟨o, its, n, hk, hc, hd, hs, hz, r⟩
  · obtain ⟨z, its, n, r, e⟩ := h.ok I.hok
    exact ⟨its, r, ⟨_, n, e, rfl, rfl, rfl⟩, z⟩
  · refine ⟨its.toList, r, ⟨o, n, I.kIn a o hk, hc, hd, by simpa using hs⟩, ?_⟩
    have e := r.length
    simp only [Array.length_toList] at e
    omega
theorem Inv.tuple (I : Inv X pins σ H s) (h : SqT X.K H a xs) : ∃ its : List Value, Vals xs its ∧ IsTup s.heap a its.toArray ∧ xs.length ≤ sizeLine := by
  rcases h with h | ⟨o, its, n, hk, hc, hs, hz, r⟩
  · obtain ⟨z, its, r, p⟩ := h.ok I.hok
    exact ⟨its, r, p, z⟩
  · refine ⟨its.toList, r, ⟨o, I.kIn a o hk, hc, n, by simpa using hs⟩, ?_⟩
    have e := r.length
    simp only [Array.length_toList] at e
    omega
theorem Inv.list_inj (I : Inv X pins σ H s) (h : SqL X.K H a xs) (h' : SqL X.K H a ys) : xs = ys := by
  obtain ⟨its, r, ⟨o, n, e, _, _, d⟩, _⟩ := I.list h
  obtain ⟨its', r', ⟨o', n', e', _, _, d'⟩, _⟩ := I.list h'
  rw [e] at e'; cases e'
  rw [d] at d'
  injection d' with d1 _
  have : its = its' := by simpa using congrArg Array.toList d1
  subst this
  exact r.inj r'
theorem Inv.tuple_inj (I : Inv X pins σ H s) (h : SqT X.K H a xs) (h' : SqT X.K H a ys) : xs = ys := by
  obtain ⟨its, r, ⟨o, e, _, n, d⟩, _⟩ := I.tuple h
  obtain ⟨its', r', ⟨o', e', _, n', d'⟩, _⟩ := I.tuple h'
  rw [e] at e'; cases e'
  rw [d] at d'
  injection d' with d1 _
  have : its = its' := by simpa using congrArg Array.toList d1
  subst this
  exact r.inj r'
end

abbrev Cx.wish (X : Cx) (E : Value → Shared → Prop) : Cx := { X with xe := E }
abbrev Cx.nox (X : Cx) : Cx := X.wish fun _ _ => False
theorem Cx.Ok.wish {X : Cx} (ok : X.Ok) (E : Value → Shared → Prop) : (X.wish E).Ok :=
  ⟨ok.mod, ok.kind, ok.glob, ok.blt, ok.above, ok.inj, ok.has, ok.cab, ok.hd, ok.frames, ok.stk, ok.exf, ok.bs, ok.bsz, ok.noex, ok.exfs, ok.funs, ok.frf⟩
theorem Cx.Ok.unwish {X : Cx} {E : Value → Shared → Prop} (ok : (X.wish E).Ok) : X.Ok :=
  ⟨ok.mod, ok.kind, ok.glob, ok.blt, ok.above, ok.inj, ok.has, ok.cab, ok.hd, ok.frames, ok.stk, ok.exf, ok.bs, ok.bsz, ok.noex, ok.exfs, ok.funs, ok.frf⟩
section
variable {X : Cx} {pins : List (Addr × Obj)} {σ : St} {H : Hp} {s : Shared} {E : Value → Shared → Prop}
theorem Inv.wish (I : Inv X pins σ H s) (E : Value → Shared → Prop) : Inv (X.wish E) pins σ H s := ⟨I.ok.wish E, I.os, I.bare, I.base, I.loc, I.cell, I.free, I.freeC, I.pin, I.hok, I.len⟩
theorem Inv.unwish (I : Inv (X.wish E) pins σ H s) : Inv X pins σ H s := ⟨I.ok.unwish, I.os, I.bare, I.base, I.loc, I.cell, I.free, I.freeC, I.pin, I.hok, I.len⟩
theorem SP.unwish {D : Ends} {f : Flow} {s' : Shared} (h : SP (X.wish E) pins D f s') : SP X pins D f s' := by
  cases f with
  | next => obtain ⟨σ', H', I, q⟩ := h; exact ⟨σ', H', I.unwish, q⟩
  | brk => obtain ⟨σ', H', I, q⟩ := h; exact ⟨σ', H', I.unwish, q⟩
  | cont => obtain ⟨σ', H', I, q⟩ := h; exact ⟨σ', H', I.unwish, q⟩
  | ret u => obtain ⟨v, σ', H', I, r, q⟩ := h; exact ⟨v, σ', H', I.unwish, r, q⟩
theorem PSs.nox {st : List Stmt} {t : TS} (h : PSs X.nox st t) : PSs X st t := fun pins s σ H D I hw =>
  wpAny_mono (h pins s σ H D (I.wish _) hw) (fun _ _ q => q.unwish) fun _ _ z => False.elim z
end

section
variable {X : Cx} {st : Stmt} {rest : List Stmt} {t u : TS} {e : Expr} {te : TE} {pos : Pos}
def tNext : TS := fun D σ H => D.nx σ H
def tSeq (t u : TS) : TS := fun D σ H => t { D with nx := u D } σ H
theorem pss_nil : PSs X [] tNext := fun _ _ σ H _ I h => wpAny_execs_nil ⟨σ, H, I, h⟩
theorem pss_cons (h1 : PS X st t) (h2 : PSs X rest u) : PSs X (st :: rest) (tSeq t u) := by
  intro pins s σ H D I h
  refine wpAny_execs_cons (thn (h1 pins s σ H { D with nx := u D } I h) fun f s1 q => ?_)
  cases f with
  | next =>
    obtain ⟨σ', H', I', q⟩ := q
    exact h2 pins s1 σ' H' D I' q
  | ret v => exact q
  | brk => exact q
  | cont => exact q
theorem pss_one (h1 : PS X st t) : PSs X [st] t := by
  intro pins s σ H D I h
  refine wpAny_execs_cons (thn (h1 pins s σ H D I h) fun f s1 q => ?_)
  cases f with
  | next => exact wpAny_execs_nil q
  | ret v => exact q
  | brk => exact q
  | cont => exact q
def tCont : TS := fun D σ H => D.ct σ H
theorem Inv.quiet {pins : List (Addr × Obj)} {σ : St} {H : Hp} {s : Shared} (I : Inv X pins σ H s) : interactive X.env = false := by simp [interactive, I.ok.kind]
def tDrop (te : TE) : TS := fun D σ H => te σ H fun _ H1 => D.nx σ H1
theorem ps_expr (he : PE X e te) (hs : swapsWith e none pos.line X.env = pure false := by rfl) : PS X (.Expr e pos) (tDrop te) := by
  intro pins s σ H D I h
  exact wpAny_Expr_any (thn (he pins s σ H _ I h) fun v s1 ⟨x, H1, I1, r1, q1⟩ => ⟨σ, H1, I1, q1⟩) I.quiet hs
def tRet (te : TE) : TS := fun D σ H => te σ H D.rt
theorem ps_ret (he : PE X e te) : PS X (.Return (some e) pos) (tRet te) := by
  intro pins s σ H D I h
  exact wpAny_Return_some (thn (he pins s σ H _ I h) fun v s1 ⟨x, H1, I1, r1, q1⟩ => ⟨x, σ, H1, I1, r1, q1⟩)
def tIfS (c : TT) (t u : TS) : TS := fun D σ H => c σ H fun b H1 => if b = true then t D σ H1 else u D σ H1
theorem ps_if {c : Expr} {a b : List Stmt} {tc : TT} (hc : PT X c tc) (ha : PSs X a t) (hb : PSs X b u) : PS X (.If c a b pos) (tIfS tc t u) := by
  intro pins s σ H D I h
  refine wpAny_If (thn (hc pins s σ H _ I h) fun d s1 ⟨H1, I1, q1⟩ => ?_)
  cases d with
  | true => exact ha pins s1 σ H1 D I1 q1
  | false => exact hb pins s1 σ H1 D I1 q1
end

abbrev TG := V → St → Hp → (St → Hp → Prop) → Prop
abbrev TGs := List V → St → Hp → (St → Hp → Prop) → Prop
def PG (X : Cx) (target : Expr) (t : TG) : Prop :=
  ∀ (pins : List (Addr × Obj)) (s : Shared) (σ : St) (H : Hp) (v : V) (u : Value) (Q : St → Hp → Prop), Inv X pins σ H s → RelV v u → t v σ H Q →
    wpAny (model X.prog X.w) X.A (assign target X.env u) (fun _ s' => ∃ σ' H', Inv X pins σ' H' s' ∧ Q σ' H') X.xe s
def PGs (X : Cx) (ts : List Expr) (t : TGs) : Prop :=
  ∀ (pins : List (Addr × Obj)) (s : Shared) (σ : St) (H : Hp) (vs : List V) (us : List Value) (Q : St → Hp → Prop), Inv X pins σ H s → Vals vs us → t vs σ H Q →
    wpAny (model X.prog X.w) X.A (assignInOrder ((assignEach ts X.env).map (·.2)) us) (fun _ s' => ∃ σ' H', Inv X pins σ' H' s' ∧ Q σ' H') X.xe s
abbrev TSet := V → V → V → Hp → (Hp → Prop) → Prop
def PSet (X : Cx) (t : TSet) : Prop :=
  ∀ (pins : List (Addr × Obj)) (s : Shared) (σ : St) (H : Hp) (o i v : V) (ov iv u : Value) (Q : Hp → Prop), Inv X pins σ H s → RelV o ov → RelV i iv → RelV v u → t o i v H Q →
    wpAny (model X.prog X.w) X.A (setItem ov iv u) (fun _ s' => ∃ H', Inv X pins σ H' s' ∧ Q H') X.xe s
abbrev TIp := V → V → Hp → VK → Prop
def PIp (X : Cx) (op : Operator) (t : TIp) : Prop :=
  ∀ (pins : List (Addr × Obj)) (s : Shared) (σ : St) (H : Hp) (x y : V) (v u : Value) (Q : VK), Inv X pins σ H s → RelV x v → RelV y u → t x y H Q →
    wpAny (model X.prog X.w) X.A (inplaceOp op v u) (EP X pins σ Q) X.xe s
section
variable {X : Cx} {pos : Pos}
def gName (i : Nat) : TG := fun v σ H Q => Q (σ.set i (some v)) H
theorem pg_name {i : Nat} {x : Str} (hN : X.N.Nodup) (hi : X.N[i]? = some x) (hx : Loc X.env.scope x) (hf : X.fn x = true ∨ X.env.scope.names.lookup x = some .local := by first | exact .inl rfl | exact .inr rfl | assumption) : PG X (.Name x pos) (gName i) := by
  intro pins s σ H v u Q I r h
  exact wpAny_assign_Name (store_ok I hN hi hx r (fun s' I' => ⟨_, H, I', h⟩) hf)
def gNil : TGs := fun vs σ H Q => vs = [] ∧ Q σ H
def gCons (t : TG) (u : TGs) : TGs := fun vs σ H Q => ∃ v r, vs = v :: r ∧ t v σ H fun σ' H' => u r σ' H' Q
theorem pgs_nil : PGs X [] gNil := by
  intro pins s σ H vs us Q I r h
  obtain ⟨e, h⟩ := h
  subst e
  cases r
  exact assignInOrder_nil ⟨σ, H, I, h⟩
theorem pgs_cons {e : Expr} {es : List Expr} {t : TG} {u : TGs} (h1 : PG X e t) (h2 : PGs X es u)
    (hs : (assignEach (e :: es) X.env).map (·.2) = assign e X.env :: (assignEach es X.env).map (·.2) := by rfl) : PGs X (e :: es) (gCons t u) := by
  intro pins s σ H vs us Q I r h
  obtain ⟨v, vr, e1, h⟩ := h
  subst e1
  cases r with
  | cons r rr =>
    rw [hs]
    refine assignInOrder_cons (thn (h1 pins s σ H _ _ _ I r h) fun _ s1 ⟨σ1, H1, I1, q1⟩ => ?_)
    exact h2 pins s1 σ1 H1 _ _ Q I1 rr q1
def gTup (K : PySem.W.Frag) (n : Nat) (t : TGs) : TG := fun v σ H Q => ∃ a xs, v = .ref a ∧ SqT K H a xs ∧ xs.length = n ∧ t xs σ H Q
theorem pg_tup {es : List Expr} {k : Nat} {t : TGs} {n : Nat} (hc : X.calm = true) (h : PGs X es t)
    (hn : (assignEach es X.env).length = n := by rfl) (hst : (assignEach es X.env).findIdx? (·.1) = none := by rfl) : PG X (.Tuple es k pos) (gTup X.K n t) := by
  intro pins s σ H v u Q I r hw
  obtain ⟨a, xs, e1, hq, hl, hw⟩ := hw
  subst e1
  cases r
  obtain ⟨its, rv, ht, hz⟩ := I.tuple hq
  refine assign_Tuple_tuple (I.ok.hd hc) ht (by simp [hn, ← hl, rv.length]) hst fun h' hx => ?_
  have I1 : Inv X pins σ H { s with heap := h' } := I.kept (t' := s.toks) fun b o e => hx b o (Nat.ne_of_lt (Heap.lt_size e)) e
  exact h pins _ σ H xs _ Q I1 (by simpa using rv) hw
def gSub (to ti : TE) (t : TSet) : TG := fun v σ H Q => to σ H fun o H1 => ti σ H1 fun i H2 => t o i v H2 fun H3 => Q σ H3
theorem pg_sub {o i : Expr} {to ti : TE} {t : TSet} (ho : PE X o to) (hi : PE X i ti) (hs : PSet X t)
    (ha : ∀ v, assign (.Subscript o i pos) X.env v = (do
      let ov ← holding [v] (eval o X.env)
      let iv ← holding [v, ov] (eval i X.env)
      standAt pos
      holding [v, ov, iv] (setItem ov iv v)
      release [v, ov, iv] []) := by intro _; rfl) : PG X (.Subscript o i pos) (gSub to ti t) := by
  intro pins s σ H v u Q I r h
  rw [ha]
  refine wpAny_bind (wpAny_holding (thn (ho pins s σ H _ I h) fun ov s1 ⟨x, H1, I1, r1, q1⟩ => ?_))
  refine wpAny_bind (wpAny_holding (thn (hi pins s1 σ H1 _ I1 q1) fun iv s2 ⟨y, H2, I2, r2, q2⟩ => ?_))
  refine wpAny_bind (wpAny_standAt (wpAny_bind (wpAny_holding (thn (hs pins s2 σ H2 x y v ov iv u _ I2 r1 r2 r q2) fun _ s3 ⟨H3, I3, q3⟩ => ?_))))
  exact wpAny_release ⟨σ, H3, I3, q3⟩
def tAsg (te : TE) (g : TG) : TS := fun D σ H => te σ H fun x H1 => g x σ H1 D.nx
theorem ps_asg {tg e : Expr} {te : TE} {g : TG} (he : PE X e te) (hg : PG X tg g) (hs : swapsWithSole [tg] e pos.line X.env = pure false := by rfl) (hw : swappedStores [tg] e X.env = pure none := by rfl)
    (h1 : (assignEach [tg] X.env).map (·.2) = [assign tg X.env] := by rfl) : PS X (.Assign [tg] e pos) (tAsg te g) := by
  intro pins s σ H D I h
  refine wpAny_Assign_stores (thn (he pins s σ H _ I h) fun v s1 ⟨x, H1, I1, r1, q1⟩ => ?_) hs hw
  rw [h1]
  exact thn (hg pins s1 σ H1 x v _ I1 r1 q1) fun _ s2 q => q
theorem ps_set {i : Nat} {x : Str} {e : Expr} {te : TE} {pos' : Pos} (hN : X.N.Nodup) (hi : X.N[i]? = some x) (hx : Loc X.env.scope x) (he : PE X e te) (hs : swapsWith e (some (.Name x pos')) pos.line X.env = pure false := by rfl) (hf : X.fn x = true ∨ X.env.scope.names.lookup x = some .local := by first | exact .inl rfl | exact .inr rfl | assumption) :
    PS X (.Assign [.Name x pos'] e pos) (tAsg te (gName i)) := by
  intro pins s σ H D I h
  refine wpAny_Assign_Name (thn (he pins s σ H _ I h) fun v s1 ⟨y, H1, I1, r1, q1⟩ => ?_) hs
  exact store_ok I1 hN hi hx r1 (fun s2 I2 => ⟨_, H1, I2, q1⟩) hf
def tPar (i j : Nat) (ta : TA) : TS := fun D σ H => ta σ H fun vs H1 => ∃ v w, vs = [v, w] ∧ D.nx ((σ.set i (some v)).set j (some w)) H1
def tAug (i : Nat) (te : TE) (ti : TIp) : TS := fun D σ H => ∃ x, σ[i]? = some (some x) ∧ te σ H fun y H1 => ti x y H1 fun z H2 => D.nx (σ.set i (some z)) H2
theorem ps_aug {i : Nat} {x : Str} {e : Expr} {te : TE} {op : Operator} {ti : TIp} {pos' : Pos} (hN : X.N.Nodup) (hi : X.N[i]? = some x) (hx : Loc X.env.scope x) (he : PE X e te) (ho : PIp X op ti) (hf : X.fn x = true ∨ X.env.scope.names.lookup x = some .local := by first | exact .inl rfl | exact .inr rfl | assumption) :
    PS X (.AugAssign (.Name x pos') op e pos) (tAug i te ti) := by
  intro pins s σ H D I h
  obtain ⟨v, e1, h⟩ := h
  obtain ⟨m, hn, hl⟩ := I.loc
  have vis : Vis X.env.scope x := by rcases hx with k | k; exact .inl k; exact .inr (.inl k)
  obtain ⟨u, r, l⟩ := hl i x v hi e1 vis
  refine wpAny_AugAssign_Name ?_
  have go : wpAny (model X.prog X.w) X.A (eval e X.env) (fun w s₂ => wpAny (model X.prog X.w) X.A (inplaceOp op u w) (fun r s₃ => wpAny (model X.prog X.w) X.A (storeName X.env x r) (fun _ => SP X pins D .next) X.xe s₃) X.xe s₂) X.xe s := by
    refine thn (he pins s σ H _ I h) fun w s1 ⟨y, H1, I1, r1, q1⟩ => ?_
    refine thn (ho pins s1 σ H1 v y u w _ I1 r r1 q1) fun z s2 ⟨zv, H2, I2, r2, q2⟩ => ?_
    exact store_ok I2 hN hi hx r2 (fun s3 I3 => ⟨_, H2, I3, q2⟩) hf
  rcases l with ⟨hk, hm⟩ | ⟨hk, c, hc, hcell⟩
  · exact wpAny_loadName_local I.ok.kind hk hn hm go
  · rcases hk with hk | hk
    · exact wpAny_loadName_cell I.ok.kind hk hc hcell go
    · rcases hx with k | k
      · have : X.env.scope.names.lookup x = some .free := hk
        rw [k] at this; cases this
      · have : X.env.scope.names.lookup x = some .free := hk
        rw [k] at this; cases this
def tAugS (to ti te : TE) (tget : V → V → Hp → VK → Prop) (tip : TIp) (tset : TSet) : TS := fun D σ H => to σ H fun o H1 => ti σ H1 fun i H2 => tget o i H2 fun x H3 => te σ H3 fun y H4 => tip x y H4 fun z H5 => tset o i z H5 fun H6 => D.nx σ H6
end

section
variable {X : Cx} {pos : Pos}
def tWhile (c : TT) (tb : TS) : TS := fun D σ H => ∃ W : Nat → St → Hp → Prop, (∃ m, W m σ H) ∧ ∀ m σ H, W m σ H →
  c σ H fun b H1 => if b = true then ∃ N : St → Hp → Prop, (∀ σ' H', N σ' H' → ∃ m', m' < m ∧ W m' σ' H') ∧ tb { D with nx := N, ct := N, bk := D.nx } σ H1 else D.nx σ H1
theorem ps_while {c : Expr} {body : List Stmt} {tc : TT} {tb : TS} (hp : PassesOwn (model X.prog X.w) X.A X.env X.xe) (hc : PT X c tc) (hb : PSs X body tb) : PS X (.While c body [] pos) (tWhile tc tb) := by
  intro pins s σ H D I h
  obtain ⟨W, ⟨m0, w0⟩, turn⟩ := h
  refine wpAny_While (codeAny_whileLoop (fun n s' => ∃ σ' H', Inv X pins σ' H' s' ∧ W n σ' H') ?_ m0 ⟨σ, H, I, w0⟩)
  rintro n s1 ⟨σ1, H1, I1, w1⟩
  refine wpAny_passesOwn hp (thn (hc pins s1 σ1 H1 _ I1 (turn n σ1 H1 w1)) fun b s2 ⟨H2, I2, q2⟩ => ?_)
  cases b with
  | true =>
    obtain ⟨N, hN, q2⟩ := q2
    rw [if_pos rfl]
    refine wpAny_passesOwn hp (thn (hb pins s2 σ1 H2 _ I2 q2) fun f s3 q3 => ?_)
    cases f with
    | next =>
      obtain ⟨σ3, H3, I3, n3⟩ := q3
      obtain ⟨m', hm, w3⟩ := hN σ3 H3 n3
      exact ⟨m', hm, σ3, H3, I3, w3⟩
    | cont =>
      obtain ⟨σ3, H3, I3, n3⟩ := q3
      obtain ⟨m', hm, w3⟩ := hN σ3 H3 n3
      exact ⟨m', hm, σ3, H3, I3, w3⟩
    | brk => exact q3
    | ret v => exact q3
  | false =>
    rw [if_neg Bool.false_ne_true]
    exact wpAny_execs_nil ⟨σ1, H2, I2, q2⟩
end

structure It where
  go : Nat → Hp → Prop
  yld : Nat → Hp → V → Hp → Prop
  stop : Nat → Hp → Prop
def FpOk (X : Cx) (pins : List (Addr × Obj)) (H : Hp) (b : Addr) : Prop :=
  H b = none ∧ b ≠ X.env.locals ∧ b ∉ X.fs ∧ (b ∈ X.ex ∨ X.s₀.heap.objs.size ≤ b) ∧ (∀ x c, X.env.cells.lookup x = some c → c ≠ b) ∧ ∀ p ∈ X.pn ++ pins, p.1 ≠ b
theorem Inv.fpOk {X : Cx} {pins : List (Addr × Obj)} {σ : St} {H H' : Hp} {s : Shared} {b : Addr} (I : Inv X pins σ H s) (hb : s.heap.objs.size ≤ b) (hn : H' b = none) : FpOk X pins H' b := by
  refine ⟨hn, Nat.ne_of_gt (Nat.lt_of_lt_of_le I.lt hb), I.nofs hb, .inr (Nat.le_trans I.sz hb), fun x c e z => ?_, fun p hp z => ?_⟩
  · obtain ⟨v, q⟩ := I.cell x c e
    exact absurd (Nat.lt_of_lt_of_le q.lt (by rw [z]; exact hb)) (Nat.lt_irrefl _)
  · exact absurd (Nat.lt_of_lt_of_le (Heap.lt_size (I.pin p hp).1) (by rw [z]; exact hb)) (Nat.lt_irrefl _)
structure Turn (P : Program) (w : World) (K : PySem.W.Frag) (tg : Expr) (J : It) (fp : List Addr) (it : Addr) (tn : Nat → Heap → Prop) : Prop where
  mem : it ∈ fp
  obj : ∀ i h, tn i h → ∀ b ∈ fp, ∃ o, h.get? b = some o ∧ ∀ v, o.data ≠ .cell v
  keep : ∀ i h h', tn i h → (∀ b ∈ fp, ∀ o, h.get? b = some o → h'.get? b = some o) → tn i h'
  item : ∀ (X : Cx), X.prog = P → X.w = w → X.K = K → X.calm = true → ∀ (i : Nat) (pins : List (Addr × Obj)) (s : Shared) (σ : St) (H : Hp) (E : Value → Shared → Prop), Inv X pins σ H s → (∀ b ∈ fp, FpOk X pins H b) → tn i s.heap → J.go i H →
    wpAny (model P w) X.A (pyNext (.ref it)) (fun r s1 => ∃ u, r = some u ∧
      wpAny (model P w) X.A (letOwnedTupleGo tg (.ref it) u) (fun _ s2 => ∃ x H', Inv X pins σ H' s2 ∧ RelV x u ∧ J.yld i H x H' ∧ tn (i + 1) s2.heap ∧ ∀ b ∈ fp, H' b = none) E s1) E s
  done : ∀ (X : Cx), X.prog = P → X.w = w → X.K = K → X.calm = true → ∀ (i : Nat) (pins : List (Addr × Obj)) (s : Shared) (σ : St) (H : Hp) (E : Value → Shared → Prop), Inv X pins σ H s → (∀ b ∈ fp, FpOk X pins H b) → tn i s.heap → J.stop i H →
    wpAny (model P w) X.A (pyNext (.ref it)) (fun r s1 => r = none ∧ Inv X pins σ H s1) E s
  self : ∀ (A : Around) (i : Nat) (s : Shared) (Q : Value → Shared → Prop) (E : Value → Shared → Prop), tn i s.heap → Q (.ref it) s → wpAny (model P w) A (pyIter (.ref it)) Q E s
abbrev TI := St → Hp → (It → Hp → Prop) → Prop
def PIE (X : Cx) (pins : List (Addr × Obj)) (σ : St) (tg : Expr) (R : It → Hp → Prop) (itv : Value) (s2 : Shared) : Prop :=
  ∃ (it : Addr) (fp : List Addr) (tn : Nat → Heap → Prop) (J : It) (H' : Hp), itv = .ref it ∧ Inv X pins σ H' s2 ∧ Turn X.prog X.w X.K tg J fp it tn ∧ tn 0 s2.heap ∧ (∀ b ∈ fp, FpOk X pins H' b) ∧ R J H'
def PI (X : Cx) (tg iter : Expr) (wi : TI) : Prop :=
  ∀ (pins : List (Addr × Obj)) (s : Shared) (σ : St) (H : Hp) (R : It → Hp → Prop), Inv X pins σ H s → wi σ H R →
    wpAny (model X.prog X.w) X.A (eval iter X.env) (fun v s1 => wpAny (model X.prog X.w) X.A (pyIter v) (PIE X pins σ tg R) X.xe s1) X.xe s

theorem go_of {M : Model} {A : Around} {E : Value → Shared → Prop} {s : Shared} {tg : Expr} {it : Addr} {u : Value} {o : Obj} {n : String} {vs : Array Value} {Q : Unit → Shared → Prop} (ho : s.heap.get? it = some o) (hc : o.cls = .type n) (hd : o.data = .fields vs)
    (hn : ["enumerate", "zip", "dict_itemiterator", "dict_reverseitemiterator", "odict_iterator", "itertools.zip_longest", "itertools.pairwise"].contains n = false) (hQ : Q () s) : wpAny M A (letOwnedTupleGo tg (.ref it) u) Q E s := by
  unfold letOwnedTupleGo
  cases tg <;> first
    | exact wpAny_pure hQ
    | (cases u <;> first
        | exact wpAny_pure hQ
        | (refine wpAny_bind (wpAny_load ho ?_)
           rw [hc, hd]
           show wpAny M A (if (["enumerate", "zip", "dict_itemiterator", "dict_reverseitemiterator", "odict_iterator", "itertools.zip_longest", "itertools.pairwise"].contains n && vs[0]? == some (rawInt _)) = true then _ else _) Q E s
           rw [if_neg (by intro h; rw [hn, Bool.false_and] at h; cases h)]
           exact wpAny_pure hQ))

def Itl (K : PySem.W.Frag) (a : Addr) : It :=
  ⟨fun i H => ∃ xs x, SqL K H a xs ∧ xs[i]? = some x, fun i H x H' => H' = H ∧ ∀ xs, SqL K H a xs → xs[i]? = some x, fun i H => ∃ xs, SqL K H a xs ∧ xs.length ≤ i⟩
def Itt (K : PySem.W.Frag) (a : Addr) : It :=
  ⟨fun i H => ∃ xs x, SqT K H a xs ∧ xs[i]? = some x, fun i H x H' => H' = H ∧ ∀ xs, SqT K H a xs → xs[i]? = some x, fun i H => ∃ xs, SqT K H a xs ∧ xs.length ≤ i⟩
def Itr (lo : Int) (n : Nat) : It := ⟨fun i _ => i < n, fun i H x H' => H' = H ∧ x = .int (lo + i), fun i _ => n ≤ i⟩
theorem turn_list {P : Program} {w : World} {K : PySem.W.Frag} {tg : Expr} (a it : Addr) : Turn P w K tg (Itl K a) [it] it (fun i h => h.IsListIter it a i) where
  mem := by simp
  obj := fun i h st b hb => by
    have e : b = it := by simpa using hb
    subst e
    obtain ⟨o, e, c, d⟩ := st
    exact ⟨o, e, fun v z => by rw [d] at z; cases z⟩
  keep := fun i h h' st k => st.at fun o e => k it (by simp) o e
  item := by
    intro X hP hw hK hc i pins s σ H E I hf st hg
    subst hP hw hK
    obtain ⟨xs, x, hq, hx⟩ := hg
    obtain ⟨its, rv, p, hz⟩ := I.list hq
    obtain ⟨u, hu, ru⟩ := rv.get hx
    obtain ⟨f0, f1, f2, f3, f4, f5⟩ := hf it (by simp)
    refine wpAny_pyNext_list_item st p.isList (x := u) (by simpa using hu) fun h' st' sb => ?_
    have I1 : Inv X pins σ H { s with heap := h' } := I.turned (t' := s.toks) (fun b o hb e => (sb.2 b hb).trans e) f0 f1 f3 f4 f5
    obtain ⟨o, e, c, d⟩ := id st'
    exact ⟨u, rfl, go_of (s := { s with heap := h' }) e c d (by decide) ⟨x, H, I1, ru, ⟨rfl, fun ys hy => by rw [I.list_inj hy hq]; exact hx⟩, st', fun b hb => (hf b hb).1⟩⟩
  done := by
    intro X hP hw hK hc i pins s σ H E I hf st hg
    subst hP hw hK
    obtain ⟨xs, hq, hx⟩ := hg
    obtain ⟨its, rv, p, hz⟩ := I.list hq
    obtain ⟨f0, f1, f2, f3, f4, f5⟩ := hf it (by simp)
    have hl := rv.length
    exact wpAny_pyNext_list_end (I.ok.hd hc) st p.isList (by simp; omega) fun h' eb => ⟨rfl, I.turned (t' := s.toks) (fun b o hb e => eb b o hb e) f0 f1 f3 f4 f5⟩
  self := fun _ _ _ _ _ st h => wpAny_pyIter_listiter st h
theorem turn_tuple {P : Program} {w : World} {K : PySem.W.Frag} {tg : Expr} (a it : Addr) : Turn P w K tg (Itt K a) [it] it (fun i h => h.IsTupleIter it a i) where
  mem := by simp
  obj := fun i h st b hb => by
    have e : b = it := by simpa using hb
    subst e
    obtain ⟨o, e, c, d⟩ := st
    exact ⟨o, e, fun v z => by rw [d] at z; cases z⟩
  keep := fun i h h' st k => st.at fun o e => k it (by simp) o e
  item := by
    intro X hP hw hK hc i pins s σ H E I hf st hg
    subst hP hw hK
    obtain ⟨xs, x, hq, hx⟩ := hg
    obtain ⟨its, rv, p, hz⟩ := I.tuple hq
    obtain ⟨u, hu, ru⟩ := rv.get hx
    obtain ⟨f0, f1, f2, f3, f4, f5⟩ := hf it (by simp)
    refine wpAny_pyNext_tuple_item st (show s.heap.IsTuple a its.toArray from p) (x := u) (by simpa using hu) fun h' st' sb => ?_
    have I1 : Inv X pins σ H { s with heap := h' } := I.turned (t' := s.toks) (fun b o hb e => (sb.2 b hb).trans e) f0 f1 f3 f4 f5
    obtain ⟨o, e, c, d⟩ := id st'
    exact ⟨u, rfl, go_of (s := { s with heap := h' }) e c d (by decide) ⟨x, H, I1, ru, ⟨rfl, fun ys hy => by rw [I.tuple_inj hy hq]; exact hx⟩, st', fun b hb => (hf b hb).1⟩⟩
  done := by
    intro X hP hw hK hc i pins s σ H E I hf st hg
    subst hP hw hK
    obtain ⟨xs, hq, hx⟩ := hg
    obtain ⟨its, rv, p, hz⟩ := I.tuple hq
    obtain ⟨f0, f1, f2, f3, f4, f5⟩ := hf it (by simp)
    have hl := rv.length
    exact wpAny_pyNext_tuple_end (I.ok.hd hc) st (show s.heap.IsTuple a its.toArray from p) (by simp; omega) fun h' eb => ⟨rfl, I.turned (t' := s.toks) (fun b o hb e => eb b o hb e) f0 f1 f3 f4 f5⟩
  self := fun _ _ _ _ _ st h => wpAny_pyIter_tupleiter st h
theorem turn_range {P : Program} {w : World} {K : PySem.W.Frag} {tg : Expr} (it : Addr) (lo : Int) (n : Nat) : Turn P w K tg (Itr lo n) [it] it (fun i h => IsRangeIter h it (lo + (i : Nat) * 1) ((n : Int) - (i : Nat)) 1) where
  mem := by simp
  obj := fun i h st b hb => by
    have e : b = it := by simpa using hb
    subst e
    exact ⟨_, st, fun v z => by
      have z' : Data.fields _ = Data.cell v := z
      cases z'⟩
  keep := fun i h h' st k => k it (by simp) _ st
  item := by
    intro X hP hw hK hc i pins s σ H E I hf st hg
    subst hP hw hK
    obtain ⟨f0, f1, f2, f3, f4, f5⟩ := hf it (by simp)
    have W := Walks.range (prog := X.prog) (w := X.w) (I.ok.hd hc) it lo 1 n
    refine W.item i s _ _ hg st fun v h' tk hv st' kk => ?_
    obtain ⟨t, rfl⟩ := hv
    have I1 : Inv X pins σ H { s with heap := h', toks := tk } := I.turned (fun b o hb e => kk b o (by simpa using hb) e) f0 f1 f3 f4 f5
    refine ⟨_, rfl, go_of (s := { s with heap := h', toks := tk }) (n := "range_iterator") st' rfl rfl (by decide) ⟨.int (lo + i), H, I1, ⟨t, ?_⟩, ⟨rfl, rfl⟩, st', fun b hb => (hf b hb).1⟩⟩
    rw [Int.mul_one]
  done := by
    intro X hP hw hK hc i pins s σ H E I hf st hg
    subst hP hw hK
    obtain ⟨f0, f1, f2, f3, f4, f5⟩ := hf it (by simp)
    exact wpAny_pyNext_range_end (I.ok.hd hc) st (by have : n ≤ i := hg; omega) fun h' eb => ⟨rfl, I.turned (t' := s.toks) (fun b o hb e => eb b o hb e) f0 f1 f3 f4 f5⟩
  self := fun _ _ _ _ _ st h => wpAny_pyIter_rangeiter st h
end L2

namespace L2
open PySem PySem.Spec PyProof.Rows
section
variable {X : Cx} {tg : Expr}
def iList (K : PySem.W.Frag) (tl : TE) : TI := fun σ H R => tl σ H fun x H1 => ∃ a, x = .ref a ∧ (∃ xs, SqL K H1 a xs) ∧ R (Itl K a) H1
def iTup (K : PySem.W.Frag) (tl : TE) : TI := fun σ H R => tl σ H fun x H1 => ∃ a, x = .ref a ∧ (∃ xs, SqT K H1 a xs) ∧ R (Itt K a) H1
theorem pi_list {l : Expr} {tl : TE} (hl : PE X l tl) : PI X tg l (iList X.K tl) := by
  intro pins s σ H R I h
  refine thn (hl pins s σ H _ I h) fun v s1 ⟨x, H1, I1, r1, q1⟩ => ?_
  obtain ⟨a, e, ⟨xs, hq⟩, q⟩ := q1
  subst e
  cases r1
  obtain ⟨its, rv, p, hz⟩ := I1.list hq
  refine wpAny_pyIter_list p.isList ?_
  refine ⟨s1.heap.objs.size, [s1.heap.objs.size], _, _, H1, rfl, I1.kept (t' := s1.toks) fun b o e => Heap.get?_push_of_some _ e, turn_list a _, ⟨_, Heap.get?_push_size _ rfl, rfl, rfl⟩, fun b hb => ?_, q⟩
  have e : b = s1.heap.objs.size := by simpa using hb
  subst e
  exact I1.fpOk (Nat.le_refl _) (I1.hok.fresh (Nat.le_refl _))
theorem pi_tup {l : Expr} {tl : TE} (hl : PE X l tl) : PI X tg l (iTup X.K tl) := by
  intro pins s σ H R I h
  refine thn (hl pins s σ H _ I h) fun v s1 ⟨x, H1, I1, r1, q1⟩ => ?_
  obtain ⟨a, e, ⟨xs, hq⟩, q⟩ := q1
  subst e
  cases r1
  obtain ⟨its, rv, p, hz⟩ := I1.tuple hq
  refine wpAny_pyIter_tuple (show s1.heap.IsTuple a its.toArray from p) ?_
  refine ⟨s1.heap.objs.size, [s1.heap.objs.size], _, _, H1, rfl, I1.kept (t' := s1.toks) fun b o e => Heap.get?_push_of_some _ e, turn_tuple a _, ⟨_, Heap.get?_push_size _ rfl, rfl, rfl⟩, fun b hb => ?_, q⟩
  have e : b = s1.heap.objs.size := by simpa using hb
  subst e
  exact I1.fpOk (Nat.le_refl _) (I1.hok.fresh (Nat.le_refl _))
theorem range_it {pins : List (Addr × Obj)} {σ : St} {H : Hp} {s : Shared} {R : It → Hp → Prop} {E : Value → Shared → Prop} {lo hi : Int} {t u v : Tok} {tk : Nat} (I : Inv X pins σ H s) (h1 : -(2 ^ 62) ≤ lo) (h2 : lo < 2 ^ 62) (h3 : -(2 ^ 62) ≤ hi) (h4 : hi < 2 ^ 62)
    (q : R (Itr lo (hi - lo).toNat) H) : wpAny (model X.prog X.w) X.A (pyIter (.ref s.heap.objs.size)) (PIE X pins σ tg R) E { s with heap := s.heap.push { cls := .type "range", data := .fields #[.int lo t, .int hi u, .int 1 v] }, toks := tk } := by
  refine wpAny_pyIter_range (IsRange.new ..) (small_one h1 h2 h3 h4) ?_
  have I1 : Inv X pins σ H { s with heap := s.heap.push { cls := .type "range", data := .fields #[.int lo t, .int hi u, .int 1 v] }, toks := tk } := I.kept fun b o e => Heap.get?_push_of_some _ e
  refine ⟨(s.heap.push { cls := .type "range", data := .fields #[.int lo t, .int hi u, .int 1 v] }).objs.size, [(s.heap.push { cls := .type "range", data := .fields #[.int lo t, .int hi u, .int 1 v] }).objs.size], _, _, H, rfl,
    I1.kept (t' := tk) fun b o e => Heap.get?_push_of_some _ e, turn_range _ lo (hi - lo).toNat, ?_, fun b hb => ?_, q⟩
  · have e1 : lo + ((0 : Nat) : Int) * 1 = lo := by simp
    have e2 : (((hi - lo).toNat : Nat) : Int) - ((0 : Nat) : Int) = Builtin.Range.rangeSize lo hi 1 := by rw [rangeSize_one]; split <;> omega
    show IsRangeIter _ _ (lo + ((0 : Nat) : Int) * 1) ((((hi - lo).toNat : Nat) : Int) - ((0 : Nat) : Int)) 1
    rw [e1, e2]
    exact Heap.get?_push_size _ rfl
  · have e : b = (s.heap.push { cls := .type "range", data := .fields #[.int lo t, .int hi u, .int 1 v] }).objs.size := by simpa using hb
    subst e
    exact I1.fpOk (Nat.le_refl _) (I1.hok.fresh (Nat.le_refl _))
def iRng1 (ta : TA) : TI := fun σ H R => ta σ H fun vs H1 => ∃ j : Int, vs = [.int j] ∧ -(2 ^ 62) ≤ j ∧ j < 2 ^ 62 ∧ R (Itr 0 j.toNat) H1
def iRng2 (ta : TA) : TI := fun σ H R => ta σ H fun vs H1 => ∃ i j : Int, vs = [.int i, .int j] ∧ (-(2 ^ 62) ≤ i ∧ i < 2 ^ 62 ∧ -(2 ^ 62) ≤ j ∧ j < 2 ^ 62) ∧ R (Itr i (j - i).toNat) H1
theorem pi_range1 {a : Expr} {ta : TA} {p pos : Pos} (hg : Gl X "range") (hm : X.mg "range" = none) (ha : PA X [a] ta) (hs : starEach [a] X.env = [(false, eval a X.env)] := by rfl) : PI X tg (.Call (.Name "range" p) [a] [] pos) (iRng1 ta) := by
  intro pins s σ H R I h
  refine Call_ (ld_blt I hg hm boot_range (PyProof.Rows.callWith_type1 (thn (ha pos pins s σ H _ I h) fun us s1 ⟨vs, H1, I1, r1, q1⟩ => ?_) hs rfl))
  obtain ⟨j, e, q1, q2, q⟩ := q1
  subst e
  cases r1 with
  | cons r rr =>
    cases rr
    obtain ⟨t, rfl⟩ := r
    exact call_range_1 (range_it I1 (by omega) (by omega) q1 q2 (by simpa using q))
def tFor (wi : TI) (g : TG) (tb : TS) : TS := fun D σ H => wi σ H fun J H1 => ∃ W : Nat → Nat → St → Hp → Prop, (∃ m, W 0 m σ H1) ∧ ∀ i m σ H, W i m σ H →
  (J.stop i H ∧ D.nx σ H) ∨ (J.go i H ∧ ∃ N : St → Hp → Prop, (∀ σ' H', N σ' H' → ∃ m', m' < m ∧ W (i + 1) m' σ' H') ∧ ∀ x H', J.yld i H x H' → g x σ H' fun σ2 H2 => tb { D with nx := N, ct := N, bk := D.nx } σ2 H2)
def pinsAt (fp : List Addr) (h : Heap) : List (Addr × Obj) := fp.filterMap fun b => (h.get? b).map fun o => (b, o)
theorem mem_pinsAt {fp : List Addr} {h : Heap} {b : Addr} {o : Obj} (hb : b ∈ fp) (e : h.get? b = some o) : (b, o) ∈ pinsAt fp h := List.mem_filterMap.mpr ⟨b, hb, by rw [e]; rfl⟩
theorem of_pinsAt {fp : List Addr} {h : Heap} {p : Addr × Obj} (hp : p ∈ pinsAt fp h) : p.1 ∈ fp ∧ h.get? p.1 = some p.2 := by
  obtain ⟨b, hb, e⟩ := List.mem_filterMap.mp hp
  cases q : h.get? b with
  | none => rw [q] at e; cases e
  | some o =>
    rw [q] at e
    have e' : (b, o) = p := Option.some.inj e
    subst e'
    exact ⟨hb, q⟩
theorem Inv.pinned {pins : List (Addr × Obj)} {σ : St} {H : Hp} {s : Shared} {fp : List Addr} (I : Inv X pins σ H s) (hf : ∀ b ∈ fp, FpOk X pins H b) (ho : ∀ b ∈ fp, ∃ o, s.heap.get? b = some o ∧ ∀ v, o.data ≠ .cell v) : Inv X (pins ++ pinsAt fp s.heap) σ H s :=
  I.pins_of fun p hp => (List.mem_append.mp hp).elim (fun z => I.pin p (List.mem_append_right _ z)) fun z => by
    obtain ⟨hb, e⟩ := of_pinsAt z
    obtain ⟨f0, f1, f2, _⟩ := hf p.1 hb
    obtain ⟨o, e', d⟩ := ho p.1 hb
    rw [e] at e'; cases e'
    exact ⟨e, f0, f1, f2, d⟩
theorem Inv.unpinned {pins pl : List (Addr × Obj)} {σ : St} {H : Hp} {s : Shared} (I : Inv X (pins ++ pl) σ H s) : Inv X pins σ H s := I.pins_of fun p hp => I.pin p (List.mem_append_right _ (List.mem_append_left _ hp))
theorem ps_for {iter : Expr} {body : List Stmt} {wi : TI} {g : TG} {tb : TS} {pos : Pos} (hp : PassesOwn (model X.prog X.w) X.A X.env X.xe) (hc : X.calm = true) (hi : PI X tg iter wi) (hg : PG X tg g) (hb : PSs X body tb)
    (hs : ∀ x, foldedSetIterable iter X.env x = pure x := by intro _; rfl) : PS X (.For tg iter body [] pos) (tFor wi g tb) := by
  intro pins s σ H D I h
  refine wpAny_For (thn (hi pins s σ H _ I h) fun v s1 h1 => thn h1 fun itv s2 h2 => ?_) hs
  obtain ⟨it, fp, tn, J, H2, e, I2, T, st2, f2, W, ⟨m0, w0⟩, turn⟩ := h2
  subst e
  -- what stays true of the iterator's objects through the loop
  have stat : ∀ {H' : Hp}, (∀ b ∈ fp, H' b = none) → ∀ b ∈ fp, FpOk X pins H' b := fun hn b hb => ⟨hn b hb, (f2 b hb).2⟩
  refine codeAny_forLoop_any (fun n s' => ∃ i σ' H', Inv X pins σ' H' s' ∧ tn i s'.heap ∧ (∀ b ∈ fp, H' b = none) ∧ W i n σ' H') ?_ m0 ⟨0, σ, H2, I2, st2, fun b hb => (f2 b hb).1, w0⟩
  rintro n s3 ⟨i, σ3, H3, I3, st3, fr3, w3⟩
  rcases turn i n σ3 H3 w3 with ⟨stop, qn⟩ | ⟨go, N, hN, step⟩
  · refine wpAny_passesOwn hp (thn (T.done X rfl rfl rfl hc i pins s3 σ3 H3 X.xe I3 (stat fr3) st3 stop) fun r s4 ⟨hr, I4⟩ => ?_)
    subst hr
    exact wpAny_execs_nil ⟨σ3, H3, I4, qn⟩
  · refine wpAny_passesOwn hp (thn (T.item X rfl rfl rfl hc i pins s3 σ3 H3 X.xe I3 (stat fr3) st3 go) fun r s4 ⟨u, hr, h4⟩ => ?_)
    subst hr
    refine wpAny_passesOwn hp (thn h4 fun _ s5 ⟨x, H5, I5, r5, y5, st5, fr5⟩ => ?_)
    have I5' := I5.pinned (stat fr5) (T.obj _ _ st5)
    refine wpAny_passesOwn hp (thn (hg _ s5 σ3 H5 x u _ I5' r5 (step x H5 y5)) fun _ s6 ⟨σ6, H6, I6, q6⟩ => ?_)
    refine wpAny_passesOwn hp (thn (hb _ s6 σ6 H6 _ I6 q6) fun f s7 q7 => ?_)
    have again : ∀ {σ7 : St} {H7 : Hp}, Inv X (pins ++ pinsAt fp s5.heap) σ7 H7 s7 → N σ7 H7 → ∃ m, m < n ∧ ∃ i σ' H', Inv X pins σ' H' s7 ∧ tn i s7.heap ∧ (∀ b ∈ fp, H' b = none) ∧ W i m σ' H' := fun {σ7 H7} I7 n7 => by
      obtain ⟨m', hm, w7⟩ := hN σ7 H7 n7
      refine ⟨m', hm, i + 1, σ7, H7, I7.unpinned, T.keep _ _ _ st5 fun b hb o e => (I7.pin (b, o) (List.mem_append_right _ (List.mem_append_right _ (mem_pinsAt hb e)))).1, fun b hb => ?_, w7⟩
      obtain ⟨o, e, d⟩ := T.obj _ _ st5 b hb
      exact (I7.pin (b, o) (List.mem_append_right _ (List.mem_append_right _ (mem_pinsAt hb e)))).2.1
    cases f with
    | next => obtain ⟨σ7, H7, I7, n7⟩ := q7; exact again I7 n7
    | cont => obtain ⟨σ7, H7, I7, n7⟩ := q7; exact again I7 n7
    | brk => obtain ⟨σ7, H7, I7, q7⟩ := q7; exact ⟨σ7, H7, I7.unpinned, q7⟩
    | ret v => obtain ⟨x7, σ7, H7, I7, r7, q7⟩ := q7; exact ⟨x7, σ7, H7, I7.unpinned, r7, q7⟩
end

theorem for_list {K : PySem.W.Frag} {a : Addr} {xs : List V} {g : TG} {tb : TS} {D : Ends} {σ : St} {H : Hp} (Pv : Nat → St → Hp → Prop) (h0 : Pv 0 σ H) (hl : ∀ i σ H, i ≤ xs.length → Pv i σ H → SqL K H a xs)
    (hs : ∀ i x σ H, xs[i]? = some x → Pv i σ H → g x σ H fun σ2 H2 => tb { D with nx := Pv (i + 1), ct := Pv (i + 1), bk := D.nx } σ2 H2) (hd : ∀ σ H, Pv xs.length σ H → D.nx σ H) :
    ∃ W : Nat → Nat → St → Hp → Prop, (∃ m, W 0 m σ H) ∧ ∀ i m σ H, W i m σ H →
      ((Itl K a).stop i H ∧ D.nx σ H) ∨ ((Itl K a).go i H ∧ ∃ N : St → Hp → Prop, (∀ σ' H', N σ' H' → ∃ m', m' < m ∧ W (i + 1) m' σ' H') ∧ ∀ x H', (Itl K a).yld i H x H' → g x σ H' fun σ2 H2 => tb { D with nx := N, ct := N, bk := D.nx } σ2 H2) := by
  refine ⟨fun i m σ H => m = xs.length - i ∧ i ≤ xs.length ∧ Pv i σ H, ⟨xs.length, by simp, Nat.zero_le _, h0⟩, ?_⟩
  rintro i m σ H ⟨rfl, hi, p⟩
  have q := hl i σ H hi p
  by_cases hlt : i < xs.length
  · refine .inr ⟨⟨xs, xs[i], q, by simp [hlt]⟩, Pv (i + 1), fun σ' H' p' => ⟨xs.length - (i + 1), by omega, rfl, hlt, p'⟩, fun x H' y => ?_⟩
    obtain ⟨e, y⟩ := y
    subst e
    exact hs i x σ _ (y xs q) p
  · have e : i = xs.length := by omega
    subst e
    exact .inl ⟨⟨xs, q, Nat.le_refl _⟩, hd σ H p⟩
theorem for_tup {K : PySem.W.Frag} {a : Addr} {xs : List V} {g : TG} {tb : TS} {D : Ends} {σ : St} {H : Hp} (Pv : Nat → St → Hp → Prop) (h0 : Pv 0 σ H) (hl : ∀ i σ H, i ≤ xs.length → Pv i σ H → SqT K H a xs)
    (hs : ∀ i x σ H, xs[i]? = some x → Pv i σ H → g x σ H fun σ2 H2 => tb { D with nx := Pv (i + 1), ct := Pv (i + 1), bk := D.nx } σ2 H2) (hd : ∀ σ H, Pv xs.length σ H → D.nx σ H) :
    ∃ W : Nat → Nat → St → Hp → Prop, (∃ m, W 0 m σ H) ∧ ∀ i m σ H, W i m σ H →
      ((Itt K a).stop i H ∧ D.nx σ H) ∨ ((Itt K a).go i H ∧ ∃ N : St → Hp → Prop, (∀ σ' H', N σ' H' → ∃ m', m' < m ∧ W (i + 1) m' σ' H') ∧ ∀ x H', (Itt K a).yld i H x H' → g x σ H' fun σ2 H2 => tb { D with nx := N, ct := N, bk := D.nx } σ2 H2) := by
  refine ⟨fun i m σ H => m = xs.length - i ∧ i ≤ xs.length ∧ Pv i σ H, ⟨xs.length, by simp, Nat.zero_le _, h0⟩, ?_⟩
  rintro i m σ H ⟨rfl, hi, p⟩
  have q := hl i σ H hi p
  by_cases hlt : i < xs.length
  · refine .inr ⟨⟨xs, xs[i], q, by simp [hlt]⟩, Pv (i + 1), fun σ' H' p' => ⟨xs.length - (i + 1), by omega, rfl, hlt, p'⟩, fun x H' y => ?_⟩
    obtain ⟨e, y⟩ := y
    subst e
    exact hs i x σ _ (y xs q) p
  · have e : i = xs.length := by omega
    subst e
    exact .inl ⟨⟨xs, q, Nat.le_refl _⟩, hd σ H p⟩
theorem for_range {lo : Int} {n : Nat} {g : TG} {tb : TS} {D : Ends} {σ : St} {H : Hp} (Pv : Nat → St → Hp → Prop) (h0 : Pv 0 σ H)
    (hs : ∀ i σ H, i < n → Pv i σ H → g (.int (lo + i)) σ H fun σ2 H2 => tb { D with nx := Pv (i + 1), ct := Pv (i + 1), bk := D.nx } σ2 H2) (hd : ∀ σ H, Pv n σ H → D.nx σ H) :
    ∃ W : Nat → Nat → St → Hp → Prop, (∃ m, W 0 m σ H) ∧ ∀ i m σ H, W i m σ H →
      ((Itr lo n).stop i H ∧ D.nx σ H) ∨ ((Itr lo n).go i H ∧ ∃ N : St → Hp → Prop, (∀ σ' H', N σ' H' → ∃ m', m' < m ∧ W (i + 1) m' σ' H') ∧ ∀ x H', (Itr lo n).yld i H x H' → g x σ H' fun σ2 H2 => tb { D with nx := N, ct := N, bk := D.nx } σ2 H2) := by
  refine ⟨fun i m σ H => m = n - i ∧ i ≤ n ∧ Pv i σ H, ⟨n, by simp, Nat.zero_le _, h0⟩, ?_⟩
  rintro i m σ H ⟨rfl, hi, p⟩
  by_cases hlt : i < n
  · refine .inr ⟨hlt, Pv (i + 1), fun σ' H' p' => ⟨n - (i + 1), by omega, rfl, hlt, p'⟩, fun x H' y => ?_⟩
    obtain ⟨e, y⟩ := y
    subst e y
    exact hs i σ _ hlt p
  · have e : i = n := by omega
    subst e
    exact .inl ⟨Nat.le_refl _, hd σ H p⟩
end L2

namespace L2
open PySem PySem.Spec PyProof.Rows

abbrev R2 := V → V → Hp → VK → Prop
def OpR (X : Cx) (f : Value → Value → Sem Value) (r : R2) : Prop :=
  ∀ (pins : List (Addr × Obj)) (s : Shared) (σ : St) (H : Hp) (x y : V) (v u : Value) (Q : VK), Inv X pins σ H s → RelV x v → RelV y u → r x y H Q →
    wpAny (model X.prog X.w) X.A (f v u) (EP X pins σ Q) X.xe s
def UnR (X : Cx) (f : Value → Sem Value) (r : V → Hp → VK → Prop) : Prop :=
  ∀ (pins : List (Addr × Obj)) (s : Shared) (σ : St) (H : Hp) (x : V) (v : Value) (Q : VK), Inv X pins σ H s → RelV x v → r x H Q →
    wpAny (model X.prog X.w) X.A (f v) (EP X pins σ Q) X.xe s
def CallR (X : Cx) (f : Value) (r : List V → Hp → VK → Prop) : Prop :=
  ∀ (pins : List (Addr × Obj)) (s : Shared) (σ : St) (H : Hp) (xs : List V) (us : List Value) (Q : VK), Inv X pins σ H s → Vals xs us → r xs H Q →
    wpAny (model X.prog X.w) X.A (call f us) (EP X pins σ Q) X.xe s
def tOp (r : R2) (ta tb : TE) : TE := fun σ H Q => ta σ H fun x H1 => tb σ H1 fun y H2 => r x y H2 Q
def tUn (r : V → Hp → VK → Prop) (ta : TE) : TE := fun σ H Q => ta σ H fun x H1 => r x H1 Q
def rI (C : Int → Int → Prop) (g : Int → Int → V) : R2 := fun x y H Q => ∃ i j, x = .int i ∧ y = .int j ∧ C i j ∧ Q (g i j) H
def rI0 (g : Int → Int → V) : R2 := fun x y H Q => ∃ i j, x = .int i ∧ y = .int j ∧ Q (g i j) H
def rU (g : Int → V) : V → Hp → VK → Prop := fun x H Q => ∃ i, x = .int i ∧ Q (g i) H

section
variable {X : Cx} {a b c : Expr} {ta tb tc : TE} {pos : Pos}

theorem binT (ha : PE X a ta) (hb : PE X b tb) {pins : List (Addr × Obj)} {s : Shared} {σ : St} {H : Hp} {R : V → V → Hp → Prop} (I : Inv X pins σ H s)
    (h : ta σ H fun x H1 => tb σ H1 fun y H2 => R x y H2) {Q : Value → Shared → Prop} {f : Value → Value → Sem Value}
    (hf : ∀ v u s2 x y H2, Inv X pins σ H2 s2 → RelV x v → RelV y u → R x y H2 → wpAny (model X.prog X.w) X.A (f v u) Q X.xe s2) :
    wpAny (model X.prog X.w) X.A (eval a X.env) (fun v s₁ => wpAny (model X.prog X.w) X.A (eval b X.env) (fun u s₂ => wpAny (model X.prog X.w) X.A (f v u) Q X.xe s₂) X.xe s₁) X.xe s := by
  refine thn (ha pins s σ H _ I h) fun v s1 ⟨x, H1, I1, r1, q1⟩ => ?_
  refine thn (hb pins s1 σ H1 _ I1 q1) fun u s2 ⟨y, H2, I2, r2, q2⟩ => ?_
  exact hf v u s2 x y H2 I2 r1 r2 q2

theorem pe_op {op : Operator} {r : R2} (ho : OpR X (binaryOp op) r) (ha : PE X a ta) (hb : PE X b tb) : PE X (.BinOp a op b pos) (tOp r ta tb) := by
  intro pins s σ H Q I h
  exact wpAny_BinOp (binT ha hb I h fun v u s2 x y H2 I2 rx ry q => ho pins s2 σ H2 x y v u Q I2 rx ry q)
theorem pe_un {op : UnaryOp} {r : V → Hp → VK → Prop} (ho : UnR X (unaryOp op) r) (ha : PE X a ta) : PE X (.UnaryOp op a pos) (tUn r ta) := by
  intro pins s σ H Q I h
  exact UnaryOp_ (thn (ha pins s σ H _ I h) fun v s1 ⟨x, H1, I1, r1, q1⟩ => ho pins s1 σ H1 x v Q I1 r1 q1)
theorem opI {f : Value → Value → Sem Value} {C : Int → Int → Prop} {g : Int → Int → Int}
    (rule : ∀ (i j : Int) (t u : Tok) (s : Shared) (Q : Value → Shared → Prop) (E : Value → Shared → Prop), C i j → Q (.int (g i j) s.toks) { s with toks := s.toks + 1 } → wpAny (model X.prog X.w) X.A (f (.int i t) (.int j u)) Q E s) :
    OpR X f (rI C fun i j => .int (g i j)) := by
  intro pins s σ H x y v u Q I rx ry h
  obtain ⟨i, j, rfl, rfl, hc, q⟩ := h
  obtain ⟨t, rfl⟩ := rx
  obtain ⟨t', rfl⟩ := ry
  exact rule i j t t' s _ _ hc ⟨.int (g i j), H, I.tok _, ⟨_, rfl⟩, q⟩
theorem opI0 {f : Value → Value → Sem Value} {g : Int → Int → Int}
    (rule : ∀ (i j : Int) (t u : Tok) (s : Shared) (Q : Value → Shared → Prop) (E : Value → Shared → Prop), Q (.int (g i j) s.toks) { s with toks := s.toks + 1 } → wpAny (model X.prog X.w) X.A (f (.int i t) (.int j u)) Q E s) :
    OpR X f (rI0 fun i j => .int (g i j)) := by
  intro pins s σ H x y v u Q I rx ry h
  obtain ⟨i, j, rfl, rfl, q⟩ := h
  obtain ⟨t, rfl⟩ := rx
  obtain ⟨t', rfl⟩ := ry
  exact rule i j t t' s _ _ ⟨.int (g i j), H, I.tok _, ⟨_, rfl⟩, q⟩
theorem opB0 {f : Value → Value → Sem Value} {g : Int → Int → Bool}
    (rule : ∀ (i j : Int) (t u : Tok) (s : Shared) (Q : Value → Shared → Prop) (E : Value → Shared → Prop), Q (.bool (g i j)) s → wpAny (model X.prog X.w) X.A (f (.int i t) (.int j u)) Q E s) :
    OpR X f (rI0 fun i j => .bl (g i j)) := by
  intro pins s σ H x y v u Q I rx ry h
  obtain ⟨i, j, rfl, rfl, q⟩ := h
  obtain ⟨t, rfl⟩ := rx
  obtain ⟨t', rfl⟩ := ry
  exact rule i j t t' s _ _ ⟨.bl (g i j), H, I, rfl, q⟩

def CDiv (i j : Int) : Prop := 0 < j ∧ j < 1073741824
def CPow (i j : Int) : Prop := 0 ≤ j ∧ j ≤ 1000000 ∧ i.natAbs < 2 ^ 64
def CMul (i j : Int) : Prop := (-(2 ^ 64) < i ∧ i < 2 ^ 64) ∨ (-(2 ^ 64) < j ∧ j < 2 ^ 64)
theorem CMul.ok {i j : Int} (h : CMul i j) : IntMulOk i j := by
  rcases h with ⟨h1, h2⟩ | ⟨h1, h2⟩
  · exact .of_left (intBits_le_64 h1 h2)
  · exact .of_right (intBits_le_64 h1 h2)
theorem op_add : OpR X (binaryOp .Add) (rI0 fun i j => .int (i + j)) := opI0 fun _ _ _ _ _ _ _ q => add_int q
theorem op_sub : OpR X (binaryOp .Sub) (rI0 fun i j => .int (i - j)) := opI0 fun _ _ _ _ _ _ _ q => sub_int q
theorem op_mul : OpR X (binaryOp .Mult) (rI CMul fun i j => .int (i * j)) := opI fun _ _ _ _ _ _ _ hc q => mul_int q hc.ok
theorem op_mod : OpR X (binaryOp .Mod) (rI (fun _ j => 0 < j) fun i j => .int (i % j)) := opI fun i j _ _ _ _ _ hc q => by
  have h1 : (0 : Int) < j := hc
  exact mod_int' (by omega) (by rw [Int.fmod_eq_emod_of_nonneg i (by omega)]; exact q)
theorem op_pow : OpR X (binaryOp .Pow) (rI CPow fun i j => .int (i ^ j.toNat)) := opI fun _ _ _ _ _ _ _ hc q => pow_int_small hc.1 hc.2.1 hc.2.2 q
theorem iop_add : OpR X (inplaceOp .Add) (rI0 fun i j => .int (i + j)) := opI0 fun _ _ _ _ _ _ _ q => iadd_int q
theorem unI {f : Value → Sem Value} {g : Int → Int}
    (rule : ∀ (i : Int) (t : Tok) (s : Shared) (Q : Value → Shared → Prop) (E : Value → Shared → Prop), Q (.int (g i) s.toks) { s with toks := s.toks + 1 } → wpAny (model X.prog X.w) X.A (f (.int i t)) Q E s) :
    UnR X f (rU fun i => .int (g i)) := by
  intro pins s σ H x v Q I rx h
  obtain ⟨i, rfl, q⟩ := h
  obtain ⟨t, rfl⟩ := rx
  exact rule i t s _ _ ⟨.int (g i), H, I.tok _, ⟨_, rfl⟩, q⟩
theorem un_neg : UnR X (unaryOp .USub) (rU fun i => .int (-i)) := unI fun _ _ _ _ _ q => neg_int q
end

def scal : V → V → Bool
  | .non, .non => true | .non, .int _ => true | .int _, .non => true | .non, .bl _ => true | .bl _, .non => true | .non, .str _ => true | .str _, .non => true
  | .int _, .int _ => true | .bl _, .bl _ => true | .str _, .str _ => true | .byt _, .byt _ => true
  | .int _, .str _ => true | .str _, .int _ => true | .bl _, .str _ => true | .str _, .bl _ => true
  | _, _ => false
def rEq : R2 := fun x y H Q => scal x y = true ∧ Q (.bl (decide (x = y))) H
def rNe : R2 := fun x y H Q => scal x y = true ∧ Q (.bl (!decide (x = y))) H

theorem dec_int {i j : Int} : decide (V.int i = V.int j) = (i == j) := by
  rw [Bool.eq_iff_iff]
  simp
theorem dec_bl {i j : Bool} : decide (V.bl i = V.bl j) = (i == j) := by
  rw [Bool.eq_iff_iff]
  simp
theorem dec_str {i j : Str} : decide (V.str i = V.str j) = (i == j) := by
  rw [Bool.eq_iff_iff]
  simp
theorem dec_byt {i j : Array UInt8} : decide (V.byt i = V.byt j) = (i.toList == j.toList) := by
  rw [Bool.eq_iff_iff]
  cases i
  cases j
  simp

section
variable {X : Cx} {a b c : Expr} {ta tb tc : TE} {pos : Pos}
theorem fin_bl {pins : List (Addr × Obj)} {σ : St} {H : Hp} {s : Shared} {Q : VK} {k k' : Bool} (I : Inv X pins σ H s) (q : Q (.bl k) H) (e : k = k') : EP X pins σ Q (.bool k') s := by
  subst e
  exact ⟨.bl k, H, I, rfl, q⟩
theorem op_eq : OpR X (compareOp .Eq) rEq := by
  intro pins s σ H x y v u Q I rx ry h
  obtain ⟨hs, q⟩ := h
  cases x with
  | non =>
    cases rx
    cases y with
    | non => cases ry; exact PySem.EqNone.eq_none_none (fin_bl I q (by simp))
    | bl j => cases ry; exact PySem.EqNone.eq_none_bool (fin_bl I q (by simp))
    | int j => obtain ⟨t', rfl⟩ := ry; exact PySem.EqNone.eq_none_int (fin_bl I q (by simp))
    | str j => obtain ⟨t', rfl⟩ := ry; exact PySem.EqNone.eq_none_str (fin_bl I q (by simp))
    | _ => exact absurd (show false = true from hs) Bool.false_ne_true
  | bl i =>
    cases rx
    cases y with
    | non => cases ry; exact PySem.EqNone.eq_bool_none (fin_bl I q (by simp))
    | bl j => cases ry; exact eq_bool (fin_bl I q dec_bl)
    | str j => obtain ⟨t', rfl⟩ := ry; exact PySem.EqMixed.eq_bool_str (fin_bl I q (by simp))
    | _ => exact absurd (show false = true from hs) Bool.false_ne_true
  | int i =>
    obtain ⟨t, rfl⟩ := rx
    cases y with
    | non => cases ry; exact PySem.EqNone.eq_int_none (fin_bl I q (by simp))
    | int j => obtain ⟨t', rfl⟩ := ry; exact eq_int (fin_bl I q dec_int)
    | str j => obtain ⟨t', rfl⟩ := ry; exact PySem.EqMixed.eq_int_str (fin_bl I q (by simp))
    | _ => exact absurd (show false = true from hs) Bool.false_ne_true
  | str i =>
    obtain ⟨t, rfl⟩ := rx
    cases y with
    | non => cases ry; exact PySem.EqNone.eq_str_none (fin_bl I q (by simp))
    | bl j => cases ry; exact PySem.EqMixed.eq_str_bool (fin_bl I q (by simp))
    | int j => obtain ⟨t', rfl⟩ := ry; exact PySem.EqMixed.eq_str_int (fin_bl I q (by simp))
    | str j => obtain ⟨t', rfl⟩ := ry; exact eq_str (fin_bl I q dec_str)
    | _ => exact absurd (show false = true from hs) Bool.false_ne_true
  | byt i =>
    obtain ⟨t, rfl⟩ := rx
    cases y with
    | byt j => obtain ⟨t', rfl⟩ := ry; exact PySem.W.eq_bytes (fin_bl I q dec_byt)
    | _ => exact absurd (show false = true from hs) Bool.false_ne_true
  | _ => cases y <;> exact absurd (show false = true from hs) Bool.false_ne_true
theorem op_ne : OpR X (compareOp .NotEq) rNe := by
  intro pins s σ H x y v u Q I rx ry h
  obtain ⟨hs, q⟩ := h
  cases x with
  | non =>
    cases rx
    cases y with
    | non => cases ry; exact PySem.EqNone.ne_none_none (fin_bl I q (by simp))
    | bl j => cases ry; exact PySem.EqNone.ne_none_bool (fin_bl I q (by simp))
    | int j => obtain ⟨t', rfl⟩ := ry; exact PySem.EqNone.ne_none_int (fin_bl I q (by simp))
    | str j => obtain ⟨t', rfl⟩ := ry; exact PySem.EqNone.ne_none_str (fin_bl I q (by simp))
    | _ => exact absurd (show false = true from hs) Bool.false_ne_true
  | bl i =>
    cases rx
    cases y with
    | non => cases ry; exact PySem.EqNone.ne_bool_none (fin_bl I q (by simp))
    | bl j => cases ry; exact ne_bool (fin_bl I q (congrArg not dec_bl))
    | str j => obtain ⟨t', rfl⟩ := ry; exact PySem.EqMixed.ne_bool_str (fin_bl I q (by simp))
    | _ => exact absurd (show false = true from hs) Bool.false_ne_true
  | int i =>
    obtain ⟨t, rfl⟩ := rx
    cases y with
    | non => cases ry; exact PySem.EqNone.ne_int_none (fin_bl I q (by simp))
    | int j => obtain ⟨t', rfl⟩ := ry; exact ne_int (fin_bl I q (congrArg not dec_int))
    | str j => obtain ⟨t', rfl⟩ := ry; exact PySem.EqMixed.ne_int_str (fin_bl I q (by simp))
    | _ => exact absurd (show false = true from hs) Bool.false_ne_true
  | str i =>
    obtain ⟨t, rfl⟩ := rx
    cases y with
    | non => cases ry; exact PySem.EqNone.ne_str_none (fin_bl I q (by simp))
    | bl j => cases ry; exact PySem.EqMixed.ne_str_bool (fin_bl I q (by simp))
    | int j => obtain ⟨t', rfl⟩ := ry; exact PySem.EqMixed.ne_str_int (fin_bl I q (by simp))
    | str j => obtain ⟨t', rfl⟩ := ry; exact ne_str (fin_bl I q (congrArg not dec_str))
    | _ => exact absurd (show false = true from hs) Bool.false_ne_true
  | byt i =>
    obtain ⟨t, rfl⟩ := rx
    cases y with
    | byt j => obtain ⟨t', rfl⟩ := ry; exact PySem.W.ne_bytes (fin_bl I q (congrArg not dec_byt))
    | _ => exact absurd (show false = true from hs) Bool.false_ne_true
  | _ => cases y <;> exact absurd (show false = true from hs) Bool.false_ne_true

theorem op_lt : OpR X (compareOp .Lt) (rI0 fun i j => .bl (decide (i < j))) := opB0 fun _ _ _ _ _ _ _ q => lt_int q
theorem op_gt : OpR X (compareOp .Gt) (rI0 fun i j => .bl (decide (j < i))) := opB0 fun _ _ _ _ _ _ _ q => gt_int q
theorem op_ge : OpR X (compareOp .GtE) (rI0 fun i j => .bl (decide (j ≤ i))) := opB0 fun _ _ _ _ _ _ _ q => ge_int q
theorem nomark (b : Expr) {op : CmpOp} (h : op ≠ .In := by decide) (h2 : op ≠ .NotIn := by decide) : behindInMarks op b = false := by
  have e1 : (op == CmpOp.In) = false := by cases op <;> first | rfl | exact absurd rfl h
  have e2 : (op == CmpOp.NotIn) = false := by cases op <;> first | rfl | exact absurd rfl h2
  cases b <;> simp [behindInMarks, e1, e2]
theorem pe_cmpR {op : CmpOp} {r : R2} (ho : OpR X (compareOp op) r) (ha : PE X a ta) (hb : PE X b tb) (hm : behindInMarks op b = false) : PE X (.Compare a [op] [b] pos) (tOp r ta tb) := by
  intro pins s σ H Q I h
  exact wpAny_Compare1 (binT ha hb I h fun v u s2 x y H2 I2 rx ry q => ho pins s2 σ H2 x y v u Q I2 rx ry q) hm
def tTest (t : TE) : TT := fun σ H Q => t σ H fun x H' => ∃ k, x = .bl k ∧ Q k H'
theorem pt_cmpR {op : CmpOp} {r : R2} (ho : OpR X (compareOp op) r) (ha : PE X a ta) (hb : PE X b tb) (hm : behindInMarks op b = false) : PT X (.Compare a [op] [b] pos) (tTest (tOp r ta tb)) := by
  intro pins s σ H Q I h
  refine wpAny_isTrue_Compare1 (thn (ha pins s σ H _ I h) fun v s1 ⟨x, H1, I1, r1, q1⟩ => thn (hb pins s1 σ H1 _ I1 q1) fun u s2 ⟨y, H2, I2, r2, q2⟩ =>
    thn (ho pins s2 σ H2 x y v u _ I2 r1 r2 q2) fun c s3 ⟨z, H3, I3, r3, k, e, q3⟩ => ?_) hm
  subst e
  cases r3
  exact wpAny_truthy_bool ⟨H3, I3, q3⟩
def tChain (r r' : R2) (ta tb tc : TE) : TE := fun σ H Q => ta σ H fun x H1 => tb σ H1 fun y H2 => r x y H2 fun z H3 => ∃ k, z = .bl k ∧
  (if k = true then tc σ H3 fun w' H4 => r' y w' H4 Q else Q (.bl false) H3)
def TruV (K : PySem.W.Frag) (x : V) (H : Hp) (k : Bool) : Prop :=
  match x with
  | .non => k = false
  | .bl b => k = b
  | .int i => k = (i != 0)
  | .str y => y.length ≤ sizeLine ∧ k = ((y.length : Int) != 0)
  | .byt y => y.size ≤ sizeLine ∧ k = ((y.size : Int) != 0)
  | .ref p => (∃ xs, SqL K H p xs ∧ k = !xs.isEmpty) ∨ (∃ xs, SqT K H p xs ∧ k = !xs.isEmpty) ∨ ∃ kvs, H p = some (.dK kvs) ∧ k = !kvs.isEmpty
  | _ => False
theorem line63 : (sizeLine : Nat) < 2 ^ 63 := by rw [sizeLine_eq]; decide
theorem vals1 {x : V} {us : List Value} (r : Vals [x] us) : ∃ u, us = [u] ∧ RelV x u := by
  cases r with
  | cons r1 r2 => cases r2; exact ⟨_, rfl, r1⟩
theorem vals2 {x y : V} {us : List Value} (r : Vals [x, y] us) : ∃ u w', us = [u, w'] ∧ RelV x u ∧ RelV y w' := by
  cases r with
  | cons r1 r2 =>
    cases r2 with
    | cons r3 r4 => cases r4; exact ⟨_, _, rfl, r1, r3⟩
theorem call_abs : CallR X (.builtin "abs") (fun xs H Q => ∃ i, xs = [.int i] ∧ Q (.int (if i < 0 then -i else i)) H) := by
  intro pins s σ H xs us Q I r h
  obtain ⟨i, rfl, q⟩ := h
  obtain ⟨u, rfl, t, rfl⟩ := vals1 r
  exact call_abs_int fun u tk => ⟨.int (if i < 0 then -i else i), H, I.tok _, ⟨_, rfl⟩, q⟩
theorem call_min2 (hc : X.calm = true) : CallR X (.builtin "min") (fun xs H Q => ∃ i j, xs = [.int i, .int j] ∧ Q (.int (if j < i then j else i)) H) := by
  intro pins s σ H xs us Q I r h
  obtain ⟨i, j, rfl, q⟩ := h
  obtain ⟨u, w', rfl, ⟨t, rfl⟩, ⟨t', rfl⟩⟩ := vals2 r
  refine min_two_ints (I.ok.hd hc) fun h' tk k => ⟨_, H, I.kept k, ?_, q⟩
  by_cases hj : j < i
  · rw [if_pos hj, if_pos hj]; exact ⟨_, rfl⟩
  · rw [if_neg hj, if_neg hj]; exact ⟨_, rfl⟩
theorem call_int1 : CallR X (.type "int") (fun xs H Q => (∃ i, xs = [.int i] ∧ Q (.int i) H) ∨ ∃ k, xs = [.bl k] ∧ Q (.int (if k then 1 else 0)) H) := by
  intro pins s σ H xs us Q I r h
  rcases h with ⟨i, rfl, q⟩ | ⟨k, rfl, q⟩
  · obtain ⟨u, rfl, t, rfl⟩ := vals1 r
    exact call_int_int ⟨.int i, H, I, ⟨_, rfl⟩, q⟩
  · obtain ⟨u, rfl, r1⟩ := vals1 r
    cases r1
    exact call_int_bool ⟨.int (if k then 1 else 0), H, I.tok _, ⟨_, rfl⟩, q⟩
end
end L2

namespace L2
open PySem PySem.Spec PyProof.Rows

structure ObjM (h : Heap) (x dx C : Addr) (mA : Str → Option Value) : Prop where
  obj : h.get? x = some (PySem.W.instObj C dx)
  ns : h.Ns1 dx mA
  ne : dx ≠ x

theorem lookIn_ns {h : Heap} {dx : Addr} {mA : Str → Option Value} (n : h.Ns1 dx mA) : ∃ od, h.get? dx = some od ∧ ∀ name, PySem.W.lookIn name od = some (mA name) := by
  obtain ⟨o, es, ep, ho, hd, hk, _, hm⟩ := n
  refine ⟨o, ho, fun name => ?_⟩
  have e := hm name
  unfold nsFind findBy at e
  rw [← Array.find?_toList] at e
  unfold PySem.W.lookIn
  rw [hd]
  dsimp only
  split
  · rename_i y q
    rw [q] at e
    exact congrArg some e
  · rename_i q
    rw [q] at e
    have a : es.toList.any (·.refKey) = false := by
      rw [List.any_eq_false]
      intro y hy
      obtain ⟨z, t, hkey⟩ := hk y (Array.mem_toList_iff.mp hy)
      simp [DictEntry.refKey, hkey]
    have a' : ¬ es.toList.any (·.refKey) = true := by rw [a]; exact Bool.false_ne_true
    rw [if_neg a']
    exact congrArg some e

theorem ObjM.look {h : Heap} {x dx C : Addr} {mA : Str → Option Value} (I : ObjM h x dx C mA) : ∃ od, PySem.W.InstAt h x (PySem.W.instObj C dx) C (some od) ∧ ∀ name, PySem.W.lookIn name od = some (mA name) :=
  let ⟨od, ho, hl⟩ := lookIn_ns I.ns
  ⟨od, ⟨I.obj, rfl, rfl, ho⟩, hl⟩

section
variable {prog : Program} {w : World} {A : Around} {E : Value → Shared → Prop} {s : Shared} {K : PySem.W.Frag} {x dx C f : Addr} {mA : Str → Option Value} {name : Str} {v : Value}

theorem get_map {expr : Bool} {Q : Value → Shared → Prop} (X : K.In s.heap) (I : ObjM s.heap x dx C mA) (hg : PySem.W.plainGet K C name = true) (hh : PySem.W.hasDictIn K C = true)
    (ha : PySem.W.findIn K (.ref C) name = some none) (hv : mA name = some v) (hv' : PySem.W.handedIn v = true) (h : Q v { s with toks := s.toks + 1 }) :
    wpAny (model prog w) A (getAttr (.ref x) name expr) Q E s := by
  obtain ⟨od, J, hl⟩ := I.look
  exact PySem.W.get_value X J (PySem.W.plainGet_of hg).1 (PySem.W.findObj_own hh ha rfl (by rw [hl, hv])) hv' h

theorem get_meth {pl : Sem Bool} {Q : Value × List Value → Shared → Prop} (X : K.In s.heap) (I : ObjM s.heap x dx C mA) (hg : PySem.W.plainGet K C name = true)
    (hf : PySem.W.findIn K (.ref C) name = some (some (.ref f))) (ht : PySem.W.isFn K (.ref f) = true) (hv : mA name = none) (h : Q (.ref f, [.ref x]) s) :
    wpAny (model prog w) A (getMethod (.ref x) name pl) Q E s := by
  obtain ⟨od, J, hl⟩ := I.look
  exact PySem.W.method_fn X J (PySem.W.plainGet_of hg).1 (PySem.W.plainGet_of hg).2 hf (beq_iff_eq.mp ht) (by show (PySem.W.lookIn name od).map (·.isSome) = some false; rw [hl, hv]; rfl) h

theorem set_map {ns : List Str} {Q : Unit → Shared → Prop} (X : K.In s.heap) (I : ObjM s.heap x dx C mA)
    (hs : PySem.W.findIn K (.ref C) "__setattr__" = some (some (.builtin "object.__setattr__"))) (hp : PySem.W.plainOver K C = true) (ht : PySem.W.takerIn K C name = some none) (hh : PySem.W.hasDictIn K C = true)
    (hw : PySem.Within mA ns) (hsz : ns.length ≤ sizeLine)
    (h : ∀ h', ObjM h' x dx C (fun y => if y = name then some v else mA y) → Heap.SameBut dx s.heap h' → Q () { s with heap := h', toks := s.toks + 2 }) :
    wpAny (model prog w) A (setAttr (.ref x) name v) Q E s := by
  obtain ⟨od, J, hl⟩ := I.look
  refine PySem.W.set_plain X J hs (PySem.W.osa_open (s := { s with toks := s.toks + 1 }) (r := none) X J hp ht fun b => ?_)
  obtain ⟨cd, hc, hd'⟩ := PySem.W.any_some hh
  have hx : s.heap.get? x = some ⟨.ref C, some dx, .plain, #[]⟩ := I.obj
  refine wpAny_bind (wpAny_pure (wpAny_bind (wpAny_bind (wpAny_loadPart hx (wpAny_bind (PySem.W.Looks.here (s := { s with toks := s.toks + 1 }) (PySem.W.looks_clsIn X hc) ?_))))))
  rw [hd']
  refine wpAny_pure (a := some dx) (wpAny_bind (wpAny_pure (wpAny_bind ?_)))
  refine wpAny_nsSet1 (s := { s with toks := s.toks + 1 }) I.ns fun h' hn2 hs2 => ?_
  obtain ⟨oD, esD, epD, hoD, hdD, hcD⟩ := hn2.count (PySem.Within.cons name v hw)
  refine wpAny_bind (wpAny_lookBehind hoD (by rw [hdD]; exact pastItsLine_dict (Nat.le_trans hcD (by rw [List.length_cons]; omega))) ?_)
  exact wpAny_pure (h _ ⟨(hs2.2 _ (Ne.symm I.ne)).trans I.obj, hn2, I.ne⟩ hs2)

theorem make_map {R : Result → Shared → Prop} {vs : List Value} {kw : List (Str × Value)} (X : K.In s.heap) (hm : PySem.W.makesIn K C = true)
    (hi : PySem.W.findIn K (.ref C) "__init__" = some (some (.ref f))) (hf : PySem.W.typeIn K (.ref f) = some (.type "function"))
    (h : codeAny (model prog w) (A.under (.builtin "type.__call__" ⟨.ref C :: vs, kw⟩)) (.call (.ref f) ⟨.ref (s.heap.objs.size + 1) :: vs, kw⟩) (PySem.W.InitBack (s.heap.objs.size + 1) R)
      { s with heap := (s.heap.push PySem.W.emptyDict).push (PySem.W.instObj C s.heap.objs.size) }) :
    codeAny (model prog w) A (.call (.ref C) ⟨vs, kw⟩) R s := by
  obtain ⟨hh, g, d, t, os⟩ := s
  exact PySem.W.make_core (PySem.W.makes_of X hm) (PySem.W.looks_findIn X hi) (fun self => PySem.W.bind_fn X self hf) (.inl rfl) h
end

def putF (f : Str) (v : V) : List (Str × V) → List (Str × V)
  | [] => [(f, v)]
  | (g, x) :: r => if g = f then (g, v) :: r else (g, x) :: putF f v r
theorem lookup_putF (f g : Str) (v : V) : ∀ fs : List (Str × V), (putF f v fs).lookup g = if g = f then some v else fs.lookup g
  | [] => by
    show List.lookup g [(f, v)] = _
    by_cases h : g = f
    · have hb : (g == f) = true := beq_iff_eq.mpr h
      simp only [List.lookup, hb, if_pos h]
    · have hb : (g == f) = false := beq_eq_false_iff_ne.mpr h
      simp only [List.lookup, hb, if_neg h]
  | (k, x) :: r => by
    have ih := lookup_putF f g v r
    rw [show putF f v ((k, x) :: r) = (if k = f then (k, v) :: r else (k, x) :: putF f v r) from rfl]
    by_cases hk : k = f
    · rw [if_pos hk]
      by_cases h : g = k
      · have hb : (g == k) = true := beq_iff_eq.mpr h
        simp only [List.lookup, hb, if_pos (h.trans hk)]
      · have hb : (g == k) = false := beq_eq_false_iff_ne.mpr h
        simp only [List.lookup, hb, if_neg (fun e : g = f => h (e.trans hk.symm))]
    · rw [if_neg hk]
      by_cases h : g = k
      · have hb : (g == k) = true := beq_iff_eq.mpr h
        simp only [List.lookup, hb, if_neg (fun e : g = f => hk (h.symm.trans e))]
      · have hb : (g == k) = false := beq_eq_false_iff_ne.mpr h
        simp only [List.lookup, hb]
        exact ih
theorem keys_putF (f : Str) (v : V) : ∀ fs : List (Str × V), f ∈ (putF f v fs).map (·.1) ∧ ∀ g, g ∈ fs.map (·.1) → g ∈ (putF f v fs).map (·.1)
  | [] => ⟨by simp [putF], fun g h => by simp at h⟩
  | (k, x) :: r => by
    obtain ⟨i1, i2⟩ := keys_putF f v r
    rw [show putF f v ((k, x) :: r) = (if k = f then (k, v) :: r else (k, x) :: putF f v r) from rfl]
    by_cases hk : k = f
    · rw [if_pos hk]
      subst hk
      exact ⟨by simp, fun g h => by simpa using h⟩
    · rw [if_neg hk]
      refine ⟨?_, fun g h => ?_⟩
      · rw [List.map_cons]
        exact List.mem_cons_of_mem _ i1
      · rw [List.map_cons] at h ⊢
        rcases List.mem_cons.mp h with e | e
        · exact List.mem_cons.mpr (.inl e)
        · exact List.mem_cons_of_mem _ (i2 g e)
theorem length_putF (f : Str) (v : V) : ∀ fs : List (Str × V), (putF f v fs).length ≤ fs.length + 1
  | [] => by simp [putF]
  | (k, x) :: r => by
    have ih := length_putF f v r
    rw [show putF f v ((k, x) :: r) = (if k = f then (k, v) :: r else (k, x) :: putF f v r) from rfl]
    by_cases hk : k = f
    · rw [if_pos hk, List.length_cons, List.length_cons]; omega
    · rw [if_neg hk, List.length_cons, List.length_cons]; omega

theorem RelO.some_of {v : V} {o : Option Value} (r : RelO (some v) o) : ∃ u, o = some u ∧ RelV v u := by
  cases o with
  | none => exact (show False from r).elim
  | some u => exact ⟨u, rfl, r⟩
theorem RelO.none_of {o : Option Value} (r : RelO none o) : o = none := by
  cases o with
  | none => rfl
  | some u => exact (show False from r).elim
theorem handed_of {v : V} {u : Value} (r : RelV v u) : PySem.W.handedIn u = true := by
  cases v with
  | non => cases (show u = Value.none from r); rfl
  | bl b => cases (show u = Value.bool b from r); rfl
  | int i => obtain ⟨t, e⟩ := (show ∃ t, u = Value.int i t from r); cases e; rfl
  | str x => obtain ⟨t, e⟩ := (show ∃ t, u = Value.str x t from r); cases e; rfl
  | byt b => obtain ⟨t, e⟩ := (show ∃ t, u = Value.bytes b t from r); cases e; rfl
  | flt b => obtain ⟨t, e⟩ := (show ∃ t, u = Value.float b t from r); cases e; rfl
  | ref a => cases (show u = Value.ref a from r); rfl
  | ty n => cases (show u = Value.type n from r); rfl

section
variable {P : Program} {w : World} {H H' : Hp} {h h' : Heap} {a C dx : Addr} {fs fs' : List (Str × V)}
theorem ins_get (hok : HOk P w H h) (e : H a = some (.ins C dx fs)) : ∃ mA, ObjM h a dx C mA ∧ (∀ f, RelO (fs.lookup f) (mA f)) ∧ PySem.Within mA (fs.map (·.1)) ∧ fs.length ≤ 1000 ∧ H dx = some (.own a) := by
  obtain ⟨d, z, ne, ob, mA, n, r, q⟩ := (show ObjOk P w H h a (.ins C dx fs) from hok a _ e)
  exact ⟨mA, ⟨ob, n, ne⟩, r, q, z, d⟩
end

structure Cls (K : PySem.W.Frag) (C : Addr) : Prop where
  pg : PySem.W.plainGet K C Str.empty = true
  hd : PySem.W.hasDictIn K C = true
  po : PySem.W.plainOver K C = true
  sa : PySem.W.findIn K (.ref C) "__setattr__" = some (some (.builtin "object.__setattr__"))
theorem Cls.get {K : PySem.W.Frag} {C : Addr} (c : Cls K C) (f : Str) : PySem.W.plainGet K C f = true := c.pg
def NoAttr (K : PySem.W.Frag) (C : Addr) (f : Str) : Prop := PySem.W.findIn K (.ref C) f = some none
theorem NoAttr.taker {K : PySem.W.Frag} {C : Addr} {f : Str} (n : NoAttr K C f) : PySem.W.takerIn K C f = some none := by
  unfold PySem.W.takerIn
  rw [show PySem.W.findIn K (.ref C) f = some none from n]
  rfl
structure Meth (K : PySem.W.Frag) (C : Addr) (m : Str) (f : Addr) : Prop where
  at_ : PySem.W.findIn K (.ref C) m = some (some (.ref f))
  fn : PySem.W.isFn K (.ref f) = true
  kp : PySem.W.keepIn K (.ref f) = true

section
variable {X : Cx} {pins : List (Addr × Obj)} {σ : St} {H : Hp} {s : Shared} {a C dx : Addr} {fs : List (Str × V)} {f : Str} {v : V} {A : Around} {E : Value → Shared → Prop}

theorem getattr_ok {b : Bool} {Q : Value → Shared → Prop} (I : Inv X pins σ H s) (e : H a = some (.ins C dx fs)) (c : Cls X.K C) (n : NoAttr X.K C f) (l : fs.lookup f = some v)
    (h : ∀ u s', Inv X pins σ H s' → RelV v u → Q u s') : wpAny (model X.prog X.w) A (getAttr (.ref a) f b) Q E s := by
  obtain ⟨mA, O, r, _, _, _⟩ := ins_get I.hok e
  obtain ⟨u, hu, ru⟩ := RelO.some_of (v := v) (o := mA f) (by rw [← l]; exact r f)
  exact get_map I.kIn O (c.get f) c.hd n hu (handed_of ru) (h u _ (I.tok _) ru)

theorem getmeth_ok {m : Str} {g : Addr} {pl : Sem Bool} {Q : Value × List Value → Shared → Prop} (I : Inv X pins σ H s) (e : H a = some (.ins C dx fs)) (c : Cls X.K C) (k : Meth X.K C m g) (l : fs.lookup m = none)
    (h : Q (.ref g, [.ref a]) s) : wpAny (model X.prog X.w) A (getMethod (.ref a) m pl) Q E s := by
  obtain ⟨mA, O, r, _, _, _⟩ := ins_get I.hok e
  have hn : mA m = none := RelO.none_of (by rw [← l]; exact r m)
  exact get_meth I.kIn O (c.get m) k.at_ k.fn hn h

theorem setattr_ok {y : V} {u : Value} {Q : Unit → Shared → Prop} (I : Inv X pins σ H s) (e : H a = some (.ins C dx fs)) (c : Cls X.K C) (n : NoAttr X.K C f) (hl : fs.length < 1000) (ry : RelV y u)
    (h : ∀ s', Inv X pins σ (upd H a (.ins C dx (putF f y fs))) s' → Q () s') : wpAny (model X.prog X.w) A (setAttr (.ref a) f u) Q E s := by
  obtain ⟨mA, O, r, wi, _, ho⟩ := ins_get I.hok e
  have hz : (fs.map (·.1)).length ≤ sizeLine := by rw [List.length_map, sizeLine_eq]; omega
  refine set_map I.kIn O c.sa c.po n.taker c.hd wi hz fun h' O' sb => h _ ?_
  have hd : ∃ o, h'.get? dx = some o := let ⟨o, _, _, e', _⟩ := O'.ns; ⟨o, e'⟩
  refine I.write (x := a) (e := dx) (by rw [e]; exact True.intro) (.inr ho) (fun b q hb z => (sb.2 b hb).trans z) hd ?_
  refine ⟨by rw [upd_ne O.ne]; exact ho, ?_, O.ne, O'.obj, _, O'.ns, fun g => ?_, fun g hg => ?_⟩
  · have := length_putF f y fs; omega
  · show RelO ((putF f y fs).lookup g) (if g = f then some u else mA g)
    rw [lookup_putF]
    by_cases q : g = f
    · rw [if_pos q, if_pos q]; exact ry
    · rw [if_neg q, if_neg q]; exact r g
  · by_cases q : g = f
    · rw [q]; exact (keys_putF f y fs).1
    · refine (keys_putF f y fs).2 g (wi g fun z => hg ?_)
      show (if g = f then some u else mA g) = none
      rw [if_neg q]; exact z

theorem Inv.made (I : Inv X pins σ H s) : Inv X pins σ (upd (upd H s.heap.objs.size (.own (s.heap.objs.size + 1))) (s.heap.objs.size + 1) (.ins C s.heap.objs.size []))
    { s with heap := (s.heap.push PySem.W.emptyDict).push (PySem.W.instObj C s.heap.objs.size) } := by
  have e1 : (s.heap.push PySem.W.emptyDict).get? s.heap.objs.size = some PySem.W.emptyDict := Heap.get?_push_size s.heap rfl
  have e2 : ((s.heap.push PySem.W.emptyDict).push (PySem.W.instObj C s.heap.objs.size)).get? (s.heap.objs.size + 1) = some (PySem.W.instObj C s.heap.objs.size) := by
    have := Heap.get?_push_size (s.heap.push PySem.W.emptyDict) (o := PySem.W.instObj C s.heap.objs.size) rfl
    rwa [Heap.size_push] at this
  have e3 : (s.heap.push PySem.W.emptyDict).Ns s.heap.objs.size (fun _ => none) := ⟨PySem.W.emptyDict, #[], _, e1, rfl, (fun e he => absurd he (by simp)), fun _ => rfl⟩
  have I1 := I.laid (a := s.heap.objs.size) (o := .own (s.heap.objs.size + 1)) (h' := s.heap.push PySem.W.emptyDict) (t' := s.toks) (fun b u q => Heap.get?_push_of_some _ q) (Nat.le_refl _) ⟨_, e1⟩
  refine I1.laid (a := s.heap.objs.size + 1) (o := .ins C s.heap.objs.size []) (t' := s.toks) (fun b u q => Heap.get?_push_of_some _ q) (Nat.le_of_eq (Heap.size_push _ _)) ?_
  have ne : s.heap.objs.size ≠ s.heap.objs.size + 1 := Nat.ne_of_lt (Nat.lt_succ_self _)
  refine ⟨by rw [upd_ne ne, upd_same], Nat.zero_le _, ne, e2, fun _ => none, (Heap.Ns1.of_empty e3).at fun o q => Heap.get?_push_of_some _ q, fun _ => True.intro, fun y hy => absurd rfl hy⟩

theorem attr_of {prog : Program} {w : World} {env : Env} {e : Expr} {f : Str} {pos : Pos} {s : Shared} {Q : Value → Shared → Prop} (hb : attributeBase e f env (eval e env) = eval e env)
    (h : wpAny (model prog w) A (eval e env) (fun o s₁ => wpAny (model prog w) A (getAttr o f true) Q E s₁) E s) : wpAny (model prog w) A (eval (.Attribute e f pos) env) Q E s :=
  Attribute_any_ h (by rw [arm_eval_Attribute, hb])
end

def tFld (K : PySem.W.Frag) (ta : TE) (f : Str) : TE := fun σ H Q => ta σ H fun x H1 => ∃ a C dx fs v, x = .ref a ∧ H1 a = some (.ins C dx fs) ∧ Cls K C ∧ NoAttr K C f ∧ fs.lookup f = some v ∧ Q v H1
def sFld (K : PySem.W.Frag) (ta tv : TE) (f : Str) : TS := fun D σ H => tv σ H fun y H1 => ta σ H1 fun x H2 => ∃ a C dx fs, x = .ref a ∧ H2 a = some (.ins C dx fs) ∧ Cls K C ∧ NoAttr K C f ∧ fs.length < 1000 ∧
  D.nx σ (upd H2 a (.ins C dx (putF f y fs)))
def InOp (X : Cx) (op : Operator) (rd : V → V → Hp → VK → Prop) : Prop :=
  ∀ (pins : List (Addr × Obj)) (s : Shared) (σ : St) (H : Hp) (x y : V) (u v : Value) (Q : VK), Inv X pins σ H s → RelV x u → RelV y v → rd x y H Q → wpAny (model X.prog X.w) X.A (inplaceOp op u v) (EP X pins σ Q) X.xe s
def sFldAug (K : PySem.W.Frag) (ta tv : TE) (rd : V → V → Hp → VK → Prop) (f : Str) : TS := fun D σ H => ta σ H fun x H1 => ∃ a C dx fs v, x = .ref a ∧ H1 a = some (.ins C dx fs) ∧ Cls K C ∧ NoAttr K C f ∧ fs.lookup f = some v ∧
  tv σ H1 fun y H2 => rd v y H2 fun z H3 => ∃ dx' fs', H3 a = some (.ins C dx' fs') ∧ fs'.length < 1000 ∧ D.nx σ (upd H3 a (.ins C dx' (putF f z fs')))

section
variable {X : Cx} {o e value : Expr} {f : Str} {pos pos' tpos : Pos} {ta tv : TE}
theorem pe_fld (he : PE X e ta) (hb : attributeBase e f X.env (eval e X.env) = eval e X.env) : PE X (.Attribute e f pos) (tFld X.K ta f) := by
  intro pins s σ H Q I h
  refine attr_of hb (thn (he pins s σ H _ I h) fun u s1 ⟨x, H1, I1, rx, a, C, dx, fs, v, ex, ea, c, n, l, q⟩ => ?_)
  subst ex
  obtain rfl : u = Value.ref a := rx
  exact getattr_ok I1 ea c n l fun u' s2 I2 ru => ⟨v, H1, I2, ru, q⟩
theorem ps_fld (ha : PE X o ta) (hv : PE X value tv) (hs : swapsWith value (some (.Attribute o f pos')) pos.line X.env = pure false) : PS X (.Assign [.Attribute o f pos'] value pos) (sFld X.K ta tv f) := by
  intro pins s σ H D I h
  refine plainObj_wpAny_Assign_Attribute (thn (hv pins s σ H _ I h) fun u s1 ⟨y, H1, I1, ry, q⟩ => thn (ha pins s1 σ H1 _ I1 q) fun ov s2 ⟨x, H2, I2, rx, a, C, dx, fs, ex, ea, c, n, l, q2⟩ => ?_) hs
  subst ex
  obtain rfl : ov = Value.ref a := rx
  exact setattr_ok I2 ea c n l ry fun s3 I3 => ⟨σ, _, I3, q2⟩
theorem ps_fldaug {op : Operator} {rd : V → V → Hp → VK → Prop} (ha : PE X o ta) (hv : PE X value tv) (hop : InOp X op rd) : PS X (.AugAssign (.Attribute o f tpos) op value pos) (sFldAug X.K ta tv rd f) := by
  intro pins s σ H D I h
  refine wpAny_AugAssign_AttributeAny (thn (ha pins s σ H _ I h) fun ov s1 ⟨x, H1, I1, rx, a, C, dx, fs, v, ex, ea, c, n, l, q⟩ => ?_)
  subst ex
  obtain rfl : ov = Value.ref a := rx
  refine getattr_ok I1 ea c n l fun u s2 I2 ru => thn (hv pins s2 σ H1 _ I2 q) fun w3 s3 ⟨y, H2, I3, ry, q3⟩ => thn (hop pins s3 σ H2 v y u w3 _ I3 ru ry q3) fun w4 s4 ⟨z, H3, I4, rz, dx', fs', ea', l', q4⟩ => ?_
  exact setattr_ok I4 ea' c n l' rz fun s5 I5 => ⟨σ, _, I5, q4⟩
end

section
variable {X : Cx} {pins : List (Addr × Obj)} {σ : St} {H : Hp} {s : Shared} {A : Around} {E : Value → Shared → Prop} {Q : Value → Shared → Prop} {c : Value} {b : Bool}
inductive TyOf (K : PySem.W.Frag) (H : Hp) : V → Value → Prop where
  | non : TyOf K H .non (.type "NoneType")
  | bl (x : Bool) : TyOf K H (.bl x) (.type "bool")
  | int (i : Int) : TyOf K H (.int i) (.type "int")
  | str (x : Str) : TyOf K H (.str x) (.type "str")
  | flt (x : UInt64) : TyOf K H (.flt x) (.type "float")
  | lst {a : Addr} {xs : List V} (e : H a = some (.lst xs)) : TyOf K H (.ref a) (.type "list")
  | frz {a : Addr} {o : Obj} {xs : List V} (e : H a = some (.frz o (.lst xs))) : TyOf K H (.ref a) (.type "list")
  | tup {a : Addr} {xs : List V} (e : H a = some (.tup xs)) : TyOf K H (.ref a) (.type "tuple")
  | dK {a : Addr} {kvs : List (Key × V)} (e : H a = some (.dK kvs)) : TyOf K H (.ref a) (.type "dict")
  | dT {a : Addr} {kvs : List (List Key × V)} (e : H a = some (.dT kvs)) : TyOf K H (.ref a) (.type "dict")
  | ins {a C dx : Addr} {fs : List (Str × V)} (e : H a = some (.ins C dx fs)) (cl : Cls K C) (ha : PySem.W.findIn K (.ref C) "__class__" = some (some (.builtin "object.__class__")))
      (hn : PySem.W.specialIn K (.builtin "object.__class__") "__get__" = some (some (.builtin "getset_descriptor.__get__"))) (htk : PySem.W.takesIn K (.builtin "object.__class__") = some true)
      (hm : PySem.W.mroIn K C (.type "object") = some true) : TyOf K H (.ref a) (.ref C)
theorem isinst_ok {x : V} {u t : Value} (I : Inv X pins σ H s) (rx : RelV x u) (ty : TyOf X.K H x t) (e : PySem.W.kitOne X.K t c = some b) (h : ∀ tk, Q (.bool b) { s with toks := tk }) :
    wpAny (model X.prog X.w) A (call (.builtin "isinstance") [u, c]) Q E s := by
  cases ty with
  | non => cases (show u = Value.none from rx); exact PySem.W.kia_one PySem.W.kitx_none I.kIn True.intro e (fun z => nomatch z) h
  | bl y => cases (show u = Value.bool y from rx); exact PySem.W.kia_one PySem.W.kitx_bool I.kIn True.intro e (fun z => nomatch z) h
  | int i => obtain ⟨t, q⟩ := (show ∃ t, u = Value.int i t from rx); cases q; exact PySem.W.kia_one PySem.W.kitx_int I.kIn True.intro e (fun z => nomatch z) h
  | str y => obtain ⟨t, q⟩ := (show ∃ t, u = Value.str y t from rx); cases q; exact PySem.W.kia_one PySem.W.kitx_str I.kIn True.intro e (fun z => nomatch z) h
  | flt y => obtain ⟨t, q⟩ := (show ∃ t, u = Value.float y t from rx); cases q; exact PySem.W.kia_one PySem.W.kitx_float I.kIn True.intro e (fun z => nomatch z) h
  | @lst a xs ea =>
    cases (show u = Value.ref a from rx)
    obtain ⟨_, _, n, _, h1⟩ := (show ObjOk X.prog X.w H s.heap a (.lst xs) from I.hok a _ ea)
    exact PySem.W.kia_one PySem.W.kitx_list I.kIn ⟨_, h1, rfl⟩ e (fun z => nomatch z) h
  | @frz a ob xs ea =>
    cases (show u = Value.ref a from rx)
    obtain ⟨_, _, _, n, _, h1⟩ := (show ObjOk X.prog X.w H s.heap a (.frz ob (.lst xs)) from I.hok a _ ea)
    exact PySem.W.kia_one PySem.W.kitx_list I.kIn ⟨_, h1, rfl⟩ e (fun z => nomatch z) h
  | @tup a xs ea =>
    cases (show u = Value.ref a from rx)
    obtain ⟨_, _, _, p⟩ := (show ObjOk X.prog X.w H s.heap a (.tup xs) from I.hok a _ ea)
    obtain ⟨o, h1, h2, _⟩ := p
    exact PySem.W.kia_one PySem.W.kitx_tuple I.kIn ⟨o, h1, h2⟩ e (fun z => nomatch z) h
  | @dK a kvs ea =>
    cases (show u = Value.ref a from rx)
    obtain ⟨_, _, vs, _, p⟩ := (show ObjOk X.prog X.w H s.heap a (.dK kvs) from I.hok a _ ea)
    obtain ⟨o, es, ep, h1, h2, _⟩ := p
    exact PySem.W.kia_one PySem.W.kitx_dict I.kIn ⟨o, h1, h2.1⟩ e (fun z => nomatch z) h
  | @dT a kvs ea =>
    cases (show u = Value.ref a from rx)
    obtain ⟨_, _, xs, _, o, es, ep, h1, h2, _⟩ := (show ObjOk X.prog X.w H s.heap a (.dT kvs) from I.hok a _ ea)
    exact PySem.W.kia_one PySem.W.kitx_dict I.kIn ⟨o, h1, h2.1⟩ e (fun z => nomatch z) h
  | @ins a C dx fs ea cl ha hn htk hm =>
    cases (show u = Value.ref a from rx)
    obtain ⟨mA, O, _⟩ := ins_get I.hok ea
    obtain ⟨od, J, _⟩ := O.look
    exact PySem.W.kia_one (PySem.W.kitx_own (cl.get _) cl.hd ha hn htk hm) I.kIn J e (fun z => nomatch z) h
end
end L2

namespace L2
open PySem PySem.Spec PyProof.Rows

structure Room (k : Nat) (A : Around) : Prop where
  hd : A.handled = none
  dp : A.depth + 3 * k + 5 < recursionLimit
  un : A.units + 16 * k + 200 < cLine
  gd : A.guards = some []
theorem Room.mono {j k : Nat} {A : Around} (r : Room k A) (h : j ≤ k) : Room j A := ⟨r.hd, by have := r.dp; omega, by have := r.un; omega, r.gd⟩
theorem Room.deeper {k : Nat} {A : Around} (r : Room (k + 1) A) (env : Env) : Room k (A.deeper env) :=
  ⟨r.hd, by have := r.dp; show A.depth + 1 + 3 * k + 5 < _; omega, by have := r.un; show A.units + 3 + 16 * k + 200 < _; omega, r.gd⟩
theorem make_depth {A : Around} {C : Addr} {us : List Value} {kw : List (Str × Value)} : (A.under (.builtin "type.__call__" ⟨.ref C :: us, kw⟩)).depth = A.depth + 1 := by
  first | rfl | simp [Around.under, Code.weight, Code.isCreation, Code.isGuard, Code.isCaller, Code.frames, Code.isFrame, guardIds]
theorem make_units {A : Around} {C : Addr} {us : List Value} {kw : List (Str × Value)} : (A.under (.builtin "type.__call__" ⟨.ref C :: us, kw⟩)).units = A.units + 1 := by
  first | rfl | simp [Around.under, Code.cUnits, Code.frames, Code.isFrame]
theorem Room.make {k : Nat} {A : Around} (r : Room (k + 1) A) (C : Addr) (us : List Value) (kw : List (Str × Value)) : Room k (A.under (.builtin "type.__call__" ⟨.ref C :: us, kw⟩)) :=
  ⟨r.hd, by have := r.dp; rw [make_depth]; omega, by have := r.un; rw [make_units]; omega, by first | exact r.gd | (simp [Around.under, Code.guards, Code.isGuard, guardIds, pushGuards, r.gd])⟩
theorem Room.depth {k : Nat} {A : Around} (r : Room k A) : A.depth < recursionLimit := by have := r.dp; omega
theorem Room.units {k : Nat} {A : Around} (r : Room k A) : A.units + 64 < cLine := by have := r.un; omega
theorem Room.units0 {k : Nat} {A : Around} (r : Room k A) : A.units < cLine := by have := r.un; omega

def tNil : TA := fun _ H Q => Q [] H
def tCons (ta : TE) (tr : TA) : TA := fun σ H Q => ta σ H fun x H1 => tr σ H1 fun xs H2 => Q (x :: xs) H2
section
variable {X : Cx} {e : Expr} {es : List Expr} {te : TE} {t : TA} {pos : Pos}
theorem pa_nil : PA X [] tNil := fun _ _ _ _ H Q I h => Calls.spliced_nil ⟨[], H, I, .nil, h⟩
theorem pa_cons (ha : PE X e te) (hr : PA X es t) (hs : starEach (e :: es) X.env = (false, eval e X.env) :: starEach es X.env := by rfl) : PA X (e :: es) (tCons te t) := by
  intro pos pins s σ H Q I h
  rw [hs]
  show wpAny _ _ (spliced ((false, eval e X.env) :: backTo pos (starEach es X.env))) _ _ s
  refine Calls.spliced_cons (thn (ha pins s σ H _ I h) fun u s1 ⟨x, H1, I1, r1, q1⟩ => ?_)
  exact thn (hr pos pins s1 σ H1 _ I1 q1) fun us s2 ⟨xs, H2, I2, r2, q2⟩ => ⟨x :: xs, H2, I2, .cons r1 r2, q2⟩

def tTup (t : TA) : TE := fun σ H Q => t σ H fun xs H1 => xs.length ≤ sizeLine ∧ ∀ p, H1 p = none → Q (.ref p) (upd H1 p (.tup xs))
def tLst (t : TA) : TE := fun σ H Q => t σ H fun xs H1 => xs.length ≤ sizeLine ∧ ∀ p, H1 p = none → Q (.ref p) (upd H1 p (.lst xs))
theorem pe_tup {x1} (h : PA X es t) : PE X (.Tuple es x1 pos) (tTup t) := by
  intro pins s σ H Q I hq
  refine wpAny_Tuple_spliced (thn (h pos pins s σ H _ I hq) fun us s1 ⟨xs, H1, I1, r, z, q⟩ => ⟨by rw [← r.length]; exact z, ?_⟩)
  have hf : H1 s1.heap.objs.size = none := I1.hok.fresh (Nat.le_refl _)
  refine ⟨.ref s1.heap.objs.size, upd H1 s1.heap.objs.size (.tup xs), I1.laid (t' := s1.toks) (fun b u e => Heap.get?_push_of_some _ e) (Nat.le_refl _) ?_, rfl, q _ hf⟩
  exact ⟨z, us, r, ⟨_, Heap.get?_push_size _ rfl, rfl, _, rfl⟩⟩
theorem pe_lst (h : PA X es t) : PE X (.List es pos) (tLst t) := by
  intro pins s σ H Q I hq
  refine wpAny_List_spliced (thn (h pos pins s σ H _ I hq) fun us s1 ⟨xs, H1, I1, r, z, q⟩ => ⟨by rw [← r.length]; exact z, ?_⟩)
  have hf : H1 s1.heap.objs.size = none := I1.hok.fresh (Nat.le_refl _)
  refine ⟨.ref s1.heap.objs.size, upd H1 s1.heap.objs.size (.lst xs), I1.laid (t' := s1.toks) (fun b u e => Heap.get?_push_of_some _ e) (Nat.le_refl _) ?_, rfl, q _ hf⟩
  exact ⟨z, us, 0, r, Heap.get?_push_size _ rfl⟩
end

abbrev Sp := List V → Hp → VK → XK → Prop
abbrev CXT := List Env → Hp → Shared → XK → Value → Shared → Prop

structure Env0 (P : Program) (w : World) (K : PySem.W.Frag) (mg : Str → Option Value) (base : Heap) (A : Around) (outer : List Env) (s : Shared) (H : Hp) : Prop where
  frames : A.frames = some outer
  mod : Mod K mg base
  bs : ∀ b o, base.get? b = some o → s.heap.get? b = some o ∧ H b = none
  bsz : base.objs.size ≤ s.heap.objs.size
  funs : s.heap.FunFrames base outer
  frf : ∀ b ∈ frs outer, H b = none
  hok : HOk P w H s.heap
  bare : AllBare s.gens
def CE (outer : List Env) (P : Program) (w : World) (H : Hp) (s : Shared) (Q : VK) (u : Value) (s' : Shared) : Prop :=
  ∃ v H', s'.os = s.os ∧ AllBare s'.gens ∧ Un (frs outer) [] H H' s.heap s'.heap ∧ HOk P w H' s'.heap ∧ RelV v u ∧ Q v H'
def CR (CX : CXT) (outer : List Env) (P : Program) (w : World) (H : Hp) (s : Shared) (Q : VK) (E : XK) (r : Result) (s' : Shared) : Prop :=
  match r with
  | .ok (.ret u) => CE outer P w H s Q u s'
  | .ok _ => False
  | .error e => CX outer H s E e s'
structure FnOk (P : Program) (w : World) (K : PySem.W.Frag) (mg : Str → Option Value) (base : Heap) (CX : CXT) (k : Nat) (f : Addr) (fd : FuncData) (ps : List Str) (sp : Sp) : Prop where
  len : ∀ vs H Q E, sp vs H Q E → vs.length = ps.length
  run : ∀ (A : Around) (outer : List Env) (s : Shared) (H : Hp) (args : Args) (us : List Value) (vs : List V) (Q : VK) (E : XK), Room k A → Env0 P w K mg base A outer s H → BindsTo s fd args (ps.zip us) → Vals vs us → sp vs H Q E →
    codeAny (model P w) A (.call (.ref f) args) (CR CX outer P w H s Q E) s
theorem Env0.make {P : Program} {w : World} {K : PySem.W.Frag} {mg : Str → Option Value} {base : Heap} {A : Around} {outer : List Env} {s : Shared} {H : Hp} (e : Env0 P w K mg base A outer s H) (C : Addr) (us : List Value) (kw : List (Str × Value)) :
    Env0 P w K mg base (A.under (.builtin "type.__call__" ⟨.ref C :: us, kw⟩)) outer s H := ⟨by first | exact e.frames | (simpa [Around.under, Code.envs, Code.isFrame, pushEnvs] using e.frames), e.mod, e.bs, e.bsz, e.funs, e.frf, e.hok, e.bare⟩
section
variable {X : Cx} {pins : List (Addr × Obj)} {σ : St} {H : Hp} {s s' : Shared}
theorem Inv.env0 (I : Inv X pins σ H s) : Env0 X.prog X.w X.K X.mg X.base X.A X.stack s H :=
  ⟨I.ok.frames, I.ok.mod, I.bs, Nat.le_trans I.ok.bsz I.sz, I.stack, I.stkFree, I.hok, I.bare⟩
theorem Inv.after {Q : VK} {u : Value} (I : Inv X pins σ H s) (h : CE X.stack X.prog X.w H s Q u s') : EP X pins σ Q u s' := by
  obtain ⟨v, H', os, bare, un, hok, r, q⟩ := h
  obtain ⟨hh, g, d, t, os'⟩ := s'
  obtain rfl : os' = s.os := os
  exact ⟨v, H', I.call (h' := hh) (g' := g) (d' := d) (t' := t) (ch := []) un hok bare (fun b z => absurd z (by simp)), r, q⟩
end

def tCall (sp : Sp) (dvs : List V) (E : XK) (t : TA) : TE := fun σ H Q => t σ H fun vs H1 => sp (vs ++ dvs) H1 Q E
def tMeth (C : Addr) (m : Str) (sp : Sp) (dvs : List V) (E : XK) (ta : TE) (t : TA) : TE := fun σ H Q => ta σ H fun x H1 => ∃ a dx fs, x = .ref a ∧ H1 a = some (.ins C dx fs) ∧ fs.lookup m = none ∧
  t σ H1 fun vs H2 => sp (x :: (vs ++ dvs)) H2 Q E
def tMake (C : Addr) (sp : Sp) (dvs : List V) (E : XK) (t : TA) : TE := fun σ H Q => t σ H fun vs H1 => ∀ x dx, H1 x = none → H1 dx = none → dx ≠ x →
  sp (.ref x :: (vs ++ dvs)) (upd (upd H1 dx (.own x)) x (.ins C dx [])) (fun v H2 => v = .non ∧ Q (.ref x) H2) E

def Binds (K : PySem.W.Frag) (fd : FuncData) (ps : List Str) (ds : List Value) : Prop :=
  ∀ (s : Shared) (us : List Value), K.In s.heap → (us ++ ds).length = ps.length → BindsTo s fd ⟨us, []⟩ (ps.zip (us ++ ds))
theorem Binds.all {K : PySem.W.Frag} {fd : FuncData} {ps : List Str} (h : ∀ us : List Value, us.length = ps.length → bindArgs fd ⟨us, []⟩ = pure (ps.zip us)) : Binds K fd ps [] := fun s us _ hl => by
  rw [List.append_nil] at hl ⊢
  exact .of_eq (h us hl)

def Passes (CX : CXT) (X : Cx) (E : XK) : Prop := ∀ (pins : List (Addr × Obj)) (σ : St) (H : Hp) (s : Shared) (e : Value) (s' : Shared), Inv X pins σ H s → CX X.stack H s E e s' → X.xe e s'

section
variable {X : Cx} {CX : CXT} {k : Nat} {f C : Addr} {fd : FuncData} {ps : List Str} {sp : Sp} {dvs : List V} {ds : List Value} {E : XK} {x m : Str} {p pos apos : Pos} {e o : Expr} {es : List Expr} {ta : TE} {t : TA}

theorem run_fn {pins : List (Addr × Obj)} {σ : St} {H : Hp} {s : Shared} {Q : VK} {us : List Value} {vs : List V} (F : FnOk X.prog X.w X.K X.mg X.base CX k f fd ps sp) (hr : Room k X.A) (hb : Binds X.K fd ps ds) (hd : Vals dvs ds) (hx : Passes CX X E)
    (I : Inv X pins σ H s) (r : Vals vs us) (h : sp (vs ++ dvs) H Q E) : wpAny (model X.prog X.w) X.A (call (.ref f) us) (EP X pins σ Q) X.xe s := by
  have r2 : Vals (vs ++ dvs) (us ++ ds) := r.append hd
  have hl : (us ++ ds).length = ps.length := by rw [← r2.length]; exact F.len _ _ _ _ h
  refine wpAny_call (codeAny_mono (F.run X.A X.stack s H ⟨us, []⟩ (us ++ ds) (vs ++ dvs) Q E hr I.env0 (hb s us I.kIn hl) r2 h) fun r s' hq => ?_)
  cases r with
  | error e => exact hx pins σ H s e s' I hq
  | ok fl =>
    cases fl with
    | ret u => exact I.after hq
    | next => exact False.elim hq
    | brk => exact False.elim hq
    | cont => exact False.elim hq

theorem pe_call (F : FnOk X.prog X.w X.K X.mg X.base CX k f fd ps sp) (hr : Room k X.A) (hg : Gl X x) (hm : X.mg x = some (.ref f)) (hk : PySem.W.keepIn X.K (.ref f) = true) (hb : Binds X.K fd ps ds) (hd : Vals dvs ds) (hx : Passes CX X E)
    (ha : PA X (e :: es) t) (hdb : (x == ("__debug__" : Str)) = false := by decide) (he : starEach (e :: es) X.env = (false, eval e X.env) :: starEach es X.env := by rfl) (hpl : (backTo pos (starEach es X.env)).any (·.1) = false := by rfl) :
    PE X (.Call (.Name x p) (e :: es) [] pos) (tCall sp dvs E t) := by
  intro pins s σ H Q I h
  refine wpAny_Call_Name_kw (ld_glob I hg hm ?_ hdb)
  refine PySem.W.callWith_K (h₀ := X.base) I.ok.mod.kin hk (thn (ha pos pins s σ H _ I h) fun us s1 ⟨vs, H1, I1, r, q⟩ => ⟨I1.kIn, ?_⟩) he hpl
  exact run_fn F hr hb hd hx I1 r q
theorem pe_meth {pl : Sem Bool} (he : PE X o ta) (c : Cls X.K C) (hm : Meth X.K C m f) (F : FnOk X.prog X.w X.K X.mg X.base CX k f fd ps sp) (hr : Room k X.A) (hb : Binds X.K fd ps ds) (hd : Vals dvs ds) (hx : Passes CX X E) (ha : PA X (e :: es) t)
    (hst : starEach (e :: es) X.env = (false, eval e X.env) :: starEach es X.env := by rfl) (hpl : (backTo pos (starEach es X.env)).any (·.1) = false := by rfl)
    (ht : eval (.Call (.Attribute o m apos) (e :: es) [] pos) X.env = (do
      let ov ← eval o X.env
      standAt apos.atName
      let (f, first) ← holding [ov] (getMethod ov m pl)
      callWith pos f first (backTo pos (starEach (e :: es) X.env)) (backToKw pos (keywordEach [] X.env))) := by rfl) :
    PE X (.Call (.Attribute o m apos) (e :: es) [] pos) (tMeth C m sp dvs E ta t) := by
  intro pins s σ H Q I h
  refine PySem.W.methodCall_KW (pl := pl) (thn (he pins s σ H _ I h) fun u s1 ⟨x, H1, I1, rx, a, dx, fs, ex, ea, l, q⟩ => ?_) ht
  subst ex
  obtain rfl : u = Value.ref a := rx
  refine getmeth_ok I1 ea c hm l ?_
  refine PySem.W.callWith_K (first := [.ref a]) (h₀ := X.base) I.ok.mod.kin hm.kp (thn (ha pos pins s1 σ H1 _ I1 q) fun us s2 ⟨vs, H2, I2, r, q2⟩ => ⟨I2.kIn, ?_⟩) hst hpl
  exact run_fn (us := .ref a :: us) (vs := .ref a :: vs) F hr hb hd hx I2 (.cons rfl r) q2
theorem pe_meth0 {pl : Sem Bool} (he : PE X o ta) (c : Cls X.K C) (hm : Meth X.K C m f) (F : FnOk X.prog X.w X.K X.mg X.base CX k f fd ps sp) (hr : Room k X.A) (hb : Binds X.K fd ps ds) (hd : Vals dvs ds) (hx : Passes CX X E)
    (ht : eval (.Call (.Attribute o m apos) [] [] pos) X.env = (do
      let ov ← eval o X.env
      standAt apos.atName
      let (f, first) ← holding [ov] (getMethod ov m pl)
      callWith pos f first (backTo pos (starEach [] X.env)) (backToKw pos (keywordEach [] X.env))) := by rfl) :
    PE X (.Call (.Attribute o m apos) [] [] pos) (tMeth C m sp dvs E ta tNil) := by
  intro pins s σ H Q I h
  refine PySem.W.methodCall_KW (pl := pl) (thn (he pins s σ H _ I h) fun u s1 ⟨x, H1, I1, rx, a, dx, fs, ex, ea, l, q⟩ => ?_) ht
  subst ex
  obtain rfl : u = Value.ref a := rx
  refine getmeth_ok I1 ea c hm l ?_
  exact PySem.W.callWith_K0 (first := [.ref a]) I1.kIn hm.kp (run_fn (us := [.ref a]) (vs := [.ref a]) F hr hb hd hx I1 (.cons rfl .nil) q)

structure Mk (K : PySem.W.Frag) (C f : Addr) : Prop where
  makes : PySem.W.makesIn K C = true
  init : PySem.W.findIn K (.ref C) "__init__" = some (some (.ref f))
  fn : PySem.W.isFn K (.ref f) = true
  kp : PySem.W.keepIn K (.ref C) = true

theorem run_make {pins : List (Addr × Obj)} {σ : St} {H : Hp} {s : Shared} {Q : VK} {us : List Value} {vs : List V} (M : Mk X.K C f) (F : FnOk X.prog X.w X.K X.mg X.base CX k f fd ps sp) (hr : Room (k + 1) X.A) (hb : Binds X.K fd ps ds) (hd : Vals dvs ds)
    (hx : Passes CX X E) (I : Inv X pins σ H s) (r : Vals vs us)
    (h : ∀ x dx, H x = none → H dx = none → dx ≠ x → sp (.ref x :: (vs ++ dvs)) (upd (upd H dx (.own x)) x (.ins C dx [])) (fun v H2 => v = .non ∧ Q (.ref x) H2) E) :
    wpAny (model X.prog X.w) X.A (call (.ref C) us) (EP X pins σ Q) X.xe s := by
  have hq := h (s.heap.objs.size + 1) s.heap.objs.size (I.hok.fresh (Nat.le_succ _)) (I.hok.fresh (Nat.le_refl _)) (Nat.ne_of_lt (Nat.lt_succ_self _))
  have I2 := Inv.made (C := C) I
  have r2 : Vals (V.ref (s.heap.objs.size + 1) :: (vs ++ dvs)) (Value.ref (s.heap.objs.size + 1) :: (us ++ ds)) := .cons rfl (r.append hd)
  have hl : (Value.ref (s.heap.objs.size + 1) :: us ++ ds).length = ps.length := by
    have e := r2.length
    rw [F.len _ _ _ _ hq] at e
    exact e.symm
  refine wpAny_call (make_map (f := f) I.kIn M.makes M.init (beq_iff_eq.mp M.fn) (codeAny_mono (F.run _ X.stack _ _ ⟨Value.ref (s.heap.objs.size + 1) :: us, []⟩ (Value.ref (s.heap.objs.size + 1) :: (us ++ ds)) _ _ E (hr.make C us [])
    (I2.env0.make C us []) (hb _ (Value.ref (s.heap.objs.size + 1) :: us) I2.kIn hl) r2 hq) fun r s' hq' => ?_))
  cases r with
  | error e => exact hx pins σ _ _ e s' I2 hq'
  | ok fl =>
    cases fl with
    | ret u =>
      obtain ⟨v, H', I3, rv, ev, q3⟩ := I2.after hq'
      subst ev
      exact ⟨rv, ⟨V.ref (s.heap.objs.size + 1), H', I3, rfl, q3⟩⟩
    | next => exact False.elim hq'
    | brk => exact False.elim hq'
    | cont => exact False.elim hq'
theorem pe_make0 (M : Mk X.K C f) (F : FnOk X.prog X.w X.K X.mg X.base CX k f fd ps sp) (hr : Room (k + 1) X.A) (hg : Gl X x) (hm : X.mg x = some (.ref C)) (hb : Binds X.K fd ps ds) (hd : Vals dvs ds) (hx : Passes CX X E)
    (hdb : (x == ("__debug__" : Str)) = false := by decide) : PE X (.Call (.Name x p) [] [] pos) (tMake C sp dvs E tNil) := by
  intro pins s σ H Q I h
  refine wpAny_Call_Name_kw (ld_glob I hg hm ?_ hdb)
  exact PySem.W.callWith_K0 I.kIn M.kp (run_make (us := []) M F hr hb hd hx I .nil h)
end

section
variable {X : Cx} {CX : CXT} {k : Nat} {f C : Addr} {fd : FuncData} {ps ks : List Str} {sp : Sp} {E : XK} {x m : Str} {p pos apos kpos : Pos} {e o : Expr} {es : List Expr} {kws : List Keyword} {te ta : TE} {t tk : TA} {nm : Option Str}
variable {g : List Value → List Value → List Value} {gV : List V → List V → List V}
end

structure FnScope (N P : List Str) (sc : Scope) : Prop where
  kind : sc.kind = .function
  co : sc.isCoroutine = false
  gen : sc.isGenerator = false
  nd : N.Nodup
  pre : N.take P.length = P
  par : ∀ x ∈ P, sc.names.lookup x = some .local ∨ sc.names.lookup x = some .cell
  nofree : ∀ y ∈ sc.names, y.2 ≠ .free

theorem bindL_out {kindOf : Str → Option NameKind} {x : Str} : ∀ {binds : List (Str × Value)} {m : Str → Option Value}, (∀ v, (x, v) ∉ binds) → bindL kindOf binds m x = m x
  | [], _, _ => rfl
  | (n, v) :: r, m, h => by
    unfold bindL
    rw [bindL_out fun w hw => h w (List.mem_cons_of_mem _ hw)]
    split
    · have : x ≠ n := by rintro rfl; exact h v List.mem_cons_self
      simp [this]
    · rfl
theorem bindC_out {kindOf : Str → Option NameKind} {x : Str} : ∀ {binds : List (Str × Value)} {m : Str → Option Value}, (∀ v, (x, v) ∉ binds) → bindC kindOf binds m x = m x
  | [], _, _ => rfl
  | (n, v) :: r, m, h => by
    unfold bindC
    rw [bindC_out fun w hw => h w (List.mem_cons_of_mem _ hw)]
    split
    · rfl
    · have : x ≠ n := by rintro rfl; exact h v List.mem_cons_self
      simp [this]
theorem bindL_get {kindOf : Str → Option NameKind} {x : Str} {v : Value} : ∀ {P : List Str} {vs : List Value} {i : Nat} {m : Str → Option Value}, P.Nodup → P[i]? = some x → vs[i]? = some v → kindOf x = some .local →
    bindL kindOf (P.zip vs) m x = some v
  | [], _, _, _, _, h, _, _ => by simp at h
  | _ :: _, [], _, _, _, _, h, _ => by simp at h
  | p :: P, w :: vs, 0, m, nd, h1, h2, hk => by
    simp at h1 h2; subst h1; subst h2
    show bindL kindOf ((p, w) :: P.zip vs) m p = _
    unfold bindL
    rw [bindL_out fun v hv => (List.nodup_cons.mp nd).1 (List.of_mem_zip hv).1, if_pos hk]
    simp
  | p :: P, w :: vs, i + 1, m, nd, h1, h2, hk => by
    show bindL kindOf ((p, w) :: P.zip vs) m x = _
    unfold bindL
    exact bindL_get (i := i) (List.nodup_cons.mp nd).2 (by simpa using h1) (by simpa using h2) hk
theorem bindC_get {kindOf : Str → Option NameKind} {x : Str} {v : Value} : ∀ {P : List Str} {vs : List Value} {i : Nat} {m : Str → Option Value}, P.Nodup → P[i]? = some x → vs[i]? = some v → kindOf x ≠ some .local →
    bindC kindOf (P.zip vs) m x = some v
  | [], _, _, _, _, h, _, _ => by simp at h
  | _ :: _, [], _, _, _, _, h, _ => by simp at h
  | p :: P, w :: vs, 0, m, nd, h1, h2, hk => by
    simp at h1 h2; subst h1; subst h2
    show bindC kindOf ((p, w) :: P.zip vs) m p = _
    unfold bindC
    rw [bindC_out fun v hv => (List.nodup_cons.mp nd).1 (List.of_mem_zip hv).1, if_neg hk]
    simp
  | p :: P, w :: vs, i + 1, m, nd, h1, h2, hk => by
    show bindC kindOf ((p, w) :: P.zip vs) m x = _
    unfold bindC
    exact bindC_get (i := i) (List.nodup_cons.mp nd).2 (by simpa using h1) (by simpa using h2) hk

def start (N : List Str) (vs : List V) : St := vs.map some ++ List.replicate (N.length - vs.length) none

def cxOf (CX : CXT) (P : Program) (w : World) (K : PySem.W.Frag) (mg : Str → Option Value) (base : Heap) (N : List Str) (qual : Str) (scope : Scope) (f : Addr) (cd : Value) (A : Around) (outer : List Env) (s : Shared) (H : Hp) (E : XK) : Cx where
  prog := P
  w := w
  K := K
  mg := mg
  base := base
  A := A.deeper (envOfC qual scope s.heap.objs.size f cd)
  N := N
  s₀ := s
  H₀ := H
  env := envOfC qual scope s.heap.objs.size f cd
  outer := outer
  stack := envOfC qual scope s.heap.objs.size f cd :: outer
  ex := []
  calm := true
  fn := fun _ => true
  pn := []
  xe := fun e s' => wpAny (model P w) (A.deeper (envOfC qual scope s.heap.objs.size f cd)) (leaving (envOfC qual scope s.heap.objs.size f cd) e) (fun _ s'' => CX outer H s E e s'') (fun e' s'' => CX outer H s E e' s'') s'

theorem cell_has {sc : Scope} {n : Nat} {x : Str} (h : sc.names.lookup x = some .cell) : ∃ c, (cellsFrom n sc.names []).lookup x = some c := by
  have q := PySem.W.cellsFrom_some sc.names n [] (.inl h)
  exact Option.isSome_iff_exists.mp q

theorem inv_start {CX : CXT} {P : Program} {w : World} {K : PySem.W.Frag} {mg : Str → Option Value} {base : Heap} {N ps : List Str} {qual : Str} {scope : Scope} {f : Addr} {cd : Value} {A : Around} {outer : List Env} {s s1 : Shared} {H : Hp} {E : XK} {us : List Value} {vs : List V}
    (S : FnScope N ps scope) (hd : A.handled = none) (e0 : Env0 P w K mg base A outer s H) (hl : vs.length = ps.length) (r : Vals vs us)
    (x : InCallC s s.heap.objs.size (bindL (envOfC qual scope s.heap.objs.size f cd).kindOf (ps.zip us) fun _ => none) (cellsFrom (s.heap.objs.size + 1) scope.names []) (bindC (envOfC qual scope s.heap.objs.size f cd).kindOf (ps.zip us) fun _ => none) s1) :
    Inv (cxOf CX P w K mg base N qual scope f cd A outer s H E) [] (start N vs) H s1 := by
  have hpl : ps.length ≤ N.length := by have := congrArg List.length S.pre; rw [List.length_take] at this; omega
  obtain ⟨h1, tk, rfl, hk⟩ := x.done
  have noA : ∀ b : Addr, b ∉ (cxOf CX P w K mg base N qual scope f cd A outer s H E).ex := fun b z => absurd (show b ∈ ([] : List Addr) from z) (by simp)
  refine ⟨⟨e0.mod, S.kind, rfl, rfl, Nat.le_refl _, fun y z c h1 h2 => ?_, fun y hy => ?_, fun y c _ h => ?_, fun _ => hd, Around.frames_deeper e0.frames, .inr ⟨rfl, rfl⟩, fun b z => absurd z (noA b), e0.bs, e0.bsz, fun b _ _ => noA b, fun b z => absurd z (noA b), e0.funs, e0.frf⟩,
    rfl, e0.bare, Un.kept hk, ⟨_, x.toInCall.ns, fun i y v h1 h2 h3 => ?_⟩, fun y c h => ⟨_, x.cell y c h⟩, e0.hok.fresh (Nat.le_refl _), fun y c h => ?_, fun p hp => absurd (show p ∈ ([] : List (Addr × Obj)) from hp) (by simp), e0.hok.kept hk, ?_⟩
  · exact name_of_addr x.apart (PySem.mem_of_lookup h1) (PySem.mem_of_lookup h2)
  · have hy : scope.names.lookup y = some .cell ∨ scope.names.lookup y = some .free := hy
    rcases hy with hy | hy
    · exact cell_has hy
    · exact absurd rfl (S.nofree _ (PySem.mem_of_lookup hy))
  · exact Nat.le_of_lt (x.above y c (PySem.mem_of_lookup h))
  · have hi : i < vs.length := by
      unfold start at h2
      by_cases hi : i < vs.length
      · exact hi
      · rw [List.getElem?_append_right (by simpa using hi)] at h2
        rw [List.getElem?_replicate] at h2
        split at h2 <;> cases h2
    have ha : vs[i]? = some v := by
      unfold start at h2
      rw [List.getElem?_append_left (by simpa using hi), List.getElem?_map] at h2
      cases e : vs[i]? with
      | none => rw [e] at h2; cases h2
      | some a => rw [e] at h2; cases h2; rfl
    obtain ⟨u, hu, rv⟩ := r.get ha
    have hp : ps[i]? = some y := by
      rw [← S.pre, List.getElem?_take_of_lt (by omega)]; exact h1
    have ndP : ps.Nodup := by rw [← S.pre]; exact S.nd.sublist (List.take_sublist _ _)
    refine ⟨u, rv, ?_⟩
    rcases S.par y (List.mem_of_getElem? hp) with k | k
    · exact .inl ⟨k, bindL_get ndP hp hu k⟩
    · obtain ⟨c, e⟩ := cell_has (n := s.heap.objs.size + 1) k
      refine .inr ⟨.inl k, c, e, ?_⟩
      have q := x.cell y c e
      rw [bindC_get ndP hp hu (by show scope.names.lookup y ≠ _; rw [k]; decide)] at q
      exact q
  · exact e0.hok.fresh (Nat.le_of_lt (x.above y c (PySem.mem_of_lookup h)))
  · unfold start
    show _ = N.length
    rw [List.length_append, List.length_map, List.length_replicate]
    omega

theorem fn_of {CX : CXT} {P : Program} {w : World} {K : PySem.W.Frag} {mg : Str → Option Value} {base : Heap} {k : Nat} {f : Addr} {name qual : Str} {params : Arguments} {body : List Stmt} {scope : Scope} {dV kV doc pm cdv ct oc : Value} {an od : Option Addr}
    {osl : Array (Option Value)} {N ps : List Str} {sp : Sp} (lk : K.lookup f = some ⟨oc, od, .func (PySem.W.fnOf name qual params body scope dV kV doc pm an cdv ct), osl⟩) (hcd : PySem.W.codeIn K cdv qual = true) (S : FnScope N ps scope)
    (len : ∀ vs H Q E, sp vs H Q E → vs.length = ps.length)
    (hbody : ∀ (A : Around) (outer : List Env) (s : Shared) (H : Hp) (vs : List V) (Q : VK) (E : XK), Room k (A.deeper (envOfC qual scope s.heap.objs.size f cdv)) → sp vs H Q E →
      ∃ t, PSs (cxOf CX P w K mg base N qual scope f cdv A outer s H E) body t ∧ t { nx := fun _ H' => Q .non H', rt := Q } (start N vs) H) :
    FnOk P w K mg base CX (k + 1) f (PySem.W.fnOf name qual params body scope dV kV doc pm an cdv ct) ps sp := by
  refine ⟨len, fun A outer s H args us vs Q E hr e0 hb r hsp => ?_⟩
  have hl := len _ _ _ _ hsp
  have KX : K.In s.heap := e0.mod.kin.keeps fun b o e => (e0.bs b o e).1
  have lim : s.heap.NoLimit := e0.mod.nolimit.keeps fun b o e => (e0.bs b o e).1
  have hkind : ∀ y ∈ ps.zip us, scope.names.lookup y.1 = some .local ∨ (scope.names.lookup y.1 = some .cell ∧ ((cellsFrom (s.heap.objs.size + 1) scope.names []).lookup y.1).isSome = true) := fun ⟨n, v⟩ hy => by
    rcases S.par n (List.of_mem_zip hy).1 with q | q
    · exact .inl q
    · exact .inr ⟨q, PySem.W.cellsFrom_some _ _ _ (.inl q)⟩
  refine codeAny_call_function hr.depth (KX _ _ lk) rfl S.co S.gen rfl (PySem.W.codeRec_of KX hcd) (hb _ _ _ _ ?_)
  refine wpAny_newFunctionEnv_cells S.kind hkind fun env he s1 x => ?_
  subst he
  refine ⟨lim.keeps x.toInCall.keep, codeAny_func ?_⟩
  obtain ⟨t, ht, hq⟩ := hbody A outer s H vs Q E (hr.deeper _) hsp
  have I : Inv (cxOf CX P w K mg base N qual scope f cdv A outer s H E) [] (start N vs) H s1 := inv_start S hr.hd e0 hl r x
  refine wpAny_mono (ht [] s1 (start N vs) H _ I hq) (fun fl s' hs => ?_) fun e s' hs => hs
  have fin : ∀ {σ' : St} {H' : Hp} {v : V} {u : Value}, Inv (cxOf CX P w K mg base N qual scope f cdv A outer s H E) [] σ' H' s' → RelV v u → Q v H' → CE outer P w H s Q u s' :=
    fun {σ' H' v u} J rv q => ⟨v, H', J.os, J.bare, J.base, J.hok, rv, q⟩
  cases fl with
  | ret u =>
    obtain ⟨v, σ', H', J, rv, q⟩ := hs
    exact fin J rv q
  | next =>
    obtain ⟨σ', H', J, q⟩ := hs
    exact fin (v := V.non) (u := Value.none) J rfl q
  | brk =>
    obtain ⟨_, _, _, q⟩ := hs
    exact False.elim q
  | cont =>
    obtain ⟨_, _, _, q⟩ := hs
    exact False.elim q
end L2

namespace L2
open PySem PySem.Spec PyProof.Rows
section
variable {X : Cx} {x : Str} {p pos : Pos} {e : Expr} {es : List Expr} {t : TA} {id T : String} {r : List V → Hp → VK → Prop}

def tCB (r : List V → Hp → VK → Prop) (t : TA) : TE := fun σ H Q => t σ H fun vs H1 => r vs H1 Q
theorem pe_callB (hc : CallR X (.builtin id) r) (hg : Gl X x) (hm : X.mg x = none) (hv : bootBuiltins x = some (.builtin id)) (ha : PA X (e :: es) t) (hn : x ≠ "__name__" := by decide) (hdb : (x == ("__debug__" : Str)) = false := by decide)
    (he : starEach (e :: es) X.env = (false, eval e X.env) :: starEach es X.env := by rfl) (hpl : (backTo pos (starEach es X.env)).any (·.1) = false := by rfl) : PE X (.Call (.Name x p) (e :: es) [] pos) (tCB r t) := by
  intro pins s σ H Q I h
  refine wpAny_Call_Name_kw (ld_blt I hg hm hv ?_ hn hdb)
  exact PyProof.Rows.callWith_builtin1 (thn (ha pos pins s σ H _ I h) fun us s1 ⟨vs, H1, I1, r1, q1⟩ => hc pins s1 σ H1 vs us Q I1 r1 q1) he hpl
theorem pe_callTy (hc : CallR X (.type T) r) (hg : Gl X x) (hm : X.mg x = none) (hv : bootBuiltins x = some (.type T)) (ha : PA X (e :: es) t) (hn : x ≠ "__name__" := by decide) (hdb : (x == ("__debug__" : Str)) = false := by decide)
    (he : starEach (e :: es) X.env = (false, eval e X.env) :: starEach es X.env := by rfl) (hpl : (backTo pos (starEach es X.env)).any (·.1) = false := by rfl) : PE X (.Call (.Name x p) (e :: es) [] pos) (tCB r t) := by
  intro pins s σ H Q I h
  refine wpAny_Call_Name_kw (ld_blt I hg hm hv ?_ hn hdb)
  exact PyProof.Rows.callWith_type1 (thn (ha pos pins s σ H _ I h) fun us s1 ⟨vs, H1, I1, r1, q1⟩ => hc pins s1 σ H1 vs us Q I1 r1 q1) he hpl
end
end L2

namespace HT
open PySem PyProof.Rows

def lexLt : List Int → List Int → Bool
  | [], [] => false
  | [], _ :: _ => true
  | _ :: _, [] => false
  | x :: xs, y :: ys => if x = y then lexLt xs ys else decide (x < y)
theorem lexLt_cons (x y : Int) (xs ys : List Int) : lexLt (x :: xs) (y :: ys) = if x = y then lexLt xs ys else decide (x < y) := rfl
theorem lexLt_nil_nil : lexLt [] [] = false := rfl
theorem lexLt_nil_cons (y : Int) (ys : List Int) : lexLt [] (y :: ys) = true := rfl
theorem lexLt_cons_nil (x : Int) (xs : List Int) : lexLt (x :: xs) [] = false := rfl

theorem eqAt_int (A : Around) (s : Shared) (a : Int) (t : Tok) (c : Int) (u : Tok) : ∃ e, SeqAt.EqAt A s (.int a t) (.int c u) e ∧ (e = true ↔ a = c) :=
  ⟨(a == c), SeqAt.EqAt.int_int a t c u, by simp⟩
theorem rcLt_int (A : Around) (s : Shared) (a : Int) (t : Tok) (c : Int) (u : Tok) (prog : Program) (w : World) (E : Value → Shared → Prop) (Q : Value → Shared → Prop) (h : Q (.bool (decide (a < c))) s) :
    wpAny (model prog w) A (richCompare .Lt (.int a t) (.int c u)) Q E s :=
  (PyProof.Rows.lt_int h : wpAny (model prog w) A (compareOp .Lt (.int a t) (.int c u)) Q E s)

section
open PySem.SeqAt
open PySem.AutoSeq1 (wpAny_loadPart')
open PySem.MeetsSeq PySem.MeetsSeq2 PySem.MeetsSeq3

theorem tuple_lt_ints (l b : Addr) (items items2 : Array Value) (n n2 : Nat) (dd dd2 : Option Addr) (sl sl2 : Array (Option Value)) (ns ms : List Int) (hi : IntsAre items.toList ns) (hj : IntsAre items2.toList ms) :
    Meets (Builtin.«tuple.__lt__» ⟨[.ref l, .ref b], []⟩)
      (fun _ R s => s.heap.get? l = some { cls := .type "tuple", dict := dd, data := .seq items n, slots := sl } ∧ s.heap.get? b = some { cls := .type "tuple", dict := dd2, data := .seq items2 n2, slots := sl2 } ∧
        R (.ok (.ret (.bool (lexLt ns ms)))) s) :=
  .of_wp fun prog w A R s h => by
    obtain ⟨hp, g, d, tk, os⟩ := s; obtain ⟨hl, hb, h⟩ := h
    have f2 := AutoSeq1.sub_tuple_tuple
    have z1 : items.size = ns.length := by rw [← hi.length]; simp
    have z2 : items2.size = ms.length := by rw [← hj.length]; simp
    wp_walk using wpAny_loadPart' hl, wpAny_loadPart' hb, wpAny_forIn_list _ (fun rest b s' => b.1 = none ∧ s' = ⟨hp, g, d, tk, os⟩ ∧ ∃ (vs ws : List Value) (ns' ms' : List Int), rest = vs.zip ws ∧
      IntsAre vs ns' ∧ IntsAre ws ms' ∧ ns'.length + items2.size = ms'.length + items.size ∧ R (.ok (.ret (.bool (lexLt ns' ms')))) ⟨hp, g, d, tk, os⟩) _
    case turn =>
      rintro ⟨y, x⟩ rest b s' ⟨hb', rfl, vs, ws, ns', ms', hz, hvi, hwi, hlen, hR⟩
      cases hvi with
      | nil => rw [List.zip_nil_left] at hz; cases hz
      | cons a t hvi' =>
        cases hwi with
        | nil => rw [List.zip_nil_right] at hz; cases hz
        | cons c u hwi' =>
          rw [List.zip_cons_cons] at hz
          injection hz with hyx hrest
          injection hyx with hy hx
          subst hy hx
          rw [lexLt_cons] at hR
          simp only [List.length_cons] at hlen
          obtain ⟨e, he, hiff⟩ := eqAt_int A.in1 ⟨hp, g, d, tk, os⟩ a t c u
          refine wpAny_bind (he prog w _ _ ?_)
          cases e with
          | true =>
            rw [if_pos (hiff.mp rfl)] at hR
            wp_walk
            exact ⟨rfl, rfl, _, _, _, _, hrest, hvi', hwi', by omega, hR⟩
          | false =>
            rw [if_neg (fun q => absurd (hiff.mpr q) Bool.false_ne_true)] at hR
            have hri := rcLt_int A.in1 ⟨hp, g, d, tk, os⟩ a t c u prog w
            wp_walk using hri
            exact ⟨_, rfl, by simpa using hR⟩
    case fin =>
      rintro ⟨b1, b2⟩ s' ⟨hb', rfl, vs, ws, ns', ms', hz, hvi, hwi, hlen, hR⟩
      simp only at hb'
      subst hb'
      have hv : lexLt ns' ms' = decide (items.size < items2.size) := by
        cases hvi with
        | nil =>
          cases hwi with
          | nil =>
            simp only [List.length_nil] at hlen
            rw [lexLt_nil_nil]
            exact (decide_eq_false (by omega)).symm
          | cons c u hw =>
            simp only [List.length_nil, List.length_cons] at hlen
            rw [lexLt_nil_cons]
            exact (decide_eq_true (by omega)).symm
        | cons a t hv =>
          cases hwi with
          | nil =>
            simp only [List.length_nil, List.length_cons] at hlen
            rw [lexLt_cons_nil]
            exact (decide_eq_false (by omega)).symm
          | cons c u hw =>
            rw [List.zip_cons_cons] at hz
            cases hz
      rw [hv] at hR
      wp_walk
      exact ⟨_, rfl, by simpa [Builtin.Tuple.tupleCompareSizes] using hR⟩
    case h =>
      exact ⟨rfl, rfl, items.toList, items2.toList, ns, ms, rfl, hi, hj, by omega, h⟩
end

section
variable {prog : Program} {w : World} {A : Around} {E : Value → Shared → Prop} {s : Shared}

theorem cat_tup {t b : Addr} {vs ws : List Value} {Q : Value → Shared → Prop} (ht : IsTup s.heap t vs.toArray) (hb : IsTup s.heap b ws.toArray) (hv : vs ≠ [])
    (h1 : ws = [] → Q (.ref t) s) (h2 : ws ≠ [] → Q (.ref s.heap.objs.size) { s with heap := s.heap.push { cls := .type "tuple", data := .seq (vs ++ ws).toArray } })
    (hsz : vs.length + ws.length ≤ sizeLine) : wpAny (model prog w) A (binaryOp .Add (.ref t) (.ref b)) Q E s := by
  obtain ⟨⟨cls, dd, data, sl⟩, ho, hc, n, hd⟩ := id ht
  obtain ⟨⟨cls2, dd2, data2, sl2⟩, ho2, hc2, n2, hd2⟩ := id hb
  simp only at hc hd hc2 hd2
  subst hc hd hc2 hd2
  have e : vs.toArray ++ ws.toArray = (vs ++ ws).toArray := by simp
  by_cases hw : ws = []
  · exact concat_meets ⟨_, ho, rfl⟩ ⟨_, ho2, rfl⟩ noFill_tuple_add seq_tuple_add PySem.F.slot_tuple_add PySem.F.entry_tuple_add (PySem.F.args_tuple_add_2 _ _)
      (tuple_addW1 t b vs.toArray ws.toArray n n2 dd dd2 sl sl2 (by simpa using hv) (by simp [hw])) ⟨ho, ho2, h1 hw⟩
  · refine concat_meets ⟨_, ho, rfl⟩ ⟨_, ho2, rfl⟩ noFill_tuple_add seq_tuple_add PySem.F.slot_tuple_add PySem.F.entry_tuple_add (PySem.F.args_tuple_add_2 _ _)
      (tuple_addW2 t b vs.toArray ws.toArray n n2 dd dd2 sl sl2 (by simpa using hv) (by simpa using hw) (by rw [List.size_toArray, List.size_toArray]; exact hsz)) ⟨ho, ho2, ?_⟩
    rw [e]
    exact h2 hw

def sIx (n d : Nat) : Option Int → Nat
  | none => d
  | some v => if v < 0 then (v + (n : Int)).toNat else min v.toNat n
theorem sIx_none (n d : Nat) : sIx n d none = d := rfl
theorem sIx_nat (n d k : Nat) : sIx n d (some (k : Int)) = min k n := by
  show (if (k : Int) < 0 then ((k : Int) + (n : Int)).toNat else min (k : Int).toNat n) = min k n
  rw [if_neg (by omega), Int.toNat_natCast]
theorem sIx_le (n d : Nat) (hd : d ≤ n) (o : Option Int) : sIx n d o ≤ n := by
  cases o with
  | none => exact hd
  | some v =>
    show (if v < 0 then (v + (n : Int)).toNat else min v.toNat n) ≤ n
    by_cases hv : v < 0
    · rw [if_pos hv]; omega
    · rw [if_neg hv]; exact Nat.min_le_right _ _
theorem clip_eq (v : Int) (n d : Nat) : (if v < 0 then max (v + (n : Int)) 0 else min v (n : Int)) = ((sIx n d (some v) : Nat) : Int) := by
  show (if v < 0 then max (v + (n : Int)) 0 else min v (n : Int)) = (((if v < 0 then (v + (n : Int)).toNat else min v.toNat n) : Nat) : Int)
  by_cases hv : v < 0
  · simp only [if_pos hv]; omega
  · simp only [if_neg hv]; omega
theorem adjust_gen (lo hi : Option Int) (n : Nat) : Builtin.Slice.sliceAdjust lo hi 1 (n : Int) = (((sIx n 0 lo : Nat) : Int), ((sIx n n hi : Nat) : Int)) := by
  have h1 : ¬ ((1 : Int) < 0) := by omega
  unfold Builtin.Slice.sliceAdjust
  simp only [h1, if_false]
  refine Prod.ext ?_ ?_
  · cases lo with
    | none => rfl
    | some v => exact clip_eq v n 0
  · cases hi with
    | none => rfl
    | some v => exact clip_eq v n n
theorem places_gen (i j : Nat) : Builtin.Slice.slicePlaces (i : Int) (j : Int) 1 = j - i := by
  unfold Builtin.Slice.slicePlaces
  have h1 : (1 : Int) > 0 := by omega
  simp only [h1, if_true, Int.ediv_one]
  split <;> omega
theorem slicePart_ {v : Value} {o : Option Int} {Q : Option Int → Shared → Prop} (p : IsPart v o) (h : Q o s) : wpAny (model prog w) A (Builtin.Slice.slicePartIndex v) Q E s := by
  cases p with
  | none => exact slicePart_none h
  | int i t => exact slicePart_int h
theorem sliceApplied_gen {sl : Addr} {vl vu : Value} {lo hi : Option Int} {n : Nat} {Q : Int × Int × Nat → Shared → Prop} (hs : s.heap.IsSliceOf sl vl vu .none) (pl : IsPart vl lo) (pu : IsPart vu hi)
    (h : Q (((sIx n 0 lo : Nat) : Int), 1, sIx n n hi - sIx n 0 lo) s) : wpAny (model prog w) A (Builtin.Slice.sliceApplied (.ref sl) (pure (n : Int))) Q E s := by
  obtain ⟨os, hos, hcs, hds⟩ := id hs
  unfold Builtin.Slice.sliceApplied Builtin.Slice.sliceFields
  refine wpAny_bind (wpAny_bind (wpAny_field hos hds (x := vl) rfl (wpAny_bind (wpAny_field hos hds (x := vu) rfl (wpAny_bind (wpAny_field hos hds (x := .none) rfl (wpAny_pure ?_)))))))
  refine wpAny_bind (slicePart_none ?_)
  show wpAny _ _ (if ((1 : Int) == 0) = true then _ else _) _ _ s
  rw [if_neg (by decide)]
  refine wpAny_bind (slicePart_ pl (wpAny_bind (slicePart_ pu (wpAny_bind (wpAny_pure ?_)))))
  show wpAny _ _ (match Builtin.Slice.sliceAdjust lo hi 1 (n : Int) with | (lo, hi) => pure (lo, (1 : Int), Builtin.Slice.slicePlaces lo hi 1)) _ _ s
  rw [adjust_gen lo hi n]
  show wpAny _ _ (pure (((sIx n 0 lo : Nat) : Int), (1 : Int), Builtin.Slice.slicePlaces ((sIx n 0 lo : Nat) : Int) ((sIx n n hi : Nat) : Int) 1)) _ _ s
  rw [places_gen]
  exact wpAny_pure h
theorem pick_gen (xs : Array Value) (i k : Nat) : ((List.range k).filterMap fun (m : Nat) => xs[((i : Int) + (m : Int) * 1).toNat]?).toArray = ((xs.toList.drop i).take k).toArray := by
  have e : (fun (m : Nat) => xs[((i : Int) + (m : Int) * 1).toNat]?) = fun m => xs[i + m]? := by
    funext m
    have : ((i : Int) + (m : Int) * 1).toNat = i + m := by omega
    rw [this]
  rw [e]
  have := pick_run xs i k
  rw [List.filterMap_map] at this
  have e2 : ((fun x => xs[x]?) ∘ fun x => i + x) = fun m => xs[i + m]? := rfl
  rw [e2] at this
  rw [this]

theorem getItem_tuple_cut {t sl : Addr} {items : Array Value} {vl vu : Value} {lo hi : Option Int} {Q : Value → Shared → Prop} (ht : IsTup s.heap t items) (hs : s.heap.IsSliceOf sl vl vu .none) (pl : IsPart vl lo) (pu : IsPart vu hi)
    (hw : ¬ (sIx items.size 0 lo = 0 ∧ sIx items.size items.size hi = items.size))
    (h : Q (.ref s.heap.objs.size) { s with heap := s.heap.push { cls := .type "tuple", data := .seq ((items.toList.drop (sIx items.size 0 lo)).take (sIx items.size items.size hi - sIx items.size 0 lo)).toArray } })
    (hsz : items.size ≤ sizeLine) : wpAny (model prog w) A (getItem (.ref t) (.ref sl)) Q E s := by
  have htake : sizeOk (.seq ((items.toList.drop (sIx items.size 0 lo)).take (sIx items.size items.size hi - sIx items.size 0 lo)).toArray) := by
    show ((items.toList.drop (sIx items.size 0 lo)).take (sIx items.size items.size hi - sIx items.size 0 lo)).toArray.size ≤ sizeLine
    rw [List.size_toArray, List.length_take, List.length_drop, Array.length_toList]
    omega
  have hj : sIx items.size items.size hi ≤ items.size := sIx_le _ _ (Nat.le_refl _) hi
  obtain ⟨os, hos, hcs, hds⟩ := id hs
  have hTs : s.TypeIs (.ref sl) "slice" := ⟨os, hos, hcs⟩
  unfold getItem
  try with_reducible refine wpAny_holding ?_
  first | refine wpAny_bind (wpAny_pure ?_) | skip
  refine wpAny_bind (wpAny_sequenceKey ht.typeIs (by decide) ?_)
  refine wpAny_bind (wpAny_callSpecial?_slot (name := Str.ofString "__getitem__") ht.typeIs PyProof.Rows.slot_tuple_getitem
    (wpAny_call_entry PyProof.Rows.slot_tuple_getitem ht.typeIs entry_tuple_getitem ?_ (args_tuple_getitem _ _)))
  show wpAny _ _ (Builtin.Tuple.tupleItemsOf (.ref t) >>= _) _ _ s
  refine wpAny_bind (tupleItemsOf_ ht ?_)
  refine wpAny_bind (wpAny_typeOf hTs ?_)
  rw [if_pos (by decide)]
  refine wpAny_bind (sliceApplied_gen hs pl pu ?_)
  have hno : ¬ ((((sIx items.size 0 lo : Nat) : Int) == 0 && (1 : Int) == 1 && (sIx items.size items.size hi - sIx items.size 0 lo) == items.size) = true) := by
    intro q
    rw [Bool.and_eq_true, Bool.and_eq_true] at q
    have q1 : ((sIx items.size 0 lo : Nat) : Int) = 0 := eq_of_beq q.1.1
    have q2 : sIx items.size items.size hi - sIx items.size 0 lo = items.size := eq_of_beq q.2
    exact hw ⟨by omega, by omega⟩
  show wpAny _ _ (if (((sIx items.size 0 lo : Nat) : Int) == 0 && (1 : Int) == 1 && (sIx items.size items.size hi - sIx items.size 0 lo) == items.size) = true then _ else _) _ _ s
  rw [if_neg hno, pick_gen]
  first
    | exact wpAny_bind (m := Builtin.Tuple.tupleExact _) (wpAny_newObj_type (wpAny_pure ⟨_, rfl, wpAny_pure h⟩) htake)
    | exact wpAny_bind (m := Builtin.Tuple.tupleExact _) (wpAny_newObj_type (wpAny_bind (wpAny_pure (wpAny_pure ⟨_, rfl, wpAny_pure h⟩))) htake)
    | exact wpAny_bind (wpAny_bind (m := Builtin.Tuple.tupleExact _) (wpAny_newObj_type (wpAny_pure (wpAny_pure ⟨_, rfl, wpAny_pure h⟩)) htake))
    | exact wpAny_bind (wpAny_bind (m := Builtin.Tuple.tupleExact _) (wpAny_newObj_type (wpAny_pure ⟨_, rfl, wpAny_pure h⟩) htake))
end
end HT

namespace L2
open PySem PySem.Spec PyProof.Rows

abbrev TO := St → Hp → (Option Int → Hp → Prop) → Prop
def PO (X : Cx) (e : Option Expr) (t : TO) : Prop :=
  ∀ (pins : List (Addr × Obj)) (s : Shared) (σ : St) (H : Hp) (Q : Option Int → Hp → Prop), Inv X pins σ H s → t σ H Q →
    wpAny (model X.prog X.w) X.A (evalPart e X.env) (fun u s' => ∃ o H', Inv X pins σ H' s' ∧ IsPart u o ∧ Q o H') X.xe s
def tNoPart : TO := fun _ H Q => Q none H
def tPart (t : TE) : TO := fun σ H Q => t σ H fun x H1 => ∃ i, x = .int i ∧ Q (some i) H1

theorem intsAre_of {ns : List Int} : ∀ {us : List Value}, Vals (ns.map V.int) us → IntsAre us ns := by
  induction ns with
  | nil => intro us r; rw [List.map_nil] at r; cases r; exact .nil
  | cons n ns ih =>
    intro us r
    rw [List.map_cons] at r
    cases r with
    | cons r1 r2 =>
      obtain ⟨t, e⟩ := r1
      subst e
      exact .cons n t (ih r2)

section
variable {X : Cx} {e : Expr} {te : TE} {lo hi : Option Expr} {tl th : TO} {pos p2 : Pos}

theorem po_none : PO X none tNoPart := by
  intro pins s σ H Q I h
  rw [evalPart_none]
  exact wpAny_pure ⟨none, H, I, .none, h⟩
theorem po_some (h : PE X e te) : PO X (some e) (tPart te) := by
  intro pins s σ H Q I hw
  rw [evalPart_some]
  refine thn (h pins s σ H _ I hw) fun u s1 ⟨x, H1, I1, r1, q1⟩ => ?_
  obtain ⟨i, rfl, q⟩ := q1
  obtain ⟨t, rfl⟩ := r1
  exact ⟨some i, H1, I1, .int i t, q⟩

def SlR (X : Cx) (r : V → Option Int → Option Int → Hp → VK → Prop) : Prop :=
  ∀ (pins : List (Addr × Obj)) (s : Shared) (σ : St) (H : Hp) (x : V) (v vl vu : Value) (lo hi : Option Int) (sl : Addr) (Q : VK), Inv X pins σ H s → RelV x v → s.heap.IsSliceOf sl vl vu .none → IsPart vl lo → IsPart vu hi → r x lo hi H Q →
    ∃ T id, typeLookup (.type T) "__getitem__" = pure (some (.builtin id)) ∧ s.TypeIs v T ∧ wpAny (model X.prog X.w) X.A (getItem v (.ref sl)) (EP X pins σ Q) X.xe s
def tSl (r : V → Option Int → Option Int → Hp → VK → Prop) (te : TE) (tl th : TO) : TE := fun σ H Q => te σ H fun x H1 => tl σ H1 fun l H2 => th σ H2 fun u H3 => r x l u H3 Q
theorem pe_slice {r : V → Option Int → Option Int → Hp → VK → Prop} (hr : SlR X r) (he : PE X e te) (hl : PO X lo tl) (hu : PO X hi th) : PE X (.Subscript e (.Slice lo hi none p2) pos) (tSl r te tl th) := by
  intro pins s σ H Q I h
  refine Subscript_ (thn (he pins s σ H _ I h) fun v s1 ⟨x, H1, I1, r1, q1⟩ => ?_)
  refine wpAny_Slice (thn (hl pins s1 σ H1 _ I1 q1) fun vl s2 ⟨l, H2, I2, pl, q2⟩ => thn (hu pins s2 σ H2 _ I2 q2) fun vu s3 ⟨u, H3, I3, pu, q3⟩ => ?_)
  rw [evalPart_none]
  refine wpAny_pure ?_
  have I4 : Inv X pins σ H3 { s3 with heap := s3.heap.push { cls := .type "slice", data := .fields #[vl, vu, .none] } } := I3.kept (t' := s3.toks) fun b ob q => Heap.get?_push_of_some _ q
  obtain ⟨T, id, hT, ht, hg⟩ := hr pins { s3 with heap := s3.heap.push { cls := .type "slice", data := .fields #[vl, vu, .none] } } σ H3 x v vl vu l u s3.heap.objs.size Q I4 r1 (Heap.IsSliceOf.new ..) pl pu q3
  show wpAny (model X.prog X.w) X.A (subscriptTail e (.Slice lo hi none p2) v (.ref s3.heap.objs.size)) (EP X pins σ Q) X.xe { s3 with heap := s3.heap.push { cls := .type "slice", data := .fields #[vl, vu, .none] } }
  exact tail_any (ops := [.ref s3.heap.objs.size, v]) ht hT hg (by with_unfolding_all rfl)

def cutV (xs : List V) (lo hi : Option Int) : List V := (xs.drop (HT.sIx xs.length 0 lo)).take (HT.sIx xs.length xs.length hi - HT.sIx xs.length 0 lo)
theorem cutV_length (xs : List V) (lo hi : Option Int) : (cutV xs lo hi).length ≤ xs.length := by
  unfold cutV
  rw [List.length_take, List.length_drop]
  omega
def rSlT (K : PySem.W.Frag) : V → Option Int → Option Int → Hp → VK → Prop := fun x lo hi H Q => ∃ a xs, x = .ref a ∧ SqT K H a xs ∧
  ¬ (HT.sIx xs.length 0 lo = 0 ∧ HT.sIx xs.length xs.length hi = xs.length) ∧ ∀ p, H p = none → Q (.ref p) (upd H p (.tup (cutV xs lo hi)))
theorem sl_tup : SlR X (rSlT X.K) := by
  intro pins s σ H x v vl vu lo hi sl Q I rx hs pl pu h
  obtain ⟨a, xs, rfl, hx, hw, q⟩ := h
  cases rx
  obtain ⟨its, r, ht, hz⟩ := I.tuple hx
  have hlen : its.toArray.size = xs.length := by rw [List.size_toArray]; exact r.length.symm
  refine ⟨"tuple", _, PyProof.Rows.slot_tuple_getitem.lookup, ht.typeIs, ?_⟩
  refine HT.getItem_tuple_cut ht hs pl pu (by rw [hlen]; exact hw) ?_ (by rw [hlen]; exact hz)
  rw [hlen]
  refine ⟨.ref s.heap.objs.size, _, I.laid (t' := s.toks) (o := .tup (cutV xs lo hi)) (fun b ob q => Heap.get?_push_of_some _ q) (Nat.le_refl _) ?_, rfl, q _ (I.hok.fresh (Nat.le_refl _))⟩
  exact ⟨Nat.le_trans (cutV_length xs lo hi) hz, _, (r.drop (HT.sIx xs.length 0 lo)).take (HT.sIx xs.length xs.length hi - HT.sIx xs.length 0 lo), IsTup.new _ _⟩

def rCatT (K : PySem.W.Frag) : R2 := fun x y H Q => ∃ a b xs ys, x = .ref a ∧ y = .ref b ∧ SqT K H a xs ∧ SqT K H b ys ∧ xs ≠ [] ∧ xs.length + ys.length ≤ sizeLine ∧
  (ys = [] → Q (.ref a) H) ∧ (ys ≠ [] → ∀ p, H p = none → Q (.ref p) (upd H p (.tup (xs ++ ys))))
theorem Vals.nil_iff {xs : List V} {us : List Value} (r : Vals xs us) : us = [] ↔ xs = [] := by
  cases r with
  | nil => simp
  | cons _ _ => simp
theorem op_catT : OpR X (binaryOp .Add) (rCatT X.K) := by
  intro pins s σ H x y v u Q I rx ry h
  obtain ⟨a, b, xs, ys, rfl, rfl, ha, hb, hx, hz, q1, q2⟩ := h
  cases rx
  cases ry
  obtain ⟨its, r1, p1, _⟩ := I.tuple ha
  obtain ⟨its2, r2, p2, _⟩ := I.tuple hb
  refine HT.cat_tup p1 p2 (fun z => hx (r1.nil_iff.mp z)) (fun z => ⟨.ref a, H, I, rfl, q1 (r2.nil_iff.mp z)⟩) (fun z => ?_) (by rw [← r1.length, ← r2.length]; exact hz)
  refine ⟨.ref s.heap.objs.size, _, I.laid (t' := s.toks) (o := .tup (xs ++ ys)) (fun b ob q => Heap.get?_push_of_some _ q) (Nat.le_refl _) ?_, rfl, q2 (fun w => z (r2.nil_iff.mpr w)) _ (I.hok.fresh (Nat.le_refl _))⟩
  exact ⟨by rw [List.length_append]; exact hz, _, r1.append r2, IsTup.new _ _⟩
end
end L2

namespace L2
open PySem PySem.Spec PyProof.Rows

def ixN (n : Nat) (i : Int) : Option Nat := if 0 ≤ i then (if i < n then some i.toNat else none) else if -(n : Int) ≤ i then some (i + n).toNat else none
def atI {α : Type} (xs : List α) (i : Int) : Option α := (ixN xs.length i).bind fun j => xs[j]?
theorem ixN_seq {n : Nat} {i : Int} {j : Nat} (h : ixN n i = some j) : seqIndex? i n = some j ∧ j < n ∧ -(n : Int) ≤ i ∧ i < n := by
  unfold ixN at h
  by_cases h0 : 0 ≤ i
  · rw [if_pos h0] at h
    by_cases h1 : i < n
    · rw [if_pos h1] at h
      have e : i.toNat = j := Option.some.inj h
      exact ⟨by rw [seqIndex_of h0 h1, e], by omega, by omega, h1⟩
    · rw [if_neg h1] at h; cases h
  · rw [if_neg h0] at h
    by_cases h1 : -(n : Int) ≤ i
    · rw [if_pos h1] at h
      have e : (i + n).toNat = j := Option.some.inj h
      exact ⟨by rw [seqIndex_neg (by omega) h1, e], by omega, h1, by omega⟩
    · rw [if_neg h1] at h; cases h
theorem atI_get {α : Type} {xs : List α} {i : Int} {v : α} (h : atI xs i = some v) : ∃ j, seqIndex? i xs.length = some j ∧ xs[j]? = some v ∧ j < xs.length ∧ -(xs.length : Int) ≤ i ∧ i < xs.length := by
  unfold atI at h
  cases e : ixN xs.length i with
  | none => rw [e] at h; cases h
  | some j =>
    rw [e] at h
    obtain ⟨h1, h2, h3, h4⟩ := ixN_seq e
    exact ⟨j, h1, h, h2, h3, h4⟩
theorem atI_nat {α : Type} {xs : List α} {j : Nat} {v : α} (h : xs[j]? = some v) : atI xs (j : Int) = some v := by
  have hj : j < xs.length := (List.getElem?_eq_some_iff.mp h).1
  have e : ixN xs.length (j : Int) = some j := by
    unfold ixN
    rw [if_pos (by omega), if_pos (by omega)]; simp
  unfold atI; rw [e]; exact h
theorem atI_last {α : Type} (xs : List α) (v : α) : atI (xs ++ [v]) (-1) = some v := by
  have hl : (xs ++ [v]).length = xs.length + 1 := by simp
  have e : ixN (xs ++ [v]).length (-1) = some xs.length := by
    unfold ixN
    rw [hl, if_neg (by decide), if_pos (by omega)]
    congr 1
    omega
  unfold atI
  rw [e]
  show (xs ++ [v])[xs.length]? = some v
  simp

def PlainIx (b : Expr) : Prop := ∀ o i, subscripted b false o i = operate [o, i] (getItem o i)
def IxR (X : Cx) (r : R2) : Prop :=
  ∀ (value slice : Expr) (pins : List (Addr × Obj)) (s : Shared) (σ : St) (H : Hp) (x y : V) (v u : Value) (Q : VK), Inv X pins σ H s → RelV x v → RelV y u → r x y H Q →
    subscripted slice false v u = operate [v, u] (getItem v u) → wpAny (model X.prog X.w) X.A (subscriptTail value slice v u) (EP X pins σ Q) X.xe s
def MtR (X : Cx) (id : String) (r : V → List V → Hp → VK → Prop) : Prop :=
  ∀ (pins : List (Addr × Obj)) (s : Shared) (σ : St) (H : Hp) (x : V) (xs : List V) (v : Value) (us : List Value) (Q : VK), Inv X pins σ H s → RelV x v → Vals xs us → r x xs H Q →
    wpAny (model X.prog X.w) X.A (call (.builtin id) (v :: us)) (EP X pins σ Q) X.xe s
section
variable {X : Cx} {a b : Expr} {ta tb : TE} {pos : Pos}
theorem pe_ix {r : R2} (hr : IxR X r) (ha : PE X a ta) (hb : PE X b tb) (hs : PlainIx b) : PE X (.Subscript a b pos) (tOp r ta tb) := by
  intro pins s σ H Q I h
  exact Subscript_ (binT ha hb I h fun v u s2 x y H2 I2 rx ry q => hr a b pins s2 σ H2 x y v u Q I2 rx ry q (hs _ _))

def rIxL (K : PySem.W.Frag) : R2 := fun x y H Q => ∃ p xs i v, x = .ref p ∧ y = .int i ∧ SqL K H p xs ∧ atI xs i = some v ∧ Q v H
def rIxT (K : PySem.W.Frag) : R2 := fun x y H Q => ∃ p xs i v, x = .ref p ∧ y = .int i ∧ SqT K H p xs ∧ atI xs i = some v ∧ Q v H
theorem ix_list : IxR X (rIxL X.K) := by
  intro value slice pins s σ H x y v u Q I rx ry h hs
  obtain ⟨p, xs, i, z, rfl, rfl, hq, he, q⟩ := h
  cases rx
  obtain ⟨t, rfl⟩ := ry
  obtain ⟨its, r, pl, hz⟩ := I.list hq
  obtain ⟨j, h1, h2, h3, h4, h5⟩ := atI_get he
  obtain ⟨w, ew, rw'⟩ := r.get h2
  have hl := r.length
  have hn := line63
  have fin : EP X pins σ Q w s := ⟨z, H, I, rw', q⟩
  by_cases h0 : 0 ≤ i
  · have hj : i.toNat = j := by
      rw [seqIndex_of h0 h5] at h1
      exact Option.some.inj h1
    exact item_listR pl.isList h0 (by omega) (by rw [hj]; simpa using ew) fin hs
  · have hj : (i + (its.toArray.size : Int)).toNat = j := by
      rw [seqIndex_neg (by omega) h4] at h1
      rw [List.size_toArray, ← hl]
      exact Option.some.inj h1
    exact subscriptTail_builtinR (x := w) pl.isList.typeIs slot_list_getitem.lookup
      (wpAny_getItem_list_neg (Q := fun r s' => r = w ∧ EP X pins σ Q r s') pl.isList (by omega) (by rw [List.size_toArray] <;> omega) (by omega) (by rw [hj]; simpa using ew) ⟨rfl, fin⟩) hs
theorem ix_tup : IxR X (rIxT X.K) := by
  intro value slice pins s σ H x y v u Q I rx ry h hs
  obtain ⟨p, xs, i, z, rfl, rfl, hq, he, q⟩ := h
  cases rx
  obtain ⟨t, rfl⟩ := ry
  obtain ⟨its, r, pl, hz⟩ := I.tuple hq
  obtain ⟨j, h1, h2, h3, h4, h5⟩ := atI_get he
  obtain ⟨w, ew, rw'⟩ := r.get h2
  have hl := r.length
  have hn := line63
  have fin : EP X pins σ Q w s := ⟨z, H, I, rw', q⟩
  exact subscriptTail_builtinR (x := w) pl.typeIs slot_tuple_getitem.lookup
    (getItem_tuple (j := j) (Q := fun r s' => r = w ∧ EP X pins σ Q r s') pl (by omega) (by omega) (by rw [List.size_toArray, ← hl]; exact h1) (by simpa using ew) ⟨rfl, fin⟩) hs
theorem mapSeq_set (its : List Value) (n j : Nat) (u : Value) : Obj.mapSeq (·.setIfInBounds j u) { cls := .type "list", data := .seq its.toArray n } = { cls := .type "list", data := .seq (its.set j u).toArray n } := by
  simp [Obj.mapSeq]
theorem Inv.lst {pins : List (Addr × Obj)} {σ : St} {H : Hp} {s : Shared} {p : Addr} {xs : List V} (I : Inv X pins σ H s) (h : H p = some (.lst xs)) :
    ∃ (its : List Value) (n : Nat), Vals xs its ∧ s.heap.get? p = some { cls := .type "list", data := .seq its.toArray n } ∧ xs.length ≤ sizeLine := by
  obtain ⟨z, its, n, r, e⟩ := I.hok p _ h
  exact ⟨its, n, r, e, z⟩
theorem Inv.lstUpd {pins : List (Addr × Obj)} {σ : St} {H : Hp} {s : Shared} {p : Addr} {xs ys : List V} {its its' : List Value} {n n' : Nat} {f : Obj → Obj} (I : Inv X pins σ H s) (h : H p = some (.lst xs))
    (ho : s.heap.get? p = some { cls := .type "list", data := .seq its.toArray n }) (hf : f { cls := .type "list", data := .seq its.toArray n } = { cls := .type "list", data := .seq its'.toArray n' }) (r : Vals ys its') (hz : ys.length ≤ sizeLine) (t : Nat) :
    Inv X pins σ (upd H p (.lst ys)) { s with heap := s.heap.update p f, toks := t } := by
  have e : (s.heap.update p f).get? p = some { cls := .type "list", data := .seq its'.toArray n' } := by
    rw [Heap.get?_update_self f ho (by rw [hf] <;> rfl), hf]
  refine I.write (x := p) (e := p) (by rw [h]; trivial) (.inl rfl) (fun b u hb q => (Heap.get?_update_other _ _ (Ne.symm hb)).trans q) ⟨_, e⟩ ?_
  exact ⟨hz, its', n', r, e⟩
def rSetL : V → V → V → Hp → (Hp → Prop) → Prop := fun o i v H Q => ∃ p xs k j, o = .ref p ∧ i = .int k ∧ H p = some (.lst xs) ∧ ixN xs.length k = some j ∧ Q (upd H p (.lst (xs.set j v)))
theorem set_list : PSet X rSetL := by
  intro pins s σ H o i v ov iv u Q I ro ri rv h
  obtain ⟨p, xs, k, j, rfl, rfl, hp, hj, q⟩ := h
  cases ro
  obtain ⟨t, rfl⟩ := ri
  obtain ⟨its, n, r, ho, hz⟩ := I.lst hp
  obtain ⟨h1, h2, h3, h4⟩ := ixN_seq hj
  have hl := r.length
  have hn := line63
  have I' : Inv X pins σ (upd H p (.lst (xs.set j v))) { s with heap := s.heap.update p (Obj.mapSeq (·.setIfInBounds j u)) } :=
    I.lstUpd hp ho (mapSeq_set its n j u) (r.set rv j) (by rw [List.length_set]; exact hz) s.toks
  by_cases h0 : 0 ≤ k
  · have hk : k.toNat = j := by
      rw [seqIndex_of h0 h4] at h1
      exact Option.some.inj h1
    exact PySem.W.ki_setAt ho h0 (by omega) (by rw [List.size_toArray, ← hl]; exact h4) (by rw [hk]; exact ⟨_, I', q⟩)
  · have hk : (k + (its.toArray.size : Int)).toNat = j := by
      rw [seqIndex_neg (by omega) h3] at h1
      rw [List.size_toArray, ← hl]
      exact Option.some.inj h1
    exact PySem.W.ki_setBack ho (by omega) (by rw [List.size_toArray, ← hl]; exact h3) (by omega) (by rw [hk]; exact ⟨_, I', q⟩)

theorem slice_bounds (lo hi : Option Int) (n : Nat) : (sliceBounds lo hi none n).1 = ((HT.sIx n 0 lo : Nat) : Int) ∧ (sliceBounds lo hi none n).2.1 = ((HT.sIx n n hi : Nat) : Int) ∧ (sliceBounds lo hi none n).2.2 = 1 := by
  refine ⟨?_, ?_, rfl⟩
  · cases lo with
    | none => simp [sliceBounds, HT.sIx]
    | some i =>
      simp only [sliceBounds, HT.sIx, Option.getD_none, show (1 : Int) > 0 by decide, if_true]
      by_cases h : i < 0
      · simp only [h, if_true] <;> omega
      · simp only [h, if_false] <;> omega
  · cases hi with
    | none => simp [sliceBounds, HT.sIx]
    | some i =>
      simp only [sliceBounds, HT.sIx, Option.getD_none, show (1 : Int) > 0 by decide, if_true]
      by_cases h : i < 0
      · simp only [h, if_true] <;> omega
      · simp only [h, if_false] <;> omega
theorem slicePick_cut (its : List Value) (lo hi : Option Int) : slicePick its.toArray lo hi none = ((its.drop (HT.sIx its.length 0 lo)).take (HT.sIx its.length its.length hi - HT.sIx its.length 0 lo)).toArray := by
  obtain ⟨h1, h2, h3⟩ := slice_bounds lo hi its.toArray.size
  unfold slicePick
  rw [h1, h2, h3]
  simp only [sliceRange_one, pick_run, List.size_toArray] <;> rfl
def rSlL (K : PySem.W.Frag) : V → Option Int → Option Int → Hp → VK → Prop := fun x lo hi H Q => ∃ a xs, x = .ref a ∧ SqL K H a xs ∧ ∀ p, H p = none → Q (.ref p) (upd H p (.lst (cutV xs lo hi)))
theorem sl_list : SlR X (rSlL X.K) := by
  intro pins s σ H x v vl vu lo hi sl Q I rx hs pl pu h
  obtain ⟨a, xs, rfl, hx, q⟩ := h
  cases rx
  obtain ⟨its, r, ht, hz⟩ := I.list hx
  have hlen := r.length
  refine ⟨"list", _, slot_list_getitem.lookup, ht.isList.typeIs, ?_⟩
  refine wpAny_getItem_list_slice ht.isList hs pl pu .none (by simp) ?_ (by rw [List.size_toArray] <;> omega)
  rw [slicePick_cut, ← hlen]
  refine ⟨.ref s.heap.objs.size, _, I.laid (t' := s.toks) (o := .lst (cutV xs lo hi)) (fun b ob q => Heap.get?_push_of_some _ q) (Nat.le_refl _) ?_, rfl, q _ (I.hok.fresh (Nat.le_refl _))⟩
  exact ⟨Nat.le_trans (cutV_length xs lo hi) hz, _, 0, (r.drop (HT.sIx xs.length 0 lo)).take (HT.sIx xs.length xs.length hi - HT.sIx xs.length 0 lo), Heap.get?_push_size _ rfl⟩

def flatV : V → Bool
  | .non => true
  | .bl _ => true
  | .int _ => true
  | .str _ => true
  | _ => false
def eqV : V → V → Bool
  | .non, .non => true
  | .bl a, .bl b => a == b
  | .bl a, .int b => (if a then 1 else 0) == b
  | .int a, .bl b => a == (if b then 1 else 0)
  | .int a, .int b => a == b
  | .str a, .str b => a == b
  | _, _ => false
theorem eqAt_V {A : Around} {s : Shared} {y x : V} {u v : Value} (ry : RelV y u) (rx : RelV x v) (fy : flatV y = true) (fx : flatV x = true) : SeqAt.EqAt A s u v (eqV y x) := by
  cases y with
  | non =>
    cases ry
    cases x with
    | non => cases rx; exact SeqAt.EqAt.same _
    | bl b => cases rx; exact SeqAt.EqAt.none_bool b
    | int b => obtain ⟨t, rfl⟩ := rx; exact SeqAt.EqAt.none_int b t
    | str b => obtain ⟨t, rfl⟩ := rx; exact SeqAt.EqAt.none_str b t
    | _ => exact absurd (show false = true from fx) Bool.false_ne_true
  | bl a =>
    cases ry
    cases x with
    | non => cases rx; exact SeqAt.EqAt.bool_none a
    | bl b => cases rx; exact SeqAt.EqAt.bool_bool a b
    | int b => obtain ⟨t, rfl⟩ := rx; exact SeqAt.EqAt.bool_int a b t
    | str b => obtain ⟨t, rfl⟩ := rx; exact SeqAt.EqAt.bool_str a b t
    | _ => exact absurd (show false = true from fx) Bool.false_ne_true
  | int a =>
    obtain ⟨t', rfl⟩ := ry
    cases x with
    | non => cases rx; exact SeqAt.EqAt.int_none a t'
    | bl b => cases rx; exact SeqAt.EqAt.int_bool a t' b
    | int b => obtain ⟨t, rfl⟩ := rx; exact SeqAt.EqAt.int_int a t' b t
    | str b => obtain ⟨t, rfl⟩ := rx; exact SeqAt.EqAt.int_str a t' b t
    | _ => exact absurd (show false = true from fx) Bool.false_ne_true
  | str a =>
    obtain ⟨t', rfl⟩ := ry
    cases x with
    | non => cases rx; exact SeqAt.EqAt.str_none a t'
    | bl b => cases rx; exact SeqAt.EqAt.str_bool a t' b
    | int b => obtain ⟨t, rfl⟩ := rx; exact SeqAt.EqAt.str_int a t' b t
    | str b => obtain ⟨t, rfl⟩ := rx; exact SeqAt.EqAt.str_str a t' b t
    | _ => exact absurd (show false = true from fx) Bool.false_ne_true
  | _ => exact absurd (show false = true from fy) Bool.false_ne_true
def eqU (x : V) (u : Value) : Bool := match u with
  | .none => eqV .non x
  | .bool b => eqV (.bl b) x
  | .int i _ => eqV (.int i) x
  | .str z _ => eqV (.str z) x
  | _ => false
theorem eqU_of {x y : V} {u : Value} (r : RelV y u) (f : flatV y = true) : eqU x u = eqV y x := by
  cases y with
  | non => cases r; rfl
  | bl b => cases r; rfl
  | int i => obtain ⟨t, rfl⟩ := r; rfl
  | str z => obtain ⟨t, rfl⟩ := r; rfl
  | _ => exact absurd (show false = true from f) Bool.false_ne_true
theorem any_eqU {x : V} : ∀ {xs : List V} {us : List Value}, Vals xs us → xs.all flatV = true → us.any (eqU x) = xs.any fun y => eqV y x
  | _, _, .nil, _ => rfl
  | y :: xs, u :: us, .cons r t, f => by
    rw [List.all_cons, Bool.and_eq_true] at f
    rw [List.any_cons, List.any_cons, eqU_of r f.1, any_eqU t f.2]
theorem mem_eqAt {A : Around} {s : Shared} {x : V} {v : Value} (rx : RelV x v) (fx : flatV x = true) : ∀ {xs : List V} {us : List Value}, Vals xs us → xs.all flatV = true → ∀ u ∈ us, SeqAt.EqAt A s u v (eqU x u)
  | _, _, .nil, _ => fun u hu => by cases hu
  | y :: xs, u :: us, .cons r t, f => fun u' hu => by
    rw [List.all_cons, Bool.and_eq_true] at f
    rcases List.mem_cons.mp hu with rfl | hu
    · rw [eqU_of r f.1]; exact eqAt_V r rx f.1 fx
    · exact mem_eqAt rx fx t f.2 u' hu
def inV (x : V) (xs : List V) : Bool := xs.any fun y => eqV y x
def rIn (K : PySem.W.Frag) (neg : Bool) : R2 := fun x y H Q => ∃ p xs, y = .ref p ∧ (SqL K H p xs ∨ SqT K H p xs) ∧ flatV x = true ∧ xs.all flatV = true ∧ Q (.bl (if neg then !inV x xs else inV x xs)) H
theorem op_notIn_seq : OpR X (compareOp .NotIn) (rIn X.K true) := by
  intro pins s σ H x y v u Q I rx ry h
  obtain ⟨p, xs, rfl, hq, fx, fs, q⟩ := h
  cases ry
  rcases hq with hq | hq
  · obtain ⟨its, r, pl, hz⟩ := I.list hq
    refine SeqAt.notIn_listAt (eqU x) pl.isList (fun w hw => mem_eqAt rx fx r fs w (by simpa using hw)) ⟨.bl _, H, I, rfl, ?_⟩
    rw [show its.toArray.any (eqU x) = its.any (eqU x) by simp, any_eqU r fs]
    exact q
  · obtain ⟨its, r, pl, hz⟩ := I.tuple hq
    refine SeqAt.notIn_tupleAt (eqU x) pl (fun w hw => mem_eqAt rx fx r fs w (by simpa using hw)) ⟨.bl _, H, I, rfl, ?_⟩
    rw [show its.toArray.any (eqU x) = its.any (eqU x) by simp, any_eqU r fs]
    exact q
theorem call_len_seq : CallR X (.builtin "len") (fun xs H Q => ∃ p ys, xs = [.ref p] ∧ (SqL X.K H p ys ∨ SqT X.K H p ys) ∧ Q (.int ys.length) H) := by
  intro pins s σ H xs us Q I r h
  obtain ⟨p, ys, rfl, hq, q⟩ := h
  obtain ⟨u, rfl, rx⟩ := vals1 r
  cases rx
  have hn := line63
  rcases hq with hq | hq
  · obtain ⟨its, r', pl, hz⟩ := I.list hq
    have hlen := r'.length
    exact Calls.call_len_list pl.isList (by simp only [List.size_toArray] <;> omega) ⟨.int ys.length, H, I.tok _, ⟨s.toks + 1, by rw [List.size_toArray, hlen]⟩, q⟩
  · obtain ⟨its, r', pl, hz⟩ := I.tuple hq
    have hlen := r'.length
    exact len_tuple pl (by simp only [List.size_toArray] <;> omega) ⟨.int ys.length, H, I.tok _, ⟨s.toks + 1, by rw [List.size_toArray, hlen]⟩, q⟩
theorem call_list_of : CallR X (.type "list") (fun xs H Q => ∃ p ys, xs = [.ref p] ∧ (SqL X.K H p ys ∨ SqT X.K H p ys) ∧ ∀ l, H l = none → Q (.ref l) (upd H l (.lst ys))) := by
  intro pins s σ H xs us Q I r h
  obtain ⟨p, ys, rfl, hq, q⟩ := h
  obtain ⟨u, rfl, rx⟩ := vals1 r
  cases rx
  have fin : ∀ (its : List Value), Vals ys its → ys.length ≤ sizeLine → ∀ (h' : Heap) (c' : Nat), (∀ b o', s.heap.get? b = some o' → h'.get? b = some o') →
      h'.get? s.heap.objs.size = some { cls := .type "list", dict := none, data := .seq its.toArray c', slots := #[] } → EP X pins σ Q (.ref s.heap.objs.size) { s with heap := h' } := fun its r' hz h' c' kp e =>
    ⟨.ref s.heap.objs.size, _, I.laid (t' := s.toks) kp (Nat.le_refl _) (show ObjOk X.prog X.w _ h' _ (.lst ys) from ⟨hz, its, c', r', e⟩), rfl, q _ (I.hok.fresh (Nat.le_refl _))⟩
  rcases hq with hq | hq
  · obtain ⟨its, r', pl, hz⟩ := I.list hq
    have hlen := r'.length
    obtain ⟨o, ho, hc, n, hd⟩ := pl.isList
    exact call_list_seq p (.inl rfl) ho hc hd (fun h' c' kp e => fin its r' hz h' c' kp e) (by simp only [List.size_toArray] <;> omega)
  · obtain ⟨its, r', pl, hz⟩ := I.tuple hq
    have hlen := r'.length
    obtain ⟨o, ho, hc, n, hd⟩ := pl
    exact call_list_seq p (.inr rfl) ho hc hd (fun h' c' kp e => fin its r' hz h' c' kp e) (by simp only [List.size_toArray] <;> omega)
theorem call_tuple_of : CallR X (.type "tuple") (fun xs H Q => ∃ p ys, xs = [.ref p] ∧ ((SqL X.K H p ys ∧ ∀ l, H l = none → Q (.ref l) (upd H l (.tup ys))) ∨ (SqT X.K H p ys ∧ Q (.ref p) H))) := by
  intro pins s σ H xs us Q I r h
  obtain ⟨p, ys, rfl, h⟩ := h
  obtain ⟨u, rfl, rx⟩ := vals1 r
  cases rx
  rcases h with ⟨hq, q⟩ | ⟨hq, q⟩
  · obtain ⟨its, r', pl, hz⟩ := I.list hq
    have hlen := r'.length
    refine call_tuple_list pl.isList (fun h' kp => ?_) (by simp only [List.size_toArray] <;> omega)
    have I1 : Inv X pins σ H { s with heap := h' } := I.kept (t' := s.toks) kp
    have I2 : Inv X pins σ (upd H h'.objs.size (.tup ys)) { s with heap := h'.push { cls := .type "tuple", data := .seq its.toArray } } :=
      I1.laid (t' := s.toks) (fun b o e => Heap.get?_push_of_some _ e) (Nat.le_refl _) (show ObjOk X.prog X.w _ _ _ (.tup ys) from ⟨hz, its, r', IsTup.new _ _⟩)
    exact ⟨.ref h'.objs.size, _, I2, rfl, q _ (I1.hok.fresh (Nat.le_refl _))⟩
  · obtain ⟨its, r', pl, hz⟩ := I.tuple hq
    exact call_tuple_same pl ⟨.ref p, H, I, rfl, q⟩

def tyV (K : PySem.W.Frag) (T : String) (x : V) (H : Hp) : Prop := match x with
  | .str _ => T = "str"
  | .int _ => T = "int"
  | .ref p => (T = "list" ∧ ∃ xs, SqL K H p xs) ∨ (T = "tuple" ∧ ∃ o, K.lookup p = some o ∧ o.cls = .type "tuple" ∧ o.dict = none) ∨
      (T = "dict" ∧ ((∃ kvs, H p = some (.dK kvs)) ∨ ∃ kvs, H p = some (.dT kvs))) ∨ (T = "set" ∧ ∃ S n, H p = some (.set S n))
  | _ => False
theorem tyV_is {pins : List (Addr × Obj)} {σ : St} {H : Hp} {s : Shared} {T : String} {x : V} {v : Value} (I : Inv X pins σ H s) (r : RelV x v) (ty : tyV X.K T x H) :
    s.TypeIs v T ∧ ∀ a, v = .ref a → ∃ ob, s.heap.get? a = some ob ∧ ob.dict = none := by
  cases x with
  | str z =>
    obtain ⟨t, rfl⟩ := r
    cases (show T = "str" from ty)
    exact ⟨typeIs_str s z t, fun _ e => nomatch e⟩
  | int i =>
    obtain ⟨t, rfl⟩ := r
    cases (show T = "int" from ty)
    exact ⟨typeIs_int s i t, fun _ e => nomatch e⟩
  | ref p =>
    cases r
    rcases ty with ⟨rfl, xs, hq⟩ | ⟨rfl, o, hk, hc, hd⟩ | ⟨rfl, hk⟩ | ⟨rfl, S, n, hk⟩
    · obtain ⟨its, _, pl, _⟩ := I.list hq
      refine ⟨pl.isList.typeIs, fun a e => ?_⟩
      cases e
      obtain ⟨o, n, e, c, hd, _⟩ := pl
      exact ⟨o, e, hd⟩
    · refine ⟨⟨o, I.kIn p o hk, hc⟩, fun a e => ?_⟩
      cases e
      exact ⟨o, I.kIn _ o hk, hd⟩
    · have z : ∃ o, s.heap.get? p = some o ∧ o.ExactDict := by
        rcases hk with ⟨kvs, hk⟩ | ⟨kvs, hk⟩
        · obtain ⟨_, _, _, _, o, _, _, e, ex, _⟩ := I.hok p _ hk
          exact ⟨o, e, ex⟩
        · obtain ⟨_, _, _, _, o, _, _, e, ex, _⟩ := I.hok p _ hk
          exact ⟨o, e, ex⟩
      obtain ⟨o, e, ex⟩ := z
      refine ⟨⟨o, e, ex.1⟩, fun a e2 => ?_⟩
      cases e2
      exact ⟨o, e, ex.2.1⟩
    · obtain ⟨o, _, _, _, e, ex, _⟩ := I.hok p _ hk
      refine ⟨⟨o, e, ex.1⟩, fun a e2 => ?_⟩
      cases e2
      exact ⟨o, e, ex.2.1⟩
  | _ => exact False.elim ty
def tBM0 (K : PySem.W.Frag) (T : String) (r : V → List V → Hp → VK → Prop) (to : TE) : TE := fun σ H Q => to σ H fun x H1 => tyV K T x H1 ∧ r x [] H1 Q
def tBM (K : PySem.W.Frag) (T : String) (r : V → List V → Hp → VK → Prop) (to : TE) (t : TA) : TE := fun σ H Q => to σ H fun x H1 => tyV K T x H1 ∧ t σ H1 fun xs H2 => r x xs H2 Q
variable {o e : Expr} {es : List Expr} {to : TE} {t : TA} {name : Str} {apos cpos : Pos} {T id : String} {r : V → List V → Hp → VK → Prop}
theorem pe_bm0 (pa : PlainAttrs T) (slot : Slot T name id) (hty : typeOf (.builtin id) = pure (.type "method_descriptor")) (hm : MtR X id r) (ho : PE X o to)
    (hbase : attributeBase o name X.env (eval o X.env) = eval o X.env := by rfl) (hline : (apos.endLine == cpos.line) = true := by rfl) : PE X (.Call (.Attribute o name apos) [] [] cpos) (tBM0 X.K T r to) := by
  intro pins s σ H Q I h
  refine wpAny_Call_method0_late hbase hline (thn (ho pins s σ H _ I h) fun v s1 ⟨x, H1, I1, r1, ty, q1⟩ => ?_)
  obtain ⟨h1, h2⟩ := tyV_is I1 r1 ty
  exact ⟨T, id, pa, slot, hty, h1, h2, Calls.callWith_builtin rfl (PySem.evalArgs_none (hm pins s1 σ H1 x [] v [] Q I1 r1 .nil q1))⟩
theorem pe_bm (pa : PlainAttrs T) (slot : Slot T name id) (hty : typeOf (.builtin id) = pure (.type "method_descriptor")) (hm : MtR X id r) (ho : PE X o to) (ha : PA X (e :: es) t)
    (hbase : attributeBase o name X.env (eval o X.env) = eval o X.env := by rfl)
    (hfew : ((backTo cpos (starEach (e :: es) X.env)).all (fun x => !x.1) && (backToKw cpos (keywordEach [] X.env)).all (fun x => x.1.isSome)
      && decide ((e :: es).length + ([] : List Keyword).length + (if ([] : List Keyword).isEmpty then 0 else 1) < 30)) = true := by rfl)
    (hline : (apos.endLine == cpos.line) = true := by rfl) (hs : starEach (e :: es) X.env = (false, eval e X.env) :: starEach es X.env := by rfl) (hplain : (backTo cpos (starEach es X.env)).any (·.1) = false := by rfl) :
    PE X (.Call (.Attribute o name apos) (e :: es) [] cpos) (tBM X.K T r to t) := by
  intro pins s σ H Q I h
  refine wpAny_Call_method_late hbase hfew hline rfl (thn (ho pins s σ H _ I h) fun v s1 ⟨x, H1, I1, r1, ty, q1⟩ => ?_)
  obtain ⟨h1, h2⟩ := tyV_is I1 r1 ty
  refine ⟨T, id, pa, slot, hty, h1, h2, ?_⟩
  have hA := ha cpos pins s1 σ H1 _ I1 q1
  rw [hs] at hA ⊢
  refine Calls.callWith_builtin (by show (false || (backTo cpos (starEach es X.env)).any (·.1)) = false; rw [hplain] <;> rfl) (Calls.evalArgs_plain ?_)
  exact thn hA fun us s2 ⟨vs, H2, I2, r2, q2⟩ => hm pins s2 σ H2 x vs v us Q I2 r1 r2 q2
end
end L2

namespace L2
open PySem PySem.Spec PyProof.Rows

def MtM (X : Cx) (id : String) (r : V → List V → Hp → VK → Prop) : Prop :=
  ∀ (pins : List (Addr × Obj)) (s : Shared) (σ : St) (H : Hp) (x : V) (xs : List V) (v : Value) (us : List Value) (Q : VK), Inv X pins σ H s → RelV x v → Vals xs us → r x xs H Q →
    wpAny (model X.prog X.w) X.A (call (.builtin id) (v :: us)) (EP X pins σ Q) X.xe s

theorem Vals.one : ∀ {x : V} {us : List Value}, Vals [x] us → ∃ u, us = [u] ∧ RelV x u
  | _, _, .cons r .nil => ⟨_, rfl, r⟩
theorem Vals.zero : ∀ {us : List Value}, Vals [] us → us = []
  | _, .nil => rfl
theorem Vals.dropLast {xs : List V} {us : List Value} (h : Vals xs us) : Vals xs.dropLast us.dropLast := by
  induction h with
  | nil => exact .nil
  | cons r t ih =>
    cases t with
    | nil => exact .nil
    | cons q t' => exact .cons r ih
theorem Vals.reverse {xs : List V} {us : List Value} (h : Vals xs us) : Vals xs.reverse us.reverse := by
  induction h with
  | nil => exact .nil
  | cons r t ih => rw [List.reverse_cons, List.reverse_cons]; exact Vals.append ih (.cons r .nil)
theorem erase_last {α : Type} (l : List α) : l.eraseIdx (l.length - 1) = l.dropLast := by
  induction l with
  | nil => rfl
  | cons a r ih =>
    cases r with
    | nil => rfl
    | cons b r =>
      have e : (a :: b :: r).length - 1 = ((b :: r).length - 1) + 1 := by
        have h1 : (a :: b :: r).length = r.length + 2 := rfl
        have h2 : (b :: r).length = r.length + 1 := rfl
        omega
      rw [e, List.eraseIdx_cons_succ, ih]
      all_goals rfl
section
variable {X : Cx} {pins : List (Addr × Obj)} {σ : St} {H : Hp} {s : Shared} {l b : Addr} {xs ys zs : List V}

theorem Inv.lset {its its' : List Value} {n : Nat} {f : Array Value → Array Value} {t' : Nat} (I : Inv X pins σ H s) (hH : H l = some (.lst xs))
    (e : s.heap.get? l = some { cls := .type "list", data := .seq its.toArray n }) (hf : f its.toArray = its'.toArray) (hv : Vals ys its') (hz : ys.length ≤ sizeLine) :
    Inv X pins σ (upd H l (.lst ys)) { s with heap := s.heap.update l (Obj.mapSeq f), toks := t' } := by
  have q := PySem.IsL.update e f
  rw [hf] at q
  refine I.write (x := l) (e := l) (by rw [hH]; exact trivial) (.inl rfl) (fun b' u hb hu => (Heap.get?_update_other s.heap (Obj.mapSeq f) (Ne.symm hb)).trans hu) ⟨_, q⟩ ?_
  exact ⟨hz, its', _, hv, q⟩
theorem Inv.lstM (I : Inv X pins σ H s) (hH : H l = some (.lst xs)) : xs.length ≤ sizeLine ∧ ∃ (its : List Value) (n : Nat), Vals xs its ∧ xs.length = its.length ∧ s.heap.get? l = some { cls := .type "list", data := .seq its.toArray n } := by
  obtain ⟨z, its, n, r, e⟩ := I.hok l _ hH
  exact ⟨z, its, n, r, r.length, e⟩

theorem notLongL {n : Nat} (h : n ≤ sizeLine) : Builtin.List.listTooLong n = false := by
  unfold Builtin.List.listTooLong
  exact decide_eq_false (by omega)
end

section
variable {X : Cx}

def rAppend : V → List V → Hp → VK → Prop := fun x vs H Q => ∃ l xs y, x = .ref l ∧ vs = [y] ∧ H l = some (.lst xs) ∧ xs.length < sizeLine ∧ Q .non (upd H l (.lst (xs ++ [y])))
theorem mt_append : MtM X "list.append" rAppend := by
  intro pins s σ H x vs v us Q I rx rv h
  obtain ⟨l, xs, y, rfl, rfl, hH, hz, q⟩ := h
  cases rx
  obtain ⟨u, rfl, ru⟩ := rv.one
  obtain ⟨z, its, n, r, hl, e⟩ := I.lstM hH
  refine call_meets F.slot_list_append ⟨_, e, rfl⟩ F.entry_list_append (F.args_list_append_2 _ _) (PySem.list_append l its.toArray n u (by rw [List.size_toArray]; omega)) ⟨e, ?_⟩
  refine ⟨.non, _, I.lset (its' := its ++ [u]) hH e (by simp) (r.append (.cons ru .nil)) ?_, rfl, q⟩
  rw [List.length_append, List.length_singleton]
  omega

def rExtend : V → List V → Hp → VK → Prop := fun x vs H Q => ∃ l b xs zs, x = .ref l ∧ vs = [.ref b] ∧ H l = some (.lst xs) ∧ H b = some (.lst zs) ∧ xs.length + zs.length ≤ sizeLine ∧ Q .non (upd H l (.lst (xs ++ zs)))
theorem mt_extend : MtM X "list.extend" rExtend := by
  intro pins s σ H x vs v us Q I rx rv h
  obtain ⟨l, b, xs, zs, rfl, rfl, hH, hB, hz, q⟩ := h
  cases rx
  obtain ⟨u, rfl, ru⟩ := rv.one
  cases ru
  obtain ⟨z, its, n, r, hl, e⟩ := I.lstM hH
  obtain ⟨z2, its2, n2, r2, hl2, e2⟩ := I.lstM hB
  have hsz : its.toArray.size + its2.toArray.size ≤ sizeLine := by rw [List.size_toArray, List.size_toArray]; omega
  have hlong : ¬ (!its.toArray.isEmpty && Builtin.List.listTooLong (its.toArray.size + its2.toArray.size)) = true := by
    rw [notLongL hsz, Bool.and_false]
    exact Bool.false_ne_true
  refine call_meets F.slot_list_extend ⟨_, e, rfl⟩ F.entry_list_extend (F.args_list_extend_2 _ _)
    (AutoSeq1.list_extend_list_list_0 l its.toArray n b its2.toArray n2 hlong (by rw [List.size_toArray]; omega) (by omega)) ⟨e, e2, ?_⟩
  refine ⟨.non, _, I.lset (its' := its ++ its2) hH e (by simp) (r.append r2) ?_, rfl, q⟩
  rw [List.length_append]
  omega

def rPop : V → List V → Hp → VK → Prop := fun x vs H Q => ∃ l xs y, x = .ref l ∧ vs = [] ∧ H l = some (.lst xs) ∧ xs[xs.length - 1]? = some y ∧ Q y (upd H l (.lst xs.dropLast))
theorem mt_pop : MtM X "list.pop" rPop := by
  intro pins s σ H x vs v us Q I rx rv h
  obtain ⟨l, xs, y, rfl, rfl, hH, hy, q⟩ := h
  cases rx
  have hus := rv.zero
  subst hus
  obtain ⟨z, its, n, r, hl, e⟩ := I.lstM hH
  obtain ⟨u, hu, ru⟩ := r.get hy
  have hy' : its.toArray[its.toArray.size - 1]? = some u := by
    show its.toArray[its.length - 1]? = some u
    rw [← Array.getElem?_toList, ← hl]
    exact hu
  refine call_meets F.slot_list_pop ⟨_, e, rfl⟩ F.entry_list_pop (F.args_list_pop_1 _) (MeetsSeq.list_pop_last l its.toArray n u hy' (by rw [List.size_toArray]; omega)) ⟨e, ?_⟩
  refine ⟨y, _, I.lset (its' := its.dropLast) hH e ?_ r.dropLast ?_, ru, q⟩
  · show its.toArray.eraseIdxIfInBounds (its.toArray.size - 1) = its.dropLast.toArray
    rw [List.size_toArray, List.eraseIdxIfInBounds_toArray, erase_last]
  · rw [List.length_dropLast]
    omega

def rReverse : V → List V → Hp → VK → Prop := fun x vs H Q => ∃ l xs, x = .ref l ∧ vs = [] ∧ H l = some (.lst xs) ∧ Q .non (upd H l (.lst xs.reverse))
theorem mt_reverse : MtM X "list.reverse" rReverse := by
  intro pins s σ H x vs v us Q I rx rv h
  obtain ⟨l, xs, rfl, rfl, hH, q⟩ := h
  cases rx
  have hus := rv.zero
  subst hus
  obtain ⟨z, its, n, r, hl, e⟩ := I.lstM hH
  refine call_meets F.slot_list_reverse ⟨_, e, rfl⟩ F.entry_list_reverse (F.args_list_reverse_1 _) (AutoSeq1.list_reverse_list_0 l its.toArray n (by rw [List.size_toArray]; omega)) ⟨e, ?_⟩
  refine ⟨.non, _, I.lset (its' := its.reverse) hH e (by simp) r.reverse ?_, rfl, q⟩
  rw [List.length_reverse]
  omega

end

section
variable {prog : Program} {w : World} {A : Around} {E : Value → Shared → Prop} {s : Shared}
end

section
variable {X : Cx}
end
end L2

namespace Att
open PySem PySem.W PySem.Calls PyProof.Rows

theorem ints_of_wellAll {P : Params} {h : Heap} : ∀ (ns : List Int) (vs : List Value), WellAll P h vs (ns.map WData.int) → IntsAre vs ns := by
  intro ns
  induction ns with
  | nil =>
    intro vs w
    rw [List.map_nil] at w
    cases w
    exact .nil
  | cons n ns ih =>
    intro vs w
    rw [List.map_cons] at w
    cases w with
    | cons a b =>
      cases a
      exact .cons _ _ (ih _ b)

theorem script_of {l : OpenLaw} {n : Nat} (hn : l.most = some n) {P : Params} {h : Heap} {args : List WData} {vals : List Value}
    (hpre : l.row.toRowW.claim.pre args = true) (hwl : WellAll P h vals args) :
    ∃ a vs ns, vals = [Value.ref a] ∧ args = [WData.list (ns.map WData.int)] ∧ h.get? a = some { cls := .type "list", data := .seq vs.toArray } ∧ IntsAre vs ns ∧ ns.length ≤ n := by
  have hsh : WShape.hasAll [] args [.list .int] = true := (pre_splitW hpre).1
  have hc : l.pre.holds [] { args := args } = true := (pre_splitW hpre).2
  obtain ⟨d, r, rfl, h1, h2⟩ := hasAllW_cons hsh
  obtain rfl := hasAllW_nil h2
  obtain ⟨xs, rfl, h3⟩ := hasW_list h1
  obtain ⟨ns, rfl⟩ := items_int h3
  have hlen : ns.length ≤ n := by
    unfold OpenLaw.pre at hc
    have h4 : (WTm.not (.lt (.lit (.int (n : Int))) (.len (.arg 0)))).holds [] { args := [.list (ns.map .int)] } = true := by
      have h4 := (holds_andW hc).1
      rw [hn] at h4
      exact h4
    have h5 := condW_of h4 (w_not (w_lt w_lit (w_len_list (w_arg rfl))))
    rw [List.length_map] at h5
    refine Nat.le_of_not_lt fun q => ?_
    have q' : (n : Int) < ((ns.length : Nat) : Int) := by omega
    first
      | (rw [decide_eq_true q'] at h5; exact absurd h5 (by decide))
      | (simp at h5; omega)
  cases hwl with
  | cons w1 w2 =>
    cases w2
    cases w1 with
    | list ho hall => exact ⟨_, _, ns, rfl, rfl, ho, ints_of_wellAll ns _ hall, hlen⟩

theorem post_true (l : OpenLaw) (args : List WData) : l.row.toRowW.claim.post args (.bool true) args = true :=
  postW_of (r := l.row.toRowW) (X := (true == true))
    (show WShape.has [] (.bool true) .bool = true by first | rfl | decide | simp [WShape.has, WShape.arms, WShape.armsAll])
    (show (WTm.eq .res (.lit (.bool true))).value [] { args := args, res := some (.bool true), after := args } = some (.bool (true == true)) from w_eq_bool (w_res rfl) w_lit) rfl

theorem attach_call {l : OpenLaw} {n : Nat} {q : Program} {loose : List Str} {XP : (Str → Option Value) → Heap → Prop} {YP : World → Heap → Prop} {d : DefRec}
    (hn : l.most = some n) (hdf : d.params.defaults = [])
    (call : ∀ (w : World) (s₀ s₁ : Shared) (mg mb : Str → Option Value) (fa : Addr) (o : Obj) (pm cd doc : Value) (a : Addr) (vs : List Value) (ns : List Int),
      Ground q loose [] XP w s₀ mg mb s₁.heap → YP w s₁.heap →
      s₁.heap.get? fa = some o → o.data = .func (docDef d.name d.params d.body d.scope pm cd doc) → s₁.heap.CodeRec cd d.name → mg d.name = some (.ref fa) →
      s₁.heap.get? a = some { cls := .type "list", data := .seq vs.toArray } → IntsAre vs ns → ns.length ≤ n → s₁.gens = #[] →
      codeAny (model l.prog w) callerA (.call (.ref fa) ⟨[.ref a], []⟩) (fun r s' => r = .ok (.ret (.bool true)) ∧ OldK s₁.heap s'.heap ∧ s'.os = s₁.os ∧ AllBare s'.gens) s₁) :
    WalkO q loose XP YP l.row.toRowW d [] (fun f vs => PySem.call f vs) := by
  intro w s₀ s₁ mg mb G Y fa o pm cd doc dV kV ho hd hcd hD hmg hg args vals as hpre hlay hrd hwl hlo
  obtain rfl : dV = .none := Dflts.none hD hdf
  obtain rfl : kV = .none := Dflts.noKw hD
  obtain ⟨a, vs, ns, rfl, rfl, hobj, hints, hlen⟩ := script_of hn hpre hwl
  refine enter_call (codeAny_mono (call w s₀ s₁ mg mb fa o pm cd doc a vs ns G Y ho (fd_plain hd) hcd hmg hobj hints hlen hg) fun r s' hq => ?_)
  obtain ⟨rfl, h2, h3, h4⟩ := hq
  exact ⟨.inl ⟨.bool true, .bool true, [], rfl, fun _ => rfl, .bool true, post_true l _, fun _ => ⟨List.Pairwise.nil, fun _ hm => (nomatch hm)⟩⟩, h2, h3, h4⟩

section
variable {prog : Program} {w : World} {A : Around} {E : Value → Shared → Prop} {s : Shared} {K : Frag}

theorem get_field {x C : Addr} {ox : Obj} {es : List DictEntry} {n : Nat} {name : Str} {expr : Bool} {v : Value} {Q : Value → Shared → Prop}
    (X : K.In s.heap) (I : PySem.W.InstAt s.heap x ox C (some (dictOf es n))) (hg : plainGet K C name = true) (hh : hasDictIn K C = true) (ha : findIn K (.ref C) name = some none)
    (hl : getL name es = some (some v)) (hv : handedIn v = true) (h : Q v { s with toks := s.toks + 1 }) : wpAny (model prog w) A (getAttr (.ref x) name expr) Q E s :=
  get_value X I (plainGet_of hg).1 (findObj_own hh ha rfl hl) hv h

end
end Att

namespace L2
open PySem PySem.Spec PyProof.Rows

theorem vals_ints : ∀ {vs : List Value} {ns : List Int}, IntsAre vs ns → Vals (ns.map V.int) vs
  | _, _, .nil => .nil
  | _, _, .cons n t h => .cons ⟨t, rfl⟩ (vals_ints h)

end L2

namespace L2
open PySem PySem.Spec PyProof.Rows

end L2



namespace L2
open PySem PySem.Spec PyProof.Rows

def inClass (s : Stmt) (j : Nat) : Stmt := match s with
  | .ClassDef _ _ _ body _ _ _ _ _ _ _ => body.getD j (.Pass ⟨0, 0, 0, 0⟩)
  | _ => .Pass ⟨0, 0, 0, 0⟩
def defArgs (s : Stmt) : Arguments := match s with
  | .FunctionDef _ a _ _ _ _ _ _ _ _ => a
  | _ => { posonlyargs := [], args := [], vararg := none, kwonlyargs := [], kw_defaults := [], kwarg := none, defaults := [] }
def defBody (s : Stmt) : List Stmt := match s with
  | .FunctionDef _ _ b _ _ _ _ _ _ _ => b
  | _ => []
def defScope (s : Stmt) : Scope := match s with
  | .FunctionDef _ _ _ _ _ _ sc _ _ _ => sc
  | _ => { kind := .function, names := [], isGenerator := false, isCoroutine := false }

abbrev CX0 : CXT := fun _ _ _ _ _ _ => False
abbrev E0 : XK := fun _ _ _ => False
theorem pass0 {X : Cx} : Passes CX0 X E0 := fun _ _ _ _ _ _ _ h => h.elim

structure Fun (K : PySem.W.Frag) (x qual : Str) (st : Stmt) (f : Addr) (fd : FuncData) : Prop where
  ex : ∃ (oc : Value) (od : Option Addr) (kV doc pm : Value) (an : Option Addr) (cdv ct : Value) (osl : Array (Option Value)),
    fd = PySem.W.fnOf x qual (defArgs st) (defBody st) (defScope st) .none kV doc pm an cdv ct ∧ K.lookup f = some ⟨oc, od, .func fd, osl⟩ ∧ PySem.W.codeIn K cdv qual = true
  kp : PySem.W.keepIn K (.ref f) = true
section
variable {P : Program} {w : World} {K : PySem.W.Frag} {mg : Str → Option Value} {base : Heap}
theorem Fun.ok {x qual : Str} {st : Stmt} {f : Addr} {fd : FuncData} {N ps : List Str} {k : Nat} {sp : Sp} (F : Fun K x qual st f fd) (S : FnScope N ps (defScope st)) (len : ∀ vs H Q E, sp vs H Q E → vs.length = ps.length)
    (hbody : ∀ (cdv : Value) (A : Around) (outer : List Env) (s : Shared) (H : Hp) (vs : List V) (Q : VK) (E : XK), Room k (A.deeper (envOfC qual (defScope st) s.heap.objs.size f cdv)) → sp vs H Q E →
      ∃ t, PSs (cxOf CX0 P w K mg base N qual (defScope st) f cdv A outer s H E).nox (defBody st) t ∧ t { nx := fun _ H' => Q .non H', rt := Q } (start N vs) H) : FnOk P w K mg base CX0 (k + 1) f fd ps sp := by
  obtain ⟨oc, od, kV, doc, pm, an, cdv, ct, osl, rfl, lk, hcd⟩ := F.ex
  refine fn_of lk hcd S len fun A outer s H vs Q E hr hsp => ?_
  obtain ⟨t, h, q⟩ := hbody cdv A outer s H vs Q E hr hsp
  exact ⟨t, h.nox, q⟩
theorem Fun.binds {x qual : Str} {st : Stmt} {f : Addr} {fd : FuncData} {ps : List Str} (F : Fun K x qual st f fd)
    (h : ∀ (kV doc pm : Value) (an : Option Addr) (cdv ct : Value) (us : List Value), us.length = ps.length → bindArgs (PySem.W.fnOf x qual (defArgs st) (defBody st) (defScope st) .none kV doc pm an cdv ct) ⟨us, []⟩ = pure (ps.zip us)) : Binds K fd ps [] := by
  obtain ⟨oc, od, kV, doc, pm, an, cdv, ct, osl, rfl, lk, hcd⟩ := F.ex
  exact .all (h kV doc pm an cdv ct)
theorem fun_mk {x qual : Str} {st : Stmt} {f : Addr} {oc : Value} {od an : Option Addr} {osl : Array (Option Value)} {kV doc pm cdv ct : Value} (l : K.lookup f = some ⟨oc, od, .func (PySem.W.fnOf x qual (defArgs st) (defBody st) (defScope st) .none kV doc pm an cdv ct), osl⟩)
    (c : PySem.W.codeIn K cdv qual = true) (k : PySem.W.keepIn K (.ref f) = true) : Fun K x qual st f (PySem.W.fnOf x qual (defArgs st) (defBody st) (defScope st) .none kV doc pm an cdv ct) := ⟨⟨oc, od, kV, doc, pm, an, cdv, ct, osl, rfl, l, c⟩, k⟩
end
theorem small1000 {n : Nat} (h : n ≤ 1000) : n < sizeLine := Nat.lt_of_le_of_lt h (by decide)

section
variable {X : Cx}
end

def Same (H H' : Hp) : Prop := ∀ b o, H b = some o → H' b = some o
theorem Same.refl (H : Hp) : Same H H := fun _ _ h => h
theorem Same.trans {H H1 H2 : Hp} (a : Same H H1) (b : Same H1 H2) : Same H H2 := fun c o h => b c o (a c o h)
theorem Same.free {H H' : Hp} (e : Same H H') {l : Addr} (h : H' l = Option.none) : H l = Option.none := by
  cases q : H l with
  | none => rfl
  | some o =>
    rw [e l o q] at h
    cases h
end L2

namespace L2
open PySem PySem.Spec PyProof.Rows

section
variable {X : Cx} {pins : List (Addr × Obj)} {σ : St} {H : Hp} {s : Shared}
theorem Inv.adopt {D : Addr} {o : HO} (I : Inv X pins σ H s) (hn : H D = none) (hL : D ≠ X.env.locals)
    (h1 : D ∈ X.ex ∨ X.s₀.heap.objs.size ≤ D) (h2 : ∀ x c, X.env.cells.lookup x = some c → c ≠ D) (h3 : ∀ p ∈ X.pn ++ pins, p.1 ≠ D)
    (new : ObjOk X.prog X.w (upd H D o) s.heap D o) : Inv X pins σ (upd H D o) s := by
  have nit : ∀ b u, H b = some u → b ≠ D := fun b u e z => by rw [z, hn] at e; cases e
  have keep : ∀ b u, H b = some u → upd H D o b = some u := fun b u e => by rw [upd_ne (nit b u e)]; exact e
  refine I.step (h' := s.heap) (g' := s.gens) (d' := s.drawn) (t' := s.toks) (ch := [D]) (fun b hb => ?_) (fun b o _ _ _ e _ => e) (fun b o _ _ _ e _ => ⟨o.slots, e⟩) (fun b u hc e n => ?_)
    (fun b o _ e => ⟨o, e⟩) (fun b xs e => keep b _ e) (fun b o u e => keep b _ e) (fun b ps e => ⟨#[], by rw [keep b _ e]; simp⟩) (fun m hm => hm) (fun b u e => ?_) I.bare
  · have e : b = D := by simpa using hb
    subst e
    exact ⟨h1, hL, h2, h3⟩
  · rw [upd_ne (fun z => hc (by simp [z]))]; exact n
  · by_cases hb : b = D
    · subst hb; rw [upd_same] at e; cases e; exact new
    · rw [upd_ne hb] at e
      exact (I.hok b u e).stay (fun c v _ q => q) (fun c q => keep c _ q) fun c xs q => keep c _ q
end

def cxComp (X : Cx) (N : List Str) (scope : Scope) (cl : List (Str × Addr)) (fp : List Addr) (C : Addr) (s : Shared) (H : Hp) : Cx :=
  { X with N := N, s₀ := s, H₀ := H, env := compEnvC scope cl C X.env, outer := X.stack, ex := fp, fn := fun _ => false, pn := [], xe := fun _ _ => False }

def FrOk (X : Cx) (scope : Scope) (cl : List (Str × Addr)) : List Str → Prop
  | [] => True
  | x :: r => (X.env.kindOf x = some .cell ∧ (relabel scope X.env).names.lookup x = some .cell ∧ ∃ c, cl.lookup x = some c ∧ X.env.cells.lookup x = some c) ∧ FrOk X scope cl r
theorem FrOk.mem {X : Cx} {scope : Scope} {cl : List (Str × Addr)} : ∀ {l : List Str}, FrOk X scope cl l → ∀ x ∈ l,
    X.env.kindOf x = some .cell ∧ (relabel scope X.env).names.lookup x = some .cell ∧ ∃ c, cl.lookup x = some c ∧ X.env.cells.lookup x = some c
  | [], _, _, h => nomatch h
  | y :: r, ⟨h1, h2⟩, x, h => by
    rcases List.mem_cons.mp h with e | e
    · subst e; exact h1
    · exact FrOk.mem h2 x e
def ClOk (X : Cx) : List (Str × Addr) → Prop
  | [] => True
  | p :: r => X.env.cells.lookup p.1 = some p.2 ∧ ClOk X r
theorem ClOk.get {X : Cx} : ∀ {l : List (Str × Addr)}, ClOk X l → ∀ x c, l.lookup x = some c → X.env.cells.lookup x = some c
  | [], _, _, _, h => by simp at h
  | p :: r, ⟨h1, h2⟩, x, c, h => by
    obtain ⟨n, a⟩ := p
    cases e : x == n with
    | true =>
      have e' : x = n := by simpa using e
      subst e'
      simp only [List.lookup_cons, e] at h
      cases h
      exact h1
    | false =>
      simp only [List.lookup_cons, e] at h
      exact ClOk.get h2 x c h

structure CompOk (X : Cx) (N tgs frs : List Str) (ix : List Nat) (scope : Scope) (cl : List (Str × Addr)) : Prop where
  clos : closureFor scope X.env = pure cl
  cell : ∀ y ∈ scope.names, y.2 ≠ .cell
  kind : scope.kind = .function
  names : ∀ y ∈ scope.names, y.2 = .local → scope.names.lookup y.1 = some .local
  nm : N = tgs ++ frs
  ixs : ix.map (X.N[·]?) = frs.map some
  fr : FrOk X scope cl frs
  cls : ClOk X cl
  has : (relabel scope X.env).names.all (fun p => !(p.2 == .cell || p.2 == .free) || (cl.lookup p.1).isSome) = true

def stComp (tgs : List Str) (ix : List Nat) (σ : St) : St := List.replicate tgs.length none ++ ix.map fun j => (σ[j]?).getD none

section
variable {X : Cx} {N tgs frs : List Str} {ix : List Nat} {scope : Scope} {cl : List (Str × Addr)}

theorem stComp_get {σ : St} {i : Nat} {x : Str} {v : V} (c : CompOk X N tgs frs ix scope cl) (h1 : N[i]? = some x) (h2 : (stComp tgs ix σ)[i]? = some (some v)) : x ∈ frs ∧ ∃ j : Nat, X.N[j]? = some x ∧ σ[j]? = some (some v) := by
  unfold stComp at h2
  by_cases hi : i < tgs.length
  · rw [List.getElem?_append_left (by simpa using hi), List.getElem?_replicate, if_pos hi] at h2
    cases h2
  · rw [List.getElem?_append_right (by simpa using hi), List.length_replicate, List.getElem?_map] at h2
    rw [c.nm, List.getElem?_append_right (by omega)] at h1
    have e := congrArg (·[i - tgs.length]?) c.ixs
    simp only [List.getElem?_map, h1] at e
    cases q : ix[i - tgs.length]? with
    | none => rw [q] at e; cases e
    | some j =>
      rw [q] at e h2
      simp only [Option.map_some, Option.some.injEq] at e h2
      refine ⟨List.mem_of_getElem? h1, j, e, ?_⟩
      cases z : σ[j]? with
      | none => rw [z] at h2; cases h2
      | some o => rw [z] at h2; simp at h2; rw [h2]

theorem lookup_mem {l : List (Str × NameKind)} {x : Str} {k : NameKind} (h : l.lookup x = some k) : (x, k) ∈ l := PySem.mem_of_lookup h

theorem CompOk.hasOf (c : CompOk X N tgs frs ix scope cl) {x : Str} (h : (relabel scope X.env).names.lookup x = some .cell ∨ (relabel scope X.env).names.lookup x = some .free) : ∃ a, cl.lookup x = some a := by
  have all := List.all_eq_true.mp c.has
  rcases h with h | h
  · have q := all _ (lookup_mem h)
    exact Option.isSome_iff_exists.mp (by simpa only [beq_self_eq_true, Bool.true_or, Bool.not_true, Bool.false_or] using q)
  · have q := all _ (lookup_mem h)
    exact Option.isSome_iff_exists.mp (by simpa only [beq_self_eq_true, Bool.or_true, Bool.not_true, Bool.false_or] using q)

theorem inv_comp {pins : List (Addr × Obj)} {σ : St} {H : Hp} {s2 : Shared} {fp : List Addr} {h1 : Heap} {tk : Nat} {C : Addr} {m : Str → Option Value} (c : CompOk X N tgs frs ix scope cl) (I : Inv X pins σ H s2) (hf : ∀ b ∈ fp, FpOk X pins H b) (hfl : ∀ b ∈ fp, b < s2.heap.objs.size)
    (hC : s2.heap.objs.size ≤ C) (hns : h1.Ns C m) (hk : ∀ b o, s2.heap.get? b = some o → h1.get? b = some o) {pins' : List (Addr × Obj)}
    (hpin : ∀ p ∈ pins', h1.get? p.1 = some p.2 ∧ s2.heap.objs.size ≤ p.1 ∧ p.1 ≠ C ∧ ∀ v, p.2.data ≠ .cell v) :
    Inv (cxComp X N scope cl fp C s2 H) pins' (stComp tgs ix σ) H { s2 with heap := h1, toks := tk } := by
  have hcn : ∀ x a, cl.lookup x = some a → X.env.cells.lookup x = some a := c.cls.get
  have clt : ∀ x a, cl.lookup x = some a → a < s2.heap.objs.size := fun x a e => by
    obtain ⟨v, q⟩ := I.cell x a (hcn x a e)
    exact q.lt
  refine ⟨⟨I.ok.mod, c.kind, I.ok.glob, I.ok.blt, hC, fun x y a h1 h2 => I.ok.inj x y a (hcn _ _ h1) (hcn _ _ h2), fun x hx => c.hasOf hx, (fun x a z _ => Bool.noConfusion z), I.ok.hd, I.ok.frames, .inl rfl, fun b hb => ⟨?_, fun x a e => ?_⟩, I.bs, Nat.le_trans I.ok.bsz I.sz, fun b o e hb => ?_, fun b hb z => ?_, I.stack, I.stkFree⟩,
    rfl, I.bare, Un.kept hk, ⟨m, hns, fun i x v e1 e2 e3 => ?_⟩, fun x a e => ?_, I.hok.fresh hC, fun x a e => I.freeC x a (hcn x a e), fun p hp => ?_, I.hok.kept hk, ?_⟩
  · exact Nat.ne_of_lt (Nat.lt_of_lt_of_le (hfl b hb) hC)
  · exact (hf b hb).2.2.2.2.1 x a (hcn x a e)
  · rcases (hf b hb).2.2.2.1 with z | z
    · exact I.ok.noex b o e z
    · exact absurd (Nat.lt_of_lt_of_le (Heap.lt_size (I.ok.bs b o e).1) z) (Nat.lt_irrefl _)
  · rcases List.mem_cons.mp (I.stkSub b z) with e | e
    · exact (hf b hb).2.1 e
    · exact (hf b hb).2.2.1 e
  · obtain ⟨hx, j, n1, n2⟩ := stComp_get c e1 e2
    obtain ⟨k1, k2, a, l1, l2⟩ := c.fr.mem x hx
    obtain ⟨m', _, hl⟩ := I.loc
    obtain ⟨u, r, l⟩ := hl j x v n1 n2 (.inr (.inl k1))
    refine ⟨u, r, .inr ⟨.inl k2, a, l1, ?_⟩⟩
    rcases l with ⟨l, _⟩ | ⟨_, a', l3, o, l4, l5⟩
    · rw [k1] at l; cases l
    · rw [l2] at l3; cases l3
      exact ⟨o, hk _ _ l4, l5⟩
  · obtain ⟨v, o, q1, q2⟩ := I.cell x a (hcn x a e)
    exact ⟨v, o, hk _ _ q1, q2⟩
  · have hp' : p ∈ pins' := by simpa [cxComp] using hp
    obtain ⟨q1, q2, q3, q4⟩ := hpin p hp'
    exact ⟨q1, I.hok.fresh q2, q3, fun z => by
      rcases List.mem_cons.mp (I.stkSub p.1 z) with e | e
      · exact absurd (Nat.lt_of_lt_of_le I.lt q2) (by rw [e]; exact Nat.lt_irrefl _)
      · exact I.nofs q2 e, q4⟩
  · show (stComp tgs ix σ).length = N.length
    unfold stComp
    have e := congrArg List.length c.ixs
    simp only [List.length_map] at e
    rw [c.nm]; simp [e]

theorem compLoop_gen {prog : Program} {w : World} {A : Around} {R : Result → Shared → Prop} {s : Shared} {elt target iter : Expr} {pos : Pos} {it acc : Value} {env : Env} (I : Nat → Shared → Prop)
    (turn : ∀ n s, I n s → wpAny (model prog w) A (pyNext it) (fun r s1 => match r with
      | none => R (.ok .next) s1
      | some v => wpAny (model prog w) A (letOwnedTupleGo target it v) (fun _ s1' => wpAny (model prog w) A (assign target env v) (fun _ s2 => wpAny (model prog w) A (eval elt env) (fun x s3 =>
          wpAny (model prog w) A (call (.builtin "list.append") [acc, x]) (fun _ s4 => ∃ m, m < n ∧ I m s4) (fun _ _ => False) s3)
          (fun _ _ => False) s2) (fun _ _ => False) s1') (fun _ _ => False) s1) (fun _ _ => False) s)
    (n : Nat) (h : I n s) :
    codeAny (model prog w) A (.compLoop (.ListComp elt [⟨target, iter, [], 0⟩] scope pos) 0 it acc env) R s := by
  have up : ∀ {α : Type} {t : Sem α} {Q Q' : α → Shared → Prop} {E : Value → Shared → Prop} {s : Shared}, wpAny (model prog w) A t Q (fun _ _ => False) s → (∀ a s, Q a s → Q' a s) → wpAny (model prog w) A t Q' E s := fun h hq => wpAny_mono h hq fun _ _ f => f.elim
  refine codeAny_loop rfl I (fun n s hI => ?_) n h
  show wpAny _ _ ((compTurn (.ListComp elt [⟨target, iter, [], 0⟩] scope pos) 0 it acc env).onRaise (fun x => do noteFrame x env; theTreesLotGoes x)) _ _ s
  refine wpAny_noted ?_
  rw [compTurn_list1]
  refine wpAny_bind (wpAny_standAt (wpAny_bind (up (turn n s hI) (fun r s1 h1 => ?_))))
  cases r with
  | none => exact wpAny_pure h1
  | some v =>
    refine wpAny_bind (up h1 fun _ s1' h1' => ?_)
    exact wpAny_bind (up h1' (fun _ s2 h2 => wpAny_bind (wpAny_bind (up h2 (fun x s3 h3 => wpAny_bind (up h3
      (fun _ s4 h4 => wpAny_pure (wpAny_pure ⟨rfl, h4⟩))))))))

def tComp (wi : TI) (g : TG) (te : TE) (tgs : List Str) (ix : List Nat) : TE := fun σ H Q => wi σ H fun J H1 =>
  ∃ W : Nat → Nat → List V → St → Hp → Prop, (∃ m, W 0 m [] (stComp tgs ix σ) H1) ∧ ∀ i m xs σc H, W i m xs σc H → xs.length < sizeLine ∧
    ((J.stop i H ∧ ∀ p, H p = none → Q (.ref p) (upd H p (.lst xs))) ∨ (J.go i H ∧ ∀ x H', J.yld i H x H' → g x σc H' fun σ2 H2 => te σ2 H2 fun y H3 => ∃ m', m' < m ∧ W (i + 1) m' (xs ++ [y]) σ2 H3))

abbrev lstObj (us : List Value) (k : Nat) : Obj := { cls := .type "list", data := .seq us.toArray k }

theorem pe_comp {elt iter tg : Expr} {pos : Pos} {wi : TI} {g : TG} {te : TE} (c : CompOk X N tgs frs ix scope cl) (hc : X.calm = true) (hi : PI X tg iter wi)
    (hg : ∀ fp C s H, PG (cxComp X N scope cl fp C s H) tg g) (he : ∀ fp C s H, PE (cxComp X N scope cl fp C s H) elt te)
    (hs : ∀ x, foldedSetIterable iter X.env x = pure x := by intro _; rfl) :
    PE X (.ListComp elt [⟨tg, iter, [], 0⟩] scope pos) (tComp wi g te tgs ix) := by
  intro pins s σ H Q I h
  rw [eval_ListComp]
  refine wpAny_comprehension_free (use := none) rfl hs c.clos c.kind c.names (thn (hi pins s σ H _ I h) fun xv s1 h1 => thn h1 fun itv s2 h2 => ?_)
  obtain ⟨it, fp, tn, J, H2, rfl, I2, T, st2, f2, W, ⟨m0, w0⟩, turn⟩ := h2
  have hfl : ∀ b ∈ fp, b < s2.heap.objs.size := fun b hb => by
    obtain ⟨o, e, _⟩ := T.obj _ _ st2 b hb
    exact Heap.lt_size e
  have hcn : ∀ x a, cl.lookup x = some a → X.env.cells.lookup x = some a := c.cls.get
  refine wpAny_newObj_type (wpAny_newFunctionEnv c.cell (by intro y hy; simp at hy) (fun h1 hns1 hsb1 => ?_) c.kind)
  dsimp only at hns1 hsb1 ⊢
  generalize hH2 : s2.heap.push { cls := .type "list", dict := none, data := .seq ([] : List Value).toArray } = G2 at hns1 hsb1 ⊢
  have hC : G2.objs.size = s2.heap.objs.size + 1 := by rw [← hH2, Heap.size_push]
  generalize hCC : G2.objs.size = C at *
  generalize hDD : s2.heap.objs.size = D at *
  have hDC : D ≠ C := by omega
  have hCle : D ≤ C := by omega
  have old : ∀ b o, s2.heap.get? b = some o → h1.get? b = some o := fun b o e => by
    have lt : b < s2.heap.objs.size := Heap.lt_size e
    exact hsb1.extBut b o (Nat.ne_of_lt (Nat.lt_of_lt_of_le (hDD ▸ lt) hCle)) (Heap.get?_push_of_some _ (hH2 ▸ Heap.get?_push_of_some _ e))
  have hacc : h1.get? D = some (lstObj [] 0) := hsb1.extBut _ _ hDC (Heap.get?_push_of_some _ (hH2 ▸ (hDD ▸ Heap.get?_push_size _ rfl)))
  have cellD : ∀ x a, X.env.cells.lookup x = some a → a < D := fun x a e => by
    obtain ⟨v, q⟩ := I2.cell x a e
    exact hDD ▸ q.lt
  have fpc : ∀ {H' : Hp} {us : List Value} {k : Nat}, (∀ b ∈ fp, H' b = none) → ∀ b ∈ fp, FpOk (cxComp X N scope cl fp C s2 H2) [(D, lstObj us k)] H' b := fun {H' us k} hn b hb => by
    have lb := hfl b hb
    refine ⟨hn b hb, ?_, fun z => ?_, .inl hb, fun x a e z => ?_, fun p hp => ?_⟩
    · exact Nat.ne_of_lt (Nat.lt_of_lt_of_le lb hCle)
    · rcases List.mem_cons.mp (I2.stkSub b z) with e | e
      · exact (f2 b hb).2.1 e
      · exact (f2 b hb).2.2.1 e
    · exact (f2 b hb).2.2.2.2.1 x a (hcn x a e) z
    · have : p = (D, lstObj us k) := by simpa [cxComp] using hp
      rw [this]; exact Nat.ne_of_gt lb
  have D_fs : D ∉ (cxComp X N scope cl fp C s2 H2).fs := fun z => by
    rcases List.mem_cons.mp (I2.stkSub D z) with e | e
    · exact absurd I2.lt (by rw [← e, hDD]; exact Nat.lt_irrefl _)
    · exact I2.nofs (Nat.le_of_eq hDD) e
  have I3 := inv_comp (tk := s2.toks + ([] : List (Str × Value)).length) (pins' := [(D, lstObj [] 0)]) c I2 f2 (fun b hb => hDD ▸ hfl b hb) (hDD ▸ hCle : s2.heap.objs.size ≤ C) hns1 old (fun p hp => by
    have e : p = (D, lstObj [] 0) := by simpa using hp
    subst e
    exact ⟨hacc, Nat.le_of_eq hDD, hDC, fun v z => by cases z⟩)
  have tn3 : tn 0 h1 := T.keep _ _ _ st2 fun b _ o e => old b o e
  have loop : codeAny (model X.prog X.w) X.A (.compLoop (.ListComp elt [⟨tg, iter, [], 0⟩] scope pos) 0 (.ref it) (.ref D) (compEnvC scope cl C X.env))
      (compPost (model X.prog X.w) X.A X.xe none (EP X pins σ Q) (.ref D) C) { s2 with heap := h1, toks := s2.toks + ([] : List (Str × Value)).length } := by
    refine compLoop_gen (fun n s' => ∃ i xs us k σc H', Inv (cxComp X N scope cl fp C s2 H2) [(D, lstObj us k)] σc H' s' ∧ tn i s'.heap ∧ (∀ b ∈ fp, H' b = none) ∧ Vals xs us ∧ W i n xs σc H') ?_ m0
      ⟨0, [], [], 0, _, H2, I3, tn3, fun b hb => (f2 b hb).1, .nil, w0⟩
    rintro n s4 ⟨i, xs, us, k, σ4, H4, I4, tn4, fr4, rv, w4⟩
    obtain ⟨hsz, tt⟩ := turn i n xs σ4 H4 w4
    rcases tt with ⟨stop, fin⟩ | ⟨go, step⟩
    · refine thn (T.done (cxComp X N scope cl fp C s2 H2) rfl rfl rfl hc i _ s4 σ4 H4 _ I4 (fpc fr4) tn4 stop) fun r s5 ⟨hr, I5⟩ => ?_
      subst hr
      obtain ⟨m, ns, _⟩ := I5.loc
      refine ⟨m, ns, fun h' sb => ?_⟩
      have J1 : Inv X pins σ H4 s5 := I2.call' I5.os I5.base I5.hok I5.bare fun b hb => ⟨(f2 b hb).2.2.2.1, (f2 b hb).2.1, (f2 b hb).2.2.2.2.1, (f2 b hb).2.2.2.2.2⟩
      have big : ∀ a, D ≤ a → a ≠ X.env.locals ∧ (a ∈ X.ex ∨ X.s₀.heap.objs.size ≤ a) ∧ (∀ x y, X.env.cells.lookup x = some y → y ≠ a) ∧ ∀ p ∈ X.pn ++ pins, p.1 ≠ a := fun a ha => by
        obtain ⟨q0, q1, q2, q3, q4, q5⟩ := I2.fpOk (b := a) (H' := fun _ => none) (hDD ▸ ha) rfl
        exact ⟨q1, q3, q4, q5⟩
      obtain ⟨b1, b2, b3, b4⟩ := big C hCle
      have J2 : Inv X pins σ H4 { s5 with heap := h' } := J1.turned (t' := s5.toks) (fun b o hb e => sb.extBut b o hb e) I5.free b1 b2 b3 b4
      obtain ⟨p1, p2, p3, p4, p5⟩ := I5.pin (D, lstObj us k) (by simp)
      obtain ⟨d1, d2, d3, d4⟩ := big D (Nat.le_refl _)
      have J3 : Inv X pins σ (upd H4 D (.lst xs)) { s5 with heap := h' } := J2.adopt p2 d1 d2 d3 d4 ⟨Nat.le_of_lt hsz, us, k, rv, sb.extBut _ _ hDC p1⟩
      exact ⟨.ref D, _, J3, rfl, fin D p2⟩
    · refine thn (T.item (cxComp X N scope cl fp C s2 H2) rfl rfl rfl hc i _ s4 σ4 H4 _ I4 (fpc fr4) tn4 go) fun r s5 ⟨u, hr, h5⟩ => ?_
      subst hr
      refine thn h5 fun _ s6 ⟨x, H6, I6, r6, y6, tn6, fr6⟩ => ?_
      have I6' := I6.pinned (fpc fr6) (T.obj _ _ tn6)
      refine thn (hg fp C s2 H2 _ s6 σ4 H6 x u _ I6' r6 (step x H6 y6)) fun _ s7 ⟨σ7, H7, I7, q7⟩ => ?_
      refine thn (he fp C s2 H2 _ s7 σ7 H7 _ I7 q7) fun yv s8 ⟨y, H8, I8, r8, m', hm, w8⟩ => ?_
      obtain ⟨p1, p2, p3, p4, p5⟩ := I8.pin (D, lstObj us k) (by simp [cxComp])
      have hsz' : us.toArray.size ≤ sizeLine := by simp; rw [← rv.length]; exact Nat.le_of_lt hsz
      refine wpAny_list_append_plain (hsz := hsz') ⟨k, p1⟩ fun h' pl sb => ?_
      have tn8 : tn (i + 1) s8.heap := T.keep _ _ _ tn6 fun b hb o e => (I8.pin (b, o) (List.mem_append_right _ (List.mem_append_right _ (mem_pinsAt hb e)))).1
      have fr8 : ∀ b ∈ fp, H8 b = none := fun b hb => by
        obtain ⟨o, e, d⟩ := T.obj _ _ tn6 b hb
        exact (I8.pin (b, o) (List.mem_append_right _ (List.mem_append_right _ (mem_pinsAt hb e)))).2.1
      have I9 : Inv (cxComp X N scope cl fp C s2 H2) [] σ7 H8 s8 := I8.pins_of fun p hp => nomatch hp
      have I10 : Inv (cxComp X N scope cl fp C s2 H2) [] σ7 H8 { s8 with heap := h' } := I9.turned (t' := s8.toks) (it := D) (fun b o hb e => sb.extBut b o hb e) p2 p3 (.inr (Nat.le_of_eq hDD))
        (fun x a e => Nat.ne_of_lt (cellD x a (hcn x a e))) (fun p hp => by simp [cxComp] at hp)
      obtain ⟨k', pl⟩ := pl
      have eu : us.toArray.push yv = (us ++ [yv]).toArray := by simp
      rw [eu] at pl
      have I11 : Inv (cxComp X N scope cl fp C s2 H2) [(D, lstObj (us ++ [yv]) k')] σ7 H8 { s8 with heap := h' } := I10.pins_of fun p hp => by
        have e : p = (D, lstObj (us ++ [yv]) k') := by simpa using hp
        subst e
        exact ⟨pl, p2, p3, p4, fun v z => by cases z⟩
      exact ⟨m', hm, i + 1, xs ++ [y], us ++ [yv], k', σ7, H8, I11, T.keep _ _ _ tn8 fun b hb o e => sb.extBut b o (Nat.ne_of_lt (hfl b hb)) e, fr8, rv.append (.cons r8 .nil), w8⟩
  exact codeAny_compStart_list loop (T.self _ 0 _ _ _ tn3 loop)
end
end L2

namespace L2
open PySem PySem.Spec PyProof.Rows
section
variable {X : Cx}
def CDivL (i j : Int) : Prop := 0 < j ∧ j.natAbs.log2 < 9000
theorem log2_small {j : Int} (h0 : 0 < j) (h : j < 2 ^ 64) : j.natAbs.log2 < 9000 := by
  have : j.natAbs < 2 ^ 64 := by omega
  have h2 := (Nat.log2_lt (by omega : j.natAbs ≠ 0)).mpr this
  omega
theorem op_fdivL : OpR X (binaryOp .FloorDiv) (rI CDivL fun i j => .int (i / j)) := opI fun i j _ _ _ _ _ hc q => by
  have e : i.fdiv j = i / j := Int.fdiv_eq_ediv_of_nonneg _ (Int.le_of_lt hc.1)
  exact floordiv_int (Int.ne_of_gt hc.1) (by rw [e]; exact q) (.inl (PyProof.noPylong_of_log2 hc.2))

theorem call_sum (hc : X.calm = true) : CallR X (.builtin "sum") (fun xs H Q => ∃ (p : Addr) (ns : List Int), xs = [.ref p] ∧ SqL X.K H p (ns.map V.int) ∧ Q (.int ns.sum) H) := by
  intro pins s σ H xs us Q I r h
  obtain ⟨p, ns, rfl, hq, q⟩ := h
  obtain ⟨u, rfl, ru⟩ := vals1 r
  cases ru
  obtain ⟨its, rv, hp, hz⟩ := I.list hq
  have hi : IntsAre its ns := intsAre_of rv
  have hl := hp.isList
  obtain ⟨zs, hx⟩ := hi.allInts.items
  have hn : numsOf its.toArray.toList = ns := by rw [show its.toArray.toList = its from rfl, hi.numsOf]
  rw [hx] at hl hn
  rw [nums_intItems] at hn
  refine sum_intListG (I.ok.hd hc) hl fun h' tk t' hk => ?_
  refine ⟨.int ns.sum, H, I.kept hk, ⟨t', ?_⟩, q⟩
  rw [preSum_eq, List.take_of_length_le (by simp), hn]

example (K : PySem.W.Frag) : PySem.W.kitOne K (.type "int") (.type "int") = some true := rfl
example (K : PySem.W.Frag) : PySem.W.kitOne K (.type "int") (.type "bool") = some false := rfl
example (K : PySem.W.Frag) : PySem.W.kitOne K (.type "tuple") (.type "tuple") = some true := rfl
end
def nstar : Expr → Bool
  | .Starred .. => false
  | _ => true
theorem star_cons {e : Expr} {es : List Expr} {env : Env} (h : nstar e = true) : starEach (e :: es) env = (false, eval e env) :: starEach es env := by
  cases e <;> first | rfl | cases h
theorem star_any {pos : Pos} {env : Env} : ∀ {es : List Expr}, es.all nstar = true → (backTo pos (starEach es env)).any (·.1) = false
  | [], _ => rfl
  | e :: es, h => by
    rw [List.all_cons, Bool.and_eq_true] at h
    rw [star_cons h.1]
    exact star_any (es := es) h.2
section
variable {X : Cx} {CX : CXT} {k : Nat} {f : Addr} {fd : FuncData} {ps : List Str} {sp : Sp} {E : XK} {x : Str} {p pos apos cpos : Pos} {e o : Expr} {es : List Expr} {te to : TE} {t : TA} {id T : String} {name : Str}
theorem pa_c (ha : PE X e te) (hr : PA X es t) (hn : nstar e = true := by rfl) : PA X (e :: es) (tCons te t) := pa_cons ha hr (star_cons hn)
theorem pe_callN (F : FnOk X.prog X.w X.K X.mg X.base CX k f fd ps sp) (hr : Room k X.A) (hg : Gl X x) (hm : X.mg x = some (.ref f)) (hk : PySem.W.keepIn X.K (.ref f) = true) (hb : Binds X.K fd ps []) (hx : Passes CX X E)
    (ha : PA X (e :: es) t) (hn : (e :: es).all nstar = true := by rfl) (hdb : (x == ("__debug__" : Str)) = false := by decide) : PE X (.Call (.Name x p) (e :: es) [] pos) (tCall sp [] E t) := by
  rw [List.all_cons, Bool.and_eq_true] at hn
  exact pe_call F hr hg hm hk hb .nil hx ha hdb (star_cons hn.1) (star_any hn.2)
theorem pe_callBN {r : List V → Hp → VK → Prop} (hc : CallR X (.builtin id) r) (hg : Gl X x) (hm : X.mg x = none) (hv : bootBuiltins x = some (.builtin id)) (ha : PA X (e :: es) t) (hn : (e :: es).all nstar = true := by rfl) (hn2 : x ≠ "__name__" := by decide) (hdb : (x == ("__debug__" : Str)) = false := by decide) :
    PE X (.Call (.Name x p) (e :: es) [] pos) (tCB r t) := by
  rw [List.all_cons, Bool.and_eq_true] at hn
  exact pe_callB hc hg hm hv ha hn2 hdb (star_cons hn.1) (star_any hn.2)
theorem pe_callTyN {r : List V → Hp → VK → Prop} (hc : CallR X (.type T) r) (hg : Gl X x) (hm : X.mg x = none) (hv : bootBuiltins x = some (.type T)) (ha : PA X (e :: es) t) (hn : (e :: es).all nstar = true := by rfl) (hn2 : x ≠ "__name__" := by decide) (hdb : (x == ("__debug__" : Str)) = false := by decide) :
    PE X (.Call (.Name x p) (e :: es) [] pos) (tCB r t) := by
  rw [List.all_cons, Bool.and_eq_true] at hn
  exact pe_callTy hc hg hm hv ha hn2 hdb (star_cons hn.1) (star_any hn.2)
theorem pe_bmN {r : V → List V → Hp → VK → Prop} (pa : PlainAttrs T) (slot : Slot T name id) (hty : typeOf (.builtin id) = pure (.type "method_descriptor")) (hm : MtR X id r) (ho : PE X o to) (ha : PA X [e] t)
    (hbase : attributeBase o name X.env (eval o X.env) = eval o X.env := by rfl) (hline : (apos.endLine == cpos.line) = true := by rfl) (hn : nstar e = true := by rfl) :
    PE X (.Call (.Attribute o name apos) [e] [] cpos) (tBM X.K T r to t) := by
  refine pe_bm pa slot hty hm ho ha hbase ?_ hline (star_cons hn) rfl
  rw [star_cons hn]; rfl
end
end L2

namespace L2
open PySem PySem.Spec PyProof.Rows
section
variable {K : PySem.W.Frag} {σ : St} {H : Hp} {Q : VK} {D : Ends} {E : XK}
theorem in_seq {t u : TS} (h : t { D with nx := u D } σ H) : tSeq t u D σ H := h
theorem in_asg {te : TE} {g : TG} (h : te σ H fun x H1 => g x σ H1 D.nx) : tAsg te g D σ H := h
theorem in_gname {i : Nat} {v : V} {R : St → Hp → Prop} (h : R (σ.set i (some v)) H) : gName i v σ H R := h
theorem in_gsub {to ti : TE} {t : TSet} {v : V} {R : St → Hp → Prop} (h : to σ H fun o H1 => ti σ H1 fun i H2 => t o i v H2 fun H3 => R σ H3) : gSub to ti t v σ H R := h
theorem in_ret {te : TE} (h : te σ H D.rt) : tRet te D σ H := h
theorem in_drop {te : TE} (h : te σ H fun _ H1 => D.nx σ H1) : tDrop te D σ H := h
theorem in_next (h : D.nx σ H) : tNext D σ H := h
theorem in_if {c : TT} {t u : TS} (h : c σ H fun b H1 => if b = true then t D σ H1 else u D σ H1) : tIfS c t u D σ H := h
theorem in_tif {c : TT} {ta tb : TE} (h : c σ H fun b H1 => if b = true then ta σ H1 Q else tb σ H1 Q) : tIf c ta tb σ H Q := h
theorem in_test {t : TE} {R : Bool → Hp → Prop} (h : t σ H fun x H' => ∃ k, x = .bl k ∧ R k H') : tTest t σ H R := h
theorem in_B {t : TE} {R : Bool → Hp → Prop} (h : t σ H fun x H' => ∃ k, x = .bl k ∧ R k H') : tB t σ H R := h
theorem in_bl {b : Bool} {R : Bool → Prop} (h : R b) : ∃ k, V.bl b = .bl k ∧ R k := ⟨b, rfl, h⟩
theorem in_not {t : TT} {R : Bool → Hp → Prop} (h : t σ H fun c H1 => R (!c) H1) : tNot t σ H R := h
theorem in_or {t u : TT} {R : Bool → Hp → Prop} (h : t σ H fun c H1 => if c = true then R true H1 else u σ H1 R) : tOr t u σ H R := h
theorem in_and {t u : TT} {R : Bool → Hp → Prop} (h : t σ H fun c H1 => if c = true then u σ H1 R else R false H1) : tAnd t u σ H R := h
theorem in_andV {ta tb : TE} (h : ta σ H fun x H1 => ∃ c, x = .bl c ∧ if c = true then tb σ H1 Q else Q (.bl false) H1) : tAndV ta tb σ H Q := h
theorem in_orV {ta tb : TE} (h : ta σ H fun x H1 => ∃ c, x = .bl c ∧ if c = true then Q (.bl true) H1 else tb σ H1 Q) : tOrV ta tb σ H Q := h
theorem in_notV {ta : TE} (h : ta σ H fun x H1 => ∃ c, x = .bl c ∧ Q (.bl (!c)) H1) : tNotV ta σ H Q := h
theorem in_C {v : V} (h : Q v H) : tC v σ H Q := h
theorem in_op {r : R2} {ta tb : TE} (h : ta σ H fun x H1 => tb σ H1 fun y H2 => r x y H2 Q) : tOp r ta tb σ H Q := h
theorem in_un {r : V → Hp → VK → Prop} {ta : TE} (h : ta σ H fun x H1 => r x H1 Q) : tUn r ta σ H Q := h
theorem in_I0 {g : Int → Int → V} {i j : Int} (h : Q (g i j) H) : rI0 g (.int i) (.int j) H Q := ⟨i, j, rfl, rfl, h⟩
theorem in_I {C : Int → Int → Prop} {g : Int → Int → V} {i j : Int} (c : C i j) (h : Q (g i j) H) : rI C g (.int i) (.int j) H Q := ⟨i, j, rfl, rfl, c, h⟩
theorem in_U {g : Int → V} {i : Int} (h : Q (g i) H) : rU g (.int i) H Q := ⟨i, rfl, h⟩
theorem in_eqI {i j : Int} (h : Q (.bl (decide (V.int i = V.int j))) H) : rEq (.int i) (.int j) H Q := ⟨rfl, h⟩
theorem in_neI {i j : Int} (h : Q (.bl (!decide (V.int i = V.int j))) H) : rNe (.int i) (.int j) H Q := ⟨rfl, h⟩
theorem in_ix {p : Addr} {xs : List V} {i : Int} {v : V} (s : SqL K H p xs) (a : atI xs i = some v) (h : Q v H) : rIxL K (.ref p) (.int i) H Q := ⟨p, xs, i, v, rfl, rfl, s, a, h⟩
theorem in_ixT {p : Addr} {xs : List V} {i : Int} {v : V} (s : SqT K H p xs) (a : atI xs i = some v) (h : Q v H) : rIxT K (.ref p) (.int i) H Q := ⟨p, xs, i, v, rfl, rfl, s, a, h⟩
theorem in_set {p : Addr} {xs : List V} {k : Int} {j : Nat} {v : V} {R : Hp → Prop} (s : H p = some (.lst xs)) (a : ixN xs.length k = some j) (h : R (upd H p (.lst (xs.set j v)))) : rSetL (.ref p) (.int k) v H R := ⟨p, xs, k, j, rfl, rfl, s, a, h⟩
theorem in_ix' {p : Addr} {xs : List V} {i : Int} (s : H p = some (.lst xs)) (h : ∃ v, atI xs i = some v ∧ Q v H) : rIxL K (.ref p) (.int i) H Q := let ⟨v, a, q⟩ := h; ⟨p, xs, i, v, rfl, rfl, SqL.of s, a, q⟩
theorem in_ixT' {p : Addr} {xs : List V} {i : Int} (s : H p = some (.tup xs)) (h : ∃ v, atI xs i = some v ∧ Q v H) : rIxT K (.ref p) (.int i) H Q := let ⟨v, a, q⟩ := h; ⟨p, xs, i, v, rfl, rfl, SqT.of s, a, q⟩
theorem in_set' {p : Addr} {xs : List V} {k : Int} {v : V} {R : Hp → Prop} (s : H p = some (.lst xs)) (h : ∃ j, ixN xs.length k = some j ∧ R (upd H p (.lst (xs.set j v)))) : rSetL (.ref p) (.int k) v H R := let ⟨j, a, q⟩ := h; ⟨p, xs, k, j, rfl, rfl, s, a, q⟩
theorem in_cb {r : List V → Hp → VK → Prop} {t : TA} (h : t σ H fun vs H1 => r vs H1 Q) : tCB r t σ H Q := h
theorem in_cons {ta : TE} {tr : TA} {R : List V → Hp → Prop} (h : ta σ H fun x H1 => tr σ H1 fun xs H2 => R (x :: xs) H2) : tCons ta tr σ H R := h
theorem in_nil {R : List V → Hp → Prop} (h : R [] H) : tNil σ H R := h
theorem in_call {sp : Sp} {t : TA} (h : t σ H fun vs H1 => sp (vs ++ []) H1 Q E) : tCall sp [] E t σ H Q := h
theorem in_lst {t : TA} (h : t σ H fun xs H1 => xs.length ≤ sizeLine ∧ ∀ p, H1 p = none → Q (.ref p) (upd H1 p (.lst xs))) : tLst t σ H Q := h
theorem in_tup {t : TA} (h : t σ H fun xs H1 => xs.length ≤ sizeLine ∧ ∀ p, H1 p = none → Q (.ref p) (upd H1 p (.tup xs))) : tTup t σ H Q := h
theorem in_itrue {A B : Prop} (h : A) : if true = true then A else B := by rw [if_pos rfl]; exact h
theorem in_ifalse {A B : Prop} (h : B) : if false = true then A else B := by rw [if_neg Bool.false_ne_true]; exact h
theorem in_split {c A B : Prop} [Decidable c] (h1 : c → A) (h2 : ¬ c → B) : if decide c = true then A else B := by
  by_cases h : c
  · rw [decide_eq_true h]; exact in_itrue (h1 h)
  · rw [decide_eq_false h]; exact in_ifalse (h2 h)
theorem three {n : Nat} (h : n ≤ 1000) : n ≤ sizeLine := Nat.le_of_lt (small1000 h)

theorem cdivL {i j : Int} (h1 : 0 < j) (h2 : j < 2 ^ 64) : CDivL i j := ⟨h1, log2_small h1 h2⟩
theorem cdivP {i : Int} {b e : Nat} (h1 : 0 < b) (h2 : b ≤ 64) (h3 : e ≤ 1000) : CDivL i ((b ^ e : Nat) : Int) := by
  have hp : 0 < b ^ e := Nat.pow_pos h1
  refine ⟨Int.natCast_pos.mpr hp, ?_⟩
  rw [Int.natAbs_natCast, Nat.log2_lt (Nat.ne_of_gt hp)]
  have h4 : b ^ e ≤ 64 ^ e := Nat.pow_le_pow_left h2 e
  have h5 : (64 : Nat) ^ e = 2 ^ (6 * e) := by rw [Nat.pow_mul]
  have h6 : 2 ^ (6 * e) < 2 ^ 9000 := Nat.pow_lt_pow_right (by decide) (by omega)
  omega
theorem cdiv {i j : Int} (h1 : 0 < j) (h2 : j < 1073741824) : CDiv i j := ⟨h1, h2⟩
theorem cmulL {i j : Int} (h1 : -(2 ^ 64) < i) (h2 : i < 2 ^ 64) : CMul i j := .inl ⟨h1, h2⟩
theorem cmulR {i j : Int} (h1 : -(2 ^ 64) < j) (h2 : j < 2 ^ 64) : CMul i j := .inr ⟨h1, h2⟩
theorem cpow {i j : Int} (h1 : 0 ≤ j) (h2 : j ≤ 1000000) (h3 : i.natAbs < 2 ^ 64) : CPow i j := ⟨h1, h2, h3⟩
theorem in_pow18 (h : Q (.int 1000000000000000000) H) : rI CPow (fun i j => .int (i ^ j.toNat)) (.int 10) (.int 18) H Q := ⟨10, 18, rfl, rfl, ⟨by decide, by decide, by decide⟩, by
  have e : (10 : Int) ^ (18 : Int).toNat = 1000000000000000000 := by decide
  show Q (.int ((10 : Int) ^ (18 : Int).toNat)) H
  rw [e]; exact h⟩
theorem in_pow6 (h : Q (.int 1000000) H) : rI CPow (fun i j => .int (i ^ j.toNat)) (.int 10) (.int 6) H Q := ⟨10, 6, rfl, rfl, ⟨by decide, by decide, by decide⟩, by
  have e : (10 : Int) ^ (6 : Int).toNat = 1000000 := by decide
  show Q (.int ((10 : Int) ^ (6 : Int).toNat)) H
  rw [e]; exact h⟩
theorem in_pow53 (h : Q (.int 9007199254740992) H) : rI CPow (fun i j => .int (i ^ j.toNat)) (.int 2) (.int 53) H Q := ⟨2, 53, rfl, rfl, ⟨by decide, by decide, by decide⟩, by
  have e : (2 : Int) ^ (53 : Int).toNat = 9007199254740992 := by decide
  show Q (.int ((2 : Int) ^ (53 : Int).toNat)) H
  rw [e]; exact h⟩
abbrev RC := List V → Hp → VK → Prop
def rAbs : RC := fun xs H Q => ∃ i, xs = [.int i] ∧ Q (.int (if i < 0 then -i else i)) H
def rIntB : RC := fun xs H Q => ∃ k, xs = [.bl k] ∧ Q (.int (if k then 1 else 0)) H
def rMin2 : RC := fun xs H Q => ∃ i j, xs = [.int i, .int j] ∧ Q (.int (if j < i then j else i)) H
def rMax2 : RC := fun xs H Q => ∃ i j, xs = [.int i, .int j] ∧ Q (.int (if j > i then j else i)) H
def rLen (K : PySem.W.Frag) : RC := fun xs H Q => ∃ p ys, xs = [.ref p] ∧ (SqL K H p ys ∨ SqT K H p ys) ∧ Q (.int ys.length) H
def rSum (K : PySem.W.Frag) : RC := fun xs H Q => ∃ (p : Addr) (ns : List Int), xs = [.ref p] ∧ SqL K H p (ns.map V.int) ∧ Q (.int ns.sum) H
def rIsi (K : PySem.W.Frag) : RC := fun xs H Q => ∃ x t T b, xs = [x, .ty T] ∧ TyOf K H x t ∧ PySem.W.kitOne K t (.type T) = some b ∧ Q (.bl b) H
def rListOf (K : PySem.W.Frag) : RC := fun xs H Q => ∃ p ys, xs = [.ref p] ∧ (SqL K H p ys ∨ SqT K H p ys) ∧ ∀ l, H l = none → Q (.ref l) (upd H l (.lst ys))
def rTupleOf (K : PySem.W.Frag) : RC := fun xs H Q => ∃ p ys, xs = [.ref p] ∧ ((SqL K H p ys ∧ ∀ l, H l = none → Q (.ref l) (upd H l (.tup ys))) ∨ (SqT K H p ys ∧ Q (.ref p) H))
section
variable {X : Cx}
theorem cl_abs : CallR X (.builtin "abs") rAbs := call_abs
theorem cl_int : CallR X (.type "int") rIntB := fun pins s σ H xs us Q I r h => call_int1 pins s σ H xs us Q I r (.inr h)
theorem cl_min (hc : X.calm = true) : CallR X (.builtin "min") rMin2 := call_min2 hc
theorem cl_len : CallR X (.builtin "len") (rLen X.K) := call_len_seq
theorem cl_sum (hc : X.calm = true) : CallR X (.builtin "sum") (rSum X.K) := call_sum hc
theorem cl_list : CallR X (.type "list") (rListOf X.K) := call_list_of
theorem cl_tuple : CallR X (.type "tuple") (rTupleOf X.K) := call_tuple_of
end
theorem in_abs {i : Int} (h : Q (.int (if i < 0 then -i else i)) H) : rAbs [.int i] H Q := ⟨i, rfl, h⟩
theorem in_intB {k : Bool} (h : Q (.int (if k then 1 else 0)) H) : rIntB [.bl k] H Q := ⟨k, rfl, h⟩
theorem in_min {i j : Int} (h : Q (.int (if j < i then j else i)) H) : rMin2 [.int i, .int j] H Q := ⟨i, j, rfl, h⟩
theorem in_max {i j : Int} (h : Q (.int (if j > i then j else i)) H) : rMax2 [.int i, .int j] H Q := ⟨i, j, rfl, h⟩
theorem in_lenL {p : Addr} {ys : List V} (s : SqL K H p ys) (h : Q (.int ys.length) H) : rLen K [.ref p] H Q := ⟨p, ys, rfl, .inl s, h⟩
theorem in_isiII {i : Int} (h : Q (.bl true) H) : rIsi K [.int i, .ty "int"] H Q := ⟨_, _, _, _, rfl, .int i, rfl, h⟩
theorem in_isiIB {i : Int} (h : Q (.bl false) H) : rIsi K [.int i, .ty "bool"] H Q := ⟨_, _, _, _, rfl, .int i, rfl, h⟩
theorem in_listOf {p : Addr} {ys : List V} (s : SqL K H p ys ∨ SqT K H p ys) (h : ∀ l, H l = none → Q (.ref l) (upd H l (.lst ys))) : rListOf K [.ref p] H Q := ⟨p, ys, rfl, s, h⟩
theorem in_tupleL {p : Addr} {ys : List V} (s : SqL K H p ys) (h : ∀ l, H l = none → Q (.ref l) (upd H l (.tup ys))) : rTupleOf K [.ref p] H Q := ⟨p, ys, rfl, .inl ⟨s, h⟩⟩
theorem in_tupleT {p : Addr} {ys : List V} (s : SqT K H p ys) (h : Q (.ref p) H) : rTupleOf K [.ref p] H Q := ⟨p, ys, rfl, .inr ⟨s, h⟩⟩
theorem atI_mem {xs : List V} {r : Int} (h0 : 0 ≤ r) (h1 : r < xs.length) : ∃ v, atI xs r = some v ∧ v ∈ xs := by
  have hl : r.toNat < xs.length := by omega
  have e : r = (r.toNat : Int) := by omega
  refine ⟨xs[r.toNat], ?_, List.getElem_mem hl⟩
  have := atI_nat (xs := xs) (j := r.toNat) (v := xs[r.toNat]) (by simp [hl])
  rw [← e] at this; exact this
theorem in_for {wi : TI} {g : TG} {tb : TS} (h : wi σ H fun J H1 => ∃ W : Nat → Nat → St → Hp → Prop, (∃ m, W 0 m σ H1) ∧ ∀ i m σ H, W i m σ H →
  (J.stop i H ∧ D.nx σ H) ∨ (J.go i H ∧ ∃ N : St → Hp → Prop, (∀ σ' H', N σ' H' → ∃ m', m' < m ∧ W (i + 1) m' σ' H') ∧ ∀ x H', J.yld i H x H' → g x σ H' fun σ2 H2 => tb { D with nx := N, ct := N, bk := D.nx } σ2 H2)) : tFor wi g tb D σ H := h
theorem in_rng1 {ta : TA} {R : It → Hp → Prop} (h : ta σ H fun vs H1 => ∃ j : Int, vs = [.int j] ∧ -(2 ^ 62) ≤ j ∧ j < 2 ^ 62 ∧ R (Itr 0 j.toNat) H1) : iRng1 ta σ H R := h
theorem in_ilist {tl : TE} {R : It → Hp → Prop} (h : tl σ H fun x H1 => ∃ a, x = .ref a ∧ (∃ xs, SqL K H1 a xs) ∧ R (Itl K a) H1) : iList K tl σ H R := h
theorem in_itup {tl : TE} {R : It → Hp → Prop} (h : tl σ H fun x H1 => ∃ a, x = .ref a ∧ (∃ xs, SqT K H1 a xs) ∧ R (Itt K a) H1) : iTup K tl σ H R := h
theorem in_nt {A B : Prop} (h : B) : if (!true) = true then A else B := in_ifalse h
theorem in_nf {A B : Prop} (h : A) : if (!false) = true then A else B := in_itrue h
theorem in_comp {wi : TI} {g : TG} {te : TE} {tgs : List Str} {ix : List Nat} (h : wi σ H fun J H1 =>
  ∃ W : Nat → Nat → List V → St → Hp → Prop, (∃ m, W 0 m [] (stComp tgs ix σ) H1) ∧ ∀ i m xs σc H, W i m xs σc H → xs.length < sizeLine ∧
    ((J.stop i H ∧ ∀ p, H p = none → Q (.ref p) (upd H p (.lst xs))) ∨ (J.go i H ∧ ∀ x H', J.yld i H x H' → g x σc H' fun σ2 H2 => te σ2 H2 fun y H3 => ∃ m', m' < m ∧ W (i + 1) m' (xs ++ [y]) σ2 H3))) : tComp wi g te tgs ix σ H Q := h
end
end L2

namespace L2
open PySem PySem.Spec PyProof.Rows
structure QE (X : Cx) (e : Expr) (t : TE) : Prop where
  out : PE X e t
structure QT (X : Cx) (e : Expr) (t : TT) : Prop where
  out : PT X e t
structure QW (X : Cx) (e : Expr) (t : TT) : Prop where
  out : PW X e t
structure QA (X : Cx) (es : List Expr) (t : TA) : Prop where
  out : PA X es t
structure QO (X : Cx) (e : Option Expr) (t : TO) : Prop where
  out : PO X e t
structure QI (X : Cx) (tg iter : Expr) (t : TI) : Prop where
  out : PI X tg iter t
structure QG (X : Cx) (tg : Expr) (t : TG) : Prop where
  out : PG X tg t
structure QGs (X : Cx) (ts : List Expr) (t : TGs) : Prop where
  out : PGs X ts t
structure QS (X : Cx) (st : Stmt) (t : TS) : Prop where
  out : PS X st t
structure QB (X : Cx) (sts : List Stmt) (t : TS) : Prop where
  out : PSs X sts t
structure QOp (X : Cx) (f : Value → Value → Sem Value) (r : R2) : Prop where
  out : OpR X f r
structure QUn (X : Cx) (f : Value → Sem Value) (r : V → Hp → VK → Prop) : Prop where
  out : UnR X f r
structure QC (X : Cx) (f : Value) (r : List V → Hp → VK → Prop) : Prop where
  out : CallR X f r
structure QIx (X : Cx) (r : R2) : Prop where
  out : IxR X r
structure QSl (X : Cx) (r : V → Option Int → Option Int → Hp → VK → Prop) : Prop where
  out : SlR X r
def nslc : Expr → Bool
  | .Slice .. => false
  | _ => true
theorem plain_of {b : Expr} (h : nslc b = true) : PlainIx b := by
  cases b <;> first | (intro _ _; rfl) | cases h
def tTru (K : PySem.W.Frag) (ta : TE) : TT := fun σ H Q => ta σ H fun x H' => ∃ k, TruV K x H' k ∧ Q k H'
section
variable {X : Cx} {a b c e o : Expr} {es rest : List Expr} {ta tb tc te to ti : TE} {tA tB' : TT} {t : TA} {pos p p2 apos cpos : Pos} {r r' : R2} {x : Str}
theorem qv (i : Nat) {x : Str} {pos : Pos} (hN : X.N[i]? = some x := by rfl) (hv : Vis X.env.scope x := by first | exact Or.inl rfl | exact Or.inr (Or.inl rfl) | exact Or.inr (Or.inr rfl)) (hd : (x == ("__debug__" : Str)) = false := by decide)
    (hcd : (x == ("__classdict__" : Str)) = false := by decide) : QE X (.Name x pos) (tVar i) := ⟨pe_var hN hv hd hcd⟩
theorem qe_int {i j pos} : QE X (.Constant (.int i) j pos) (tC (.int i)) := ⟨pe_int⟩
theorem qe_bl {b j pos} : QE X (.Constant (.bool b) j pos) (tC (.bl b)) := ⟨pe_bl⟩
theorem qe_str {x j pos} : QE X (.Constant (.str x) j pos) (tC (.str x)) := ⟨pe_str⟩
theorem qe_op {op : Operator} (ho : QOp X (binaryOp op) r) (ha : QE X a ta) (hb : QE X b tb) : QE X (.BinOp a op b pos) (tOp r ta tb) := ⟨pe_op ho.out ha.out hb.out⟩
theorem qe_un {op : UnaryOp} {r : V → Hp → VK → Prop} (ho : QUn X (unaryOp op) r) (ha : QE X a ta) : QE X (.UnaryOp op a pos) (tUn r ta) := ⟨pe_un ho.out ha.out⟩
theorem qe_cmpR {op : CmpOp} (ho : QOp X (compareOp op) r) (ha : QE X a ta) (hb : QE X b tb) (hm : behindInMarks op b = false) : QE X (.Compare a [op] [b] pos) (tOp r ta tb) := ⟨pe_cmpR ho.out ha.out hb.out hm⟩
theorem qt_cmpR {op : CmpOp} (ho : QOp X (compareOp op) r) (ha : QE X a ta) (hb : QE X b tb) (hm : behindInMarks op b = false) : QT X (.Compare a [op] [b] pos) (tTest (tOp r ta tb)) := ⟨pt_cmpR ho.out ha.out hb.out hm⟩
theorem qe_one {op} (h : QE X a ta) : QE X (.BoolOp op [a] pos) ta := ⟨pe_one h.out⟩
theorem qe_and (ha : QE X a ta) (hb : QE X (.BoolOp .And (b :: rest) pos) tb) : QE X (.BoolOp .And (a :: b :: rest) pos) (tAndV ta tb) := ⟨pe_and ha.out hb.out⟩
theorem qt_not (ha : QT X a tA) : QT X (.UnaryOp .Not a pos) (tNot tA) := ⟨pt_not ha.out⟩
theorem qt_val (h : QE X a ta) (he : ∀ whole, isTrue a X.env whole = (do let v ← whole; standAt a.pos; holding [v] (truthy v)) := by intro _; rfl) : QT X a (tB ta) := ⟨pt_val h.out he⟩
theorem qw_and1 (ha : QT X a tA) : QW X (.BoolOp .And [a] pos) tA := ⟨pw_and1 ha.out⟩
theorem qw_or1 (ha : QT X a tA) : QW X (.BoolOp .Or [a] pos) tA := ⟨pw_or1 ha.out⟩
theorem qw_and (ha : QT X a tA) (hb : QW X (.BoolOp .And (b :: rest) pos) tB') : QW X (.BoolOp .And (a :: b :: rest) pos) (tAnd tA tB') := ⟨pw_and ha.out hb.out⟩
theorem qw_or (ha : QT X a tA) (hb : QW X (.BoolOp .Or (b :: rest) pos) tB') : QW X (.BoolOp .Or (a :: b :: rest) pos) (tOr tA tB') := ⟨pw_or ha.out hb.out⟩
theorem QW.qt (h : QW X e tA) : QT X e tA := ⟨h.out.pt⟩
theorem qa_nil : QA X [] tNil := ⟨pa_nil⟩
theorem qa_c (ha : QE X e te) (hr : QA X es t) (hn : nstar e = true := by rfl) : QA X (e :: es) (tCons te t) := ⟨pa_c ha.out hr.out hn⟩
theorem qe_lst (h : QA X es t) : QE X (.List es pos) (tLst t) := ⟨pe_lst h.out⟩
theorem qe_tup {x1} (h : QA X es t) : QE X (.Tuple es x1 pos) (tTup t) := ⟨pe_tup h.out⟩
theorem qe_ix (hr : QIx X r) (ha : QE X a ta) (hb : QE X b tb) (hs : nslc b = true := by rfl) : QE X (.Subscript a b pos) (tOp r ta tb) := ⟨pe_ix hr.out ha.out hb.out (plain_of hs)⟩
theorem qo_none : QO X none tNoPart := ⟨po_none⟩
theorem qo_some (h : QE X e te) : QO X (some e) (tPart te) := ⟨po_some h.out⟩
theorem qe_slice {r : V → Option Int → Option Int → Hp → VK → Prop} {lo hi : Option Expr} {tl th : TO} (hr : QSl X r) (he : QE X e te) (hl : QO X lo tl) (hu : QO X hi th) : QE X (.Subscript e (.Slice lo hi none p2) pos) (tSl r te tl th) := ⟨pe_slice hr.out he.out hl.out hu.out⟩
theorem qe_callB {id : String} {r : RC} (hc : QC X (.builtin id) r) (hg : Gl X x) (hm : X.mg x = none) (hv : bootBuiltins x = some (.builtin id)) (ha : QA X (e :: es) t) (hn : (e :: es).all nstar = true := by rfl) (hn2 : x ≠ "__name__" := by decide) (hdb : (x == ("__debug__" : Str)) = false := by decide) :
    QE X (.Call (.Name x p) (e :: es) [] pos) (tCB r t) := ⟨pe_callBN hc.out hg hm hv ha.out hn hn2 hdb⟩
theorem qe_callTy {T : String} {r : RC} (hc : QC X (.type T) r) (hg : Gl X x) (hm : X.mg x = none) (hv : bootBuiltins x = some (.type T)) (ha : QA X (e :: es) t) (hn : (e :: es).all nstar = true := by rfl) (hn2 : x ≠ "__name__" := by decide) (hdb : (x == ("__debug__" : Str)) = false := by decide) :
    QE X (.Call (.Name x p) (e :: es) [] pos) (tCB r t) := ⟨pe_callTyN hc.out hg hm hv ha.out hn hn2 hdb⟩
theorem qe_call {CX : CXT} {k : Nat} {f : Addr} {fd : FuncData} {ps : List Str} {sp : Sp} {E : XK} (F : FnOk X.prog X.w X.K X.mg X.base CX k f fd ps sp) (hr : Room k X.A) (hg : Gl X x) (hm : X.mg x = some (.ref f)) (hk : PySem.W.keepIn X.K (.ref f) = true) (hb : Binds X.K fd ps []) (hx : Passes CX X E)
    (ha : QA X (e :: es) t) (hn : (e :: es).all nstar = true := by rfl) (hdb : (x == ("__debug__" : Str)) = false := by decide) : QE X (.Call (.Name x p) (e :: es) [] pos) (tCall sp [] E t) := ⟨pe_callN F hr hg hm hk hb hx ha.out hn hdb⟩
theorem qe_append {K : PySem.W.Frag} (ho : QE X o to) (ha : QA X [e] t) (hbase : attributeBase o ("append" : Str) X.env (eval o X.env) = eval o X.env := by rfl) (hline : (apos.endLine == cpos.line) = true := by rfl) (hn : nstar e = true := by rfl) (hK : X.K = K := by rfl) :
    QE X (.Call (.Attribute o "append" apos) [e] [] cpos) (tBM K "list" rAppend to t) := by subst hK; exact ⟨pe_bmN PySem.F.plainAttrs_list PySem.F.slot_list_append PySem.F.type_list_append mt_append ho.out ha.out hbase hline hn⟩
variable {tg iter : Expr} {wi : TI} {g : TG} {i : Nat} {u : TGs}
theorem qi_range1 {p pos : Pos} (hg : Gl X "range") (hm : X.mg "range" = none) (ha : QA X [a] t) (hn : nstar a = true := by rfl) : QI X tg (.Call (.Name "range" p) [a] [] pos) (iRng1 t) := ⟨pi_range1 hg hm ha.out (star_cons hn)⟩
theorem qi_list {K : PySem.W.Frag} (hl : QE X e te) (hK : X.K = K := by rfl) : QI X tg e (iList K te) := by subst hK; exact ⟨pi_list hl.out⟩
theorem qi_tup {K : PySem.W.Frag} (hl : QE X e te) (hK : X.K = K := by rfl) : QI X tg e (iTup K te) := by subst hK; exact ⟨pi_tup hl.out⟩
theorem qg_name (hN : X.N.Nodup) (hi : X.N[i]? = some x) (hx : Loc X.env.scope x) (hf : X.fn x = true ∨ X.env.scope.names.lookup x = some .local := by first | exact .inl rfl | exact .inr rfl | assumption) : QG X (.Name x pos) (gName i) := ⟨pg_name hN hi hx hf⟩
theorem qgs_nil : QGs X [] gNil := ⟨pgs_nil⟩
theorem qgs_cons {ts : List Expr} (h1 : QG X e g) (h2 : QGs X ts u) (hs : (assignEach (e :: ts) X.env).map (·.2) = assign e X.env :: (assignEach ts X.env).map (·.2) := by rfl) : QGs X (e :: ts) (gCons g u) := ⟨pgs_cons h1.out h2.out hs⟩
theorem qg_tup {K : PySem.W.Frag} {ts : List Expr} {k n : Nat} (hc : X.calm = true) (h : QGs X ts u) (hn : (assignEach ts X.env).length = n := by rfl) (hst : (assignEach ts X.env).findIdx? (·.1) = none := by rfl) (hK : X.K = K := by rfl) : QG X (.Tuple ts k pos) (gTup K n u) := by subst hK; exact ⟨pg_tup hc h.out hn hst⟩
variable {st : Stmt} {sts s1 s2 : List Stmt} {T1 T2 : TS}
theorem qb_nil : QB X [] tNext := ⟨pss_nil⟩
theorem qb_cons (h1 : QS X st T1) (h2 : QB X sts T2) : QB X (st :: sts) (tSeq T1 T2) := ⟨pss_cons h1.out h2.out⟩
theorem qb_one (h1 : QS X st T1) : QB X [st] T1 := ⟨pss_one h1.out⟩
theorem qs_ret (he : QE X e te) : QS X (.Return (some e) pos) (tRet te) := ⟨ps_ret he.out⟩
theorem qs_expr (he : QE X e te) (hs : swapsWith e none pos.line X.env = pure false := by rfl) : QS X (.Expr e pos) (tDrop te) := ⟨ps_expr he.out hs⟩
theorem qs_if (hc : QT X c tA) (ha : QB X s1 T1) (hb : QB X s2 T2) : QS X (.If c s1 s2 pos) (tIfS tA T1 T2) := ⟨ps_if hc.out ha.out hb.out⟩
theorem qs_set {pos' : Pos} (hN : X.N.Nodup) (hi : X.N[i]? = some x) (hx : Loc X.env.scope x) (he : QE X e te) (hs : swapsWith e (some (.Name x pos')) pos.line X.env = pure false := by rfl) (hf : X.fn x = true ∨ X.env.scope.names.lookup x = some .local := by first | exact .inl rfl | exact .inr rfl | assumption) :
    QS X (.Assign [.Name x pos'] e pos) (tAsg te (gName i)) := ⟨ps_set hN hi hx he.out hs hf⟩
theorem qs_sub {tpos : Pos} (he : QE X e te) (ho : QE X o to) (hi : QE X b tb)
    (ha : ∀ v, assign (.Subscript o b tpos) X.env v = (do
      let ov ← holding [v] (eval o X.env)
      let iv ← holding [v, ov] (eval b X.env)
      standAt tpos
      holding [v, ov, iv] (setItem ov iv v)
      release [v, ov, iv] []) := by intro _; rfl)
    (hs : swapsWithSole [.Subscript o b tpos] e pos.line X.env = pure false := by rfl) (hw : swappedStores [.Subscript o b tpos] e X.env = pure none := by rfl)
    (h1 : (assignEach [.Subscript o b tpos] X.env).map (·.2) = [assign (.Subscript o b tpos) X.env] := by rfl) : QS X (.Assign [.Subscript o b tpos] e pos) (tAsg te (gSub to tb rSetL)) := ⟨ps_asg he.out (pg_sub ho.out hi.out set_list ha) hs hw h1⟩
theorem qs_aug {op : Operator} {ti : R2} {pos' : Pos} (hN : X.N.Nodup) (hi : X.N[i]? = some x) (hx : Loc X.env.scope x) (he : QE X e te) (ho : QOp X (inplaceOp op) ti) (hf : X.fn x = true ∨ X.env.scope.names.lookup x = some .local := by first | exact .inl rfl | exact .inr rfl | assumption) :
    QS X (.AugAssign (.Name x pos') op e pos) (tAug i te ti) := ⟨ps_aug hN hi hx he.out ho.out hf⟩
theorem qs_while (hp : PassesOwn (model X.prog X.w) X.A X.env X.xe) (hc : QT X c tA) (hb : QB X sts T1) : QS X (.While c sts [] pos) (tWhile tA T1) := ⟨ps_while hp hc.out hb.out⟩
theorem qs_for (hp : PassesOwn (model X.prog X.w) X.A X.env X.xe) (hc : X.calm = true) (hi : QI X tg iter wi) (hg : QG X tg g) (hb : QB X sts T1) (hs : ∀ x, foldedSetIterable iter X.env x = pure x := by intro _; rfl) : QS X (.For tg iter sts [] pos) (tFor wi g T1) := ⟨ps_for hp hc hi.out hg.out hb.out hs⟩
theorem qe_comp {N tgs frs : List Str} {ix : List Nat} {scope : Scope} {cl : List (Str × Addr)} {elt : Expr} (c : CompOk X N tgs frs ix scope cl) (hc : X.calm = true) (hi : QI X tg iter wi)
    (hg : ∀ fp C s H, QG (cxComp X N scope cl fp C s H) tg g) (he : ∀ fp C s H, QE (cxComp X N scope cl fp C s H) elt te)
    (hs : ∀ x, foldedSetIterable iter X.env x = pure x := by intro _; rfl) :
    QE X (.ListComp elt [⟨tg, iter, [], 0⟩] scope pos) (tComp wi g te tgs ix) := ⟨pe_comp c hc hi.out (fun fp C s H => (hg fp C s H).out) (fun fp C s H => (he fp C s H).out) hs⟩
theorem q_add : QOp X (binaryOp .Add) (rI0 fun i j => .int (i + j)) := ⟨op_add⟩
theorem q_sub : QOp X (binaryOp .Sub) (rI0 fun i j => .int (i - j)) := ⟨op_sub⟩
theorem q_mul : QOp X (binaryOp .Mult) (rI CMul fun i j => .int (i * j)) := ⟨op_mul⟩
theorem q_fdivL : QOp X (binaryOp .FloorDiv) (rI CDivL fun i j => .int (i / j)) := ⟨op_fdivL⟩
theorem q_mod : QOp X (binaryOp .Mod) (rI (fun _ j => 0 < j) fun i j => .int (i % j)) := ⟨op_mod⟩
theorem q_pow : QOp X (binaryOp .Pow) (rI CPow fun i j => .int (i ^ j.toNat)) := ⟨op_pow⟩
theorem q_eq : QOp X (compareOp .Eq) rEq := ⟨op_eq⟩
theorem q_ne : QOp X (compareOp .NotEq) rNe := ⟨op_ne⟩
theorem q_lt : QOp X (compareOp .Lt) (rI0 fun i j => .bl (decide (i < j))) := ⟨op_lt⟩
theorem q_gt : QOp X (compareOp .Gt) (rI0 fun i j => .bl (decide (j < i))) := ⟨op_gt⟩
theorem q_ge : QOp X (compareOp .GtE) (rI0 fun i j => .bl (decide (j ≤ i))) := ⟨op_ge⟩
theorem q_iadd : QOp X (inplaceOp .Add) (rI0 fun i j => .int (i + j)) := ⟨iop_add⟩
theorem q_neg : QUn X (unaryOp .USub) (rU fun i => .int (-i)) := ⟨un_neg⟩
theorem q_ixL {K : PySem.W.Frag} (hK : X.K = K := by rfl) : QIx X (rIxL K) := by subst hK; exact ⟨ix_list⟩
theorem q_ixT {K : PySem.W.Frag} (hK : X.K = K := by rfl) : QIx X (rIxT K) := by subst hK; exact ⟨ix_tup⟩
theorem q_slL {K : PySem.W.Frag} (hK : X.K = K := by rfl) : QSl X (rSlL K) := by subst hK; exact ⟨sl_list⟩
theorem qc_abs : QC X (.builtin "abs") rAbs := ⟨cl_abs⟩
theorem qc_int : QC X (.type "int") rIntB := ⟨cl_int⟩
theorem qc_min (hc : X.calm = true) : QC X (.builtin "min") rMin2 := ⟨cl_min hc⟩
theorem qc_len {K : PySem.W.Frag} (hK : X.K = K := by rfl) : QC X (.builtin "len") (rLen K) := by subst hK; exact ⟨cl_len⟩
theorem qc_sum {K : PySem.W.Frag} (hc : X.calm = true) (hK : X.K = K := by rfl) : QC X (.builtin "sum") (rSum K) := by subst hK; exact ⟨cl_sum hc⟩
theorem qc_list {K : PySem.W.Frag} (hK : X.K = K := by rfl) : QC X (.type "list") (rListOf K) := by subst hK; exact ⟨cl_list⟩
theorem qc_tuple {K : PySem.W.Frag} (hK : X.K = K := by rfl) : QC X (.type "tuple") (rTupleOf K) := by subst hK; exact ⟨cl_tuple⟩
end
section
variable {P : Program} {w : World} {K : PySem.W.Frag} {mg : Str → Option Value} {base : Heap}
theorem Fun.okQ {x qual : Str} {st : Stmt} {f : Addr} {fd : FuncData} {N ps : List Str} {k : Nat} {sp : Sp} (F : Fun K x qual st f fd) (S : FnScope N ps (defScope st)) (len : ∀ vs H Q E, sp vs H Q E → vs.length = ps.length)
    (hbody : ∀ (cdv : Value) (A : Around) (outer : List Env) (s : Shared) (H : Hp) (vs : List V) (Q : VK) (E : XK), Room k (A.deeper (envOfC qual (defScope st) s.heap.objs.size f cdv)) → sp vs H Q E →
      ∃ t, QB (cxOf CX0 P w K mg base N qual (defScope st) f cdv A outer s H E).nox (defBody st) t ∧ t { nx := fun _ H' => Q .non H', rt := Q } (start N vs) H) : FnOk P w K mg base CX0 (k + 1) f fd ps sp :=
  F.ok S len fun cdv A outer s H vs Q E hr hsp => by
    obtain ⟨t, h, q⟩ := hbody cdv A outer s H vs Q E hr hsp
    exact ⟨t, h.out, q⟩
end
end L2

namespace L2
open PySem PySem.Spec PyProof.Rows
def tRev (K : PySem.W.Frag) (te : TE) : TE := fun σ H Q => te σ H fun x H1 => ∃ a xs, x = .ref a ∧ SqL K H1 a xs ∧ ∀ p, H1 p = none → Q (.ref p) (upd H1 p (.lst xs.reverse))
section
variable {X : Cx} {e : Expr} {te : TE} {pos p1 p2 p3 : Pos} {j : Nat}
theorem pe_rev (he : PE X e te) : PE X (.Subscript e (.Slice none none (some (.UnaryOp .USub (.Constant (.int 1) j p1) p2)) p3) pos) (tRev X.K te) := by
  intro pins s σ H Q I h
  refine Subscript_ (thn (he pins s σ H _ I h) fun v s1 ⟨x, H1, I1, r1, q1⟩ => ?_)
  obtain ⟨a, xs, rfl, hx, q⟩ := q1
  cases r1
  refine wpAny_Slice (evalPart_none_step (evalPart_none_step (evalPart_some_step ?_)))
  refine thn (pe_un (X := X) un_neg pe_int pins s1 σ H1 (fun x H' => x = .int (-1) ∧ H' = H1) I1 ⟨1, rfl, rfl, rfl⟩) fun vk s2 ⟨y, H2, I2, r2, e2, e3⟩ => ?_
  subst e2 e3
  obtain ⟨t, rfl⟩ := r2
  have I4 : Inv X pins σ H2 { s2 with heap := s2.heap.push { cls := .type "slice", data := .fields #[.none, .none, .int (-1) t] } } := I2.kept (t' := s2.toks) fun b ob q => Heap.get?_push_of_some _ q
  obtain ⟨its, r, ht, hz⟩ := I4.list hx
  have hlen := r.length
  show wpAny (model X.prog X.w) X.A (subscriptTail e (.Slice none none (some (.UnaryOp .USub (.Constant (.int 1) j p1) p2)) p3) (.ref a) (.ref s2.heap.objs.size)) (EP X pins σ Q) X.xe { s2 with heap := s2.heap.push { cls := .type "slice", data := .fields #[.none, .none, .int (-1) t] } }
  refine tail_any (ops := [.ref a, .ref s2.heap.objs.size]) ht.isList.typeIs slot_list_getitem.lookup ?_ (by with_unfolding_all rfl)
  refine wpAny_getItem_list_slice ht.isList (Heap.IsSliceOf.new ..) .none .none (.int (-1) t) (by decide) ?_ (by rw [List.size_toArray]; omega)
  rw [PySem.W.krv_pick]
  refine ⟨.ref _, _, I4.laid (t' := s2.toks) (o := .lst xs.reverse) (fun b ob q => Heap.get?_push_of_some _ q) (Nat.le_refl _) ?_, rfl, q _ (I4.hok.fresh (Nat.le_refl _))⟩
  exact ⟨by rw [List.length_reverse]; exact hz, its.reverse, 0, r.reverse, Heap.get?_push_size _ rfl⟩
theorem qe_rev {K : PySem.W.Frag} (he : QE X e te) (hK : X.K = K := by rfl) : QE X (.Subscript e (.Slice none none (some (.UnaryOp .USub (.Constant (.int 1) j p1) p2)) p3) pos) (tRev K te) := by subst hK; exact ⟨pe_rev he.out⟩
end
section
variable {X : Cx}
end
section
variable {K : PySem.W.Frag} {σ : St} {H : Hp} {Q : VK} {D : Ends}
theorem in_rev {te : TE} (h : te σ H fun x H1 => ∃ a xs, x = .ref a ∧ SqL K H1 a xs ∧ ∀ p, H1 p = none → Q (.ref p) (upd H1 p (.lst xs.reverse))) : tRev K te σ H Q := h
theorem in_par2 {i j : Nat} {ta tb : TE} (h : ta σ H fun x H1 => tb σ H1 fun y H2 => (fun x y => ∃ v w, [x, y] = [v, w] ∧ D.nx ((σ.set i (some v)).set j (some w)) H2) x y) : tPar i j (tCons ta (tCons tb tNil)) D σ H := h
theorem in_pair {x y : V} {R : V → V → Prop} (h : R x y) : ∃ v w, [x, y] = [v, w] ∧ R v w := ⟨x, y, rfl, h⟩
theorem in_bm {r : V → List V → Hp → VK → Prop} {to : TE} {t : TA} {T : String} (h : to σ H fun x H1 => tyV K T x H1 ∧ t σ H1 fun xs H2 => r x xs H2 Q) : tBM K T r to t σ H Q := h
theorem in_append {l : Addr} {xs : List V} {y : V} (s : H l = some (.lst xs)) (z : xs.length < sizeLine) (h : Q .non (upd H l (.lst (xs ++ [y])))) : rAppend (.ref l) [y] H Q := ⟨l, xs, y, rfl, rfl, s, z, h⟩
theorem ty_list {l : Addr} {xs : List V} (h : H l = some (.lst xs)) : tyV K "list" (.ref l) H := .inl ⟨rfl, _, SqL.of h⟩
theorem Same.new {H1 : Hp} {p : Addr} {o : HO} (e : Same H H1) (h : H1 p = none) : Same H (upd H1 p o) := fun b u q => by rw [upd_ne (ne_of_none (e b u q) h)]; exact e b u q
theorem Same.own {H1 : Hp} {p : Addr} {o : HO} (e : Same H H1) (h : H p = none) : Same H (upd H1 p o) := fun b u q => by rw [upd_ne (ne_of_none q h)]; exact e b u q
end
def Nx (n i : Nat) (P : Prop) : Prop := ∃ m', m' < n - i ∧ m' = n - (i + 1) ∧ i + 1 ≤ n ∧ P
theorem Nx.mk {n i : Nat} {P : Prop} (h : i < n) (p : P) : Nx n i P := ⟨n - (i + 1), by omega, rfl, h, p⟩
section
variable {K : PySem.W.Frag} {H : Hp} {g : TG} {te : TE} {σ0 : St} {R : List V → Hp → Prop}
theorem comp_rng {n : Nat} (Pv : Nat → List V → St → Hp → Prop) (hz : n < sizeLine) (hl : ∀ i ys σ H, Pv i ys σ H → ys.length = i) (h0 : Pv 0 [] σ0 H)
    (hs : ∀ i ys σ H, i < n → Pv i ys σ H → g (.int (0 + i)) σ H fun σ2 H2 => te σ2 H2 fun y H3 => Nx n i (Pv (i + 1) (ys ++ [y]) σ2 H3)) (hd : ∀ ys σ H, Pv n ys σ H → R ys H) :
    ∃ W : Nat → Nat → List V → St → Hp → Prop, (∃ m, W 0 m [] σ0 H) ∧ ∀ i m xs σc H, W i m xs σc H → xs.length < sizeLine ∧
    (((Itr 0 n).stop i H ∧ R xs H) ∨ ((Itr 0 n).go i H ∧ ∀ x H', (Itr 0 n).yld i H x H' → g x σc H' fun σ2 H2 => te σ2 H2 fun y H3 => ∃ m', m' < m ∧ W (i + 1) m' (xs ++ [y]) σ2 H3)) := by
  refine ⟨fun i m xs σ H => m = n - i ∧ i ≤ n ∧ Pv i xs σ H, ⟨n, by simp, Nat.zero_le _, h0⟩, ?_⟩
  rintro i m xs σ H ⟨rfl, hi, p⟩
  refine ⟨by rw [hl i xs σ H p]; exact Nat.lt_of_le_of_lt hi hz, ?_⟩
  by_cases hlt : i < n
  · refine .inr ⟨hlt, fun x H' y => ?_⟩
    obtain ⟨e, y⟩ := y
    subst e y
    exact hs i xs σ _ hlt p
  · have e : i = n := by omega
    subst e
    exact .inl ⟨Nat.le_refl _, hd xs σ H p⟩
theorem comp_lst {a : Addr} {vs : List V} (Pv : Nat → List V → St → Hp → Prop) (hz : vs.length < sizeLine) (hl : ∀ i ys σ H, Pv i ys σ H → ys.length = i) (ht : ∀ i ys σ H, Pv i ys σ H → SqL K H a vs) (h0 : Pv 0 [] σ0 H)
    (hs : ∀ i ys σ H x, vs[i]? = some x → Pv i ys σ H → g x σ H fun σ2 H2 => te σ2 H2 fun y H3 => Nx vs.length i (Pv (i + 1) (ys ++ [y]) σ2 H3)) (hd : ∀ ys σ H, Pv vs.length ys σ H → R ys H) :
    ∃ W : Nat → Nat → List V → St → Hp → Prop, (∃ m, W 0 m [] σ0 H) ∧ ∀ i m xs σc H, W i m xs σc H → xs.length < sizeLine ∧
    (((Itl K a).stop i H ∧ R xs H) ∨ ((Itl K a).go i H ∧ ∀ x H', (Itl K a).yld i H x H' → g x σc H' fun σ2 H2 => te σ2 H2 fun y H3 => ∃ m', m' < m ∧ W (i + 1) m' (xs ++ [y]) σ2 H3)) := by
  refine ⟨fun i m xs σ H => m = vs.length - i ∧ i ≤ vs.length ∧ Pv i xs σ H, ⟨vs.length, by simp, Nat.zero_le _, h0⟩, ?_⟩
  rintro i m xs σ H ⟨rfl, hi, p⟩
  have q := ht i xs σ H p
  refine ⟨by rw [hl i xs σ H p]; exact Nat.lt_of_le_of_lt hi hz, ?_⟩
  by_cases hlt : i < vs.length
  · refine .inr ⟨⟨vs, vs[i], q, by simp [hlt]⟩, fun x H' y => ?_⟩
    obtain ⟨e, y⟩ := y
    subst e
    exact hs i xs σ _ x (y vs q) p
  · have e : i = vs.length := by omega
    subst e
    exact .inl ⟨⟨vs, q, Nat.le_refl _⟩, hd xs σ H p⟩
end
end L2

namespace L2
open PySem PySem.Spec PyProof.Rows
section
variable {X : Cx} {N tgs frs : List Str} {ix : List Nat} {scope : Scope} {cl : List (Str × Addr)}
theorem ps_setC {elt iter tg : Expr} {pos spos py : Pos} {y : Str} {iy : Nat} {wi : TI} {g : TG} {te : TE} (hN : X.N.Nodup) (hy : X.N[iy]? = some y) (hx : Loc X.env.scope y) (c : CompOk X N tgs frs ix scope cl) (hc : X.calm = true) (hi : PI X tg iter wi)
    (hg : ∀ fp C s H, PG (cxComp X N scope cl fp C s H) tg g) (he : ∀ fp C s H, PE (cxComp X N scope cl fp C s H) elt te)
    (hs : ∀ x, foldedSetIterable iter X.env x = pure x := by intro _; rfl)
    (hsw : swapsWith (.ListComp elt [⟨tg, iter, [], 0⟩] scope pos) (some (.Name y py)) spos.line X.env = pure true := by rfl)
    (hf : X.fn y = true ∨ X.env.scope.names.lookup y = some .local := by first | exact .inl rfl | exact .inr rfl | assumption) :
    PS X (.Assign [.Name y py] (.ListComp elt [⟨tg, iter, [], 0⟩] scope pos) spos) (tAsg (tComp wi g te tgs ix) (gName iy)) := by
  intro pins s σ H Dn I h
  rw [exec_Assign_Name_used _ _ _ _ hsw]
  refine wpAny_bind (wpAny_standAt (wpAny_bind ?_))
  show wpAny _ X.A (do let _ ← comprehension (.ListComp elt [⟨tg, iter, [], 0⟩] scope pos) scope X.env _ (newList []) false (eval iter X.env) (some (assign (.Name y py) X.env))) _ _ s
  refine wpAny_bind (wpAny_mono (wpAny_comprehension_free (use := some (assign (.Name y py) X.env)) (Q := fun _ s' => SP X pins Dn .next s') rfl hs c.clos c.kind c.names (thn (hi pins s σ H _ I h) fun xv s1 h1 => thn h1 fun itv s2 h2 => ?_)) (fun _ s' hq => wpAny_pure (wpAny_pure hq)) fun _ _ e => e)
  obtain ⟨it, fp, tn, J, H2, rfl, I2, T, st2, f2, W, ⟨m0, w0⟩, turn⟩ := h2
  have hfl : ∀ b ∈ fp, b < s2.heap.objs.size := fun b hb => by
    obtain ⟨o, e, _⟩ := T.obj _ _ st2 b hb
    exact Heap.lt_size e
  have hcn : ∀ x a, cl.lookup x = some a → X.env.cells.lookup x = some a := c.cls.get
  refine wpAny_newObj_type (wpAny_newFunctionEnv c.cell (by intro y hy; simp at hy) (fun h1 hns1 hsb1 => ?_) c.kind)
  dsimp only at hns1 hsb1 ⊢
  generalize hH2 : s2.heap.push { cls := .type "list", dict := none, data := .seq ([] : List Value).toArray } = G2 at hns1 hsb1 ⊢
  have hC : G2.objs.size = s2.heap.objs.size + 1 := by rw [← hH2, Heap.size_push]
  generalize hCC : G2.objs.size = C at *
  generalize hDD : s2.heap.objs.size = D at *
  have hDC : D ≠ C := by omega
  have hCle : D ≤ C := by omega
  have old : ∀ b o, s2.heap.get? b = some o → h1.get? b = some o := fun b o e => by
    have lt : b < s2.heap.objs.size := Heap.lt_size e
    exact hsb1.extBut b o (Nat.ne_of_lt (Nat.lt_of_lt_of_le (hDD ▸ lt) hCle)) (Heap.get?_push_of_some _ (hH2 ▸ Heap.get?_push_of_some _ e))
  have hacc : h1.get? D = some (lstObj [] 0) := hsb1.extBut _ _ hDC (Heap.get?_push_of_some _ (hH2 ▸ (hDD ▸ Heap.get?_push_size _ rfl)))
  have cellD : ∀ x a, X.env.cells.lookup x = some a → a < D := fun x a e => by
    obtain ⟨v, q⟩ := I2.cell x a e
    exact hDD ▸ q.lt
  have fpc : ∀ {H' : Hp} {us : List Value} {k : Nat}, (∀ b ∈ fp, H' b = none) → ∀ b ∈ fp, FpOk (cxComp X N scope cl fp C s2 H2) [(D, lstObj us k)] H' b := fun {H' us k} hn b hb => by
    have lb := hfl b hb
    refine ⟨hn b hb, ?_, fun z => ?_, .inl hb, fun x a e z => ?_, fun p hp => ?_⟩
    · exact Nat.ne_of_lt (Nat.lt_of_lt_of_le lb hCle)
    · rcases List.mem_cons.mp (I2.stkSub b z) with e | e
      · exact (f2 b hb).2.1 e
      · exact (f2 b hb).2.2.1 e
    · exact (f2 b hb).2.2.2.2.1 x a (hcn x a e) z
    · have : p = (D, lstObj us k) := by simpa [cxComp] using hp
      rw [this]; exact Nat.ne_of_gt lb
  have D_fs : D ∉ (cxComp X N scope cl fp C s2 H2).fs := fun z => by
    rcases List.mem_cons.mp (I2.stkSub D z) with e | e
    · exact absurd I2.lt (by rw [← e, hDD]; exact Nat.lt_irrefl _)
    · exact I2.nofs (Nat.le_of_eq hDD) e
  have I3 := inv_comp (tk := s2.toks + ([] : List (Str × Value)).length) (pins' := [(D, lstObj [] 0)]) c I2 f2 (fun b hb => hDD ▸ hfl b hb) (hDD ▸ hCle : s2.heap.objs.size ≤ C) hns1 old (fun p hp => by
    have e : p = (D, lstObj [] 0) := by simpa using hp
    subst e
    exact ⟨hacc, Nat.le_of_eq hDD, hDC, fun v z => by cases z⟩)
  have tn3 : tn 0 h1 := T.keep _ _ _ st2 fun b _ o e => old b o e
  have loop : codeAny (model X.prog X.w) X.A (.compLoop (.ListComp elt [⟨tg, iter, [], 0⟩] scope pos) 0 (.ref it) (.ref D) (compEnvC scope cl C X.env))
      (compPost (model X.prog X.w) X.A X.xe (some (assign (.Name y py) X.env)) (fun _ s' => SP X pins Dn .next s') (.ref D) C) { s2 with heap := h1, toks := s2.toks + ([] : List (Str × Value)).length } := by
    refine compLoop_gen (fun n s' => ∃ i xs us k σc H', Inv (cxComp X N scope cl fp C s2 H2) [(D, lstObj us k)] σc H' s' ∧ tn i s'.heap ∧ (∀ b ∈ fp, H' b = none) ∧ Vals xs us ∧ W i n xs σc H') ?_ m0
      ⟨0, [], [], 0, _, H2, I3, tn3, fun b hb => (f2 b hb).1, .nil, w0⟩
    rintro n s4 ⟨i, xs, us, k, σ4, H4, I4, tn4, fr4, rv, w4⟩
    obtain ⟨hsz, tt⟩ := turn i n xs σ4 H4 w4
    rcases tt with ⟨stop, fin⟩ | ⟨go, step⟩
    · refine thn (T.done (cxComp X N scope cl fp C s2 H2) rfl rfl rfl hc i _ s4 σ4 H4 _ I4 (fpc fr4) tn4 stop) fun r s5 ⟨hr, I5⟩ => ?_
      subst hr
      obtain ⟨m, ns, _⟩ := I5.loc
      have J1 : Inv X pins σ H4 s5 := I2.call' I5.os I5.base I5.hok I5.bare fun b hb => ⟨(f2 b hb).2.2.2.1, (f2 b hb).2.1, (f2 b hb).2.2.2.2.1, (f2 b hb).2.2.2.2.2⟩
      have big : ∀ a, D ≤ a → a ≠ X.env.locals ∧ (a ∈ X.ex ∨ X.s₀.heap.objs.size ≤ a) ∧ (∀ x y, X.env.cells.lookup x = some y → y ≠ a) ∧ ∀ p ∈ X.pn ++ pins, p.1 ≠ a := fun a ha => by
        obtain ⟨q0, q1, q2, q3, q4, q5⟩ := I2.fpOk (b := a) (H' := fun _ => none) (hDD ▸ ha) rfl
        exact ⟨q1, q3, q4, q5⟩
      have nfs : ∀ a, D ≤ a → a ∉ X.fs := fun a ha => I2.nofs (hDD ▸ ha)
      obtain ⟨b1, b2, b3, b4⟩ := big C hCle
      obtain ⟨p1, p2, p3, p4, p5⟩ := I5.pin (D, lstObj us k) (by simp)
      obtain ⟨d1, d2, d3, d4⟩ := big D (Nat.le_refl _)
      have J3 : Inv X pins σ (upd H4 D (.lst xs)) s5 := J1.adopt p2 d1 d2 d3 d4 ⟨Nat.le_of_lt hsz, us, k, rv, p1⟩
      obtain ⟨oC, esC, epC, hoC, hdC, rC⟩ := id ns
      have hHC : (upd H4 D (.lst xs)) C = none := by rw [upd_ne (Ne.symm hDC)]; exact I5.free
      have J4 : Inv X (pins ++ [(C, oC)]) σ (upd H4 D (.lst xs)) s5 := J3.pins_of fun p hp => by
        rcases List.mem_append.mp hp with z | z
        · exact J3.pin p (List.mem_append_right _ z)
        · have e : p = (C, oC) := by simpa using z
          subst e
          exact ⟨hoC, hHC, b1, nfs C hCle, fun v z => by rw [hdC] at z; cases z⟩
      show wpAny _ X.A (assign (.Name y py) X.env (.ref D)) _ _ s5
      refine wpAny_assign_Name (store_ok J4 hN hy hx (v := .ref D) rfl (fun s6 J5 => ?_) hf)
      have hC6 := (J5.pin (C, oC) (List.mem_append_right _ (List.mem_append_right _ (by simp)))).1
      refine ⟨m, ⟨oC, esC, epC, hC6, hdC, rC⟩, fun h' sb => ?_⟩
      have J6 : Inv X pins (σ.set iy (some (.ref D))) (upd H4 D (.lst xs)) s6 := J5.unpinned
      have J7 : Inv X pins (σ.set iy (some (.ref D))) (upd H4 D (.lst xs)) { s6 with heap := h' } := J6.turned (t' := s6.toks) (fun b o hb e => sb.extBut b o hb e) hHC b1 b2 b3 b4
      exact ⟨_, _, J7, fin D p2⟩
    · refine thn (T.item (cxComp X N scope cl fp C s2 H2) rfl rfl rfl hc i _ s4 σ4 H4 _ I4 (fpc fr4) tn4 go) fun r s5 ⟨u, hr, h5⟩ => ?_
      subst hr
      refine thn h5 fun _ s6 ⟨x, H6, I6, r6, y6, tn6, fr6⟩ => ?_
      have I6' := I6.pinned (fpc fr6) (T.obj _ _ tn6)
      refine thn (hg fp C s2 H2 _ s6 σ4 H6 x u _ I6' r6 (step x H6 y6)) fun _ s7 ⟨σ7, H7, I7, q7⟩ => ?_
      refine thn (he fp C s2 H2 _ s7 σ7 H7 _ I7 q7) fun yv s8 ⟨y, H8, I8, r8, m', hm, w8⟩ => ?_
      obtain ⟨p1, p2, p3, p4, p5⟩ := I8.pin (D, lstObj us k) (by simp [cxComp])
      have hsz' : us.toArray.size ≤ sizeLine := by simp; rw [← rv.length]; exact Nat.le_of_lt hsz
      refine wpAny_list_append_plain (hsz := hsz') ⟨k, p1⟩ fun h' pl sb => ?_
      have tn8 : tn (i + 1) s8.heap := T.keep _ _ _ tn6 fun b hb o e => (I8.pin (b, o) (List.mem_append_right _ (List.mem_append_right _ (mem_pinsAt hb e)))).1
      have fr8 : ∀ b ∈ fp, H8 b = none := fun b hb => by
        obtain ⟨o, e, d⟩ := T.obj _ _ tn6 b hb
        exact (I8.pin (b, o) (List.mem_append_right _ (List.mem_append_right _ (mem_pinsAt hb e)))).2.1
      have I9 : Inv (cxComp X N scope cl fp C s2 H2) [] σ7 H8 s8 := I8.pins_of fun p hp => nomatch hp
      have I10 : Inv (cxComp X N scope cl fp C s2 H2) [] σ7 H8 { s8 with heap := h' } := I9.turned (t' := s8.toks) (it := D) (fun b o hb e => sb.extBut b o hb e) p2 p3 (.inr (Nat.le_of_eq hDD))
        (fun x a e => Nat.ne_of_lt (cellD x a (hcn x a e))) (fun p hp => by simp [cxComp] at hp)
      obtain ⟨k', pl⟩ := pl
      have eu : us.toArray.push yv = (us ++ [yv]).toArray := by simp
      rw [eu] at pl
      have I11 : Inv (cxComp X N scope cl fp C s2 H2) [(D, lstObj (us ++ [yv]) k')] σ7 H8 { s8 with heap := h' } := I10.pins_of fun p hp => by
        have e : p = (D, lstObj (us ++ [yv]) k') := by simpa using hp
        subst e
        exact ⟨pl, p2, p3, p4, fun v z => by cases z⟩
      exact ⟨m', hm, i + 1, xs ++ [y], us ++ [yv], k', σ7, H8, I11, T.keep _ _ _ tn8 fun b hb o e => sb.extBut b o (Nat.ne_of_lt (hfl b hb)) e, fr8, rv.append (.cons r8 .nil), w8⟩
  exact codeAny_compStart_list loop (T.self _ 0 _ _ _ tn3 loop)
end
section
variable {X : Cx} {N tgs frs : List Str} {ix : List Nat} {scope : Scope} {cl : List (Str × Addr)}
theorem qs_setC {elt iter tg : Expr} {pos spos py : Pos} {y : Str} {i : Nat} {wi : TI} {g : TG} {te : TE} (hN : X.N.Nodup) (hy : X.N[i]? = some y) (hx : Loc X.env.scope y) (c : CompOk X N tgs frs ix scope cl) (hc : X.calm = true) (hi : QI X tg iter wi)
    (hg : ∀ fp C s H, QG (cxComp X N scope cl fp C s H) tg g) (he : ∀ fp C s H, QE (cxComp X N scope cl fp C s H) elt te)
    (hs : ∀ x, foldedSetIterable iter X.env x = pure x := by intro _; rfl)
    (hsw : swapsWith (.ListComp elt [⟨tg, iter, [], 0⟩] scope pos) (some (.Name y py)) spos.line X.env = pure true := by rfl)
    (hf : X.fn y = true ∨ X.env.scope.names.lookup y = some .local := by first | exact .inl rfl | exact .inr rfl | assumption) :
    QS X (.Assign [.Name y py] (.ListComp elt [⟨tg, iter, [], 0⟩] scope pos) spos) (tAsg (tComp wi g te tgs ix) (gName i)) :=
  ⟨ps_setC hN hy hx c hc hi.out (fun fp C s H => (hg fp C s H).out) (fun fp C s H => (he fp C s H).out) hs hsw hf⟩
end
section
variable {prog : Program} {w : World} {A : Around} {E : Value → Shared → Prop} {s : Shared}
end
section
variable {X : Cx} {pos : Pos} {u : TGs}
end
end L2

namespace L2
open PySem PySem.Spec PyProof.Rows
theorem snoc_get {α : Type} {xs : List α} {x : α} {i : Nat} {y : α} (h : (xs ++ [x])[i]? = some y) : (i < xs.length ∧ xs[i]? = some y) ∨ (i = xs.length ∧ y = x) := by
  rcases Nat.lt_trichotomy i xs.length with l | l | l
  · rw [List.getElem?_append_left l] at h; exact .inl ⟨l, h⟩
  · subst l; simp at h; exact .inr ⟨rfl, h.symm⟩
  · rw [List.getElem?_eq_none (by simp; omega)] at h; cases h
end L2

namespace L2
open PySem PySem.Spec PyProof.Rows
section
variable {X : Cx} {pins : List (Addr × Obj)} {σ : St} {H : Hp} {s : Shared} {h' : Heap}
end
section
variable {X : Cx}
end
section
variable {K : PySem.W.Frag} {H : Hp} {Q : VK}
end
end L2

namespace L2
open PySem PySem.Spec PyProof.Rows
section
variable {prog : Program} {w : World} {A : Around} {E : Value → Shared → Prop} {s : Shared}
end
def IteL (K : PySem.W.Frag) (a : Addr) : It :=
  ⟨fun i H => ∃ xs x, SqL K H a xs ∧ xs[i]? = some x, fun i H v H' => ∃ p x, v = .ref p ∧ H p = none ∧ H' = upd H p (.tup [.int i, x]) ∧ ∀ xs, SqL K H a xs → xs[i]? = some x, fun i H => ∃ xs, SqL K H a xs ∧ xs.length = i⟩
def IteT (K : PySem.W.Frag) (a : Addr) : It :=
  ⟨fun i H => ∃ xs x, SqT K H a xs ∧ xs[i]? = some x, fun i H v H' => ∃ p x, v = .ref p ∧ H p = none ∧ H' = upd H p (.tup [.int i, x]) ∧ ∀ xs, SqT K H a xs → xs[i]? = some x, fun i H => ∃ xs, SqT K H a xs ∧ xs.length = i⟩
def Itz (K : PySem.W.Frag) (a b : Addr) : It :=
  ⟨fun i H => ∃ xs ys x y, SqL K H a xs ∧ SqL K H b ys ∧ xs[i]? = some x ∧ ys[i]? = some y, fun i H v H' => ∃ p x y, v = .ref p ∧ H p = none ∧ H' = upd H p (.tup [x, y]) ∧ (∀ xs, SqL K H a xs → xs[i]? = some x) ∧ ∀ ys, SqL K H b ys → ys[i]? = some y, fun i H => ∃ xs ys, SqL K H a xs ∧ SqL K H b ys ∧ (xs.length ≤ i ∨ ys.length ≤ i)⟩
section
variable {X : Cx} {a b : Expr} {t : TA} {p pos tpos : Pos} {ts : List Expr} {k : Nat}
def iEnumL (K : PySem.W.Frag) (t : TA) : TI := fun σ H R => t σ H fun vs H1 => ∃ a, vs = [.ref a] ∧ (∃ xs, SqL K H1 a xs) ∧ R (IteL K a) H1
def iEnumT (K : PySem.W.Frag) (t : TA) : TI := fun σ H R => t σ H fun vs H1 => ∃ a, vs = [.ref a] ∧ (∃ xs, SqT K H1 a xs) ∧ R (IteT K a) H1
def iZip (K : PySem.W.Frag) (t : TA) : TI := fun σ H R => t σ H fun vs H1 => ∃ a b, vs = [.ref a, .ref b] ∧ (∃ xs, SqL K H1 a xs) ∧ (∃ ys, SqL K H1 b ys) ∧ R (Itz K a b) H1
end
section
variable {K : PySem.W.Frag} {σ : St} {H : Hp} {Q : VK} {D : Ends} {g : TG} {te : TE} {tb : TS}
theorem in_enumL {t : TA} {R : It → Hp → Prop} (h : t σ H fun vs H1 => ∃ a, vs = [.ref a] ∧ (∃ xs, SqL K H1 a xs) ∧ R (IteL K a) H1) : iEnumL K t σ H R := h
theorem in_enumT {t : TA} {R : It → Hp → Prop} (h : t σ H fun vs H1 => ∃ a, vs = [.ref a] ∧ (∃ xs, SqT K H1 a xs) ∧ R (IteT K a) H1) : iEnumT K t σ H R := h
theorem in_zip {t : TA} {R : It → Hp → Prop} (h : t σ H fun vs H1 => ∃ a b, vs = [.ref a, .ref b] ∧ (∃ xs, SqL K H1 a xs) ∧ (∃ ys, SqL K H1 b ys) ∧ R (Itz K a b) H1) : iZip K t σ H R := h
end
end L2

namespace L2
open PySem PySem.Spec PyProof.Rows
section
variable {K : PySem.W.Frag} {σ : St} {H : Hp} {Q : VK} {D : Ends}
theorem in_eqS {x y : Str} (h : Q (.bl (decide (V.str x = V.str y))) H) : rEq (.str x) (.str y) H Q := ⟨rfl, h⟩
theorem in_tru {ta : TE} {R : Bool → Hp → Prop} (h : ta σ H fun x H' => ∃ k, TruV K x H' k ∧ R k H') : tTru K ta σ H R := h
theorem in_chain {r r' : R2} {ta tb tc : TE} (h : ta σ H fun x H1 => tb σ H1 fun y H2 => r x y H2 fun z H3 => ∃ k, z = .bl k ∧ (if k = true then tc σ H3 fun w' H4 => r' y w' H4 Q else Q (.bl false) H3)) : tChain r r' ta tb tc σ H Q := h
theorem in_sl {r : V → Option Int → Option Int → Hp → VK → Prop} {te : TE} {tl th : TO} (h : te σ H fun x H1 => tl σ H1 fun l H2 => th σ H2 fun u H3 => r x l u H3 Q) : tSl r te tl th σ H Q := h
theorem in_part {t : TE} {R : Option Int → Hp → Prop} (h : t σ H fun x H1 => ∃ i, x = .int i ∧ R (some i) H1) : tPart t σ H R := h
theorem in_nopart {R : Option Int → Hp → Prop} (h : R none H) : tNoPart σ H R := h
theorem in_gtup2 {i j : Nat} {p : Addr} {x y : V} {R : St → Hp → Prop} (e : H p = some (.tup [x, y])) (h : R ((σ.set i (some x)).set j (some y)) H) : gTup K 2 (gCons (gName i) (gCons (gName j) gNil)) (.ref p) σ H R :=
  ⟨p, _, rfl, SqT.of e, rfl, _, _, rfl, _, _, rfl, rfl, h⟩
theorem via2 {α : Type} {G : Prop} {S B : α → Hp → Prop} (hA : (∀ a H, S a H → B a H) → G) (hB : ∀ a H, S a H → B a H) : G := hA hB
theorem map_get {α : Type} {f : α → V} {xs : List α} {i : Nat} {x : V} (h : (xs.map f)[i]? = some x) : ∃ z, x = f z ∧ xs[i]? = some z ∧ z ∈ xs ∧ i < xs.length := by
  rw [List.getElem?_map] at h
  cases e : xs[i]? with
  | none => rw [e] at h; cases h
  | some z => rw [e] at h; exact ⟨z, (Option.some.inj h).symm, rfl, List.mem_of_getElem? e, (List.getElem?_eq_some_iff.mp e).1⟩
end
end L2

namespace L2
open PySem PySem.Spec PyProof.Rows
section
variable {X : Cx} {e : Expr} {te : TE} {g : TG} {pos tpos : Pos} {ts : List Expr} {k : Nat}
theorem qs_asgT (he : QE X e te) (hg : QG X (.Tuple ts k tpos) g) (hs : swapsWithSole [.Tuple ts k tpos] e pos.line X.env = pure false := by rfl) (hw : swappedStores [.Tuple ts k tpos] e X.env = pure none := by rfl)
    (h1 : (assignEach [.Tuple ts k tpos] X.env).map (·.2) = [assign (.Tuple ts k tpos) X.env] := by rfl) : QS X (.Assign [.Tuple ts k tpos] e pos) (tAsg te g) := ⟨ps_asg he.out hg.out hs hw h1⟩
end
section
variable {K : PySem.W.Frag} {σ : St} {H : Hp}
end
theorem via3 {α β : Type} {G : Prop} {S B : α → β → Hp → Prop} (hA : (∀ a b H, S a b H → B a b H) → G) (hB : ∀ a b H, S a b H → B a b H) : G := hA hB
theorem in_pow15 {H : Hp} {Q : VK} (h : Q (.int 1000000000000000) H) : rI CPow (fun i j => .int (i ^ j.toNat)) (.int 10) (.int 15) H Q := ⟨10, 15, rfl, rfl, ⟨by decide, by decide, by decide⟩, by
  have e : (10 : Int) ^ (15 : Int).toNat = 1000000000000000 := by decide
  show Q (.int ((10 : Int) ^ (15 : Int).toNat)) H
  rw [e]; exact h⟩
end L2

namespace L2
open PySem PySem.Spec PyProof.Rows
theorem vals_of : ∀ {xs : List V} {us : List Value}, xs.length = us.length → (∀ (i : Nat) x u, xs[i]? = some x → us[i]? = some u → RelV x u) → Vals xs us
  | [], [], _, _ => .nil
  | [], _ :: _, h, _ => by simp at h
  | _ :: _, [], h, _ => by simp at h
  | x :: xs, u :: us, h, r => .cons (r 0 x u rfl rfl) (vals_of (by simpa using h) fun i y v a b => r (i + 1) y v (by simpa using a) (by simpa using b))
section
variable {X : Cx} {a b e o : Expr} {es : List Expr} {t : TA} {te to tb : TE} {p p2 pos pos2 apos cpos tpos : Pos}
def natsV (lo n : Nat) : List V := (List.range n).map fun i => V.int ((lo + i : Nat) : Int)
def tLRng1 (t : TA) : TE := fun σ H Q => t σ H fun vs H1 => ∃ j : Nat, vs = [.int j] ∧ j ≤ 1000 ∧ ∀ l, H1 l = none → Q (.ref l) (upd H1 l (.lst (natsV 0 j)))
def tLRng2 (t : TA) : TE := fun σ H Q => t σ H fun vs H1 => ∃ i j : Nat, vs = [.int i, .int j] ∧ i ≤ 1000 ∧ j ≤ 1000 ∧ i ≤ j ∧ ∀ l, H1 l = none → Q (.ref l) (upd H1 l (.lst (natsV i (j - i))))
def rIsN : R2 := fun x y H Q => y = .non ∧ Q (.bl (decide (x = .non))) H
end
section
variable {K : PySem.W.Frag} {σ : St} {H : Hp} {Q : VK}
theorem in_lrng1 {t : TA} (h : t σ H fun vs H1 => ∃ j : Nat, vs = [.int j] ∧ j ≤ 1000 ∧ ∀ l, H1 l = none → Q (.ref l) (upd H1 l (.lst (natsV 0 j)))) : tLRng1 t σ H Q := h
theorem in_lrng2 {t : TA} (h : t σ H fun vs H1 => ∃ i j : Nat, vs = [.int i, .int j] ∧ i ≤ 1000 ∧ j ≤ 1000 ∧ i ≤ j ∧ ∀ l, H1 l = none → Q (.ref l) (upd H1 l (.lst (natsV i (j - i))))) : tLRng2 t σ H Q := h
theorem in_isiIS {i : Int} (h : Q (.bl false) H) : rIsi K [.int i, .ty "str"] H Q := ⟨_, _, _, _, rfl, .int i, rfl, h⟩
theorem in_neB {x y : Bool} (h : Q (.bl (!decide (V.bl x = V.bl y))) H) : rNe (.bl x) (.bl y) H Q := ⟨rfl, h⟩
theorem in_isNo {x : V} (h : Q (.bl (decide (x = .non))) H) : rIsN x .non H Q := ⟨rfl, h⟩
end
end L2

namespace L2
open PySem PySem.Spec PyProof.Rows
def Tp2 (H : Hp) (p : Addr) : Prop := ∃ a b : Int, H p = some (.lst [.int a, .int b]) ∧ 0 ≤ a ∧ 0 ≤ b
structure St2 (p : Addr) (H H' : Hp) : Prop where
  keep : ∀ q o, H q = some o → q ≠ p → H' q = some o
  tape : Tp2 H' p
section
variable {H H1 H2 : Hp} {p q l : Addr} {o : HO}
theorem St2.refl (t : Tp2 H p) : St2 p H H := ⟨fun _ _ h _ => h, t⟩
theorem St2.trans (a : St2 p H H1) (b : St2 p H1 H2) : St2 p H H2 := ⟨fun q o h n => b.keep q o (a.keep q o h n) n, b.tape⟩
theorem Tp2.mk {a b : Int} (h : 0 ≤ a) (h2 : 0 ≤ b) : St2 p H (upd H p (.lst [.int a, .int b])) := ⟨fun q o e n => by rw [upd_ne n]; exact e, ⟨a, b, upd_same, h, h2⟩⟩
theorem Tp2.ne (t : Tp2 H p) (h : H q = none) : q ≠ p := by
  obtain ⟨a, b, e, _⟩ := t
  exact fun z => ne_of_none e h z.symm
theorem Tp2.same (t : Tp2 H p) (s : Same H H1) : Tp2 H1 p := by
  obtain ⟨a, b, e, n⟩ := t
  exact ⟨a, b, s _ _ e, n⟩
theorem Tp2.own (t : Tp2 H p) (n : l ≠ p) : Tp2 (upd H l o) p := by
  obtain ⟨a, b, e, q⟩ := t
  exact ⟨a, b, by rw [upd_ne (Ne.symm n)]; exact e, q⟩
theorem St2.new (a : St2 p H H1) (h : H1 q = none) : St2 p H (upd H1 q o) := ⟨fun b u e1 e2 => by rw [upd_ne (ne_of_none (a.keep b u e1 e2) h)]; exact a.keep b u e1 e2, a.tape.own (a.tape.ne h)⟩
theorem St2.own (a : St2 p H H1) (h : H l = none) (n : l ≠ p) : St2 p H (upd H1 l o) := ⟨fun b u e1 e2 => by rw [upd_ne (ne_of_none e1 h)]; exact a.keep b u e1 e2, a.tape.own n⟩
theorem St2.free (s : St2 p H H1) (h : H1 q = none) : H q = none := by
  cases e : H q with
  | none => rfl
  | some o =>
    have := s.keep q o e (s.tape.ne h)
    rw [h] at this; cases this
end
def spTape2 (K : PySem.W.Frag) : Sp := fun vs H Q _ => ∃ (a : Addr) (ns : List Int) (k : Int), vs = [.ref a, .int k] ∧ SqL K H a (ns.map V.int) ∧ 0 ≤ k ∧ ∀ p H', H p = none → Same H H' → Tp2 H' p → Q (.ref p) H'
def spDraw2 : Sp := fun vs H Q _ => ∃ (p : Addr) (m : Int), vs = [.ref p, .int m] ∧ Tp2 H p ∧ 0 < m ∧ m < 2 ^ 64 ∧ ∀ (r : Nat) H', (r : Int) < m → St2 p H H' → Q (.int r) H'
def NV (os : List Nat) : List V := os.map fun o : Nat => V.int o
theorem NV_len (os : List Nat) : (NV os).length = os.length := by simp [NV]
theorem NV_int (os : List Nat) : NV os = (os.map fun o : Nat => (o : Int)).map V.int := by rw [NV, List.map_map]; rfl
theorem NV_get {os : List Nat} {i o : Nat} (h : os[i]? = some o) : (NV os)[i]? = some (V.int o) := by rw [NV, List.getElem?_map, h]; rfl
theorem NV_at {os : List Nat} {i o : Nat} {k : Int} (e : k = i) (h : os[i]? = some o) : atI (NV os) k = some (V.int o) := by rw [e]; exact atI_nat (NV_get h)
theorem NV_snoc (os : List Nat) (o : Nat) : NV os ++ [V.int o] = NV (os ++ [o]) := by simp [NV]
def LsAt (H : Hp) (ps : List Addr) (nss : List (List Nat)) : Prop := ps.length = nss.length ∧ ∀ (i : Nat) p ns, ps[i]? = some p → nss[i]? = some ns → H p = some (.lst (NV ns))
section
variable {H H1 : Hp} {ps : List Addr} {nss : List (List Nat)}
theorem LsAt.same (h : LsAt H ps nss) (e : Same H H1) : LsAt H1 ps nss := ⟨h.1, fun i p z a c => e _ _ (h.2 i p z a c)⟩
theorem LsAt.snoc {p : Addr} {ns : List Nat} (h : LsAt H ps nss) (e : H p = some (.lst (NV ns))) : LsAt H (ps ++ [p]) (nss ++ [ns]) := by
  refine ⟨by simp [h.1], fun i q y a c => ?_⟩
  rcases snoc_get a with ⟨l, a⟩ | ⟨l, a⟩
  · rcases snoc_get c with ⟨_, c⟩ | ⟨l', c⟩
    · exact h.2 i q y a c
    · have := h.1; omega
  · rcases snoc_get c with ⟨l', c⟩ | ⟨_, c⟩
    · have := h.1; omega
    · rw [a, c]; exact e
theorem LsAt.nil : LsAt H [] [] := ⟨rfl, fun i p ns h => by simp at h⟩
theorem LsAt.some (h : LsAt H ps nss) {p : Addr} (hp : p ∈ ps) : ∃ ns, ns ∈ nss ∧ H p = Option.some (.lst (NV ns)) := by
  obtain ⟨i, hi, rfl⟩ := List.mem_iff_getElem.mp hp
  have hi2 : i < nss.length := by rw [← h.1]; exact hi
  exact ⟨nss[i], List.getElem_mem hi2, h.2 i ps[i] nss[i] (by simp [hi]) (by simp [hi2])⟩
end
def walk (os : List Nat) : Nat → List Bool → Nat → List Nat × List Bool
  | 0, met, _ => ([], met)
  | f + 1, met, pl => if met.getD pl true = true then ([], met) else (pl :: (walk os f (met.set pl true) (os.getD pl 0)).1, (walk os f (met.set pl true) (os.getD pl 0)).2)
end L2
namespace L2
open PySem PySem.Spec PyProof.Rows
theorem NV_app (xs ys : List Nat) : NV xs ++ NV ys = NV (xs ++ ys) := by simp [NV]
theorem cut_drop1 (os : List Nat) (h : 0 < os.length) : cutV (NV os) (some 1) none = NV (os.drop 1) := by
  cases os with
  | nil => simp at h
  | cons x r =>
    simp [cutV, HT.sIx, NV]
    exact List.take_of_length_le (by simp)
end L2

namespace L2
open PySem PySem.Spec PyProof.Rows
def tRev2 (K : PySem.W.Frag) (te : TE) : TE := fun σ H Q => te σ H fun x H1 => ∃ a xs, x = .ref a ∧ SqL K H1 a xs ∧ 0 < xs.length ∧ ∀ p, H1 p = none → Q (.ref p) (upd H1 p (.lst xs.dropLast.reverse))
section
variable {X : Cx} {e : Expr} {te : TE} {pos p1 p2 p3 p4 p5 : Pos} {j j' : Nat}
end
theorem in_rev2 {K : PySem.W.Frag} {σ : St} {H : Hp} {Q : VK} {te : TE} (h : te σ H fun x H1 => ∃ a xs, x = .ref a ∧ SqL K H1 a xs ∧ 0 < xs.length ∧ ∀ p, H1 p = none → Q (.ref p) (upd H1 p (.lst xs.dropLast.reverse))) : tRev2 K te σ H Q := h
theorem get_lt {α : Type} {xs : List α} {i : Nat} {x : α} (h : xs[i]? = some x) : i < xs.length := (List.getElem?_eq_some_iff.mp h).1
end L2
namespace L2
open PySem PySem.Spec PyProof.Rows
theorem atI_end {α : Type} {xs : List α} {v : α} (h : xs[xs.length - 1]? = some v) : atI xs (-1) = some v := by
  have hl := get_lt h
  have e : ixN xs.length (-1) = some (xs.length - 1) := by
    unfold ixN
    rw [if_neg (by decide), if_pos (by omega)]
    congr 1
    omega
  unfold atI
  rw [e]; exact h
end L2

namespace L2
open PySem PySem.Spec PyProof.Rows
section
variable {X : Cx} {N tgs frs : List Str} {ix : List Nat} {scope : Scope} {cl : List (Str × Addr)}
def tCompF (wi : TI) (g : TG) (tc : TT) (te : TE) (tgs : List Str) (ix : List Nat) : TE := fun σ H Q => wi σ H fun J H1 =>
  ∃ W : Nat → Nat → List V → St → Hp → Prop, (∃ m, W 0 m [] (stComp tgs ix σ) H1) ∧ ∀ i m xs σc H, W i m xs σc H → xs.length < sizeLine ∧
    ((J.stop i H ∧ ∀ p, H p = none → Q (.ref p) (upd H p (.lst xs))) ∨ (J.go i H ∧ ∀ x H', J.yld i H x H' → g x σc H' fun σ2 H2 => tc σ2 H2 fun b H3 => if b = true then te σ2 H3 fun y H4 => ∃ m', m' < m ∧ W (i + 1) m' (xs ++ [y]) σ2 H4 else ∃ m', m' < m ∧ W (i + 1) m' xs σ2 H3))
end
end L2
namespace L2
open PySem PySem.Spec PyProof.Rows
section
variable {X : Cx} {e o b : Expr} {to tb te : TE} {t : TA} {pos apos cpos tpos : Pos}
theorem qe_reverse {K : PySem.W.Frag} (ho : QE X o to) (hbase : attributeBase o ("reverse" : Str) X.env (eval o X.env) = eval o X.env := by rfl) (hline : (apos.endLine == cpos.line) = true := by rfl) (hK : X.K = K := by rfl) :
    QE X (.Call (.Attribute o "reverse" apos) [] [] cpos) (tBM0 K "list" rReverse to) := by subst hK; exact ⟨pe_bm0 PySem.F.plainAttrs_list PySem.F.slot_list_reverse PySem.F.type_list_reverse mt_reverse ho.out hbase hline⟩
theorem qe_popEnd {K : PySem.W.Frag} (ho : QE X o to) (hbase : attributeBase o ("pop" : Str) X.env (eval o X.env) = eval o X.env := by rfl) (hline : (apos.endLine == cpos.line) = true := by rfl) (hK : X.K = K := by rfl) :
    QE X (.Call (.Attribute o "pop" apos) [] [] cpos) (tBM0 K "list" rPop to) := by subst hK; exact ⟨pe_bm0 PySem.F.plainAttrs_list PySem.F.slot_list_pop PySem.F.type_list_pop mt_pop ho.out hbase hline⟩
theorem qe_extend {K : PySem.W.Frag} (ho : QE X o to) (ha : QA X [e] t) (hbase : attributeBase o ("extend" : Str) X.env (eval o X.env) = eval o X.env := by rfl) (hline : (apos.endLine == cpos.line) = true := by rfl) (hn : nstar e = true := by rfl) (hK : X.K = K := by rfl) :
    QE X (.Call (.Attribute o "extend" apos) [e] [] cpos) (tBM K "list" rExtend to t) := by subst hK; exact ⟨pe_bmN PySem.F.plainAttrs_list PySem.F.slot_list_extend PySem.F.type_list_extend mt_extend ho.out ha.out hbase hline hn⟩
end
end L2

namespace L2
open PySem PySem.Spec PyProof.Rows
section
variable {X : Cx} {N tgs frs : List Str} {ix : List Nat} {scope : Scope} {cl : List (Str × Addr)} {xc : Str}
end
end L2

namespace L2
open PySem PySem.Spec PyProof.Rows
section
variable {X : Cx} {e o b : Expr} {to tb te : TE} {pos tpos : Pos}
def rCatTA : R2 := fun x y H Q => ∃ a b xs ys, x = .ref a ∧ y = .ref b ∧ H a = some (.tup xs) ∧ H b = some (.tup ys) ∧ xs.length + ys.length ≤ sizeLine ∧ ∀ p H', Same H H' → H' p = some (.tup (xs ++ ys)) → Q (.ref p) H'
theorem q_catTA : QOp X (binaryOp .Add) rCatTA := by
  refine ⟨fun pins s σ H x y v u Q I rx ry h => ?_⟩
  obtain ⟨a, b, xs, ys, rfl, rfl, ha, hb, hz, q⟩ := h
  by_cases hx : xs = []
  · subst hx
    cases rx; cases ry
    obtain ⟨its, r1, p1, _⟩ := I.tuple (SqT.of ha)
    obtain ⟨its2, r2, p2, _⟩ := I.tuple (SqT.of hb)
    obtain ⟨⟨c1, d1, t1, l1⟩, o1, o2, n1, o3⟩ := id p1
    obtain ⟨⟨c2, d2, t2, l2⟩, o4, o5, n2, o6⟩ := id p2
    simp only at o2 o3 o5 o6
    subst o2 o3 o5 o6
    have e1 : its = [] := r1.nil_iff.mpr rfl
    refine concat_meets ⟨_, o1, rfl⟩ ⟨_, o4, rfl⟩ noFill_tuple_add seq_tuple_add PySem.F.slot_tuple_add PySem.F.entry_tuple_add (PySem.F.args_tuple_add_2 _ _)
      (tuple_addW0 a b its.toArray its2.toArray n1 n2 d1 d2 l1 l2 (by simp [e1])) ⟨o1, o4, ?_⟩
    exact ⟨.ref b, H, I, rfl, q b H (Same.refl H) hb⟩
  · exact op_catT pins s σ H _ _ v u Q I rx ry ⟨a, b, xs, ys, rfl, rfl, SqT.of ha, SqT.of hb, hx, hz, fun e => q a H (Same.refl H) (by rw [e, List.append_nil]; exact ha), fun _ p hp => q p _ ((Same.refl H).new hp) upd_same⟩
def rNeNil (K : PySem.W.Frag) : R2 := fun x y H Q => ∃ a b xs, x = .ref a ∧ y = .ref b ∧ SqL K H a xs ∧ SqL K H b [] ∧ Q (.bl (!decide (xs = []))) H
theorem q_neNil {K : PySem.W.Frag} (hu : X.A.units < cLine) (hK : X.K = K := by rfl) : QOp X (compareOp .NotEq) (rNeNil K) := by
  subst hK
  refine ⟨fun pins s σ H x y v u Q I rx ry h => ?_⟩
  obtain ⟨a, b, xs, rfl, rfl, ha, hb, q⟩ := h
  cases rx; cases ry
  obtain ⟨its, r1, p1, z1⟩ := I.list ha
  obtain ⟨its2, r2, p2, z2⟩ := I.list hb
  have l1 : its.toArray.size = xs.length := by have := r1.length; simp; omega
  have l2 : its2.toArray.size = 0 := by have := r2.length; simp at this; simp [this]
  by_cases hx : xs = []
  · subst hx
    refine SeqAt.RcNeAt.lists (e := fun _ => true) p1.isList p2.isList (by rw [l1, l2]; rfl) hu (fun j h1 h2 => absurd h2 (by omega)) X.prog X.w X.xe _ ?_
    rw [l1]
    exact ⟨.bl false, H, I, rfl, q⟩
  · refine SeqAt.RcNeAt.lists_lengths p1.isList p2.isList (by rw [l1, l2]; have := List.length_pos_iff.mpr hx; simp; exact hx) hu X.prog X.w X.xe _ ?_
    rw [decide_eq_false hx] at q
    exact ⟨.bl true, H, I, rfl, q⟩
end
section
variable {K : PySem.W.Frag} {σ : St} {H : Hp} {Q : VK} {D : Ends}
theorem in_augS {to ti te : TE} {tget : V → V → Hp → VK → Prop} {tip : TIp} {tset : TSet} (h : to σ H fun o H1 => ti σ H1 fun i H2 => tget o i H2 fun x H3 => te σ H3 fun y H4 => tip x y H4 fun z H5 => tset o i z H5 fun H6 => D.nx σ H6) : tAugS to ti te tget tip tset D σ H := h
theorem in_bm0 {r : V → List V → Hp → VK → Prop} {to : TE} {T : String} (h : to σ H fun x H1 => tyV K T x H1 ∧ r x [] H1 Q) : tBM0 K T r to σ H Q := h
theorem in_compF {wi : TI} {g : TG} {tc : TT} {te : TE} {tgs : List Str} {ix : List Nat} (h : wi σ H fun J H1 =>
  ∃ W : Nat → Nat → List V → St → Hp → Prop, (∃ m, W 0 m [] (stComp tgs ix σ) H1) ∧ ∀ i m xs σc H, W i m xs σc H → xs.length < sizeLine ∧
    ((J.stop i H ∧ ∀ p, H p = none → Q (.ref p) (upd H p (.lst xs))) ∨ (J.go i H ∧ ∀ x H', J.yld i H x H' → g x σc H' fun σ2 H2 => tc σ2 H2 fun b H3 => if b = true then te σ2 H3 fun y H4 => ∃ m', m' < m ∧ W (i + 1) m' (xs ++ [y]) σ2 H4 else ∃ m', m' < m ∧ W (i + 1) m' xs σ2 H3))) : tCompF wi g tc te tgs ix σ H Q := h
end
def colN (rss : List (List Nat)) (c : Nat) : List Nat := rss.map fun r => r.getD c 0
theorem cut_takeN (os : List Nat) (w : Nat) (h : w ≤ os.length) : cutV (NV os) none (some (w : Int)) = NV (os.take w) := by
  unfold cutV
  rw [HT.sIx_nat, HT.sIx_none, NV_len, Nat.min_eq_left h, List.drop_zero, Nat.sub_zero]
  unfold NV
  rw [List.map_take]
theorem cut_dropN (os : List Nat) (w : Nat) (h : w ≤ os.length) : cutV (NV os) (some (w : Int)) none = NV (os.drop w) := by
  unfold cutV
  rw [HT.sIx_nat, HT.sIx_none, NV_len, Nat.min_eq_left h, List.take_of_length_le (by rw [List.length_drop, NV_len]; exact Nat.le_refl _)]
  unfold NV
  rw [List.map_drop]
end L2

namespace L2
open PySem PySem.Spec PyProof.Rows
def Itd (m : Nat) : It := ⟨fun i _ => i < m, fun i H x H' => H' = H ∧ x = .int ((m - 1 - i : Nat) : Int), fun i _ => m ≤ i⟩
section
variable {X : Cx} {tg a b c : Expr} {t : TA} {p pos : Pos}
def iRngD (t : TA) : TI := fun σ H R => t σ H fun vs H1 => ∃ m : Nat, vs = [.int ((m : Int) - 1), .int (-1), .int (-1)] ∧ m ≤ 1000 ∧ R (Itd m) H1
end
theorem in_rngD {σ : St} {H : Hp} {t : TA} {R : It → Hp → Prop} (h : t σ H fun vs H1 => ∃ m : Nat, vs = [.int ((m : Int) - 1), .int (-1), .int (-1)] ∧ m ≤ 1000 ∧ R (Itd m) H1) : iRngD t σ H R := h
end L2

namespace L2
open PySem PySem.Spec PyProof.Rows
section
variable {prog : Program} {w : World} {A : Around} {E : Value → Shared → Prop} {s : Shared}
end
def ItzT (K : PySem.W.Frag) (a b : Addr) : It :=
  ⟨fun i H => ∃ xs ys x y, SqT K H a xs ∧ SqT K H b ys ∧ xs[i]? = some x ∧ ys[i]? = some y, fun i H v H' => ∃ p x y, v = .ref p ∧ H p = none ∧ H' = upd H p (.tup [x, y]) ∧ (∀ xs, SqT K H a xs → xs[i]? = some x) ∧ ∀ ys, SqT K H b ys → ys[i]? = some y, fun i H => ∃ xs, SqT K H a xs ∧ xs.length ≤ i⟩
section
variable {X : Cx} {a b : Expr} {t : TA} {p pos tpos : Pos} {ts : List Expr} {k : Nat}
def iZipT (K : PySem.W.Frag) (t : TA) : TI := fun σ H R => t σ H fun vs H1 => ∃ a b, vs = [.ref a, .ref b] ∧ (∃ xs, SqT K H1 a xs) ∧ (∃ ys, SqT K H1 b ys) ∧ R (ItzT K a b) H1
end
theorem in_zipT {K : PySem.W.Frag} {σ : St} {H : Hp} {t : TA} {R : It → Hp → Prop} (h : t σ H fun vs H1 => ∃ a b, vs = [.ref a, .ref b] ∧ (∃ xs, SqT K H1 a xs) ∧ (∃ ys, SqT K H1 b ys) ∧ R (ItzT K a b) H1) : iZipT K t σ H R := h
end L2

namespace L2
open PySem PySem.Spec PyProof.Rows
section
variable {X : Cx} {N tgs frs : List Str} {ix : List Nat} {scope : Scope} {cl : List (Str × Addr)}
end
section
variable {X : Cx} {N tgs frs : List Str} {ix : List Nat} {scope : Scope} {cl : List (Str × Addr)} {xc : Str}
end
section
variable {X : Cx} {e o : Expr} {to te : TE} {t : TA} {pos apos cpos : Pos}
end
section
variable {K : PySem.W.Frag} {σ : St} {H : Hp} {Q : VK} {g : TG} {tc : TT} {te : TE}
end
section
variable {X : Cx}
end
theorem sum_castN (ns : List Nat) : (ns.map fun x : Nat => (x : Int)).sum = ((ns.sum : Nat) : Int) := by
  induction ns with
  | nil => rfl
  | cons x xs ih => simp [ih]
end L2

namespace HT
open PySem PyProof.Rows
def lexLe : List Int → List Int → Bool
  | [], [] => true
  | [], _ :: _ => true
  | _ :: _, [] => false
  | x :: xs, y :: ys => if x = y then lexLe xs ys else decide (x ≤ y)
theorem lexLe_cons (x y : Int) (xs ys : List Int) : lexLe (x :: xs) (y :: ys) = if x = y then lexLe xs ys else decide (x ≤ y) := rfl
theorem lexLe_nil_nil : lexLe [] [] = true := rfl
theorem lexLe_nil_cons (y : Int) (ys : List Int) : lexLe [] (y :: ys) = true := rfl
theorem lexLe_cons_nil (x : Int) (xs : List Int) : lexLe (x :: xs) [] = false := rfl
theorem rcLe_int (A : Around) (s : Shared) (a : Int) (t : Tok) (c : Int) (u : Tok) (prog : Program) (w : World) (E : Value → Shared → Prop) (Q : Value → Shared → Prop) (h : Q (.bool (decide (a ≤ c))) s) :
    wpAny (model prog w) A (richCompare .LtE (.int a t) (.int c u)) Q E s :=
  (PyProof.Rows.le_int h : wpAny (model prog w) A (compareOp .LtE (.int a t) (.int c u)) Q E s)
section
open PySem.SeqAt
open PySem.AutoSeq1 (wpAny_loadPart')
open PySem.MeetsSeq PySem.MeetsSeq2 PySem.MeetsSeq3

theorem tuple_le_ints (l b : Addr) (items items2 : Array Value) (n n2 : Nat) (dd dd2 : Option Addr) (sl sl2 : Array (Option Value)) (ns ms : List Int) (hi : IntsAre items.toList ns) (hj : IntsAre items2.toList ms) :
    Meets (Builtin.«tuple.__le__» ⟨[.ref l, .ref b], []⟩)
      (fun _ R s => s.heap.get? l = some { cls := .type "tuple", dict := dd, data := .seq items n, slots := sl } ∧ s.heap.get? b = some { cls := .type "tuple", dict := dd2, data := .seq items2 n2, slots := sl2 } ∧
        R (.ok (.ret (.bool (lexLe ns ms)))) s) :=
  .of_wp fun prog w A R s h => by
    obtain ⟨hp, g, d, tk, os⟩ := s; obtain ⟨hl, hb, h⟩ := h
    have f2 := AutoSeq1.sub_tuple_tuple
    have z1 : items.size = ns.length := by rw [← hi.length]; simp
    have z2 : items2.size = ms.length := by rw [← hj.length]; simp
    wp_walk using wpAny_loadPart' hl, wpAny_loadPart' hb, wpAny_forIn_list _ (fun rest b s' => b.1 = none ∧ s' = ⟨hp, g, d, tk, os⟩ ∧ ∃ (vs ws : List Value) (ns' ms' : List Int), rest = vs.zip ws ∧
      IntsAre vs ns' ∧ IntsAre ws ms' ∧ ns'.length + items2.size = ms'.length + items.size ∧ R (.ok (.ret (.bool (lexLe ns' ms')))) ⟨hp, g, d, tk, os⟩) _
    case turn =>
      rintro ⟨y, x⟩ rest b s' ⟨hb', rfl, vs, ws, ns', ms', hz, hvi, hwi, hlen, hR⟩
      cases hvi with
      | nil => rw [List.zip_nil_left] at hz; cases hz
      | cons a t hvi' =>
        cases hwi with
        | nil => rw [List.zip_nil_right] at hz; cases hz
        | cons c u hwi' =>
          rw [List.zip_cons_cons] at hz
          injection hz with hyx hrest
          injection hyx with hy hx
          subst hy hx
          rw [lexLe_cons] at hR
          simp only [List.length_cons] at hlen
          obtain ⟨e, he, hiff⟩ := eqAt_int A.in1 ⟨hp, g, d, tk, os⟩ a t c u
          refine wpAny_bind (he prog w _ _ ?_)
          cases e with
          | true =>
            rw [if_pos (hiff.mp rfl)] at hR
            wp_walk
            exact ⟨rfl, rfl, _, _, _, _, hrest, hvi', hwi', by omega, hR⟩
          | false =>
            rw [if_neg (fun q => absurd (hiff.mpr q) Bool.false_ne_true)] at hR
            have hri := rcLe_int A.in1 ⟨hp, g, d, tk, os⟩ a t c u prog w
            wp_walk using hri
            exact ⟨_, rfl, by simpa using hR⟩
    case fin =>
      rintro ⟨b1, b2⟩ s' ⟨hb', rfl, vs, ws, ns', ms', hz, hvi, hwi, hlen, hR⟩
      simp only at hb'
      subst hb'
      have hv : lexLe ns' ms' = decide (items.size ≤ items2.size) := by
        cases hvi with
        | nil =>
          cases hwi with
          | nil =>
            simp only [List.length_nil] at hlen
            rw [lexLe_nil_nil]
            exact (decide_eq_true (by omega)).symm
          | cons c u hw =>
            simp only [List.length_nil, List.length_cons] at hlen
            rw [lexLe_nil_cons]
            exact (decide_eq_true (by omega)).symm
        | cons a t hv =>
          cases hwi with
          | nil =>
            simp only [List.length_nil, List.length_cons] at hlen
            rw [lexLe_cons_nil]
            exact (decide_eq_false (by omega)).symm
          | cons c u hw =>
            rw [List.zip_cons_cons] at hz
            cases hz
      rw [hv] at hR
      wp_walk
      exact ⟨_, rfl, by simpa [Builtin.Tuple.tupleCompareSizes] using hR⟩
    case h =>
      exact ⟨rfl, rfl, items.toList, items2.toList, ns, ms, rfl, hi, hj, by omega, h⟩
end

section
variable {prog : Program} {w : World} {A : Around} {E : Value → Shared → Prop} {s : Shared}

theorem le_tupInts {l b : Addr} {items items2 : Array Value} {ns ms : List Int} {Q : Value → Shared → Prop} (hl : IsTup s.heap l items) (hb : IsTup s.heap b items2) (hi : IntsAre items.toList ns) (hj : IntsAre items2.toList ms)
    (hu : A.units < cLine) (h : Q (.bool (lexLe ns ms)) s) : wpAny (model prog w) A (compareOp .LtE (.ref l) (.ref b)) Q E s := by
  obtain ⟨⟨cls, dd, data, sl⟩, ho, hc, n, hd⟩ := id hl
  obtain ⟨⟨cls2, dd2, data2, sl2⟩, ho2, hc2, n2, hd2⟩ := id hb
  simp only at hc hd hc2 hd2
  subst hc hd hc2 hd2
  exact richCompare_meets_room (op := .LtE) ⟨_, ho, rfl⟩ ⟨_, ho2, rfl⟩ PySem.F.slot_tuple_le PySem.F.entry_tuple_le (PySem.F.args_tuple_le_2 _ _) (tuple_le_ints l b items items2 n n2 dd dd2 sl sl2 ns ms hi hj)
    ⟨ho, ho2, show Value.bool (lexLe ns ms) ≠ Value.notImplemented ∧ Q (.bool (lexLe ns ms)) s from ⟨(fun x => nomatch x), h⟩⟩ hu

end
theorem lexLe_not (ns ms : List Int) : lexLe ns ms = !lexLt ms ns := by
  induction ns generalizing ms with
  | nil => cases ms <;> rfl
  | cons x xs ih =>
    cases ms with
    | nil => rfl
    | cons y ys =>
      rw [lexLe_cons, lexLt_cons]
      by_cases h : x = y
      · subst h; rw [if_pos rfl, if_pos rfl, ih]
      · rw [if_neg h, if_neg (Ne.symm h)]
        by_cases g : x ≤ y
        · rw [decide_eq_true g, decide_eq_false (by omega)]; rfl
        · rw [decide_eq_false g, decide_eq_true (by omega)]; rfl
end HT
namespace L2
open PySem PySem.Spec PyProof.Rows
section
variable {X : Cx} {e e2 o : Expr} {to te : TE} {t : TA} {pos apos cpos : Pos}
def rLeT (K : PySem.W.Frag) : R2 := fun x y H Q => ∃ a b ns ms, x = .ref a ∧ y = .ref b ∧ SqT K H a (ns.map V.int) ∧ SqT K H b (ms.map V.int) ∧ Q (.bl (HT.lexLe ns ms)) H
theorem op_leT (hu : X.A.units < cLine) : OpR X (compareOp .LtE) (rLeT X.K) := by
  intro pins s σ H x y v u Q I rx ry h
  obtain ⟨a, b, ns, ms, rfl, rfl, ha, hb, q⟩ := h
  cases rx
  cases ry
  obtain ⟨its, r1, p1, _⟩ := I.tuple ha
  obtain ⟨its2, r2, p2, _⟩ := I.tuple hb
  have i1 : IntsAre its.toArray.toList ns := intsAre_of r1
  have i2 : IntsAre its2.toArray.toList ms := intsAre_of r2
  exact HT.le_tupInts p1 p2 i1 i2 hu ⟨.bl (HT.lexLe ns ms), H, I, rfl, q⟩
theorem q_leT {K : PySem.W.Frag} (hu : X.A.units < cLine) (hK : X.K = K := by rfl) : QOp X (compareOp .LtE) (rLeT K) := by subst hK; exact ⟨op_leT hu⟩
end
def DatAt : Nat → Hp → V → PyData → Prop
  | 0, _, x, d => ∃ i : Int, x = .int i ∧ d = .int i ∧ i.natAbs < 10 ^ 12
  | n + 1, H, x, d => (∃ i : Int, x = .int i ∧ d = .int i ∧ i.natAbs < 10 ^ 12) ∨ (∃ a xs ds, x = .ref a ∧ d = .list ds ∧ H a = some (.lst xs) ∧ xs.length = ds.length ∧ ∀ (i : Nat) u e, xs[i]? = some u → ds[i]? = some e → DatAt n H u e) ∨
    (∃ a xs ds, x = .ref a ∧ d = .tuple ds ∧ H a = some (.tup xs) ∧ xs.length = ds.length ∧ ∀ (i : Nat) u e, xs[i]? = some u → ds[i]? = some e → DatAt n H u e)
theorem all_of {P : PyData → Bool} {PA : List PyData → Bool} (h0 : PA [] = true) (h1 : ∀ x xs, PA (x :: xs) = (P x && PA xs)) : ∀ {ds : List PyData}, (∀ d ∈ ds, P d = true) → PA ds = true
  | [], _ => h0
  | d :: ds, h => by rw [h1, h d (List.mem_cons_self ..), all_of h0 h1 fun x hx => h x (List.mem_cons_of_mem _ hx)]; rfl
theorem depthAll_le {n : Nat} : ∀ {ds : List PyData}, (∀ d ∈ ds, d.depth ≤ n) → PyData.depthAll ds ≤ n
  | [], _ => Nat.zero_le _
  | d :: ds, h => by
    show max d.depth (PyData.depthAll ds) ≤ n
    have h1 := h d (List.mem_cons_self ..)
    have h2 := depthAll_le (ds := ds) fun x hx => h x (List.mem_cons_of_mem _ hx)
    omega
theorem hasDictAll_no : ∀ {ds : List PyData}, (∀ d ∈ ds, d.hasDict = false) → PyData.hasDictAll ds = false
  | [], _ => rfl
  | d :: ds, h => by
    show (d.hasDict || PyData.hasDictAll ds) = false
    rw [h d (List.mem_cons_self ..), hasDictAll_no fun x hx => h x (List.mem_cons_of_mem _ hx)]; rfl
theorem DatAt.facts {H : Hp} : ∀ {n : Nat} {x : V} {d : PyData}, DatAt n H x d → d.showable = true ∧ d.hasDict = false ∧ d.depth ≤ n ∧ PyData.leavesShort 13 d = true
  | n, x, d, h => by
    have hint : (∃ i : Int, x = .int i ∧ d = .int i ∧ i.natAbs < 10 ^ 12) → d.showable = true ∧ d.hasDict = false ∧ d.depth ≤ n ∧ PyData.leavesShort 13 d = true := by
      rintro ⟨i, rfl, rfl, hi⟩
      refine ⟨?_, rfl, Nat.zero_le _, ?_⟩
      · unfold PyData.showable
        refine decide_eq_true ?_
        by_cases h0 : i.natAbs = 0
        · rw [h0]; decide
        · have : i.natAbs < 2 ^ 40 := Nat.lt_trans hi (by decide)
          have := (Nat.log2_lt h0).mpr this
          omega
      · unfold PyData.leavesShort
        exact decide_eq_true (PyData.shown_int_le hi)
    match n, h with
    | 0, h => exact hint h
    | n + 1, h =>
      rcases h with h | ⟨a, xs, ds, rfl, rfl, ha, hl, hi⟩ | ⟨a, xs, ds, rfl, rfl, ha, hl, hi⟩
      · exact hint h
      · have hd : ∀ d ∈ ds, d.showable = true ∧ d.hasDict = false ∧ d.depth ≤ n ∧ PyData.leavesShort 13 d = true := fun d hd => by
          obtain ⟨i, e⟩ := List.getElem?_of_mem hd
          have hlt := get_lt e
          exact DatAt.facts (hi i (xs[i]'(by omega)) d (List.getElem?_eq_getElem _) e)
        exact ⟨all_of (P := PyData.showable) (PA := PyData.showableAll) rfl (fun _ _ => rfl) fun d h => (hd d h).1, hasDictAll_no fun d h => (hd d h).2.1, Nat.succ_le_succ (depthAll_le fun d h => (hd d h).2.2.1), all_of (P := PyData.leavesShort 13) (PA := PyData.leavesShortAll 13) rfl (fun _ _ => rfl) fun d h => (hd d h).2.2.2⟩
      · have hd : ∀ d ∈ ds, d.showable = true ∧ d.hasDict = false ∧ d.depth ≤ n ∧ PyData.leavesShort 13 d = true := fun d hd => by
          obtain ⟨i, e⟩ := List.getElem?_of_mem hd
          have hlt := get_lt e
          exact DatAt.facts (hi i (xs[i]'(by omega)) d (List.getElem?_eq_getElem _) e)
        exact ⟨all_of (P := PyData.showable) (PA := PyData.showableAll) rfl (fun _ _ => rfl) fun d h => (hd d h).1, hasDictAll_no fun d h => (hd d h).2.1, Nat.succ_le_succ (depthAll_le fun d h => (hd d h).2.2.1), all_of (P := PyData.leavesShort 13) (PA := PyData.leavesShortAll 13) rfl (fun _ _ => rfl) fun d h => (hd d h).2.2.2⟩
section
variable {X : Cx} {pins : List (Addr × Obj)} {σ : St} {H : Hp} {s : Shared}
theorem readsAll_of {R : V → PyData → Prop} {h : Heap} (hR : ∀ x v d, R x d → RelV x v → ∃ as, Reads h v d as) : ∀ {xs : List V} {its : List Value} {ds : List PyData}, Vals xs its → xs.length = ds.length → (∀ (i : Nat) u e, xs[i]? = some u → ds[i]? = some e → R u e) → ∃ as, ReadsAll h its ds as
  | _, _, [], .nil, _, _ => ⟨[], .nil⟩
  | _, _, d :: ds, .cons r rr, hl, hi => by
    obtain ⟨as, h1⟩ := hR _ _ d (hi 0 _ d rfl rfl) r
    obtain ⟨bs, h2⟩ := readsAll_of hR rr (by simpa using hl) fun i u e e1 e2 => hi (i + 1) u e e1 e2
    exact ⟨as ++ bs, .cons h1 h2⟩
  | _, _, _ :: _, .nil, hl, _ => by simp at hl
  | _, _, [], .cons _ _, hl, _ => by simp at hl
theorem DatAt.reads (I : Inv X pins σ H s) : ∀ {n : Nat} {x : V} {d : PyData} {v : Value}, DatAt n H x d → RelV x v → ∃ as, Reads s.heap v d as
  | n, x, d, v, h, r => by
    have hint : (∃ i : Int, x = .int i ∧ d = .int i ∧ i.natAbs < 10 ^ 12) → ∃ as, Reads s.heap v d as := by
      rintro ⟨i, rfl, rfl, hi⟩
      obtain ⟨t, rfl⟩ := r
      exact ⟨_, .int i t⟩
    match n, h with
    | 0, h => exact hint h
    | n + 1, h =>
      rcases h with h | ⟨a, xs, ds, rfl, rfl, ha, hl, hi⟩ | ⟨a, xs, ds, rfl, rfl, ha, hl, hi⟩
      · exact hint h
      · cases r
        obtain ⟨its, m, rv, ho, hz⟩ := I.lst ha
        obtain ⟨as, h1⟩ := readsAll_of (R := DatAt n H) (fun x v d h r => DatAt.reads I h r) rv hl hi
        exact ⟨_, .list ho rfl rfl (by simpa using h1)⟩
      · cases r
        obtain ⟨its, rv, ⟨ob, ho, hc, m, hd⟩, hz⟩ := I.tuple (SqT.of ha)
        obtain ⟨as, h1⟩ := readsAll_of (R := DatAt n H) (fun x v d h r => DatAt.reads I h r) rv hl hi
        exact ⟨_, .tuple ho hc hd (by simpa using h1)⟩
def rStrD : List V → Hp → VK → Prop := fun xs H Q => ∃ (a : Addr) (d : PyData), xs = [.ref a] ∧ DatAt 3 H (.ref a) d ∧ d.weight ≤ 2 ^ 20 ∧ Q (.str d.shown) H
theorem cl_strD (hg : X.A.guards = some []) (hu : X.A.units + 64 < cLine) : CallR X (.type "str") rStrD := by
  intro pins s σ H xs us Q I r h
  obtain ⟨a, d, rfl, hd, hw, q⟩ := h
  obtain ⟨u, rfl, ru⟩ := vals1 r
  obtain ⟨as, h1⟩ := hd.reads I ru
  cases ru
  obtain ⟨f1, f2, f3, f4⟩ := hd.facts
  refine str_of_reads h1 f1 (fun z => by rw [f2] at z; cases z) hg (by omega) (fun b o e => e) (fun h' u tk hk => ?_) (PyData.shown_fits (by decide) (by decide) f4 hw)
  exact ⟨.str d.shown, H, I.kept hk, ⟨u, rfl⟩, q⟩
theorem qc_strD (hg : X.A.guards = some []) (hu : X.A.units + 64 < cLine) : QC X (.type "str") rStrD := ⟨cl_strD hg hu⟩
end
section
variable {K : PySem.W.Frag} {σ : St} {H : Hp} {Q : VK}
theorem in_leT {a b : Addr} {ns ms : List Int} (h1 : SqT K H a (ns.map V.int)) (h2 : SqT K H b (ms.map V.int)) (h : Q (.bl (HT.lexLe ns ms)) H) : rLeT K (.ref a) (.ref b) H Q := ⟨a, b, ns, ms, rfl, rfl, h1, h2, h⟩
theorem in_strD {a : Addr} {d : PyData} (h1 : DatAt 3 H (.ref a) d) (h2 : d.weight ≤ 2 ^ 20) (h : Q (.str d.shown) H) : rStrD [.ref a] H Q := ⟨a, d, rfl, h1, h2, h⟩
end
end L2

namespace L2
open PySem PySem.Spec PyProof.Rows
def castL (a : List Nat) : List Int := a.map fun x : Nat => (x : Int)
def lxt (a b : List Nat) : Bool := HT.lexLt (castL a) (castL b)
theorem lxt_cons (x y : Nat) (a b : List Nat) : lxt (x :: a) (y :: b) = if x = y then lxt a b else decide (x < y) := by
  unfold lxt castL
  rw [List.map_cons, List.map_cons, HT.lexLt_cons]
  by_cases h : x = y
  · rw [if_pos h, if_pos (by rw [h])]
  · rw [if_neg h, if_neg (by omega)]
    exact decide_eq_decide.mpr (by omega)
theorem lxt_irrefl (a : List Nat) : lxt a a = false := by
  induction a with
  | nil => rfl
  | cons x a ih => rw [lxt_cons, if_pos rfl, ih]
theorem lxt_trans {a b c : List Nat} (h1 : lxt a b = true) (h2 : lxt b c = true) : lxt a c = true := by
  induction a generalizing b c with
  | nil =>
    cases b with
    | nil => cases h1
    | cons y b => cases c with
      | nil => cases h2
      | cons z c => rfl
  | cons x a ih =>
    cases b with
    | nil => cases h1
    | cons y b =>
      cases c with
      | nil => cases h2
      | cons z c =>
        rw [lxt_cons] at h1 h2 ⊢
        by_cases e1 : x = y
        · subst e1
          rw [if_pos rfl] at h1
          by_cases e2 : x = z
          · rw [if_pos e2] at h2 ⊢; exact ih h1 h2
          · rw [if_neg e2] at h2 ⊢; exact h2
        · rw [if_neg e1] at h1
          have h1 := of_decide_eq_true h1
          by_cases e2 : y = z
          · subst e2; rw [if_neg e1]; exact decide_eq_true h1
          · rw [if_neg e2] at h2
            have h2 := of_decide_eq_true h2
            rw [if_neg (by omega)]; exact decide_eq_true (by omega)
theorem lxt_tri (a b : List Nat) : lxt a b = true ∨ a = b ∨ lxt b a = true := by
  induction a generalizing b with
  | nil => cases b with
    | nil => exact .inr (.inl rfl)
    | cons y b => exact .inl rfl
  | cons x a ih =>
    cases b with
    | nil => exact .inr (.inr rfl)
    | cons y b =>
      rw [lxt_cons, lxt_cons]
      by_cases e : x = y
      · subst e
        rw [if_pos rfl, if_pos rfl]
        rcases ih b with h | h | h
        · exact .inl h
        · exact .inr (.inl (by rw [h]))
        · exact .inr (.inr h)
      · rw [if_neg e, if_neg (Ne.symm e)]
        rcases Nat.lt_or_gt_of_ne e with h | h
        · exact .inl (decide_eq_true h)
        · exact .inr (.inr (decide_eq_true h))
theorem lxt_asymm {a b : List Nat} (h1 : lxt a b = true) (h2 : lxt b a = true) : False := by
  have := lxt_trans h1 h2
  rw [lxt_irrefl] at this; cases this
def Rk (rss : List (List Nat)) (c i j : Nat) : Prop := lxt ((rss.getD i []).drop c) ((rss.getD j []).drop c) = true ∨ ((rss.getD i []).drop c = (rss.getD j []).drop c ∧ i < j)
theorem Rk.asymm {rss : List (List Nat)} {c i j : Nat} (h1 : Rk rss c i j) (h2 : Rk rss c j i) : False := by
  rcases h1 with h1 | ⟨e1, l1⟩
  · rcases h2 with h2 | ⟨e2, l2⟩
    · exact lxt_asymm h1 h2
    · rw [e2, lxt_irrefl] at h1; cases h1
  · rcases h2 with h2 | ⟨e2, l2⟩
    · rw [e1, lxt_irrefl] at h2; cases h2
    · omega
theorem sorted_one {α : Type} {R : α → α → Prop} (ha : ∀ a b, R a b → R b a → False) : ∀ {xs ys : List α}, xs.Perm ys → xs.Pairwise R → ys.Pairwise R → xs = ys
  | [], ys, hp, _, _ => by have := hp.length_eq; exact (List.length_eq_zero_iff.mp this.symm).symm
  | x :: xs, [], hp, _, _ => by have := hp.length_eq; simp at this
  | x :: xs, y :: ys, hp, h1, h2 => by
    have e : x = y := by
      rcases List.mem_cons.mp (hp.mem_iff.mp (List.mem_cons_self ..)) with h | h
      · exact h
      · rcases List.mem_cons.mp (hp.mem_iff.mpr (List.mem_cons_self ..)) with g | g
        · exact g.symm
        · exact (ha x y ((List.pairwise_cons.mp h1).1 y g) ((List.pairwise_cons.mp h2).1 x h)).elim
    subst e
    rw [sorted_one ha (List.perm_cons x |>.mp hp) (List.pairwise_cons.mp h1).2 (List.pairwise_cons.mp h2).2]
end L2

namespace L2
open PySem PySem.Spec PyProof.Rows
section
variable {X : Cx} {o a b e : Expr} {to ta tb te : TE} {pos p2 tpos : Pos}
def gSlA (to ta tb : TE) : TG := fun v σ H R => to σ H fun x H1 => ta σ H1 fun y H2 => tb σ H2 fun z H3 => ∃ (l c : Addr) (xs ys : List V) (i j : Int), x = .ref l ∧ v = .ref c ∧ y = .int i ∧ z = .int j ∧ H3 l = some (.lst xs) ∧ H3 c = some (.lst ys) ∧ l ≠ c ∧ 0 ≤ i ∧ i ≤ j ∧ j ≤ xs.length ∧ xs.length + ys.length ≤ sizeLine ∧ R σ (upd H3 l (.lst (xs.take i.toNat ++ ys ++ xs.drop j.toNat)))
end
section
variable {K : PySem.W.Frag} {σ : St} {H : Hp} {Q : VK} {D : Ends}
theorem in_gslA {to ta tb : TE} {v : V} {R : St → Hp → Prop} (h : to σ H fun x H1 => ta σ H1 fun y H2 => tb σ H2 fun z H3 => ∃ (l c : Addr) (xs ys : List V) (i j : Int), x = .ref l ∧ v = .ref c ∧ y = .int i ∧ z = .int j ∧ H3 l = some (.lst xs) ∧ H3 c = some (.lst ys) ∧ l ≠ c ∧ 0 ≤ i ∧ i ≤ j ∧ j ≤ xs.length ∧ xs.length + ys.length ≤ sizeLine ∧ R σ (upd H3 l (.lst (xs.take i.toNat ++ ys ++ xs.drop j.toNat)))) : gSlA to ta tb v σ H R := h
theorem in_cont (h : D.ct σ H) : tCont D σ H := h
theorem in_extend {l c : Addr} {xs ys : List V} (h1 : H l = some (.lst xs)) (h2 : H c = some (.lst ys)) (hz : xs.length + ys.length ≤ sizeLine) (h : Q .non (upd H l (.lst (xs ++ ys)))) : rExtend (.ref l) [.ref c] H Q := ⟨l, c, xs, ys, rfl, rfl, h1, h2, hz, h⟩
theorem in_popEnd {l : Addr} {xs : List V} {y : V} (h1 : H l = some (.lst (xs ++ [y]))) (h : Q y (upd H l (.lst xs))) : rPop (.ref l) [] H Q := ⟨l, _, y, rfl, rfl, h1, by simp, by rw [List.dropLast_concat]; exact h⟩
end
abbrev Str3 := Nat × Nat × Nat
def TrAt (H : Hp) (qs : List Addr) (ws : List Str3) : Prop := qs.length = ws.length ∧ ∀ (i : Nat) q s, qs[i]? = some q → ws[i]? = some s → H q = some (.tup [.int (s.1 : Nat), .int (s.2.1 : Nat), .int (s.2.2 : Nat)])
end L2

namespace L2
open PySem PySem.Spec PyProof.Rows
section
variable {X : Cx} {e e2 o : Expr} {to te : TE} {t : TA} {pos apos cpos : Pos}
end
section
variable {K : PySem.W.Frag} {σ : St} {H : Hp} {Q : VK}
theorem in_isiBB {b : Bool} (h : Q (.bl true) H) : rIsi K [.bl b, .ty "bool"] H Q := ⟨_, _, _, _, rfl, .bl b, rfl, h⟩
theorem in_isiSB {x : Str} (h : Q (.bl false) H) : rIsi K [.str x, .ty "bool"] H Q := ⟨_, _, _, _, rfl, .str x, rfl, h⟩
theorem in_isiSS {x : Str} (h : Q (.bl true) H) : rIsi K [.str x, .ty "str"] H Q := ⟨_, _, _, _, rfl, .str x, rfl, h⟩
theorem in_eqB {x y : Bool} (h : Q (.bl (decide (V.bl x = V.bl y))) H) : rEq (.bl x) (.bl y) H Q := ⟨rfl, h⟩
end
end L2

namespace L2
open PySem PySem.Spec PyProof.Rows
def It2 (n : Nat) : It := ⟨fun i _ => i < (n + 1) / 2, fun i H x H' => H' = H ∧ x = .int ((2 * i : Nat) : Int), fun i _ => (n + 1) / 2 ≤ i⟩
section
variable {X : Cx} {tg a b c : Expr} {t : TA} {p pos : Pos}
def iRngS (t : TA) : TI := fun σ H R => t σ H fun vs H1 => ∃ n : Nat, vs = [.int 0, .int (n : Nat), .int 2] ∧ n ≤ 1000 ∧ R (It2 n) H1
end
theorem in_rngS {σ : St} {H : Hp} {t : TA} {R : It → Hp → Prop} (h : t σ H fun vs H1 => ∃ n : Nat, vs = [.int 0, .int (n : Nat), .int 2] ∧ n ≤ 1000 ∧ R (It2 n) H1) : iRngS t σ H R := h
section
variable {X : Cx} {e o b : Expr} {to tb te : TE} {pos tpos : Pos}
end
end L2
namespace HT
open PySem PyProof.Rows L2
section
variable {prog : Program} {w : World} {A : Around} {E : Value → Shared → Prop} {s : Shared}
theorem getItem_tuple_all {t sl : Addr} {items : Array Value} {vl vu : Value} {lo hi : Option Int} {Q : Value → Shared → Prop} (ht : IsTup s.heap t items) (hs : s.heap.IsSliceOf sl vl vu .none) (pl : IsPart vl lo) (pu : IsPart vu hi)
    (hw : sIx items.size 0 lo = 0 ∧ sIx items.size items.size hi = items.size) (h : Q (.ref t) s) : wpAny (model prog w) A (getItem (.ref t) (.ref sl)) Q E s := by
  obtain ⟨os, hos, hcs, hds⟩ := id hs
  have hTs : s.TypeIs (.ref sl) "slice" := ⟨os, hos, hcs⟩
  unfold getItem
  try with_reducible refine wpAny_holding ?_
  first | refine wpAny_bind (wpAny_pure ?_) | skip
  refine wpAny_bind (wpAny_sequenceKey ht.typeIs (by decide) ?_)
  refine wpAny_bind (wpAny_callSpecial?_slot (name := Str.ofString "__getitem__") ht.typeIs PyProof.Rows.slot_tuple_getitem
    (wpAny_call_entry PyProof.Rows.slot_tuple_getitem ht.typeIs entry_tuple_getitem ?_ (args_tuple_getitem _ _)))
  show wpAny _ _ (Builtin.Tuple.tupleItemsOf (.ref t) >>= _) _ _ s
  refine wpAny_bind (tupleItemsOf_ ht ?_)
  refine wpAny_bind (wpAny_typeOf hTs ?_)
  rw [if_pos (by decide)]
  refine wpAny_bind (sliceApplied_gen hs pl pu ?_)
  have hyes : (((sIx items.size 0 lo : Nat) : Int) == 0 && (1 : Int) == 1 && (sIx items.size items.size hi - sIx items.size 0 lo) == items.size) = true := by
    rw [hw.1, hw.2]; simp
  show wpAny _ _ (if (((sIx items.size 0 lo : Nat) : Int) == 0 && (1 : Int) == 1 && (sIx items.size items.size hi - sIx items.size 0 lo) == items.size) = true then _ else _) _ _ s
  rw [if_pos hyes]
  refine wpAny_bind (wpAny_bind (wpAny_typeOf ht.typeIs (wpAny_pure ?_)))
  rw [if_pos (by decide)]
  refine wpAny_bind (wpAny_rule ?_)
  exact wpAny_pure ⟨_, rfl, wpAny_pure h⟩
end
end HT
namespace L2
open PySem PySem.Spec PyProof.Rows
section
variable {X : Cx} {tg a b : Expr} {t : TA} {p pos : Pos}
def rSlTA : V → Option Int → Option Int → Hp → VK → Prop := fun x lo hi H Q => ∃ a xs, x = .ref a ∧ H a = some (.tup xs) ∧ ∀ p H', Same H H' → H' p = some (.tup (cutV xs lo hi)) → Q (.ref p) H'
theorem sl_tupA : SlR X rSlTA := by
  intro pins s σ H x v vl vu lo hi sl Q I rx hs pl pu h
  obtain ⟨a, xs, rfl, hx, q⟩ := h
  by_cases hw : HT.sIx xs.length 0 lo = 0 ∧ HT.sIx xs.length xs.length hi = xs.length
  · cases rx
    obtain ⟨its, r, ht, hz⟩ := I.tuple (SqT.of hx)
    have hlen : its.toArray.size = xs.length := by rw [List.size_toArray]; exact r.length.symm
    refine ⟨"tuple", _, PyProof.Rows.slot_tuple_getitem.lookup, ht.typeIs, ?_⟩
    refine HT.getItem_tuple_all ht hs pl pu (by rw [hlen]; exact hw) ⟨.ref a, H, I, rfl, q a H (Same.refl H) ?_⟩
    rw [hx]
    unfold cutV
    rw [hw.1, hw.2, List.drop_zero, Nat.sub_zero, List.take_of_length_le (Nat.le_refl _)]
  · exact sl_tup pins s σ H _ v vl vu lo hi sl Q I rx hs pl pu ⟨a, xs, rfl, SqT.of hx, hw, fun p hp => q p _ ((Same.refl H).new hp) upd_same⟩
theorem q_slTA : QSl X rSlTA := ⟨sl_tupA⟩
end
section
variable {K : PySem.W.Frag} {σ : St} {H : Hp} {Q : VK}
theorem in_rng2 {t : TA} {R : It → Hp → Prop} (h : t σ H fun vs H1 => ∃ i j : Int, vs = [.int i, .int j] ∧ (-(2 ^ 62) ≤ i ∧ i < 2 ^ 62 ∧ -(2 ^ 62) ≤ j ∧ j < 2 ^ 62) ∧ R (Itr i (j - i).toNat) H1) : iRng2 t σ H R := h
end
end L2

namespace L2
open PySem PySem.Spec PyProof.Rows
def brk (rss : List (List Nat)) (k : Nat) : Bool := lxt (rss.getD k []) (rss.getD (k - 1) [])
end L2

namespace L2
open PySem PySem.Spec PyProof.Rows PySem.W
def Sat (N : Nat) (lt : Nat → Nat → Bool) {α : Type} : KasT α → (α → Prop) → Prop
  | .ret a, R => R a
  | .ask i j k, R => i < N ∧ j < N ∧ Sat N lt (k (lt i j)) R
theorem Sat.mono {N : Nat} {lt : Nat → Nat → Bool} {α : Type} {R R' : α → Prop} (hR : ∀ a, R a → R' a) : ∀ (t : KasT α), Sat N lt t R → Sat N lt t R'
  | .ret _, h => hR _ h
  | .ask i j k, h => ⟨h.1, h.2.1, Sat.mono hR (k (lt i j)) h.2.2⟩
theorem Sat.bind {N : Nat} {lt : Nat → Nat → Bool} {α β : Type} {R : α → Prop} {R' : β → Prop} {f : α → KasT β} (hf : ∀ a, R a → Sat N lt (f a) R') : ∀ (t : KasT α), Sat N lt t R → Sat N lt (t.bind f) R'
  | .ret a, h => hf a h
  | .ask i j k, h => ⟨h.1, h.2.1, Sat.bind hf (k (lt i j)) h.2.2⟩
structure Lt (lt : Nat → Nat → Bool) : Prop where
  asym : ∀ i j, lt i j = true → lt j i = false
  tr : ∀ i j k, lt i j = false → lt j k = false → lt i k = false
def Ah (lt : Nat → Nat → Bool) (i j : Nat) : Prop := lt j i = false ∧ (lt i j = false → i < j)
theorem Ah.of_lt {lt : Nat → Nat → Bool} (H : Lt lt) {i j : Nat} (h : lt i j = true) : Ah lt i j := ⟨H.asym i j h, fun h' => by rw [h] at h'; cases h'⟩
theorem Ah.trans {lt : Nat → Nat → Bool} (H : Lt lt) {i j k : Nat} (a : Ah lt i j) (b : Ah lt j k) : Ah lt i k := by
  refine ⟨H.tr k j i b.1 a.1, fun h => ?_⟩
  have h1 : lt i j = false := H.tr i k j h b.1
  have h2 : lt j k = false := H.tr j i k a.1 h
  exact Nat.lt_trans (a.2 h1) (b.2 h2)
theorem lt_true {lt : Nat → Nat → Bool} (H : Lt lt) {i j k : Nat} (h : lt i j = true) (h' : lt k j = false) : lt i k = true := by
  cases e : lt i k with
  | true => rfl
  | false => rw [H.tr i k j e h'] at h; cases h
theorem lt_true' {lt : Nat → Nat → Bool} (H : Lt lt) {i j k : Nat} (h : lt i j = true) (h' : lt i k = false) : lt k j = true := by
  cases e : lt k j with
  | true => rfl
  | false => rw [H.tr i k j h' e] at h; cases h

section
variable {N : Nat} {lt : Nat → Nat → Bool}
structure Pm (N : Nat) (p : Array Nat) : Prop where
  sz : p.size = N
  bd : ∀ i, i < N → p.getD i 0 < N
  inj : ∀ i j, i < N → j < N → p.getD i 0 = p.getD j 0 → i = j
theorem pm_of {p : Array Nat} (h : p.Perm (List.toArray (List.range N))) : Pm N p := by
  have hp : p.toList.Perm (List.range N) := by simpa using Array.perm_iff_toList_perm.mp h
  have hs : p.size = N := by rw [← Array.length_toList, hp.length_eq, List.length_range]
  have hn : p.toList.Nodup := hp.nodup_iff.mpr List.nodup_range
  refine ⟨hs, fun i hi => ?_, fun i j hi hj e => ?_⟩
  · have hi' : i < p.size := by omega
    have : p[i] ∈ p.toList := Array.mem_toList_iff.mpr (Array.getElem_mem hi')
    have h2 := hp.mem_iff.mp this
    rw [show p.getD i 0 = p[i] by simp [Array.getD, hi']]
    exact List.mem_range.mp h2
  · have hi' : i < p.size := by omega
    have hj' : j < p.size := by omega
    rw [show p.getD i 0 = p[i] by simp [Array.getD, hi'], show p.getD j 0 = p[j] by simp [Array.getD, hj']] at e
    have e' : p.toList[i]'(by simpa using hi') = p.toList[j]'(by simpa using hj') := by simpa using e
    have hq := List.pairwise_iff_getElem.mp hn
    rcases Nat.lt_trichotomy i j with x | x | x
    · exact absurd e' (hq i j _ _ x)
    · exact x
    · exact absurd e'.symm (hq j i _ _ x)
theorem getD_rev {p : Array Nat} {i j : Nat} (hj : j ≤ p.size) (k : Nat) : (kas_rev p i j).getD k 0 = if i ≤ k ∧ k < j then p.getD (i + j - 1 - k) 0 else p.getD k 0 := by
  have h := getElem?_mirror_all (i := i) hj k
  rw [Array.getD_eq_getD_getElem?, Array.getD_eq_getD_getElem?, Array.getD_eq_getD_getElem?]
  show ((mirror p i j ((j - i) / 2))[k]?).getD 0 = _
  rw [h]
  split <;> rfl
theorem getD_bub {p : Array Nat} {k l : Nat} (hk : k < p.size) (hl : l ≤ k) (i : Nat) : (bubble p k (k - l)).getD i 0 = if i = l then p.getD k 0 else if l < i ∧ i ≤ k then p.getD (i - 1) 0 else p.getD i 0 := by
  have h := getElem?_bubble hk (k - l) (by omega) i
  have e : k - (k - l) = l := by omega
  rw [e] at h
  simp only [Array.getD_eq_getD_getElem?]
  rw [h]
  repeat' split
  all_goals rfl
theorem rev_perm {p : Array Nat} (i j : Nat) (h : p.Perm (List.toArray (List.range N))) : (kas_rev p i j).Perm (List.toArray (List.range N)) := (mirror_perm _ _ _ _).trans h
theorem bub_perm {p : Array Nat} (i j : Nat) (h : p.Perm (List.toArray (List.range N))) : (bubble p i j).Perm (List.toArray (List.range N)) := (bubble_perm _ _ _).trans h
def Tl (N : Nat) (p : Array Nat) (m : Nat) : Prop := ∀ i, m ≤ i → i < N → p.getD i 0 = i
theorem Pm.lo {p : Array Nat} (P : Pm N p) {m i : Nat} (T : Tl N p m) (hi : i < m) (hm : m ≤ N) : p.getD i 0 < m := by
  rcases Nat.lt_or_ge (p.getD i 0) m with h | h
  · exact h
  · have h2 := T _ h (P.bd i (by omega))
    have := P.inj _ _ (P.bd i (by omega)) (by omega) h2
    omega
def Up (lt : Nat → Nat → Bool) (p : Array Nat) (m : Nat) : Prop := ∀ i, 0 < i → i < m → Ah lt (p.getD (i - 1) 0) (p.getD i 0)
theorem Up.all (H : Lt lt) {p : Array Nat} {m : Nat} (U : Up lt p m) : ∀ d i, i + d + 1 < m → Ah lt (p.getD i 0) (p.getD (i + d + 1) 0)
  | 0, i, h => U (i + 1) (by omega) h
  | d + 1, i, h => (Up.all H U d i (by omega)).trans H (U (i + d + 1 + 1) (by omega) h)
theorem Up.at (H : Lt lt) {p : Array Nat} {m i j : Nat} (U : Up lt p m) (h : i < j) (hj : j < m) : Ah lt (p.getD i 0) (p.getD j 0) := by
  have := U.all H (j - i - 1) i (by omega)
  rw [show i + (j - i - 1) + 1 = j by omega] at this
  exact this

theorem sat_asc {p : Array Nat} (hb : ∀ i, i < N → p.getD i 0 < N) : ∀ (f n : Nat), 1 ≤ n → n + f ≤ N →
    Sat N lt (kas_asc p f n) (fun m => n ≤ m ∧ m ≤ n + f ∧ (∀ i, n ≤ i → i < m → lt (p.getD i 0) (p.getD (i - 1) 0) = false) ∧ (m < n + f → lt (p.getD m 0) (p.getD (m - 1) 0) = true))
  | 0, n, _, _ => ⟨Nat.le_refl _, Nat.le_refl _, fun i a b => by omega, fun h => by omega⟩
  | f + 1, n, h1, hN => by
    refine ⟨hb _ (by omega), hb _ (by omega), ?_⟩
    cases e : lt (p.getD n 0) (p.getD (n - 1) 0) with
    | true =>
      simp only [if_true]
      exact ⟨Nat.le_refl _, by omega, fun i a b => by omega, fun _ => e⟩
    | false =>
      simp only [Bool.false_eq_true, if_false]
      refine Sat.mono (fun m hm => ?_) _ (sat_asc hb f (n + 1) (by omega) (by omega))
      obtain ⟨a, b, c, d⟩ := hm
      refine ⟨by omega, by omega, fun i hi him => ?_, fun h => d (by omega)⟩
      rcases Nat.eq_or_lt_of_le hi with rfl | h
      · exact e
      · exact c i h him

structure Dn (N : Nat) (lt : Nat → Nat → Bool) (p : Array Nat) (n q : Nat) : Prop where
  perm : p.Perm (List.toArray (List.range N))
  tl : Tl N p n
  fall : ∀ i, 0 < i → i + (q + 1) < n → Ah lt (p.getD i 0) (p.getD (i - 1) 0)
  like : ∀ i, n ≤ i + q → i < n → Ah lt (p.getD (i - 1) 0) (p.getD i 0) ∧ lt (p.getD (i - 1) 0) (p.getD i 0) = false
  join : ∀ i, 0 < i → i + (q + 1) = n → lt (p.getD i 0) (p.getD (i - 1) 0) = true
  len : q + 1 ≤ n
  top : n ≤ N
theorem Dn.alike (H : Lt lt) {p : Array Nat} {n q : Nat} (D : Dn N lt p n q) : ∀ d i j, i + d = j → n ≤ i + q + 1 → j < n → lt (p.getD i 0) (p.getD j 0) = false ∧ lt (p.getD j 0) (p.getD i 0) = false
  | 0, i, j, e, h1, h2 => by
    have : i = j := by omega
    subst this
    cases e : lt (p.getD i 0) (p.getD i 0) with
    | false => exact ⟨rfl, rfl⟩
    | true => have := H.asym _ _ e; rw [e] at this; cases this
  | d + 1, i, j, e, h1, h2 => by
    obtain ⟨a, b⟩ := Dn.alike H D d i (j - 1) (by omega) h1 (by omega)
    obtain ⟨⟨c, _⟩, c'⟩ := D.like j (by omega) h2
    exact ⟨H.tr _ _ _ a c', H.tr _ _ _ c b⟩
theorem Dn.turn (H : Lt lt) {p : Array Nat} {n q : Nat} (D : Dn N lt p n q) : Tl N (kas_rev p (n - (q + 1)) n) n ∧ (∀ i, 0 < i → i < n → Ah lt ((kas_rev p (n - (q + 1)) n).getD i 0) ((kas_rev p (n - (q + 1)) n).getD (i - 1) 0)) ∧
    (∀ x, lt x (p.getD (n - 1) 0) = true → lt x ((kas_rev p (n - (q + 1)) n).getD (n - 1) 0) = true) := by
  have P := pm_of D.perm
  have hn : n ≤ p.size := by rw [P.sz]; exact D.top
  have hl := D.len
  refine ⟨fun i h1 h2 => ?_, fun i h1 h2 => ?_, fun x hx => ?_⟩
  · rw [getD_rev hn, if_neg (by omega)]; exact D.tl i h1 h2
  · rw [getD_rev hn, getD_rev hn]
    by_cases c1 : n - (q + 1) ≤ i
    · rw [if_pos ⟨c1, h2⟩]
      by_cases c2 : n - (q + 1) ≤ i - 1
      · rw [if_pos ⟨c2, by omega⟩]
        have := (D.like (n - (q + 1) + n - 1 - (i - 1)) (by omega) (by omega)).1
        rw [show n - (q + 1) + n - 1 - (i - 1) - 1 = n - (q + 1) + n - 1 - i by omega] at this
        exact this
      · rw [if_neg (by omega)]
        have ei : i = n - (q + 1) := by omega
        rw [show n - (q + 1) + n - 1 - i = n - 1 by omega]
        have j := D.join i h1 (by omega)
        have k := (D.alike H (n - 1 - i) i (n - 1) (by omega) (by omega) (by omega)).1
        exact Ah.of_lt H (lt_true' H j k)
    · rw [if_neg (by omega), if_neg (by omega)]
      exact D.fall i h1 (by omega)
  · rw [getD_rev hn, if_pos (by omega), show n - (q + 1) + n - 1 - (n - 1) = n - (q + 1) by omega]
    have k := (D.alike H (n - 1 - (n - (q + 1))) (n - (q + 1)) (n - 1) (by omega) (by omega) (by omega)).1
    exact lt_true H hx k

theorem sat_desc (H : Lt lt) : ∀ (f : Nat) (p : Array Nat) (n q : Nat), Dn N lt p n q → n + f ≤ N →
    Sat N lt (kas_desc f p n q) (fun r => Dn N lt r.1 r.2.1 r.2.2)
  | 0, p, n, q, D, _ => D
  | f + 1, p, n, q, D, hN => by
    have P := pm_of D.perm
    have hl := D.len
    have hn : n ≤ p.size := by rw [P.sz]; exact D.top
    refine ⟨P.bd _ (by omega), P.bd _ (by omega), ?_⟩
    cases e : lt (p.getD n 0) (p.getD (n - 1) 0) with
    | true =>
      simp only [if_true]
      have step : ∀ p' : Array Nat, p'.Perm (List.toArray (List.range N)) → Tl N p' n → (∀ i, 0 < i → i < n → Ah lt (p'.getD i 0) (p'.getD (i - 1) 0)) → lt (p'.getD n 0) (p'.getD (n - 1) 0) = true → Dn N lt p' (n + 1) 0 :=
        fun p' a b c d => ⟨a, fun i h1 h2 => b i (by omega) h2, fun i h1 h2 => c i h1 (by omega), fun i h1 h2 => by omega,
          fun i h1 h2 => by have : i = n := by omega
                            subst this; exact d, by omega, by omega⟩
      by_cases hq : q > 0
      · rw [if_pos hq]
        obtain ⟨t1, t2, t3⟩ := D.turn H
        refine sat_desc H f _ (n + 1) 0 (step _ (rev_perm _ _ D.perm) t1 t2 ?_) (by omega)
        refine t3 _ ?_
        rw [getD_rev hn, if_neg (by omega)]
        exact e
      · rw [if_neg hq]
        have hq0 : q = 0 := by omega
        subst hq0
        refine sat_desc H f _ (n + 1) 0 (step _ D.perm D.tl (fun i h1 h2 => ?_) e) (by omega)
        rcases Nat.lt_or_ge (i + 1) n with h | h
        · exact D.fall i h1 h
        · exact Ah.of_lt H (D.join i h1 (by omega))
    | false =>
      simp only [Bool.false_eq_true, if_false]
      refine ⟨P.bd _ (by omega), P.bd _ (by omega), ?_⟩
      cases e2 : lt (p.getD (n - 1) 0) (p.getD n 0) with
      | true =>
        simp only [if_true]
        exact D
      | false =>
        simp only [Bool.false_eq_true, if_false]
        refine sat_desc H f p (n + 1) (q + 1) ⟨D.perm, fun i h1 h2 => D.tl i (by omega) h2, fun i h1 h2 => D.fall i h1 (by omega), fun i h1 h2 => ?_, fun i h1 h2 => D.join i h1 (by omega), by omega, by omega⟩ (by omega)
        rcases Nat.lt_or_ge i n with h | h
        · exact D.like i (by omega) h
        · have : i = n := by omega
          subst this
          refine ⟨⟨e, fun _ => ?_⟩, e2⟩
          rw [D.tl i (Nat.le_refl _) (by omega)]
          exact P.lo D.tl (by omega) D.top

structure Rn (N : Nat) (lt : Nat → Nat → Bool) (p : Array Nat) (m : Nat) : Prop where
  perm : p.Perm (List.toArray (List.range N))
  tl : Tl N p m
  up : Up lt p m
  top : m ≤ N
theorem Rn.longer (H : Lt lt) {p : Array Nat} {n m : Nat} (R : Rn N lt p n) (h1 : 1 ≤ n) (h : n ≤ m) (hm : m ≤ N) (ha : ∀ i, n ≤ i → i < m → lt (p.getD i 0) (p.getD (i - 1) 0) = false) : Rn N lt p m := by
  have P := pm_of R.perm
  refine ⟨R.perm, fun i a b => R.tl i (by omega) b, fun i a b => ?_, hm⟩
  rcases Nat.lt_or_ge i n with c | c
  · exact R.up i a c
  · refine ⟨ha i c b, fun _ => ?_⟩
    rw [R.tl i c (by omega)]
    exact P.lo (fun j x y => R.tl j (by omega) y) (by omega) (by omega)
theorem rn_of_fall (H : Lt lt) {p : Array Nat} {n : Nat} (hp : p.Perm (List.toArray (List.range N))) (T : Tl N p n) (hn : n ≤ N) (F : ∀ i, 0 < i → i < n → Ah lt (p.getD i 0) (p.getD (i - 1) 0)) : Rn N lt (kas_rev p 0 n) n := by
  have P := pm_of hp
  have hs : n ≤ p.size := by rw [P.sz]; exact hn
  refine ⟨rev_perm _ _ hp, fun i a b => ?_, fun i a b => ?_, hn⟩
  · rw [getD_rev hs, if_neg (by omega)]; exact T i a b
  · rw [getD_rev hs, getD_rev hs, if_pos (by omega), if_pos (by omega)]
    have := F (0 + n - 1 - (i - 1)) (by omega) (by omega)
    rw [show 0 + n - 1 - (i - 1) - 1 = 0 + n - 1 - i by omega] at this
    exact this
theorem sat_tail3 (H : Lt lt) {p : Array Nat} {n : Nat} (h1 : 1 ≤ n) (hp : p.Perm (List.toArray (List.range N))) (T : Tl N p n) (hn : n ≤ N) (F : ∀ i, 0 < i → i < n → Ah lt (p.getD i 0) (p.getD (i - 1) 0)) :
    Sat N lt (kas_tail3 n N p) (fun r => 1 ≤ r.1 ∧ Rn N lt r.2 r.1) := by
  have R := rn_of_fall H hp T hn F
  refine Sat.bind (fun m hm => ?_) _ (sat_asc (pm_of R.perm).bd (N - n) n h1 (by omega))
  exact ⟨by show 1 ≤ m; omega, R.longer H h1 hm.1 (by omega) hm.2.2.1⟩
theorem sat_descPart (H : Lt lt) {p : Array Nat} {n : Nat} (D : Dn N lt p (n + 1) 0) : Sat N lt (kas_descPart n N p) (fun r => 1 ≤ r.1 ∧ Rn N lt r.2 r.1) := by
  have := D.top
  refine Sat.bind (fun r D' => ?_) _ (sat_desc H (N - (n + 1)) p (n + 1) 0 D (by omega))
  have hl := D'.len
  by_cases hq : r.2.2 > 0
  · rw [if_pos hq]
    obtain ⟨t1, t2, _⟩ := D'.turn H
    exact sat_tail3 H (by omega) (rev_perm _ _ D'.perm) t1 D'.top t2
  · rw [if_neg hq]
    refine sat_tail3 H (by omega) D'.perm D'.tl D'.top fun i h1 h2 => ?_
    rcases Nat.lt_or_ge (i + (r.2.2 + 1)) r.2.1 with h | h
    · exact D'.fall i h1 h
    · exact Ah.of_lt H (D'.join i h1 (by omega))
theorem range_getD (i : Nat) (h : i < N) : (List.toArray (List.range N)).getD i 0 = i := by
  simp [Array.getD, h]
theorem sat_count (H : Lt lt) (h1 : 1 ≤ N) : Sat N lt (kas_count N (List.toArray (List.range N))) (fun r => 1 ≤ r.1 ∧ Rn N lt r.2 r.1) := by
  have hp : (List.toArray (List.range N)).Perm (List.toArray (List.range N)) := Array.Perm.refl _
  have P := pm_of hp
  have R1 : Rn N lt (List.toArray (List.range N)) 1 := ⟨hp, fun i a b => range_getD i b, fun i a b => by omega, h1⟩
  refine Sat.bind (fun n hn => ?_) _ (sat_asc P.bd (N - 1) 1 (Nat.le_refl _) (by omega))
  obtain ⟨a, b, c, d⟩ := hn
  have R := R1.longer H (Nat.le_refl _) a (by omega) c
  by_cases e : n = N
  · rw [if_pos (by simp [e])]; exact ⟨a, R⟩
  · rw [if_neg (by simp [e])]
    have dd := d (by omega)
    rw [range_getD _ (by omega), range_getD _ (by omega)] at dd
    by_cases h : n > 1
    · rw [if_pos h]
      refine ⟨P.bd _ (by omega), P.bd _ (by omega), ?_⟩
      rw [range_getD _ (by omega), range_getD _ (by omega)]
      cases e2 : lt 0 (n - 1) with
      | true =>
        simp only [if_true]
        exact ⟨a, R⟩
      | false =>
        simp only [Bool.false_eq_true, if_false]
        have hs : n ≤ (List.toArray (List.range N)).size := by simp; omega
        have le : ∀ i j, i < j → j < n → lt j i = false := fun i j x y => by
          have := (R.up.at H x y).1
          rwa [range_getD _ (by omega), range_getD _ (by omega)] at this
        have ge : ∀ i j, i < j → j < n → lt i j = false := fun i j x y => by
          have p1 : lt i 0 = false := by
            rcases Nat.eq_zero_or_pos i with rfl | q
            · cases e5 : lt 0 0 with
              | false => rfl
              | true => have := H.asym _ _ e5; rw [e5] at this; cases this
            · exact le 0 i q (by omega)
          have p2 : lt (n - 1) j = false := by
            rcases Nat.lt_or_ge j (n - 1) with q | q
            · exact le j (n - 1) q (by omega)
            · have : j = n - 1 := by omega
              subst this
              cases e5 : lt (n - 1) (n - 1) with
              | false => rfl
              | true => have := H.asym _ _ e5; rw [e5] at this; cases this
          exact H.tr _ _ _ p1 (H.tr _ _ _ e2 p2)
        have g : ∀ i, i < N → (kas_rev (List.toArray (List.range N)) 0 n).getD i 0 = if i < n then n - 1 - i else i := fun i hi => by
          rw [getD_rev hs]
          by_cases q : i < n
          · rw [if_pos (by omega), if_pos q, range_getD _ (by omega)]; omega
          · rw [if_neg (by omega), if_neg q, range_getD _ hi]
        refine sat_descPart H ⟨rev_perm _ _ hp, fun i x y => ?_, fun i x y => ?_, fun i x y => by omega, fun i x y => ?_, by omega, by omega⟩
        · rw [g i y, if_neg (by omega)]
        · rw [g i (by omega), g (i - 1) (by omega), if_pos (by omega), if_pos (by omega)]
          exact ⟨le _ _ (by omega) (by omega), fun _ => by omega⟩
        · have ei : i = n := by omega
          subst ei
          rw [g i (by omega), g (i - 1) (by omega), if_neg (by omega), if_pos (by omega), show i - 1 - (i - 1) = 0 by omega]
          exact lt_true H dd e2
    · rw [if_neg h]
      have : n = 1 := by omega
      subst this
      refine sat_descPart H ⟨hp, fun i x y => range_getD i y, fun i x y => by omega, fun i x y => by omega, fun i x y => ?_, by omega, by omega⟩
      have : i = 1 := by omega
      subst this
      rw [range_getD _ (by omega), range_getD _ (by omega)]
      exact dd

theorem Rn.put (H : Lt lt) {p : Array Nat} {k m : Nat} (R : Rn N lt p k) (hk : k < N) (hm : m ≤ k) (a : ∀ i, i < m → lt k (p.getD i 0) = false) (b : ∀ i, m ≤ i → i < k → lt k (p.getD i 0) = true) : Rn N lt (bubble p k (k - m)) (k + 1) := by
  have P := pm_of R.perm
  have hs : k < p.size := by rw [P.sz]; exact hk
  have ek : p.getD k 0 = k := R.tl k (Nat.le_refl _) hk
  refine ⟨bub_perm _ _ R.perm, fun i x y => ?_, fun i x y => ?_, hk⟩
  · rw [getD_bub hs hm, if_neg (by omega), if_neg (by omega)]; exact R.tl i (by omega) y
  · rw [getD_bub hs hm, getD_bub hs hm, ek]
    rcases Nat.lt_or_ge i m with c | c
    · rw [if_neg (by omega), if_neg (by omega), if_neg (by omega), if_neg (by omega)]
      exact R.up i x (by omega)
    · by_cases c1 : i = m
      · rw [if_neg (by omega), if_neg (by omega), if_pos c1]
        exact ⟨a _ (by omega), fun _ => P.lo R.tl (by omega) (by omega)⟩
      · by_cases c2 : i = m + 1
        · rw [if_pos (by omega), if_neg (by omega), if_pos (by omega)]
          exact Ah.of_lt H (b _ (by omega) (by omega))
        · rw [if_neg (by omega), if_pos (by omega), if_neg (by omega), if_pos (by omega)]
          exact R.up (i - 1) (by omega) (by omega)
end
end L2

namespace L2
open PySem PySem.Spec PyProof.Rows PySem.W
abbrev SM := StateT SortSt Sem
structure Orc where
  prog : Program
  w : World
  A : Around
  E : Value → Shared → Prop
  κ : SortKind
  it : Array Keyed
  N : Nat
  lt : Nat → Nat → Bool
  I : Shared → Prop
  hc : ∀ i j s, i < N → j < N → I s → kas_cmp prog w A κ it i j (fun b s' => b = lt i j ∧ I s') s
structure Ab where
  p : Array Nat
  pd : Array (Nat × Nat × Nat)
  mg : Nat
def Ab.st (O : Orc) (b : Ab) : SortSt := SortSt.mk' O.κ (b.p.map (kas_item O.it)) b.pd b.mg none
def W (O : Orc) {α : Type} (m : SM α) (Q : α → Ab → Prop) (b : Ab) : Prop :=
  ∀ s, O.I s → kasC (model O.prog O.w) O.A O.E m (fun a st s' => O.I s' ∧ ∃ b' : Ab, st = b'.st O ∧ Q a b') (b.st O) s
section
variable {O : Orc} {α β : Type} {b : Ab}
theorem W.pure {a : α} {Q : α → Ab → Prop} (h : Q a b) : W O (Pure.pure a) Q b := fun s hs => kasC_pure ⟨hs, b, rfl, h⟩
theorem W.bind {m : SM α} {f : α → SM β} {Q : β → Ab → Prop} (h : W O m (fun a b' => W O (f a) Q b') b) : W O (m >>= f) Q b := fun s hs =>
  kasC_bind (wpAny_mono (h s hs) (fun r s' ⟨i, b', e, q⟩ => by rw [e]; exact q s' i) fun _ _ z => z)
theorem W.mono {m : SM α} {Q Q' : α → Ab → Prop} (h : W O m Q b) (k : ∀ a b', Q a b' → Q' a b') : W O m Q' b := fun s hs =>
  wpAny_mono (h s hs) (fun r s' ⟨i, b', e, q⟩ => ⟨i, b', e, k _ _ q⟩) fun _ _ z => z
theorem W.ite {c : Prop} [Decidable c] {m m' : SM α} {Q : α → Ab → Prop} (h : c → W O m Q b) (h' : ¬ c → W O m' Q b) : W O (if c then m else m') Q b := by
  by_cases q : c
  · rw [if_pos q]; exact h q
  · rw [if_neg q]; exact h' q
theorem W.get {Q : SortSt → Ab → Prop} (h : Q (b.st O) b) : W O (MonadState.get : SM SortSt) Q b := fun s hs => kasC_get ⟨hs, b, rfl, h⟩
theorem W.modify {f : SortSt → SortSt} {Q : PUnit → Ab → Prop} (b' : Ab) (e : f (b.st O) = b'.st O) (h : Q ⟨⟩ b') : W O (_root_.modify f : SM PUnit) Q b := fun s hs => kasC_modify ⟨hs, b', e, h⟩
theorem W.rule {r : String} {Q : Unit → Ab → Prop} (h : Q () b) : W O (liftM (PySem.rule r) : SM Unit) Q b := fun s hs => kasC_lift (wpAny_rule ⟨hs, b, rfl, h⟩)
theorem W.lt {i j : Nat} {Q : Option Bool → Ab → Prop} (hi : i < O.N) (hj : j < O.N) (h : Q (some (O.lt i j)) b) : W O (lt' (kas_item O.it i) (kas_item O.it j)) Q b := fun s hs => by
  rw [lt'_eq]
  refine kasC_bind (kasC_get ?_)
  refine kasC_bind (kasC_lift (wpAny_attempt (wpAny_mono (O.hc i j s hi hj hs) (fun c s' hc => ?_) fun _ _ hF => hF.elim)))
  obtain ⟨rfl, hs'⟩ := hc
  exact kasC_pure ⟨hs', b, rfl, h⟩
theorem map_at {xs : Array Nat} {k : Nat} (h : k < xs.size) (f : Nat → Keyed) : (xs.map f)[k]? = some (f (xs.getD k 0)) := by
  have e : xs.getD k 0 = xs[k] := by simp [Array.getD, h]
  rw [e]; simp [h]
theorem W.elem {xs : Array Nat} {k : Nat} {Q : Keyed → Ab → Prop} (hk : k < xs.size) (h : Q (kas_item O.it (xs.getD k 0)) b) : W O (elem' (xs.map (kas_item O.it)) k) Q b := by
  rw [elem'_eq, map_at hk]; exact W.pure h
theorem W.ltAt {i j : Nat} {Q : Option Bool → Ab → Prop} (hi : i < b.p.size) (hj : j < b.p.size) (hN : ∀ k, k < b.p.size → b.p.getD k 0 < O.N) (h : Q (some (O.lt (b.p.getD i 0) (b.p.getD j 0))) b) : W O (ltAt' i j) Q b := by
  rw [ltAt'_eq]
  refine W.bind (W.get ?_)
  exact W.bind (W.elem hi (W.bind (W.elem hj (W.lt (hN i hi) (hN j hj) h))))
theorem W.forIn {γ : Type} {l : List Nat} {c : γ} {f : Nat → γ → SM (ForInStep γ)} {D : γ → Ab → Prop} (J : Nat → γ → Ab → Prop) (h0 : J l.length c b)
    (hs : ∀ x k c b, J (k + 1) c b → W O (f x c) (fun r b' => match r with | .done c' => D c' b' | .yield c' => J k c' b') b) (hd : ∀ c b, J 0 c b → D c b) : W O (ForIn.forIn l c f) D b := by
  induction l generalizing c b with
  | nil => exact fun s hi => kasC_nil ⟨hi, b, rfl, hd c b h0⟩
  | cons x l ih =>
    intro s hi
    refine kasC_cons (wpAny_mono (hs x l.length c b h0 s hi) (fun r s' ⟨i, b', e, q⟩ => ?_) fun _ _ z => z)
    obtain ⟨r, st⟩ := r
    have e : st = b'.st O := e
    subst e
    cases r with
    | done c' => exact ⟨i, b', rfl, q⟩
    | yield c' => exact ih q s' i
theorem W.range {γ : Type} {x y : Nat} {c : γ} {f : Nat → γ → SM (ForInStep γ)} {D : γ → Ab → Prop} (J : Nat → γ → Ab → Prop) (h0 : J (y - x) c b)
    (hs : ∀ x k c b, J (k + 1) c b → W O (f x c) (fun r b' => match r with | .done c' => D c' b' | .yield c' => J k c' b') b) (hd : ∀ c b, J 0 c b → D c b) : W O (ForIn.forIn [x:y] c f) D b := fun s hi =>
  kasC_range (W.forIn (l := List.range' x (y - x)) J (by rw [List.length_range']; exact h0) hs hd s hi)
end
def gal : Bool → Keyed → Array Keyed → Nat → Nat → Nat → SM (Option Nat) := sortPriv% PySem.Builtin.gallop
def byd (lf : Bool) (ky : Keyed) (ar : Array Keyed) (bs i : Nat) : SM (Option Bool) := do
  let z ← elem' ar (bs + i)
  if lf then lt' z ky else return (← lt' ky z).map (!·)
theorem gal_eq (lf : Bool) (ky : Keyed) (ar : Array Keyed) (bs m hn : Nat) : gal lf ky ar bs m hn = (do
  let mut lo1 := 0
  let mut of1 := 1
  let mut a1 := 0
  let mut b1 := 0
  let some rt ← byd lf ky ar bs hn | return none
  if rt then
    let mx := m - hn
    for _ in [0:m] do
      if of1 ≥ mx then break
      let some mo ← byd lf ky ar bs (hn + of1) | return none
      if !mo then break
      lo1 := of1
      of1 := 2 * of1 + 1
    a1 := hn + lo1 + 1
    b1 := hn + min of1 mx
  else
    let mx := hn + 1
    for _ in [0:m] do
      if of1 ≥ mx then break
      let some fd ← byd lf ky ar bs (hn - of1) | return none
      if fd then break
      lo1 := of1
      of1 := 2 * of1 + 1
    a1 := hn + 1 - min of1 mx
    b1 := hn - lo1
  for _ in [0:m] do
    if a1 ≥ b1 then break
    let md := a1 + (b1 - a1) / 2
    let some mo ← byd lf ky ar bs md | return none
    if mo then a1 := md + 1 else b1 := md
  return some b1) := rfl
section
variable {O : Orc} {b : Ab}
def bey (O : Orc) (lf : Bool) (k : Nat) (xs : Array Nat) (bs i : Nat) : Bool := if lf then O.lt (xs.getD (bs + i) 0) k else !(O.lt k (xs.getD (bs + i) 0))
theorem W.byd {lf : Bool} {k : Nat} {xs : Array Nat} {bs i : Nat} {Q : Option Bool → Ab → Prop} (hk : k < O.N) (hx : ∀ j, j < xs.size → xs.getD j 0 < O.N) (hi : bs + i < xs.size) (h : Q (some (bey O lf k xs bs i)) b) :
    W O (byd lf (kas_item O.it k) (xs.map (kas_item O.it)) bs i) Q b := by
  unfold L2.byd
  refine W.bind (W.elem hi ?_)
  unfold bey at h
  cases lf with
  | true =>
    rw [if_pos rfl] at h ⊢
    exact W.lt (hx _ hi) hk h
  | false =>
    rw [if_neg Bool.false_ne_true] at h ⊢
    exact W.bind (W.lt hk (hx _ hi) (W.pure h))
theorem W.gal {lf : Bool} {k : Nat} {xs : Array Nat} {bs m hn K : Nat} {Q : Option Nat → Ab → Prop} (hk : k < O.N) (hx : ∀ j, j < xs.size → xs.getD j 0 < O.N) (hm : bs + m ≤ xs.size) (hh : hn < m) (hK : K ≤ m)
    (h1 : ∀ i, i < K → bey O lf k xs bs i = true) (h2 : ∀ i, K ≤ i → i < m → bey O lf k xs bs i = false) (h : Q (some K) b) : W O (gal lf (kas_item O.it k) (xs.map (kas_item O.it)) bs m hn) Q b := by
  have yes : ∀ {i}, bey O lf k xs bs i = true → i < m → i < K := fun {i} e hi => by
    rcases Nat.lt_or_ge i K with z | z
    · exact z
    · rw [h2 i z hi] at e; cases e
  have no : ∀ {i}, bey O lf k xs bs i = false → K ≤ i := fun {i} e => by
    rcases Nat.lt_or_ge i K with z | z
    · rw [h1 i z] at e; cases e
    · exact z
  rw [gal_eq]
  refine W.bind (W.byd hk hx (by omega) ?_)
  dsimp only
  cases e0 : bey O lf k xs bs hn with
  | true =>
    simp only [if_true]
    have h0 := yes e0 hh
    refine W.bind (W.range (D := fun c b' => b' = b ∧ c.1 = none ∧ hn + c.2.1 < K ∧ K ≤ hn + min c.2.2 (m - hn)) (fun j c b' => b' = b ∧ c.1 = none ∧ hn + c.2.1 < K ∧ m + 1 ≤ c.2.2 + j) ⟨rfl, rfl, h0, by simp; omega⟩ ?_ ?_ |>.mono fun c b' hc => ?_)
    · rintro x j ⟨c1, c2, c3⟩ b' ⟨eb, e1, e2, e3⟩
      subst b'
      dsimp only at e1 e2 e3 ⊢
      subst e1
      by_cases hge : c3 ≥ m - hn
      · rw [if_pos hge]
        exact W.pure ⟨rfl, rfl, e2, by show K ≤ hn + min c3 (m - hn); omega⟩
      · rw [if_neg hge]
        refine W.bind (W.byd hk hx (by omega) ?_)
        cases e : bey O lf k xs bs (hn + c3) with
        | true =>
          simp only [Bool.not_true, Bool.false_eq_true, if_false]
          have := yes e (by omega)
          exact W.pure ⟨rfl, rfl, this, by show m + 1 ≤ 2 * c3 + 1 + j; omega⟩
        | false =>
          simp only [Bool.not_false, if_true]
          have := no e
          exact W.pure ⟨rfl, rfl, e2, by show K ≤ hn + min c3 (m - hn); omega⟩
    · rintro ⟨c1, c2, c3⟩ b' ⟨eb, e1, e2, e3⟩
      subst b'
      exact ⟨rfl, e1, e2, by show K ≤ hn + min c3 (m - hn); dsimp only at e3; omega⟩
    · obtain ⟨c1, c2, c3⟩ := c
      obtain ⟨eb, e1, e2, e3⟩ := hc
      subst b'
      dsimp only at e1 e2 e3 ⊢
      subst e1
      dsimp only
      refine W.bind (W.range (D := fun c b' => b' = b ∧ c.1 = none ∧ c.2.2 = K) (fun j c b' => b' = b ∧ c.1 = none ∧ c.2.1 ≤ K ∧ K ≤ c.2.2 ∧ c.2.2 ≤ m ∧ c.2.2 - c.2.1 ≤ j) ⟨rfl, rfl, by show hn + c2 + 1 ≤ K; omega, by show K ≤ hn + min c3 (m - hn); exact e3, by show hn + min c3 (m - hn) ≤ m; omega, by show hn + min c3 (m - hn) - (hn + c2 + 1) ≤ m - 0; omega⟩ ?_ ?_ |>.mono fun c b' hc => ?_)
      · rintro x j ⟨c1, c2, c3⟩ b' ⟨eb, e1, e2, e3, e4, e5⟩
        subst b'
        dsimp only at e1 e2 e3 e4 e5 ⊢
        subst e1
        by_cases hge : c2 ≥ c3
        · rw [if_pos hge]
          exact W.pure ⟨rfl, rfl, by show c3 = K; omega⟩
        · rw [if_neg hge]
          refine W.bind (W.byd hk hx (by omega) ?_)
          cases e : bey O lf k xs bs (c2 + (c3 - c2) / 2) with
          | true =>
            simp only [if_true]
            have := yes e (by omega)
            exact W.pure ⟨rfl, rfl, by show c2 + (c3 - c2) / 2 + 1 ≤ K; omega, e3, e4, by show c3 - (c2 + (c3 - c2) / 2 + 1) ≤ j; omega⟩
          | false =>
            simp only [Bool.false_eq_true, if_false]
            have := no e
            exact W.pure ⟨rfl, rfl, e2, this, by show c2 + (c3 - c2) / 2 ≤ m; omega, by show c2 + (c3 - c2) / 2 - c2 ≤ j; omega⟩
      · rintro ⟨c1, c2, c3⟩ b' ⟨eb, e1, e2, e3, e4, e5⟩
        subst b'
        exact ⟨rfl, e1, by show c3 = K; dsimp only at e2 e3 e5; omega⟩
      · obtain ⟨c1, c2, c3⟩ := c
        obtain ⟨eb, e1, e2⟩ := hc
        subst b'
        dsimp only at e1 e2 ⊢
        subst e1 e2
        exact W.pure h
  | false =>
    simp only [Bool.false_eq_true, if_false]
    have h0 := no e0
    refine W.bind (W.range (D := fun c b' => b' = b ∧ c.1 = none ∧ K + c.2.1 ≤ hn ∧ hn + 1 - min c.2.2 (hn + 1) ≤ K) (fun j c b' => b' = b ∧ c.1 = none ∧ K + c.2.1 ≤ hn ∧ m + 1 ≤ c.2.2 + j) ⟨rfl, rfl, h0, by simp; omega⟩ ?_ ?_ |>.mono fun c b' hc => ?_)
    · rintro x j ⟨c1, c2, c3⟩ b' ⟨eb, e1, e2, e3⟩
      subst b'
      dsimp only at e1 e2 e3 ⊢
      subst e1
      by_cases hge : c3 ≥ hn + 1
      · rw [if_pos hge]
        exact W.pure ⟨rfl, rfl, e2, by show hn + 1 - min c3 (hn + 1) ≤ K; omega⟩
      · rw [if_neg hge]
        refine W.bind (W.byd hk hx (by omega) ?_)
        cases e : bey O lf k xs bs (hn - c3) with
        | true =>
          simp only [if_true]
          have := yes e (by omega)
          exact W.pure ⟨rfl, rfl, e2, by show hn + 1 - min c3 (hn + 1) ≤ K; omega⟩
        | false =>
          simp only [Bool.false_eq_true, if_false]
          have := no e
          exact W.pure ⟨rfl, rfl, by show K + c3 ≤ hn; omega, by show m + 1 ≤ 2 * c3 + 1 + j; omega⟩
    · rintro ⟨c1, c2, c3⟩ b' ⟨eb, e1, e2, e3⟩
      subst b'
      exact ⟨rfl, e1, e2, by show hn + 1 - min c3 (hn + 1) ≤ K; dsimp only at e3; omega⟩
    · obtain ⟨c1, c2, c3⟩ := c
      obtain ⟨eb, e1, e2, e3⟩ := hc
      subst b'
      dsimp only at e1 e2 e3 ⊢
      subst e1
      dsimp only
      refine W.bind (W.range (D := fun c b' => b' = b ∧ c.1 = none ∧ c.2.2 = K) (fun j c b' => b' = b ∧ c.1 = none ∧ c.2.1 ≤ K ∧ K ≤ c.2.2 ∧ c.2.2 ≤ m ∧ c.2.2 - c.2.1 ≤ j) ⟨rfl, rfl, by show hn + 1 - min c3 (hn + 1) ≤ K; exact e3, by show K ≤ hn - c2; omega, by show hn - c2 ≤ m; omega, by show hn - c2 - (hn + 1 - min c3 (hn + 1)) ≤ m - 0; omega⟩ ?_ ?_ |>.mono fun c b' hc => ?_)
      · rintro x j ⟨c1, c2, c3⟩ b' ⟨eb, e1, e2, e3, e4, e5⟩
        subst b'
        dsimp only at e1 e2 e3 e4 e5 ⊢
        subst e1
        by_cases hge : c2 ≥ c3
        · rw [if_pos hge]
          exact W.pure ⟨rfl, rfl, by show c3 = K; omega⟩
        · rw [if_neg hge]
          refine W.bind (W.byd hk hx (by omega) ?_)
          cases e : bey O lf k xs bs (c2 + (c3 - c2) / 2) with
          | true =>
            simp only [if_true]
            have := yes e (by omega)
            exact W.pure ⟨rfl, rfl, by show c2 + (c3 - c2) / 2 + 1 ≤ K; omega, e3, e4, by show c3 - (c2 + (c3 - c2) / 2 + 1) ≤ j; omega⟩
          | false =>
            simp only [Bool.false_eq_true, if_false]
            have := no e
            exact W.pure ⟨rfl, rfl, e2, this, by show c2 + (c3 - c2) / 2 ≤ m; omega, by show c2 + (c3 - c2) / 2 - c2 ≤ j; omega⟩
      · rintro ⟨c1, c2, c3⟩ b' ⟨eb, e1, e2, e3, e4, e5⟩
        subst b'
        exact ⟨rfl, e1, by show c3 = K; dsimp only at e2 e3 e5; omega⟩
      · obtain ⟨c1, c2, c3⟩ := c
        obtain ⟨eb, e1, e2⟩ := hc
        subst b'
        dsimp only at e1 e2 ⊢
        subst e1 e2
        exact W.pure h
end
end L2

namespace L2
open PySem PySem.Spec PyProof.Rows PySem.W
def setMG : Nat → SM Unit := sortPriv% PySem.Builtin.setMinGallop
def mLo : Array Keyed → Array Keyed → SM (Array Keyed) := sortPriv% PySem.Builtin.mergeLo
theorem setMG_eq (g : Nat) : setMG g = _root_.modify fun st => SortSt.mk' (kindOf st) (arrOf st) (pendingOf st) g (failedOf st) := rfl
theorem mLo_eq (a b : Array Keyed) : mLo a b = (do
  rule "list.sort.merge-lo"
  let tt := a.size + b.size
  let dn (o : Array Keyed) (i j : Nat) := o ++ a.extract i a.size ++ b.extract j b.size
  let la (o : Array Keyed) (i j : Nat) := o ++ b.extract j b.size ++ a.extract i a.size
  let mut o : Array Keyed := #[← elem' b 0]
  let mut i := 0
  let mut j := 1
  if j == b.size then return dn o i j
  if i + 1 == a.size then return la o i j
  let mut mg := gallopOf (← get)
  for _ in [0:tt] do
    let mut ca := 0
    let mut cb := 0
    for _ in [0:tt] do
      let some bw ← lt' (← elem' b j) (← elem' a i) | return dn o i j
      if bw then
        o := o.push (← elem' b j); j := j + 1; cb := cb + 1; ca := 0
        if j == b.size then return dn o i j
        if cb ≥ mg then break
      else
        o := o.push (← elem' a i); i := i + 1; ca := ca + 1; cb := 0
        if i + 1 == a.size then return la o i j
        if ca ≥ mg then break
    rule "list.sort.gallop"
    mg := mg + 1
    for _ in [0:tt] do
      if mg > 1 then mg := mg - 1
      setMG mg
      let some k ← gal false (← elem' b j) a i (a.size - i) 0 | return dn o i j
      ca := k
      if k > 0 then
        o := o ++ a.extract i (i + k); i := i + k
        if i + 1 == a.size then return la o i j
        if i == a.size then return dn o i j
      o := o.push (← elem' b j); j := j + 1
      if j == b.size then return dn o i j
      let some k ← gal true (← elem' a i) b j (b.size - j) 0 | return dn o i j
      cb := k
      if k > 0 then
        o := o ++ b.extract j (j + k); j := j + k
        if j == b.size then return dn o i j
      o := o.push (← elem' a i); i := i + 1
      if i + 1 == a.size then return la o i j
      if ca < 7 && cb < 7 then break
    mg := mg + 1
    setMG mg
  unsupported "internal:list.sort.merge-bound") := rfl
section
variable {O : Orc} {b : Ab}
theorem W.setMG {g : Nat} {Q : Unit → Ab → Prop} (h : Q () { b with mg := g }) : W O (setMG g) Q b := by
  rw [setMG_eq]; exact W.modify { b with mg := g } rfl h
structure Two (O : Orc) (xs ys : Array Nat) : Prop where
  H : Lt O.lt
  nx : ∀ i, i < xs.size → xs.getD i 0 < O.N
  ny : ∀ i, i < ys.size → ys.getD i 0 < O.N
  sx : xs.toList.Pairwise (Ah O.lt)
  sy : ys.toList.Pairwise (Ah O.lt)
  xy : ∀ x ∈ xs.toList, ∀ y ∈ ys.toList, x < y
  x1 : 0 < xs.size
  y1 : 0 < ys.size
def Made (O : Orc) (xs ys : Array Nat) (rs : Array Nat) : Prop := rs.toList.Perm (xs.toList ++ ys.toList) ∧ rs.toList.Pairwise (Ah O.lt)
structure Lw (O : Orc) (xs ys os : Array Nat) (i j : Nat) : Prop where
  pm : (os.toList ++ (xs.toList.drop i ++ ys.toList.drop j)).Perm (xs.toList ++ ys.toList)
  sa : (os.toList ++ xs.toList.drop i).Pairwise (Ah O.lt)
  sb : (os.toList ++ ys.toList.drop j).Pairwise (Ah O.lt)
  ti : i ≤ xs.size
  tj : j ≤ ys.size
theorem drop_at {xs : Array Nat} {i : Nat} (h : i < xs.size) : xs.toList.drop i = xs.getD i 0 :: xs.toList.drop (i + 1) := by
  have h' : i < xs.toList.length := by simpa using h
  rw [List.drop_eq_getElem_cons h']
  congr 1
  simp [Array.getD, h]
variable {xs ys os : Array Nat} {i j k : Nat}
theorem mem_at {i : Nat} (h : i < xs.size) : xs.getD i 0 ∈ xs.toList := by
  have : xs.getD i 0 = xs[i] := by simp [Array.getD, h]
  rw [this]; simp
theorem Two.ah (T : Two O xs ys) {x y : Nat} (hx : x ∈ xs.toList) (hy : y ∈ ys.toList) (h : O.lt y x = false) : Ah O.lt x y := ⟨h, fun _ => T.xy x hx y hy⟩
theorem ext_all (xs : Array Nat) (i : Nat) : (xs.extract i xs.size).toList = xs.toList.drop i := by
  rw [Array.toList_extract, List.extract_eq_drop_take]
  exact List.take_of_length_le (by simp)
theorem Lw.done (L : Lw O xs ys os i j) (h : j = ys.size) : Made O xs ys (os ++ xs.extract i xs.size ++ ys.extract j ys.size) := by
  subst h
  have e : (os ++ xs.extract i xs.size ++ ys.extract ys.size ys.size).toList = os.toList ++ xs.toList.drop i := by rw [Array.toList_append, Array.toList_append, ext_all, ext_all]; simp
  have pm := L.pm
  have e2 : ys.toList.drop ys.size = [] := by simp
  rw [e2, List.append_nil] at pm
  exact ⟨by rw [e]; exact pm, by rw [e]; exact L.sa⟩
theorem Lw.done2 (L : Lw O xs ys os i j) (h : i = xs.size) : Made O xs ys (os ++ xs.extract i xs.size ++ ys.extract j ys.size) := by
  subst h
  have e : (os ++ xs.extract xs.size xs.size ++ ys.extract j ys.size).toList = os.toList ++ ys.toList.drop j := by rw [Array.toList_append, Array.toList_append, ext_all, ext_all]; simp
  have pm := L.pm
  have e2 : xs.toList.drop xs.size = [] := by simp
  rw [e2, List.nil_append] at pm
  exact ⟨by rw [e]; exact pm, by rw [e]; exact L.sb⟩
theorem Lw.last (T : Two O xs ys) (L : Lw O xs ys os i j) (h : i + 1 = xs.size) (hl : ∀ y ∈ ys.toList, O.lt y (xs.getD (xs.size - 1) 0) = true) : Made O xs ys (os ++ ys.extract j ys.size ++ xs.extract i xs.size) := by
  have e : (os ++ ys.extract j ys.size ++ xs.extract i xs.size).toList = os.toList ++ ys.toList.drop j ++ xs.toList.drop i := by rw [Array.toList_append, Array.toList_append, ext_all, ext_all]
  refine ⟨?_, ?_⟩
  · rw [e, List.append_assoc]
    exact ((List.Perm.refl _).append List.perm_append_comm).trans L.pm
  · rw [e]
    have hd : xs.toList.drop i = [xs.getD (xs.size - 1) 0] := by
      rw [drop_at (by omega)]
      have : xs.toList.drop (i + 1) = [] := by rw [h]; simp
      rw [this, show xs.size - 1 = i by omega]
    refine List.pairwise_append.mpr ⟨L.sb, (List.pairwise_append.mp L.sa).2.1, fun a ha c hc => ?_⟩
    rcases List.mem_append.mp ha with ha | ha
    · exact (List.pairwise_append.mp L.sa).2.2 a ha c hc
    · rw [hd] at hc
      rw [List.mem_singleton.mp hc]
      exact Ah.of_lt T.H (hl a (List.mem_of_mem_drop ha))
theorem Lw.stepB (T : Two O xs ys) (L : Lw O xs ys os i j) (hi : i < xs.size) (hj : j < ys.size) (h : O.lt (ys.getD j 0) (xs.getD i 0) = true) : Lw O xs ys (os.push (ys.getD j 0)) i (j + 1) := by
  have e : (os.push (ys.getD j 0)).toList = os.toList ++ [ys.getD j 0] := by simp
  have hy := drop_at hj
  have pm := L.pm; have sa := L.sa; have sb := L.sb
  rw [hy] at pm sb
  refine ⟨?_, ?_, ?_, L.ti, by omega⟩
  · rw [e, List.append_assoc]
    refine List.Perm.trans (List.Perm.append_left _ ?_) pm
    exact (List.perm_middle (a := ys.getD j 0) (l₁ := xs.toList.drop i)).symm
  · rw [e, List.append_assoc]
    obtain ⟨s1, s2, s3⟩ := List.pairwise_append.mp sa
    obtain ⟨t1, t2, t3⟩ := List.pairwise_append.mp sb
    refine List.pairwise_append.mpr ⟨s1, List.pairwise_cons.mpr ⟨fun c hc => ?_, s2⟩, fun a ha c hc => ?_⟩
    · rw [drop_at hi] at hc s2
      rcases List.mem_cons.mp hc with rfl | hc
      · exact Ah.of_lt T.H h
      · exact (Ah.of_lt T.H h).trans T.H ((List.pairwise_cons.mp s2).1 c hc)
    · rcases List.mem_cons.mp hc with rfl | hc
      · exact t3 a ha _ (List.mem_cons_self ..)
      · exact s3 a ha c hc
  · rw [e, List.append_assoc]; exact sb
theorem Lw.stepA (T : Two O xs ys) (L : Lw O xs ys os i j) (hi : i < xs.size) (hj : j < ys.size) (h : O.lt (ys.getD j 0) (xs.getD i 0) = false) : Lw O xs ys (os.push (xs.getD i 0)) (i + 1) j := by
  have e : (os.push (xs.getD i 0)).toList = os.toList ++ [xs.getD i 0] := by simp
  have hx := drop_at hi
  have pm := L.pm; have sa := L.sa; have sb := L.sb
  rw [hx] at pm sa
  refine ⟨?_, ?_, ?_, by omega, L.tj⟩
  · rw [e, List.append_assoc]; exact pm
  · rw [e, List.append_assoc]; exact sa
  · rw [e, List.append_assoc]
    obtain ⟨s1, s2, s3⟩ := List.pairwise_append.mp sa
    obtain ⟨t1, t2, t3⟩ := List.pairwise_append.mp sb
    have h0 : Ah O.lt (xs.getD i 0) (ys.getD j 0) := T.ah (mem_at hi) (mem_at hj) h
    refine List.pairwise_append.mpr ⟨s1, List.pairwise_cons.mpr ⟨fun c hc => ?_, t2⟩, fun a ha c hc => ?_⟩
    · rw [drop_at hj] at hc t2
      rcases List.mem_cons.mp hc with rfl | hc
      · exact h0
      · exact h0.trans T.H ((List.pairwise_cons.mp t2).1 c hc)
    · rcases List.mem_cons.mp hc with rfl | hc
      · exact s3 a ha _ (List.mem_cons_self ..)
      · exact t3 a ha c hc
theorem push_ext {os xs : Array Nat} {i k : Nat} (h : i + k < xs.size) : (os ++ xs.extract i (i + k)).push (xs.getD (i + k) 0) = os ++ xs.extract i (i + (k + 1)) := by
  apply Array.toList_inj.mp
  have e : xs.getD (i + k) 0 = xs[i + k] := by simp [Array.getD, h]
  rw [e]
  simp only [Array.toList_push, Array.toList_append, Array.toList_extract, List.append_assoc]
  congr 1
  have hl : k < (xs.toList.drop i).length := by simp; omega
  rw [List.extract_eq_drop_take, List.extract_eq_drop_take, show i + k - i = k by omega, show i + (k + 1) - i = k + 1 by omega, List.take_succ_eq_append_getElem hl]
  simp
theorem Lw.manyA (T : Two O xs ys) (hj : j < ys.size) : ∀ k, Lw O xs ys os i j → i + k ≤ xs.size → (∀ d, d < k → O.lt (ys.getD j 0) (xs.getD (i + d) 0) = false) → Lw O xs ys (os ++ xs.extract i (i + k)) (i + k) j
  | 0, L, _, _ => by
    have e : os ++ xs.extract i (i + 0) = os := by apply Array.toList_inj.mp; simp
    rw [e]; exact L
  | k + 1, L, hk, h => by
    have L' := Lw.manyA T hj k L (by omega) fun d hd => h d (by omega)
    have := L'.stepA T (by omega) hj (h k (by omega))
    rw [push_ext (by omega)] at this
    exact this
theorem Lw.manyB (T : Two O xs ys) (hi : i < xs.size) : ∀ k, Lw O xs ys os i j → j + k ≤ ys.size → (∀ d, d < k → O.lt (ys.getD (j + d) 0) (xs.getD i 0) = true) → Lw O xs ys (os ++ ys.extract j (j + k)) i (j + k)
  | 0, L, _, _ => by
    have e : os ++ ys.extract j (j + 0) = os := by apply Array.toList_inj.mp; simp
    rw [e]; exact L
  | k + 1, L, hk, h => by
    have L' := Lw.manyB T hi k L (by omega) fun d hd => h d (by omega)
    have := L'.stepB T hi (by omega) (h k (by omega))
    rw [push_ext (by omega)] at this
    exact this
theorem pre_ex {P : Nat → Bool} : ∀ (m : Nat), (∀ i j, i ≤ j → j < m → P j = true → P i = true) → ∃ K, K ≤ m ∧ (∀ i, i < K → P i = true) ∧ ∀ i, K ≤ i → i < m → P i = false
  | 0, _ => ⟨0, Nat.le_refl _, fun i h => absurd h (Nat.not_lt_zero _), fun i _ h => absurd h (Nat.not_lt_zero _)⟩
  | m + 1, h => by
    obtain ⟨K, a, c, d⟩ := pre_ex m fun i j h1 h2 h3 => h i j h1 (by omega) h3
    cases e : P m with
    | true => exact ⟨m + 1, Nat.le_refl _, fun i hi => h i m (by omega) (by omega) e, fun i h1 h2 => by omega⟩
    | false =>
      refine ⟨K, by omega, c, fun i h1 h2 => ?_⟩
      rcases Nat.lt_or_ge i m with z | z
      · exact d i h1 z
      · have : i = m := by omega
        subst this; exact e
theorem pw_at {xs : Array Nat} (h : xs.toList.Pairwise (Ah O.lt)) {i j : Nat} (hij : i < j) (hj : j < xs.size) : Ah O.lt (xs.getD i 0) (xs.getD j 0) := by
  have := List.pairwise_iff_getElem.mp h i j (by simp; omega) (by simpa using hj) hij
  have e1 : xs.getD i 0 = xs[i] := by simp [Array.getD, show i < xs.size by omega]
  have e2 : xs.getD j 0 = xs[j] := by simp [Array.getD, hj]
  rw [e1, e2]; simpa using this
theorem Two.monoA (T : Two O xs ys) {y c d : Nat} (h1 : c ≤ d) (h2 : i + d < xs.size) (h3 : bey O false y xs i d = true) : bey O false y xs i c = true := by
  simp only [bey, Bool.false_eq_true, if_false, Bool.not_eq_true'] at h3 ⊢
  rcases Nat.eq_or_lt_of_le h1 with rfl | h1
  · exact h3
  · exact T.H.tr _ _ _ h3 (pw_at T.sx (show i + c < i + d by omega) h2).1
theorem Two.monoB (T : Two O xs ys) {x c d : Nat} (h1 : c ≤ d) (h2 : j + d < ys.size) (h3 : bey O true x ys j d = true) : bey O true x ys j c = true := by
  simp only [bey, if_true] at h3 ⊢
  rcases Nat.eq_or_lt_of_le h1 with rfl | h1
  · exact h3
  · exact lt_true' T.H h3 (pw_at T.sy (show j + c < j + d by omega) h2).1
theorem W.mLo {Q : Array Keyed → Ab → Prop} (T : Two O xs ys) (h0 : O.lt (ys.getD 0 0) (xs.getD 0 0) = true) (hl : ∀ y ∈ ys.toList, O.lt y (xs.getD (xs.size - 1) 0) = true)
    (h : ∀ rs mg, Made O xs ys rs → Q (rs.map (kas_item O.it)) { b with mg := mg }) : W O (mLo (xs.map (kas_item O.it)) (ys.map (kas_item O.it))) Q b := by
  have x1 := T.x1
  have y1 := T.y1
  have L0 : Lw O xs ys #[] 0 0 := ⟨by simp, by simpa using T.sx, by simpa using T.sy, Nat.zero_le _, Nat.zero_le _⟩
  have L1 := L0.stepB T x1 y1 h0
  have mpush : ∀ (os : Array Nat) (x : Nat), (os.map (kas_item O.it)).push (kas_item O.it x) = (os.push x).map (kas_item O.it) := fun os x => by rw [Array.map_push]
  have mapp : ∀ (os zs : Array Nat), os.map (kas_item O.it) ++ zs.map (kas_item O.it) = (os ++ zs).map (kas_item O.it) := fun os zs => by rw [Array.map_append]
  have mext : ∀ (zs : Array Nat) (i j : Nat), (zs.map (kas_item O.it)).extract i j = (zs.extract i j).map (kas_item O.it) := fun zs i j => by rw [Array.map_extract]
  rw [mLo_eq]
  refine W.bind (W.rule ?_)
  refine W.bind (W.elem y1 ?_)
  simp only [Array.size_map, mext, mapp]
  have e1 : #[kas_item O.it (ys.getD 0 0)] = ((#[] : Array Nat).push (ys.getD 0 0)).map (kas_item O.it) := by simp
  rw [e1]
  by_cases c1 : (1 == ys.size) = true
  · rw [if_pos c1]
    simp only [mapp]
    exact W.pure (h _ b.mg (L1.done (by simpa using c1)))
  rw [if_neg c1]
  by_cases c2 : (0 + 1 == xs.size) = true
  · rw [if_pos c2]
    simp only [mapp]
    exact W.pure (h _ b.mg (L1.last T (by simpa using c2) hl))
  rw [if_neg c2]
  refine W.bind (W.get ?_)
  have ex : ∀ {P : Nat → Bool} (m : Nat), (∀ i j, i ≤ j → j < m → P j = true → P i = true) → ∃ K, K ≤ m ∧ (∀ i, i < K → P i = true) ∧ ∀ i, K ≤ i → i < m → P i = false := fun m h => pre_ex m h
  have KA : ∀ i j, i < xs.size → j < ys.size → ∃ K, K ≤ xs.size - i ∧ (∀ d, d < K → bey O false (ys.getD j 0) xs i d = true) ∧ ∀ d, K ≤ d → d < xs.size - i → bey O false (ys.getD j 0) xs i d = false := fun i j hi hj => ex _ fun c d h1 h2 h3 => T.monoA h1 (by omega) h3
  have KB : ∀ i j, i < xs.size → j < ys.size → ∃ K, K ≤ ys.size - j ∧ (∀ d, d < K → bey O true (xs.getD i 0) ys j d = true) ∧ ∀ d, K ≤ d → d < ys.size - j → bey O true (xs.getD i 0) ys j d = false := fun i j hi hj => ex _ fun c d h1 h2 h3 => T.monoB h1 (by omega) h3
  have c1 : 1 < ys.size := by have : ¬ 1 = ys.size := by simpa using c1
                              omega
  have c2 : 1 < xs.size := by have : ¬ 1 = xs.size := by simpa using c2
                              omega
  refine W.bind (W.range (D := fun c b1 => b1.p = b.p ∧ b1.pd = b.pd ∧ ∃ rs : Array Nat, c.1 = some (rs.map (kas_item O.it)) ∧ Made O xs ys rs) (fun k c b1 => b1.p = b.p ∧ b1.pd = b.pd ∧ c.1 = none ∧ ∃ os : Array Nat, c.2.1 = os.map (kas_item O.it) ∧ Lw O xs ys os c.2.2.1 c.2.2.2.1 ∧ c.2.2.1 + 1 < xs.size ∧ c.2.2.2.1 < ys.size ∧ xs.size + ys.size + 1 ≤ c.2.2.1 + c.2.2.2.1 + k) ⟨rfl, rfl, rfl, _, rfl, L1, c2, c1, by show xs.size + ys.size + 1 ≤ 0 + 1 + (xs.size + ys.size - 0); omega⟩ ?_ ?_ |>.mono fun c b1 hc => ?_)
  rotate_left
  · rintro ⟨r, o, i, j, g⟩ b1 ⟨f1, f2, _, os, _, L, hi, hj, hk⟩
    dsimp only at hi hj hk
    exact absurd hk (by omega)
  · obtain ⟨r, o, i, j, g⟩ := c
    obtain ⟨f1, f2, rs, e, hm⟩ := hc
    dsimp only at e ⊢
    subst e
    have := h rs b1.mg hm
    obtain ⟨p1, d1, m1⟩ := b1
    have f1 : p1 = b.p := f1
    have f2 : d1 = b.pd := f2
    subst f1 f2
    exact W.pure this
  rintro x k ⟨r, o, i0, j0, g0⟩ b1 ⟨f1, f2, e, os0, eo, L, hi0, hj0, hk⟩
  dsimp only at e eo hi0 hj0 hk L ⊢
  subst e eo
  refine W.bind (W.range (D := fun c b1 => b1.p = b.p ∧ b1.pd = b.pd ∧ ((∃ rs : Array Nat, c.1 = some (rs.map (kas_item O.it)) ∧ Made O xs ys rs) ∨ (c.1 = none ∧ ∃ os : Array Nat, c.2.1 = os.map (kas_item O.it) ∧ Lw O xs ys os c.2.2.1 c.2.2.2.1 ∧ c.2.2.1 + 1 < xs.size ∧ c.2.2.2.1 < ys.size ∧ i0 + j0 + 1 ≤ c.2.2.1 + c.2.2.2.1))) (fun k c b1 => b1.p = b.p ∧ b1.pd = b.pd ∧ c.1 = none ∧ ∃ os : Array Nat, c.2.1 = os.map (kas_item O.it) ∧ Lw O xs ys os c.2.2.1 c.2.2.2.1 ∧ c.2.2.1 + 1 < xs.size ∧ c.2.2.2.1 < ys.size ∧ i0 + j0 + (xs.size + ys.size) ≤ c.2.2.1 + c.2.2.2.1 + k ∧ i0 + j0 ≤ c.2.2.1 + c.2.2.2.1) ⟨f1, f2, rfl, _, rfl, L, hi0, hj0, by show i0 + j0 + (xs.size + ys.size) ≤ i0 + j0 + (xs.size + ys.size - 0) ∧ i0 + j0 ≤ i0 + j0; omega⟩ ?_ ?_ |>.mono fun c b1 hc => ?_)
  · rintro x k ⟨r, o, i, j, ca, cb⟩ b1 ⟨f1, f2, e, os, eo, L, hi, hj, hk1, hk2⟩
    dsimp only at e eo hi hj hk1 hk2 L ⊢
    subst e eo
    refine W.bind (W.elem hj (W.bind (W.elem (by omega) (W.bind (W.lt (T.ny _ hj) (T.nx _ (by omega)) ?_)))))
    cases e : O.lt (ys.getD j 0) (xs.getD i 0) with
    | true =>
      have L' := L.stepB T (by omega) hj e
      simp only [if_true]
      refine W.bind (W.elem hj ?_)
      simp only [mpush, mapp]
      by_cases q : (j + 1 == ys.size) = true
      · rw [if_pos q]
        exact W.pure ⟨f1, f2, .inl ⟨_, rfl, L'.done (by simpa using q)⟩⟩
      · rw [if_neg q]
        have q' : ¬ j + 1 = ys.size := by simpa using q
        refine W.ite (fun _ => ?_) (fun _ => ?_)
        · exact W.pure ⟨f1, f2, .inr ⟨rfl, _, rfl, L', hi, by show j + 1 < ys.size; omega, by show i0 + j0 + 1 ≤ i + (j + 1); omega⟩⟩
        · exact W.pure ⟨f1, f2, rfl, _, rfl, L', hi, by show j + 1 < ys.size; omega, by show i0 + j0 + (xs.size + ys.size) ≤ i + (j + 1) + k ∧ i0 + j0 ≤ i + (j + 1); omega⟩
    | false =>
      have L' := L.stepA T (by omega) hj e
      simp only [Bool.false_eq_true, if_false]
      refine W.bind (W.elem (by omega) ?_)
      simp only [mpush, mapp]
      by_cases q : (i + 1 + 1 == xs.size) = true
      · rw [if_pos q]
        exact W.pure ⟨f1, f2, .inl ⟨_, rfl, L'.last T (by simpa using q) hl⟩⟩
      · rw [if_neg q]
        have q' : ¬ i + 1 + 1 = xs.size := by simpa using q
        refine W.ite (fun _ => ?_) (fun _ => ?_)
        · exact W.pure ⟨f1, f2, .inr ⟨rfl, _, rfl, L', by show i + 1 + 1 < xs.size; omega, hj, by show i0 + j0 + 1 ≤ i + 1 + j; omega⟩⟩
        · exact W.pure ⟨f1, f2, rfl, _, rfl, L', by show i + 1 + 1 < xs.size; omega, hj, by show i0 + j0 + (xs.size + ys.size) ≤ i + 1 + j + k ∧ i0 + j0 ≤ i + 1 + j; omega⟩
  · rintro ⟨r, o, i, j, ca, cb⟩ b1 ⟨f1, f2, _, os, _, L, hi, hj, hk1, hk2⟩
    dsimp only at hi hj hk1 hk2
    exact absurd hk1 (by omega)
  obtain ⟨r, o, i1, j1, ca, cb⟩ := c
  obtain ⟨f1, f2, hc⟩ := hc
  dsimp only at hc ⊢
  rcases hc with ⟨rs, e, hm⟩ | ⟨e, os1, eo, L, hi1, hj1, hk1⟩
  · subst e
    exact W.pure ⟨f1, f2, rs, rfl, hm⟩
  subst e eo
  dsimp only
  refine W.bind (W.rule ?_)
  refine W.bind (W.range (D := fun c b1 => b1.p = b.p ∧ b1.pd = b.pd ∧ ((∃ rs : Array Nat, c.1 = some (rs.map (kas_item O.it)) ∧ Made O xs ys rs) ∨ (c.1 = none ∧ ∃ os : Array Nat, c.2.1 = os.map (kas_item O.it) ∧ Lw O xs ys os c.2.2.1 c.2.2.2.1 ∧ c.2.2.1 + 1 < xs.size ∧ c.2.2.2.1 < ys.size ∧ i1 + j1 ≤ c.2.2.1 + c.2.2.2.1))) (fun k c b1 => b1.p = b.p ∧ b1.pd = b.pd ∧ c.1 = none ∧ ∃ os : Array Nat, c.2.1 = os.map (kas_item O.it) ∧ Lw O xs ys os c.2.2.1 c.2.2.2.1 ∧ c.2.2.1 + 1 < xs.size ∧ c.2.2.2.1 < ys.size ∧ i1 + j1 + (xs.size + ys.size) ≤ c.2.2.1 + c.2.2.2.1 + k ∧ i1 + j1 ≤ c.2.2.1 + c.2.2.2.1) ⟨f1, f2, rfl, _, rfl, L, hi1, hj1, by show i1 + j1 + (xs.size + ys.size) ≤ i1 + j1 + (xs.size + ys.size - 0) ∧ i1 + j1 ≤ i1 + j1; omega⟩ ?_ ?_ |>.mono fun c b1 hc => ?_)
  · rintro x k ⟨r, o, i, j, g, ca, cb⟩ b1 ⟨f1, f2, e, os, eo, L, hi, hj, hk1, hk2⟩
    dsimp only at e eo hi hj hk1 hk2 L ⊢
    subst e eo
    obtain ⟨K, hK, hK1, hK2⟩ := KA i j (by omega) hj
    have LK := L.manyA T hj K (by omega) fun d hd => by have := hK1 d hd; simpa [bey] using this
    by_cases hg : g > 1
    · rw [if_pos hg]
      refine W.bind (W.setMG ?_)
      refine W.bind (W.elem hj (W.bind (W.gal (K := K) (T.ny _ hj) T.nx (by omega) (by omega) hK hK1 hK2 ?_)))
      dsimp only
      by_cases z : K > 0
      · rw [if_pos z]
        simp only [mapp]
        by_cases q : (i + K + 1 == xs.size) = true
        · rw [if_pos q]
          exact W.pure ⟨f1, f2, .inl ⟨_, rfl, LK.last T (by simpa using q) hl⟩⟩
        rw [if_neg q]
        have q' : ¬ i + K + 1 = xs.size := by simpa using q
        by_cases q1 : (i + K == xs.size) = true
        · rw [if_pos q1]
          exact W.pure ⟨f1, f2, .inl ⟨_, rfl, LK.done2 (by simpa using q1)⟩⟩
        rw [if_neg q1]
        have q1' : ¬ i + K = xs.size := by simpa using q1
        have L2 := LK.stepB T (by omega) hj (by have := hK2 K (Nat.le_refl _) (by omega); simpa [bey] using this)
        refine W.bind (W.elem hj ?_)
        simp only [mpush, mapp]
        by_cases q2 : (j + 1 == ys.size) = true
        · rw [if_pos q2]
          exact W.pure ⟨f1, f2, .inl ⟨_, rfl, L2.done (by simpa using q2)⟩⟩
        rw [if_neg q2]
        have q2' : ¬ j + 1 = ys.size := by simpa using q2
        obtain ⟨K', hK', hB1, hB2⟩ := KB (i + K) (j + 1) (by omega) (by omega)
        have LB := L2.manyB T (by omega) K' (by omega) fun d hd => by have := hB1 d hd; simpa [bey] using this
        refine W.bind (W.elem (by omega) (W.bind (W.gal (K := K') (T.nx _ (by omega)) T.ny (by omega) (by omega) hK' hB1 hB2 ?_)))
        dsimp only
        by_cases z' : K' > 0
        · rw [if_pos z']
          by_cases q4 : (j + 1 + K' == ys.size) = true
          · rw [if_pos q4]
            exact W.pure ⟨f1, f2, .inl ⟨_, rfl, LB.done (by simpa using q4)⟩⟩
          rw [if_neg q4]
          have q4' : ¬ j + 1 + K' = ys.size := by simpa using q4
          have L3 := LB.stepA T (by omega) (by omega) (by have := hB2 K' (Nat.le_refl _) (by omega); simpa [bey] using this)
          refine W.bind (W.elem (by omega) ?_)
          simp only [mpush, mapp]
          by_cases q3 : (i + K + 1 + 1 == xs.size) = true
          · rw [if_pos q3]
            exact W.pure ⟨f1, f2, .inl ⟨_, rfl, L3.last T (by simpa using q3) hl⟩⟩
          · rw [if_neg q3]
            have q3' : ¬ i + K + 1 + 1 = xs.size := by simpa using q3
            refine W.ite (fun _ => ?_) (fun _ => ?_)
            · exact W.pure ⟨f1, f2, .inr ⟨rfl, _, rfl, L3, by show i + K + 1 + 1 < xs.size; omega, by show j + 1 + K' < ys.size; omega, by show i1 + j1 ≤ i + K + 1 + (j + 1 + K'); omega⟩⟩
            · exact W.pure ⟨f1, f2, rfl, _, rfl, L3, by show i + K + 1 + 1 < xs.size; omega, by show j + 1 + K' < ys.size; omega, by show i1 + j1 + (xs.size + ys.size) ≤ i + K + 1 + (j + 1 + K') + k ∧ i1 + j1 ≤ i + K + 1 + (j + 1 + K'); omega⟩
        · rw [if_neg z']
          have ek : K' = 0 := by omega
          have L3 := L2.stepA T (by omega) (by omega) (by have := hB2 0 (by omega) (by omega); simpa [bey] using this)
          refine W.bind (W.elem (by omega) ?_)
          simp only [mpush, mapp]
          by_cases q3 : (i + K + 1 + 1 == xs.size) = true
          · rw [if_pos q3]
            exact W.pure ⟨f1, f2, .inl ⟨_, rfl, L3.last T (by simpa using q3) hl⟩⟩
          · rw [if_neg q3]
            have q3' : ¬ i + K + 1 + 1 = xs.size := by simpa using q3
            refine W.ite (fun _ => ?_) (fun _ => ?_)
            · exact W.pure ⟨f1, f2, .inr ⟨rfl, _, rfl, L3, by show i + K + 1 + 1 < xs.size; omega, by show j + 1 < ys.size; omega, by show i1 + j1 ≤ i + K + 1 + (j + 1); omega⟩⟩
            · exact W.pure ⟨f1, f2, rfl, _, rfl, L3, by show i + K + 1 + 1 < xs.size; omega, by show j + 1 < ys.size; omega, by show i1 + j1 + (xs.size + ys.size) ≤ i + K + 1 + (j + 1) + k ∧ i1 + j1 ≤ i + K + 1 + (j + 1); omega⟩
      · rw [if_neg z]
        have ek : K = 0 := by omega
        have L2 := L.stepB T (by omega) hj (by have := hK2 0 (by omega) (by omega); simpa [bey] using this)
        refine W.bind (W.elem hj ?_)
        simp only [mpush, mapp]
        by_cases q2 : (j + 1 == ys.size) = true
        · rw [if_pos q2]
          exact W.pure ⟨f1, f2, .inl ⟨_, rfl, L2.done (by simpa using q2)⟩⟩
        rw [if_neg q2]
        have q2' : ¬ j + 1 = ys.size := by simpa using q2
        obtain ⟨K', hK', hB1, hB2⟩ := KB (i) (j + 1) (by omega) (by omega)
        have LB := L2.manyB T (by omega) K' (by omega) fun d hd => by have := hB1 d hd; simpa [bey] using this
        refine W.bind (W.elem (by omega) (W.bind (W.gal (K := K') (T.nx _ (by omega)) T.ny (by omega) (by omega) hK' hB1 hB2 ?_)))
        dsimp only
        by_cases z' : K' > 0
        · rw [if_pos z']
          by_cases q4 : (j + 1 + K' == ys.size) = true
          · rw [if_pos q4]
            exact W.pure ⟨f1, f2, .inl ⟨_, rfl, LB.done (by simpa using q4)⟩⟩
          rw [if_neg q4]
          have q4' : ¬ j + 1 + K' = ys.size := by simpa using q4
          have L3 := LB.stepA T (by omega) (by omega) (by have := hB2 K' (Nat.le_refl _) (by omega); simpa [bey] using this)
          refine W.bind (W.elem (by omega) ?_)
          simp only [mpush, mapp]
          by_cases q3 : (i + 1 + 1 == xs.size) = true
          · rw [if_pos q3]
            exact W.pure ⟨f1, f2, .inl ⟨_, rfl, L3.last T (by simpa using q3) hl⟩⟩
          · rw [if_neg q3]
            have q3' : ¬ i + 1 + 1 = xs.size := by simpa using q3
            refine W.ite (fun _ => ?_) (fun _ => ?_)
            · exact W.pure ⟨f1, f2, .inr ⟨rfl, _, rfl, L3, by show i + 1 + 1 < xs.size; omega, by show j + 1 + K' < ys.size; omega, by show i1 + j1 ≤ i + 1 + (j + 1 + K'); omega⟩⟩
            · exact W.pure ⟨f1, f2, rfl, _, rfl, L3, by show i + 1 + 1 < xs.size; omega, by show j + 1 + K' < ys.size; omega, by show i1 + j1 + (xs.size + ys.size) ≤ i + 1 + (j + 1 + K') + k ∧ i1 + j1 ≤ i + 1 + (j + 1 + K'); omega⟩
        · rw [if_neg z']
          have ek : K' = 0 := by omega
          have L3 := L2.stepA T (by omega) (by omega) (by have := hB2 0 (by omega) (by omega); simpa [bey] using this)
          refine W.bind (W.elem (by omega) ?_)
          simp only [mpush, mapp]
          by_cases q3 : (i + 1 + 1 == xs.size) = true
          · rw [if_pos q3]
            exact W.pure ⟨f1, f2, .inl ⟨_, rfl, L3.last T (by simpa using q3) hl⟩⟩
          · rw [if_neg q3]
            have q3' : ¬ i + 1 + 1 = xs.size := by simpa using q3
            refine W.ite (fun _ => ?_) (fun _ => ?_)
            · exact W.pure ⟨f1, f2, .inr ⟨rfl, _, rfl, L3, by show i + 1 + 1 < xs.size; omega, by show j + 1 < ys.size; omega, by show i1 + j1 ≤ i + 1 + (j + 1); omega⟩⟩
            · exact W.pure ⟨f1, f2, rfl, _, rfl, L3, by show i + 1 + 1 < xs.size; omega, by show j + 1 < ys.size; omega, by show i1 + j1 + (xs.size + ys.size) ≤ i + 1 + (j + 1) + k ∧ i1 + j1 ≤ i + 1 + (j + 1); omega⟩
    · rw [if_neg hg]
      refine W.bind (W.setMG ?_)
      refine W.bind (W.elem hj (W.bind (W.gal (K := K) (T.ny _ hj) T.nx (by omega) (by omega) hK hK1 hK2 ?_)))
      dsimp only
      by_cases z : K > 0
      · rw [if_pos z]
        simp only [mapp]
        by_cases q : (i + K + 1 == xs.size) = true
        · rw [if_pos q]
          exact W.pure ⟨f1, f2, .inl ⟨_, rfl, LK.last T (by simpa using q) hl⟩⟩
        rw [if_neg q]
        have q' : ¬ i + K + 1 = xs.size := by simpa using q
        by_cases q1 : (i + K == xs.size) = true
        · rw [if_pos q1]
          exact W.pure ⟨f1, f2, .inl ⟨_, rfl, LK.done2 (by simpa using q1)⟩⟩
        rw [if_neg q1]
        have q1' : ¬ i + K = xs.size := by simpa using q1
        have L2 := LK.stepB T (by omega) hj (by have := hK2 K (Nat.le_refl _) (by omega); simpa [bey] using this)
        refine W.bind (W.elem hj ?_)
        simp only [mpush, mapp]
        by_cases q2 : (j + 1 == ys.size) = true
        · rw [if_pos q2]
          exact W.pure ⟨f1, f2, .inl ⟨_, rfl, L2.done (by simpa using q2)⟩⟩
        rw [if_neg q2]
        have q2' : ¬ j + 1 = ys.size := by simpa using q2
        obtain ⟨K', hK', hB1, hB2⟩ := KB (i + K) (j + 1) (by omega) (by omega)
        have LB := L2.manyB T (by omega) K' (by omega) fun d hd => by have := hB1 d hd; simpa [bey] using this
        refine W.bind (W.elem (by omega) (W.bind (W.gal (K := K') (T.nx _ (by omega)) T.ny (by omega) (by omega) hK' hB1 hB2 ?_)))
        dsimp only
        by_cases z' : K' > 0
        · rw [if_pos z']
          by_cases q4 : (j + 1 + K' == ys.size) = true
          · rw [if_pos q4]
            exact W.pure ⟨f1, f2, .inl ⟨_, rfl, LB.done (by simpa using q4)⟩⟩
          rw [if_neg q4]
          have q4' : ¬ j + 1 + K' = ys.size := by simpa using q4
          have L3 := LB.stepA T (by omega) (by omega) (by have := hB2 K' (Nat.le_refl _) (by omega); simpa [bey] using this)
          refine W.bind (W.elem (by omega) ?_)
          simp only [mpush, mapp]
          by_cases q3 : (i + K + 1 + 1 == xs.size) = true
          · rw [if_pos q3]
            exact W.pure ⟨f1, f2, .inl ⟨_, rfl, L3.last T (by simpa using q3) hl⟩⟩
          · rw [if_neg q3]
            have q3' : ¬ i + K + 1 + 1 = xs.size := by simpa using q3
            refine W.ite (fun _ => ?_) (fun _ => ?_)
            · exact W.pure ⟨f1, f2, .inr ⟨rfl, _, rfl, L3, by show i + K + 1 + 1 < xs.size; omega, by show j + 1 + K' < ys.size; omega, by show i1 + j1 ≤ i + K + 1 + (j + 1 + K'); omega⟩⟩
            · exact W.pure ⟨f1, f2, rfl, _, rfl, L3, by show i + K + 1 + 1 < xs.size; omega, by show j + 1 + K' < ys.size; omega, by show i1 + j1 + (xs.size + ys.size) ≤ i + K + 1 + (j + 1 + K') + k ∧ i1 + j1 ≤ i + K + 1 + (j + 1 + K'); omega⟩
        · rw [if_neg z']
          have ek : K' = 0 := by omega
          have L3 := L2.stepA T (by omega) (by omega) (by have := hB2 0 (by omega) (by omega); simpa [bey] using this)
          refine W.bind (W.elem (by omega) ?_)
          simp only [mpush, mapp]
          by_cases q3 : (i + K + 1 + 1 == xs.size) = true
          · rw [if_pos q3]
            exact W.pure ⟨f1, f2, .inl ⟨_, rfl, L3.last T (by simpa using q3) hl⟩⟩
          · rw [if_neg q3]
            have q3' : ¬ i + K + 1 + 1 = xs.size := by simpa using q3
            refine W.ite (fun _ => ?_) (fun _ => ?_)
            · exact W.pure ⟨f1, f2, .inr ⟨rfl, _, rfl, L3, by show i + K + 1 + 1 < xs.size; omega, by show j + 1 < ys.size; omega, by show i1 + j1 ≤ i + K + 1 + (j + 1); omega⟩⟩
            · exact W.pure ⟨f1, f2, rfl, _, rfl, L3, by show i + K + 1 + 1 < xs.size; omega, by show j + 1 < ys.size; omega, by show i1 + j1 + (xs.size + ys.size) ≤ i + K + 1 + (j + 1) + k ∧ i1 + j1 ≤ i + K + 1 + (j + 1); omega⟩
      · rw [if_neg z]
        have ek : K = 0 := by omega
        have L2 := L.stepB T (by omega) hj (by have := hK2 0 (by omega) (by omega); simpa [bey] using this)
        refine W.bind (W.elem hj ?_)
        simp only [mpush, mapp]
        by_cases q2 : (j + 1 == ys.size) = true
        · rw [if_pos q2]
          exact W.pure ⟨f1, f2, .inl ⟨_, rfl, L2.done (by simpa using q2)⟩⟩
        rw [if_neg q2]
        have q2' : ¬ j + 1 = ys.size := by simpa using q2
        obtain ⟨K', hK', hB1, hB2⟩ := KB (i) (j + 1) (by omega) (by omega)
        have LB := L2.manyB T (by omega) K' (by omega) fun d hd => by have := hB1 d hd; simpa [bey] using this
        refine W.bind (W.elem (by omega) (W.bind (W.gal (K := K') (T.nx _ (by omega)) T.ny (by omega) (by omega) hK' hB1 hB2 ?_)))
        dsimp only
        by_cases z' : K' > 0
        · rw [if_pos z']
          by_cases q4 : (j + 1 + K' == ys.size) = true
          · rw [if_pos q4]
            exact W.pure ⟨f1, f2, .inl ⟨_, rfl, LB.done (by simpa using q4)⟩⟩
          rw [if_neg q4]
          have q4' : ¬ j + 1 + K' = ys.size := by simpa using q4
          have L3 := LB.stepA T (by omega) (by omega) (by have := hB2 K' (Nat.le_refl _) (by omega); simpa [bey] using this)
          refine W.bind (W.elem (by omega) ?_)
          simp only [mpush, mapp]
          by_cases q3 : (i + 1 + 1 == xs.size) = true
          · rw [if_pos q3]
            exact W.pure ⟨f1, f2, .inl ⟨_, rfl, L3.last T (by simpa using q3) hl⟩⟩
          · rw [if_neg q3]
            have q3' : ¬ i + 1 + 1 = xs.size := by simpa using q3
            refine W.ite (fun _ => ?_) (fun _ => ?_)
            · exact W.pure ⟨f1, f2, .inr ⟨rfl, _, rfl, L3, by show i + 1 + 1 < xs.size; omega, by show j + 1 + K' < ys.size; omega, by show i1 + j1 ≤ i + 1 + (j + 1 + K'); omega⟩⟩
            · exact W.pure ⟨f1, f2, rfl, _, rfl, L3, by show i + 1 + 1 < xs.size; omega, by show j + 1 + K' < ys.size; omega, by show i1 + j1 + (xs.size + ys.size) ≤ i + 1 + (j + 1 + K') + k ∧ i1 + j1 ≤ i + 1 + (j + 1 + K'); omega⟩
        · rw [if_neg z']
          have ek : K' = 0 := by omega
          have L3 := L2.stepA T (by omega) (by omega) (by have := hB2 0 (by omega) (by omega); simpa [bey] using this)
          refine W.bind (W.elem (by omega) ?_)
          simp only [mpush, mapp]
          by_cases q3 : (i + 1 + 1 == xs.size) = true
          · rw [if_pos q3]
            exact W.pure ⟨f1, f2, .inl ⟨_, rfl, L3.last T (by simpa using q3) hl⟩⟩
          · rw [if_neg q3]
            have q3' : ¬ i + 1 + 1 = xs.size := by simpa using q3
            refine W.ite (fun _ => ?_) (fun _ => ?_)
            · exact W.pure ⟨f1, f2, .inr ⟨rfl, _, rfl, L3, by show i + 1 + 1 < xs.size; omega, by show j + 1 < ys.size; omega, by show i1 + j1 ≤ i + 1 + (j + 1); omega⟩⟩
            · exact W.pure ⟨f1, f2, rfl, _, rfl, L3, by show i + 1 + 1 < xs.size; omega, by show j + 1 < ys.size; omega, by show i1 + j1 + (xs.size + ys.size) ≤ i + 1 + (j + 1) + k ∧ i1 + j1 ≤ i + 1 + (j + 1); omega⟩
  · rintro ⟨r, o, i, j, g, ca, cb⟩ b1 ⟨f1, f2, _, os, _, L, hi, hj, hk1, hk2⟩
    dsimp only at hi hj hk1 hk2
    exact absurd hk1 (by omega)
  obtain ⟨r, o, i2, j2, g2, ca, cb⟩ := c
  obtain ⟨f1, f2, hc⟩ := hc
  dsimp only at hc ⊢
  rcases hc with ⟨rs, e, hm⟩ | ⟨e, os2, eo, L, hi2, hj2, hk2⟩
  · subst e
    exact W.pure ⟨f1, f2, rs, rfl, hm⟩
  subst e eo
  dsimp only
  exact W.bind (W.setMG (W.pure ⟨f1, f2, rfl, _, rfl, L, hi2, hj2, by show xs.size + ys.size + 1 ≤ i2 + j2 + k; omega⟩))
end
end L2

namespace L2
open PySem PySem.Spec PyProof.Rows PySem.W
def mHi : Array Keyed → Array Keyed → SM (Array Keyed) := sortPriv% PySem.Builtin.mergeHi
theorem mHi_eq (a b : Array Keyed) : mHi a b = (do
  rule "list.sort.merge-hi"
  let tt := a.size + b.size
  let dn (o : Array Keyed) (i j : Nat) := a.extract 0 i ++ b.extract 0 j ++ o.reverse
  let fb (o : Array Keyed) (i j : Nat) := b.extract 0 j ++ a.extract 0 i ++ o.reverse
  let mut i := a.size - 1
  let mut j := b.size
  let mut o : Array Keyed := #[← elem' a i]
  if i == 0 then return dn o i j
  if j == 1 then return fb o i j
  let mut mg := gallopOf (← get)
  for _ in [0:tt] do
    let mut ca := 0
    let mut cb := 0
    for _ in [0:tt] do
      let some aw ← lt' (← elem' b (j - 1)) (← elem' a (i - 1)) | return dn o i j
      if aw then
        i := i - 1; o := o.push (← elem' a i); ca := ca + 1; cb := 0
        if i == 0 then return dn o i j
        if ca ≥ mg then break
      else
        j := j - 1; o := o.push (← elem' b j); cb := cb + 1; ca := 0
        if j == 1 then return fb o i j
        if cb ≥ mg then break
    rule "list.sort.gallop"
    mg := mg + 1
    for _ in [0:tt] do
      if mg > 1 then mg := mg - 1
      setMG mg
      let some q ← gal false (← elem' b (j - 1)) a 0 i (i - 1) | return dn o i j
      let k := i - q
      ca := k
      if k > 0 then
        o := o ++ (a.extract q i).reverse; i := q
        if i == 0 then return dn o i j
      j := j - 1; o := o.push (← elem' b j)
      if j == 1 then return fb o i j
      let some q ← gal true (← elem' a (i - 1)) b 0 j (j - 1) | return dn o i j
      let k := j - q
      cb := k
      if k > 0 then
        o := o ++ (b.extract q j).reverse; j := q
        if j == 1 then return fb o i j
        if j == 0 then return dn o i j
      i := i - 1; o := o.push (← elem' a i)
      if i == 0 then return dn o i j
      if ca < 7 && cb < 7 then break
    mg := mg + 1
    setMG mg
  unsupported "internal:list.sort.merge-bound") := rfl
section
variable {O : Orc} {b : Ab} {xs ys os : Array Nat} {i j k : Nat}
structure Hw (O : Orc) (xs ys os : Array Nat) (i j : Nat) : Prop where
  pm : ((xs.toList.take i ++ ys.toList.take j) ++ os.toList.reverse).Perm (xs.toList ++ ys.toList)
  sa : (xs.toList.take i ++ os.toList.reverse).Pairwise (Ah O.lt)
  sb : (ys.toList.take j ++ os.toList.reverse).Pairwise (Ah O.lt)
  ti : i ≤ xs.size
  tj : j ≤ ys.size
theorem take_at {xs : Array Nat} {i : Nat} (h0 : 0 < i) (h : i ≤ xs.size) : xs.toList.take i = xs.toList.take (i - 1) ++ [xs.getD (i - 1) 0] := by
  obtain ⟨c, rfl⟩ : ∃ c, i = c + 1 := ⟨i - 1, by omega⟩
  have h' : c < xs.toList.length := by simp; omega
  rw [List.take_succ_eq_append_getElem h', Nat.add_sub_cancel]
  congr 2
  simp [Array.getD, show c < xs.size by omega]
theorem ext0 (xs : Array Nat) (i : Nat) : (xs.extract 0 i).toList = xs.toList.take i := by
  rw [Array.toList_extract, List.extract_eq_drop_take]; simp
theorem Hw.done (L : Hw O xs ys os i j) (h : i = 0) : Made O xs ys (xs.extract 0 i ++ ys.extract 0 j ++ os.reverse) := by
  subst h
  have e : (xs.extract 0 0 ++ ys.extract 0 j ++ os.reverse).toList = ys.toList.take j ++ os.toList.reverse := by rw [Array.toList_append, Array.toList_append, ext0, ext0]; simp
  have pm := L.pm
  rw [List.take_zero, List.nil_append] at pm
  exact ⟨by rw [e]; exact pm, by rw [e]; exact L.sb⟩
theorem Hw.done2 (L : Hw O xs ys os i j) (h : j = 0) : Made O xs ys (xs.extract 0 i ++ ys.extract 0 j ++ os.reverse) := by
  subst h
  have e : (xs.extract 0 i ++ ys.extract 0 0 ++ os.reverse).toList = xs.toList.take i ++ os.toList.reverse := by rw [Array.toList_append, Array.toList_append, ext0, ext0]; simp
  have pm := L.pm
  rw [List.take_zero, List.append_nil] at pm
  exact ⟨by rw [e]; exact pm, by rw [e]; exact L.sa⟩
theorem Hw.first (T : Two O xs ys) (L : Hw O xs ys os i j) (h : j = 1) (h0 : O.lt (ys.getD 0 0) (xs.getD 0 0) = true) : Made O xs ys (ys.extract 0 j ++ xs.extract 0 i ++ os.reverse) := by
  subst h
  have e : (ys.extract 0 1 ++ xs.extract 0 i ++ os.reverse).toList = (ys.toList.take 1 ++ xs.toList.take i) ++ os.toList.reverse := by rw [Array.toList_append, Array.toList_append, ext0, ext0]; simp
  have hd : ys.toList.take 1 = [ys.getD 0 0] := by rw [take_at (by omega) L.tj]; simp
  refine ⟨by rw [e]; exact (List.perm_append_comm.append_right _).trans L.pm, ?_⟩
  obtain ⟨s1, s2, s3⟩ := List.pairwise_append.mp L.sa
  obtain ⟨t1, t2, t3⟩ := List.pairwise_append.mp L.sb
  rw [e, hd]
  rw [hd] at t3
  refine List.pairwise_append.mpr ⟨?_, s2, fun a ha c hc => ?_⟩
  · refine List.pairwise_cons.mpr ⟨fun c hc => ?_, s1⟩
    have hc' : c ∈ xs.toList := List.mem_of_mem_take hc
    have hx := T.x1
    have ex : xs.toList = xs.getD 0 0 :: xs.toList.drop 1 := by have := drop_at (xs := xs) (i := 0) hx; simpa using this
    have sx := T.sx
    rw [ex] at hc' sx
    rcases List.mem_cons.mp hc' with rfl | hc'
    · exact Ah.of_lt T.H h0
    · exact (Ah.of_lt T.H h0).trans T.H ((List.pairwise_cons.mp sx).1 c hc')
  · rcases List.mem_append.mp ha with ha | ha
    · exact t3 a ha c hc
    · exact s3 a ha c hc
theorem Hw.stepA (T : Two O xs ys) (L : Hw O xs ys os i j) (hi : 0 < i) (hj : 0 < j) (h : O.lt (ys.getD (j - 1) 0) (xs.getD (i - 1) 0) = true) : Hw O xs ys (os.push (xs.getD (i - 1) 0)) (i - 1) j := by
  have e : (os.push (xs.getD (i - 1) 0)).toList.reverse = xs.getD (i - 1) 0 :: os.toList.reverse := by simp
  have ti := L.ti; have tj := L.tj
  have hx := take_at hi L.ti
  have pm := L.pm; have sa := L.sa; have sb := L.sb
  rw [hx] at pm sa
  have sa' : (xs.toList.take (i - 1) ++ (xs.getD (i - 1) 0 :: os.toList.reverse)).Pairwise (Ah O.lt) := by simpa using sa
  obtain ⟨s1, s2, s3⟩ := List.pairwise_append.mp sa'
  obtain ⟨t1, t2, t3⟩ := List.pairwise_append.mp sb
  refine ⟨?_, by rw [e]; exact sa', ?_, by omega, L.tj⟩
  · rw [e]
    refine List.Perm.trans ?_ pm
    have : ((xs.toList.take (i - 1) ++ [xs.getD (i - 1) 0]) ++ ys.toList.take j ++ os.toList.reverse) = xs.toList.take (i - 1) ++ (xs.getD (i - 1) 0 :: (ys.toList.take j ++ os.toList.reverse)) := by simp
    rw [this]
    have e2 : (xs.toList.take (i - 1) ++ ys.toList.take j) ++ (xs.getD (i - 1) 0 :: os.toList.reverse) = xs.toList.take (i - 1) ++ (ys.toList.take j ++ (xs.getD (i - 1) 0 :: os.toList.reverse)) := by simp
    rw [e2]
    exact List.Perm.append_left _ List.perm_middle
  · rw [e]
    have hy := take_at hj L.tj
    refine List.pairwise_append.mpr ⟨t1, s2, fun a ha c hc => ?_⟩
    rcases List.mem_cons.mp hc with rfl | hc
    · rw [hy] at ha t1
      rcases List.mem_append.mp ha with ha | ha
      · exact ((List.pairwise_append.mp t1).2.2 a ha _ (List.mem_singleton.mpr rfl)).trans T.H (Ah.of_lt T.H h)
      · rw [List.mem_singleton.mp ha]; exact Ah.of_lt T.H h
    · exact t3 a ha c hc
theorem Hw.stepB (T : Two O xs ys) (L : Hw O xs ys os i j) (hi : 0 < i) (hj : 0 < j) (h : O.lt (ys.getD (j - 1) 0) (xs.getD (i - 1) 0) = false) : Hw O xs ys (os.push (ys.getD (j - 1) 0)) i (j - 1) := by
  have e : (os.push (ys.getD (j - 1) 0)).toList.reverse = ys.getD (j - 1) 0 :: os.toList.reverse := by simp
  have ti := L.ti; have tj := L.tj
  have hy := take_at hj L.tj
  have pm := L.pm; have sa := L.sa; have sb := L.sb
  rw [hy] at pm sb
  have sb' : (ys.toList.take (j - 1) ++ (ys.getD (j - 1) 0 :: os.toList.reverse)).Pairwise (Ah O.lt) := by simpa using sb
  obtain ⟨s1, s2, s3⟩ := List.pairwise_append.mp sa
  obtain ⟨t1, t2, t3⟩ := List.pairwise_append.mp sb'
  refine ⟨?_, ?_, by rw [e]; exact sb', L.ti, by omega⟩
  · rw [e]
    have e2 : (xs.toList.take i ++ ys.toList.take (j - 1)) ++ (ys.getD (j - 1) 0 :: os.toList.reverse) = (xs.toList.take i ++ (ys.toList.take (j - 1) ++ [ys.getD (j - 1) 0])) ++ os.toList.reverse := by simp
    rw [e2]; exact pm
  · rw [e]
    have hx := take_at hi L.ti
    have h0 : Ah O.lt (xs.getD (i - 1) 0) (ys.getD (j - 1) 0) := T.ah (mem_at (by omega)) (mem_at (by omega)) h
    refine List.pairwise_append.mpr ⟨s1, t2, fun a ha c hc => ?_⟩
    rcases List.mem_cons.mp hc with rfl | hc
    · rw [hx] at ha s1
      rcases List.mem_append.mp ha with ha | ha
      · exact ((List.pairwise_append.mp s1).2.2 a ha _ (List.mem_singleton.mpr rfl)).trans T.H h0
      · rw [List.mem_singleton.mp ha]; exact h0
    · exact s3 a ha c hc
theorem push_rev {os xs : Array Nat} {K k : Nat} (h : K + k < xs.size) : os.push (xs.getD (K + k) 0) ++ (xs.extract K (K + k)).reverse = os ++ (xs.extract K (K + (k + 1))).reverse := by
  apply Array.toList_inj.mp
  have e : xs.getD (K + k) 0 = xs[K + k] := by simp [Array.getD, h]
  rw [e]
  have hl : k < (xs.toList.drop K).length := by simp; omega
  simp only [Array.toList_push, Array.toList_append, Array.toList_reverse, Array.toList_extract, List.append_assoc]
  rw [List.extract_eq_drop_take, List.extract_eq_drop_take, show K + k - K = k by omega, show K + (k + 1) - K = k + 1 by omega, List.take_succ_eq_append_getElem hl, List.reverse_append]
  simp
theorem Hw.manyA (T : Two O xs ys) (hj : 0 < j) {K : Nat} : ∀ (k : Nat) (os : Array Nat), Hw O xs ys os (K + k) j → (∀ d, K ≤ d → d < K + k → O.lt (ys.getD (j - 1) 0) (xs.getD d 0) = true) → Hw O xs ys (os ++ (xs.extract K (K + k)).reverse) K j
  | 0, os, L, _ => by
    have e : os ++ (xs.extract K (K + 0)).reverse = os := by apply Array.toList_inj.mp; simp
    rw [e]; exact L
  | k + 1, os, L, h => by
    have ti := L.ti
    have L' := L.stepA T (by omega) hj (h _ (by omega) (by omega))
    rw [show K + (k + 1) - 1 = K + k by omega] at L'
    have := Hw.manyA T hj k _ L' fun d h1 h2 => h d h1 (by omega)
    rw [push_rev (by omega)] at this
    exact this
theorem Hw.manyB (T : Two O xs ys) (hi : 0 < i) {K : Nat} : ∀ (k : Nat) (os : Array Nat), Hw O xs ys os i (K + k) → (∀ d, K ≤ d → d < K + k → O.lt (ys.getD d 0) (xs.getD (i - 1) 0) = false) → Hw O xs ys (os ++ (ys.extract K (K + k)).reverse) i K
  | 0, os, L, _ => by
    have e : os ++ (ys.extract K (K + 0)).reverse = os := by apply Array.toList_inj.mp; simp
    rw [e]; exact L
  | k + 1, os, L, h => by
    have tj := L.tj
    have L' := L.stepB T hi (by omega) (h _ (by omega) (by omega))
    rw [show K + (k + 1) - 1 = K + k by omega] at L'
    have := Hw.manyB T hi k _ L' fun d h1 h2 => h d h1 (by omega)
    rw [push_rev (by omega)] at this
    exact this
theorem Hw.manyA' (T : Two O xs ys) (L : Hw O xs ys os i j) (hj : 0 < j) {K : Nat} (hK : K ≤ i) (h : ∀ d, K ≤ d → d < i → O.lt (ys.getD (j - 1) 0) (xs.getD d 0) = true) : Hw O xs ys (os ++ (xs.extract K i).reverse) K j := by
  obtain ⟨k, rfl⟩ : ∃ k, i = K + k := ⟨i - K, by omega⟩
  exact Hw.manyA T hj k os L h
theorem Hw.manyB' (T : Two O xs ys) (L : Hw O xs ys os i j) (hi : 0 < i) {K : Nat} (hK : K ≤ j) (h : ∀ d, K ≤ d → d < j → O.lt (ys.getD d 0) (xs.getD (i - 1) 0) = false) : Hw O xs ys (os ++ (ys.extract K j).reverse) i K := by
  obtain ⟨k, rfl⟩ : ∃ k, j = K + k := ⟨j - K, by omega⟩
  exact Hw.manyB T hi k os L h
theorem W.mHi {Q : Array Keyed → Ab → Prop} (T : Two O xs ys) (h0 : O.lt (ys.getD 0 0) (xs.getD 0 0) = true) (hl : ∀ y ∈ ys.toList, O.lt y (xs.getD (xs.size - 1) 0) = true)
    (h : ∀ rs mg, Made O xs ys rs → Q (rs.map (kas_item O.it)) { b with mg := mg }) : W O (mHi (xs.map (kas_item O.it)) (ys.map (kas_item O.it))) Q b := by
  have x1 := T.x1
  have y1 := T.y1
  have tk : ∀ zs : Array Nat, zs.toList.take zs.size = zs.toList := fun zs => List.take_of_length_le (by simp)
  have L0 : Hw O xs ys #[] xs.size ys.size := ⟨by rw [tk, tk]; simp, by rw [tk]; simpa using T.sx, by rw [tk]; simpa using T.sy, Nat.le_refl _, Nat.le_refl _⟩
  have L1 := L0.stepA T x1 y1 (hl _ (mem_at (by omega)))
  have mpush : ∀ (os : Array Nat) (x : Nat), (os.map (kas_item O.it)).push (kas_item O.it x) = (os.push x).map (kas_item O.it) := fun os x => by rw [Array.map_push]
  have mapp : ∀ (os zs : Array Nat), os.map (kas_item O.it) ++ zs.map (kas_item O.it) = (os ++ zs).map (kas_item O.it) := fun os zs => by rw [Array.map_append]
  have mext : ∀ (zs : Array Nat) (i j : Nat), (zs.map (kas_item O.it)).extract i j = (zs.extract i j).map (kas_item O.it) := fun zs i j => by rw [Array.map_extract]
  have mrev : ∀ (zs : Array Nat), (zs.map (kas_item O.it)).reverse = zs.reverse.map (kas_item O.it) := fun zs => by rw [Array.map_reverse]
  rw [mHi_eq]
  refine W.bind (W.rule ?_)
  simp only [Array.size_map, mext]
  refine W.bind (W.elem (by omega) ?_)
  have e1 : #[kas_item O.it (xs.getD (xs.size - 1) 0)] = ((#[] : Array Nat).push (xs.getD (xs.size - 1) 0)).map (kas_item O.it) := by simp
  rw [e1]
  by_cases c1 : (xs.size - 1 == 0) = true
  · rw [if_pos c1]
    simp only [mapp, mrev]
    exact W.pure (h _ b.mg (L1.done (by simpa using c1)))
  rw [if_neg c1]
  by_cases c2 : (ys.size == 1) = true
  · rw [if_pos c2]
    simp only [mapp, mrev]
    exact W.pure (h _ b.mg (L1.first T (by simpa using c2) h0))
  rw [if_neg c2]
  refine W.bind (W.get ?_)
  have KA : ∀ i j, i ≤ xs.size → ∃ K, K ≤ i ∧ (∀ d, d < K → bey O false (ys.getD j 0) xs 0 d = true) ∧ ∀ d, K ≤ d → d < i → bey O false (ys.getD j 0) xs 0 d = false := fun i j hi => pre_ex _ fun c d h1 h2 h3 => T.monoA h1 (by omega) h3
  have KB : ∀ i j, j ≤ ys.size → ∃ K, K ≤ j ∧ (∀ d, d < K → bey O true (xs.getD i 0) ys 0 d = true) ∧ ∀ d, K ≤ d → d < j → bey O true (xs.getD i 0) ys 0 d = false := fun i j hj => pre_ex _ fun c d h1 h2 h3 => T.monoB h1 (by omega) h3
  have c1 : 1 < xs.size := by have : ¬ xs.size - 1 = 0 := by simpa using c1
                              omega
  have c2 : 1 < ys.size := by have : ¬ ys.size = 1 := by simpa using c2
                              omega
  refine W.bind (W.range (D := fun c b1 => b1.p = b.p ∧ b1.pd = b.pd ∧ ∃ rs : Array Nat, c.1 = some (rs.map (kas_item O.it)) ∧ Made O xs ys rs) (fun k c b1 => b1.p = b.p ∧ b1.pd = b.pd ∧ c.1 = none ∧ ∃ os : Array Nat, c.2.2.2.1 = os.map (kas_item O.it) ∧ Hw O xs ys os c.2.1 c.2.2.1 ∧ 0 < c.2.1 ∧ 1 < c.2.2.1 ∧ c.2.1 + c.2.2.1 + 1 ≤ k) ⟨rfl, rfl, rfl, _, rfl, L1, by show 0 < xs.size - 1; omega, c2, by show xs.size - 1 + ys.size + 1 ≤ xs.size + ys.size - 0; omega⟩ ?_ ?_ |>.mono fun c b1 hc => ?_)
  rotate_left
  · rintro ⟨r, i, j, o, g⟩ b1 ⟨f1, f2, _, os, _, L, hi, hj, hk⟩
    dsimp only at hi hj hk
    exact absurd hk (by omega)
  · obtain ⟨r, i, j, o, g⟩ := c
    obtain ⟨f1, f2, rs, e, hm⟩ := hc
    dsimp only at e ⊢
    subst e
    have := h rs b1.mg hm
    obtain ⟨p1, d1, m1⟩ := b1
    have f1 : p1 = b.p := f1
    have f2 : d1 = b.pd := f2
    subst f1 f2
    exact W.pure this
  rintro x k ⟨r, i0, j0, o, g0⟩ b1 ⟨f1, f2, e, os0, eo, L, hi0, hj0, hk⟩
  dsimp only at e eo hi0 hj0 hk L ⊢
  subst e eo
  have tI := L.ti; have tJ := L.tj
  refine W.bind (W.range (D := fun c b1 => b1.p = b.p ∧ b1.pd = b.pd ∧ ((∃ rs : Array Nat, c.1 = some (rs.map (kas_item O.it)) ∧ Made O xs ys rs) ∨ (c.1 = none ∧ ∃ os : Array Nat, c.2.2.2.1 = os.map (kas_item O.it) ∧ Hw O xs ys os c.2.1 c.2.2.1 ∧ 0 < c.2.1 ∧ 1 < c.2.2.1 ∧ c.2.1 + c.2.2.1 + 1 ≤ i0 + j0))) (fun k c b1 => b1.p = b.p ∧ b1.pd = b.pd ∧ c.1 = none ∧ ∃ os : Array Nat, c.2.2.2.1 = os.map (kas_item O.it) ∧ Hw O xs ys os c.2.1 c.2.2.1 ∧ 0 < c.2.1 ∧ 1 < c.2.2.1 ∧ c.2.1 + c.2.2.1 + (xs.size + ys.size) ≤ i0 + j0 + k ∧ c.2.1 + c.2.2.1 ≤ i0 + j0) ⟨f1, f2, rfl, _, rfl, L, hi0, hj0, by show i0 + j0 + (xs.size + ys.size) ≤ i0 + j0 + (xs.size + ys.size - 0) ∧ i0 + j0 ≤ i0 + j0; omega⟩ ?_ ?_ |>.mono fun c b1 hc => ?_)
  · rintro x k ⟨r, i, j, o, ca, cb⟩ b1 ⟨f1, f2, e, os, eo, L, hi, hj, hk1, hk2⟩
    dsimp only at e eo hi hj hk1 hk2 L ⊢
    subst e eo
    have ti := L.ti; have tj := L.tj
    refine W.bind (W.elem (by omega) (W.bind (W.elem (by omega) (W.bind (W.lt (T.ny _ (by omega)) (T.nx _ (by omega)) ?_)))))
    cases e : O.lt (ys.getD (j - 1) 0) (xs.getD (i - 1) 0) with
    | true =>
      have L' := L.stepA T hi (by omega) e
      simp only [if_true]
      refine W.bind (W.elem (by omega) ?_)
      simp only [mpush, mapp, mrev]
      by_cases q : (i - 1 == 0) = true
      · rw [if_pos q]
        exact W.pure ⟨f1, f2, .inl ⟨_, rfl, L'.done (by simpa using q)⟩⟩
      · rw [if_neg q]
        have q' : ¬ i - 1 = 0 := by simpa using q
        refine W.ite (fun _ => ?_) (fun _ => ?_)
        · exact W.pure ⟨f1, f2, .inr ⟨rfl, _, rfl, L', by show 0 < i - 1; omega, hj, by show i - 1 + j + 1 ≤ i0 + j0; omega⟩⟩
        · exact W.pure ⟨f1, f2, rfl, _, rfl, L', by show 0 < i - 1; omega, hj, by show i - 1 + j + (xs.size + ys.size) ≤ i0 + j0 + k ∧ i - 1 + j ≤ i0 + j0; omega⟩
    | false =>
      have L' := L.stepB T hi (by omega) e
      simp only [Bool.false_eq_true, if_false]
      refine W.bind (W.elem (by omega) ?_)
      simp only [mpush, mapp, mrev]
      by_cases q : (j - 1 == 1) = true
      · rw [if_pos q]
        exact W.pure ⟨f1, f2, .inl ⟨_, rfl, L'.first T (by simpa using q) h0⟩⟩
      · rw [if_neg q]
        have q' : ¬ j - 1 = 1 := by simpa using q
        refine W.ite (fun _ => ?_) (fun _ => ?_)
        · exact W.pure ⟨f1, f2, .inr ⟨rfl, _, rfl, L', hi, by show 1 < j - 1; omega, by show i + (j - 1) + 1 ≤ i0 + j0; omega⟩⟩
        · exact W.pure ⟨f1, f2, rfl, _, rfl, L', hi, by show 1 < j - 1; omega, by show i + (j - 1) + (xs.size + ys.size) ≤ i0 + j0 + k ∧ i + (j - 1) ≤ i0 + j0; omega⟩
  · rintro ⟨r, i, j, o, ca, cb⟩ b1 ⟨f1, f2, _, os, _, L, hi, hj, hk1, hk2⟩
    dsimp only at hi hj hk1 hk2
    exact absurd hk1 (by omega)
  obtain ⟨r, i1, j1, o, ca, cb⟩ := c
  obtain ⟨f1, f2, hc⟩ := hc
  dsimp only at hc ⊢
  rcases hc with ⟨rs, e, hm⟩ | ⟨e, os1, eo, L, hi1, hj1, hk1⟩
  · subst e
    exact W.pure ⟨f1, f2, rs, rfl, hm⟩
  subst e eo
  dsimp only
  refine W.bind (W.rule ?_)
  refine W.bind (W.range (D := fun c b1 => b1.p = b.p ∧ b1.pd = b.pd ∧ ((∃ rs : Array Nat, c.1 = some (rs.map (kas_item O.it)) ∧ Made O xs ys rs) ∨ (c.1 = none ∧ ∃ os : Array Nat, c.2.2.2.1 = os.map (kas_item O.it) ∧ Hw O xs ys os c.2.1 c.2.2.1 ∧ 0 < c.2.1 ∧ 1 < c.2.2.1 ∧ c.2.1 + c.2.2.1 ≤ i1 + j1))) (fun k c b1 => b1.p = b.p ∧ b1.pd = b.pd ∧ c.1 = none ∧ ∃ os : Array Nat, c.2.2.2.1 = os.map (kas_item O.it) ∧ Hw O xs ys os c.2.1 c.2.2.1 ∧ 0 < c.2.1 ∧ 1 < c.2.2.1 ∧ c.2.1 + c.2.2.1 + (xs.size + ys.size) ≤ i1 + j1 + k ∧ c.2.1 + c.2.2.1 ≤ i1 + j1) ⟨f1, f2, rfl, _, rfl, L, hi1, hj1, by show i1 + j1 + (xs.size + ys.size) ≤ i1 + j1 + (xs.size + ys.size - 0) ∧ i1 + j1 ≤ i1 + j1; omega⟩ ?_ ?_ |>.mono fun c b1 hc => ?_)
  · rintro x k ⟨r, i, j, o, g, ca, cb⟩ b1 ⟨f1, f2, e, os, eo, L, hi, hj, hk1, hk2⟩
    dsimp only at e eo hi hj hk1 hk2 L ⊢
    subst e eo
    have ti := L.ti; have tj := L.tj
    obtain ⟨K, hK, hK1, hK2⟩ := KA i (j - 1) ti
    have LK := L.manyA' T (by omega) hK fun d h1 h2 => by have := hK2 d h1 h2; simpa [bey] using this
    by_cases hg : g > 1
    · rw [if_pos hg]
      refine W.bind (W.setMG ?_)
      refine W.bind (W.elem (by omega) (W.bind (W.gal (K := K) (T.ny _ (by omega)) T.nx (by omega) (by omega) hK hK1 hK2 ?_)))
      dsimp only
      by_cases z : i - K > 0
      · rw [if_pos z]
        simp only [mapp, mrev]
        by_cases q : (K == 0) = true
        · rw [if_pos q]
          exact W.pure ⟨f1, f2, .inl ⟨_, rfl, LK.done (by simpa using q)⟩⟩
        rw [if_neg q]
        have q' : ¬ K = 0 := by simpa using q
        have L2 := LK.stepB T (by omega) (by omega) (by have := hK1 (K - 1) (by omega); simpa [bey] using this)
        have ti2 := L2.ti; have tj2 := L2.tj
        refine W.bind (W.elem (by omega) ?_)
        simp only [mpush, mapp, mrev]
        by_cases q2 : (j - 1 == 1) = true
        · rw [if_pos q2]
          exact W.pure ⟨f1, f2, .inl ⟨_, rfl, L2.first T (by simpa using q2) h0⟩⟩
        rw [if_neg q2]
        have q2' : ¬ j - 1 = 1 := by simpa using q2
        obtain ⟨K', hK', hB1, hB2⟩ := KB (K - 1) (j - 1) (by omega)
        have LB := L2.manyB' T (by omega) hK' fun d h1 h2 => by have := hB2 d h1 h2; simpa [bey] using this
        refine W.bind (W.elem (by omega) (W.bind (W.gal (K := K') (T.nx _ (by omega)) T.ny (by omega) (by omega) hK' hB1 hB2 ?_)))
        dsimp only
        by_cases z' : j - 1 - K' > 0
        · rw [if_pos z']
          try simp only [mapp, mrev]
          by_cases q4 : (K' == 1) = true
          · rw [if_pos q4]
            exact W.pure ⟨f1, f2, .inl ⟨_, rfl, LB.first T (by simpa using q4) h0⟩⟩
          rw [if_neg q4]
          have q4' : ¬ K' = 1 := by simpa using q4
          by_cases q5 : (K' == 0) = true
          · rw [if_pos q5]
            exact W.pure ⟨f1, f2, .inl ⟨_, rfl, LB.done2 (by simpa using q5)⟩⟩
          rw [if_neg q5]
          have q5' : ¬ K' = 0 := by simpa using q5
          have L3 := LB.stepA T (by omega) (by omega) (by have := hB1 (K' - 1) (by omega); simpa [bey] using this)
          refine W.bind (W.elem (by omega) ?_)
          simp only [mpush, mapp, mrev]
          by_cases q3 : (K - 1 == 0) = true
          · rw [if_pos q3]
            exact W.pure ⟨f1, f2, .inl ⟨_, rfl, L3.done (by simpa using q3)⟩⟩
          · rw [if_neg q3]
            have q3' : ¬ K - 1 = 0 := by simpa using q3
            refine W.ite (fun _ => ?_) (fun _ => ?_)
            · exact W.pure ⟨f1, f2, .inr ⟨rfl, _, rfl, L3, by show 0 < K - 1; omega, by show 1 < K'; omega, by show K - 1 + (K') ≤ i1 + j1; omega⟩⟩
            · exact W.pure ⟨f1, f2, rfl, _, rfl, L3, by show 0 < K - 1; omega, by show 1 < K'; omega, by show K - 1 + (K') + (xs.size + ys.size) ≤ i1 + j1 + k ∧ K - 1 + (K') ≤ i1 + j1; omega⟩
        · rw [if_neg z']
          have L3 := L2.stepA T (by omega) (by omega) (by have := hB1 (j - 1 - 1) (by omega); simpa [bey] using this)
          refine W.bind (W.elem (by omega) ?_)
          simp only [mpush, mapp, mrev]
          by_cases q3 : (K - 1 == 0) = true
          · rw [if_pos q3]
            exact W.pure ⟨f1, f2, .inl ⟨_, rfl, L3.done (by simpa using q3)⟩⟩
          · rw [if_neg q3]
            have q3' : ¬ K - 1 = 0 := by simpa using q3
            refine W.ite (fun _ => ?_) (fun _ => ?_)
            · exact W.pure ⟨f1, f2, .inr ⟨rfl, _, rfl, L3, by show 0 < K - 1; omega, by show 1 < j - 1; omega, by show K - 1 + (j - 1) ≤ i1 + j1; omega⟩⟩
            · exact W.pure ⟨f1, f2, rfl, _, rfl, L3, by show 0 < K - 1; omega, by show 1 < j - 1; omega, by show K - 1 + (j - 1) + (xs.size + ys.size) ≤ i1 + j1 + k ∧ K - 1 + (j - 1) ≤ i1 + j1; omega⟩
      · rw [if_neg z]
        have L2 := L.stepB T (by omega) (by omega) (by have := hK1 (i - 1) (by omega); simpa [bey] using this)
        have ti2 := L2.ti; have tj2 := L2.tj
        refine W.bind (W.elem (by omega) ?_)
        simp only [mpush, mapp, mrev]
        by_cases q2 : (j - 1 == 1) = true
        · rw [if_pos q2]
          exact W.pure ⟨f1, f2, .inl ⟨_, rfl, L2.first T (by simpa using q2) h0⟩⟩
        rw [if_neg q2]
        have q2' : ¬ j - 1 = 1 := by simpa using q2
        obtain ⟨K', hK', hB1, hB2⟩ := KB (i - 1) (j - 1) (by omega)
        have LB := L2.manyB' T (by omega) hK' fun d h1 h2 => by have := hB2 d h1 h2; simpa [bey] using this
        refine W.bind (W.elem (by omega) (W.bind (W.gal (K := K') (T.nx _ (by omega)) T.ny (by omega) (by omega) hK' hB1 hB2 ?_)))
        dsimp only
        by_cases z' : j - 1 - K' > 0
        · rw [if_pos z']
          try simp only [mapp, mrev]
          by_cases q4 : (K' == 1) = true
          · rw [if_pos q4]
            exact W.pure ⟨f1, f2, .inl ⟨_, rfl, LB.first T (by simpa using q4) h0⟩⟩
          rw [if_neg q4]
          have q4' : ¬ K' = 1 := by simpa using q4
          by_cases q5 : (K' == 0) = true
          · rw [if_pos q5]
            exact W.pure ⟨f1, f2, .inl ⟨_, rfl, LB.done2 (by simpa using q5)⟩⟩
          rw [if_neg q5]
          have q5' : ¬ K' = 0 := by simpa using q5
          have L3 := LB.stepA T (by omega) (by omega) (by have := hB1 (K' - 1) (by omega); simpa [bey] using this)
          refine W.bind (W.elem (by omega) ?_)
          simp only [mpush, mapp, mrev]
          by_cases q3 : (i - 1 == 0) = true
          · rw [if_pos q3]
            exact W.pure ⟨f1, f2, .inl ⟨_, rfl, L3.done (by simpa using q3)⟩⟩
          · rw [if_neg q3]
            have q3' : ¬ i - 1 = 0 := by simpa using q3
            refine W.ite (fun _ => ?_) (fun _ => ?_)
            · exact W.pure ⟨f1, f2, .inr ⟨rfl, _, rfl, L3, by show 0 < i - 1; omega, by show 1 < K'; omega, by show i - 1 + (K') ≤ i1 + j1; omega⟩⟩
            · exact W.pure ⟨f1, f2, rfl, _, rfl, L3, by show 0 < i - 1; omega, by show 1 < K'; omega, by show i - 1 + (K') + (xs.size + ys.size) ≤ i1 + j1 + k ∧ i - 1 + (K') ≤ i1 + j1; omega⟩
        · rw [if_neg z']
          have L3 := L2.stepA T (by omega) (by omega) (by have := hB1 (j - 1 - 1) (by omega); simpa [bey] using this)
          refine W.bind (W.elem (by omega) ?_)
          simp only [mpush, mapp, mrev]
          by_cases q3 : (i - 1 == 0) = true
          · rw [if_pos q3]
            exact W.pure ⟨f1, f2, .inl ⟨_, rfl, L3.done (by simpa using q3)⟩⟩
          · rw [if_neg q3]
            have q3' : ¬ i - 1 = 0 := by simpa using q3
            refine W.ite (fun _ => ?_) (fun _ => ?_)
            · exact W.pure ⟨f1, f2, .inr ⟨rfl, _, rfl, L3, by show 0 < i - 1; omega, by show 1 < j - 1; omega, by show i - 1 + (j - 1) ≤ i1 + j1; omega⟩⟩
            · exact W.pure ⟨f1, f2, rfl, _, rfl, L3, by show 0 < i - 1; omega, by show 1 < j - 1; omega, by show i - 1 + (j - 1) + (xs.size + ys.size) ≤ i1 + j1 + k ∧ i - 1 + (j - 1) ≤ i1 + j1; omega⟩
    · rw [if_neg hg]
      refine W.bind (W.setMG ?_)
      refine W.bind (W.elem (by omega) (W.bind (W.gal (K := K) (T.ny _ (by omega)) T.nx (by omega) (by omega) hK hK1 hK2 ?_)))
      dsimp only
      by_cases z : i - K > 0
      · rw [if_pos z]
        simp only [mapp, mrev]
        by_cases q : (K == 0) = true
        · rw [if_pos q]
          exact W.pure ⟨f1, f2, .inl ⟨_, rfl, LK.done (by simpa using q)⟩⟩
        rw [if_neg q]
        have q' : ¬ K = 0 := by simpa using q
        have L2 := LK.stepB T (by omega) (by omega) (by have := hK1 (K - 1) (by omega); simpa [bey] using this)
        have ti2 := L2.ti; have tj2 := L2.tj
        refine W.bind (W.elem (by omega) ?_)
        simp only [mpush, mapp, mrev]
        by_cases q2 : (j - 1 == 1) = true
        · rw [if_pos q2]
          exact W.pure ⟨f1, f2, .inl ⟨_, rfl, L2.first T (by simpa using q2) h0⟩⟩
        rw [if_neg q2]
        have q2' : ¬ j - 1 = 1 := by simpa using q2
        obtain ⟨K', hK', hB1, hB2⟩ := KB (K - 1) (j - 1) (by omega)
        have LB := L2.manyB' T (by omega) hK' fun d h1 h2 => by have := hB2 d h1 h2; simpa [bey] using this
        refine W.bind (W.elem (by omega) (W.bind (W.gal (K := K') (T.nx _ (by omega)) T.ny (by omega) (by omega) hK' hB1 hB2 ?_)))
        dsimp only
        by_cases z' : j - 1 - K' > 0
        · rw [if_pos z']
          try simp only [mapp, mrev]
          by_cases q4 : (K' == 1) = true
          · rw [if_pos q4]
            exact W.pure ⟨f1, f2, .inl ⟨_, rfl, LB.first T (by simpa using q4) h0⟩⟩
          rw [if_neg q4]
          have q4' : ¬ K' = 1 := by simpa using q4
          by_cases q5 : (K' == 0) = true
          · rw [if_pos q5]
            exact W.pure ⟨f1, f2, .inl ⟨_, rfl, LB.done2 (by simpa using q5)⟩⟩
          rw [if_neg q5]
          have q5' : ¬ K' = 0 := by simpa using q5
          have L3 := LB.stepA T (by omega) (by omega) (by have := hB1 (K' - 1) (by omega); simpa [bey] using this)
          refine W.bind (W.elem (by omega) ?_)
          simp only [mpush, mapp, mrev]
          by_cases q3 : (K - 1 == 0) = true
          · rw [if_pos q3]
            exact W.pure ⟨f1, f2, .inl ⟨_, rfl, L3.done (by simpa using q3)⟩⟩
          · rw [if_neg q3]
            have q3' : ¬ K - 1 = 0 := by simpa using q3
            refine W.ite (fun _ => ?_) (fun _ => ?_)
            · exact W.pure ⟨f1, f2, .inr ⟨rfl, _, rfl, L3, by show 0 < K - 1; omega, by show 1 < K'; omega, by show K - 1 + (K') ≤ i1 + j1; omega⟩⟩
            · exact W.pure ⟨f1, f2, rfl, _, rfl, L3, by show 0 < K - 1; omega, by show 1 < K'; omega, by show K - 1 + (K') + (xs.size + ys.size) ≤ i1 + j1 + k ∧ K - 1 + (K') ≤ i1 + j1; omega⟩
        · rw [if_neg z']
          have L3 := L2.stepA T (by omega) (by omega) (by have := hB1 (j - 1 - 1) (by omega); simpa [bey] using this)
          refine W.bind (W.elem (by omega) ?_)
          simp only [mpush, mapp, mrev]
          by_cases q3 : (K - 1 == 0) = true
          · rw [if_pos q3]
            exact W.pure ⟨f1, f2, .inl ⟨_, rfl, L3.done (by simpa using q3)⟩⟩
          · rw [if_neg q3]
            have q3' : ¬ K - 1 = 0 := by simpa using q3
            refine W.ite (fun _ => ?_) (fun _ => ?_)
            · exact W.pure ⟨f1, f2, .inr ⟨rfl, _, rfl, L3, by show 0 < K - 1; omega, by show 1 < j - 1; omega, by show K - 1 + (j - 1) ≤ i1 + j1; omega⟩⟩
            · exact W.pure ⟨f1, f2, rfl, _, rfl, L3, by show 0 < K - 1; omega, by show 1 < j - 1; omega, by show K - 1 + (j - 1) + (xs.size + ys.size) ≤ i1 + j1 + k ∧ K - 1 + (j - 1) ≤ i1 + j1; omega⟩
      · rw [if_neg z]
        have L2 := L.stepB T (by omega) (by omega) (by have := hK1 (i - 1) (by omega); simpa [bey] using this)
        have ti2 := L2.ti; have tj2 := L2.tj
        refine W.bind (W.elem (by omega) ?_)
        simp only [mpush, mapp, mrev]
        by_cases q2 : (j - 1 == 1) = true
        · rw [if_pos q2]
          exact W.pure ⟨f1, f2, .inl ⟨_, rfl, L2.first T (by simpa using q2) h0⟩⟩
        rw [if_neg q2]
        have q2' : ¬ j - 1 = 1 := by simpa using q2
        obtain ⟨K', hK', hB1, hB2⟩ := KB (i - 1) (j - 1) (by omega)
        have LB := L2.manyB' T (by omega) hK' fun d h1 h2 => by have := hB2 d h1 h2; simpa [bey] using this
        refine W.bind (W.elem (by omega) (W.bind (W.gal (K := K') (T.nx _ (by omega)) T.ny (by omega) (by omega) hK' hB1 hB2 ?_)))
        dsimp only
        by_cases z' : j - 1 - K' > 0
        · rw [if_pos z']
          try simp only [mapp, mrev]
          by_cases q4 : (K' == 1) = true
          · rw [if_pos q4]
            exact W.pure ⟨f1, f2, .inl ⟨_, rfl, LB.first T (by simpa using q4) h0⟩⟩
          rw [if_neg q4]
          have q4' : ¬ K' = 1 := by simpa using q4
          by_cases q5 : (K' == 0) = true
          · rw [if_pos q5]
            exact W.pure ⟨f1, f2, .inl ⟨_, rfl, LB.done2 (by simpa using q5)⟩⟩
          rw [if_neg q5]
          have q5' : ¬ K' = 0 := by simpa using q5
          have L3 := LB.stepA T (by omega) (by omega) (by have := hB1 (K' - 1) (by omega); simpa [bey] using this)
          refine W.bind (W.elem (by omega) ?_)
          simp only [mpush, mapp, mrev]
          by_cases q3 : (i - 1 == 0) = true
          · rw [if_pos q3]
            exact W.pure ⟨f1, f2, .inl ⟨_, rfl, L3.done (by simpa using q3)⟩⟩
          · rw [if_neg q3]
            have q3' : ¬ i - 1 = 0 := by simpa using q3
            refine W.ite (fun _ => ?_) (fun _ => ?_)
            · exact W.pure ⟨f1, f2, .inr ⟨rfl, _, rfl, L3, by show 0 < i - 1; omega, by show 1 < K'; omega, by show i - 1 + (K') ≤ i1 + j1; omega⟩⟩
            · exact W.pure ⟨f1, f2, rfl, _, rfl, L3, by show 0 < i - 1; omega, by show 1 < K'; omega, by show i - 1 + (K') + (xs.size + ys.size) ≤ i1 + j1 + k ∧ i - 1 + (K') ≤ i1 + j1; omega⟩
        · rw [if_neg z']
          have L3 := L2.stepA T (by omega) (by omega) (by have := hB1 (j - 1 - 1) (by omega); simpa [bey] using this)
          refine W.bind (W.elem (by omega) ?_)
          simp only [mpush, mapp, mrev]
          by_cases q3 : (i - 1 == 0) = true
          · rw [if_pos q3]
            exact W.pure ⟨f1, f2, .inl ⟨_, rfl, L3.done (by simpa using q3)⟩⟩
          · rw [if_neg q3]
            have q3' : ¬ i - 1 = 0 := by simpa using q3
            refine W.ite (fun _ => ?_) (fun _ => ?_)
            · exact W.pure ⟨f1, f2, .inr ⟨rfl, _, rfl, L3, by show 0 < i - 1; omega, by show 1 < j - 1; omega, by show i - 1 + (j - 1) ≤ i1 + j1; omega⟩⟩
            · exact W.pure ⟨f1, f2, rfl, _, rfl, L3, by show 0 < i - 1; omega, by show 1 < j - 1; omega, by show i - 1 + (j - 1) + (xs.size + ys.size) ≤ i1 + j1 + k ∧ i - 1 + (j - 1) ≤ i1 + j1; omega⟩
  · rintro ⟨r, i, j, o, g, ca, cb⟩ b1 ⟨f1, f2, _, os, _, L, hi, hj, hk1, hk2⟩
    dsimp only at hi hj hk1 hk2
    exact absurd hk1 (by omega)
  obtain ⟨r, i2, j2, o, g2, ca, cb⟩ := c
  obtain ⟨f1, f2, hc⟩ := hc
  dsimp only at hc ⊢
  rcases hc with ⟨rs, e, hm⟩ | ⟨e, os2, eo, L, hi2, hj2, hk2⟩
  · subst e
    exact W.pure ⟨f1, f2, rs, rfl, hm⟩
  subst e eo
  dsimp only
  exact W.bind (W.setMG (W.pure ⟨f1, f2, rfl, _, rfl, L, hi2, hj2, by show i2 + j2 + 1 ≤ k; omega⟩))
end
end L2

namespace L2
open PySem PySem.Spec PyProof.Rows PySem.W
theorem mAt_eq (n : Nat) : mergeAt' n = (do
  let st ← get
  let (some (u, nu, pw), some (v, nv, _)) := ((pendingOf st)[n]?, (pendingOf st)[n + 1]?) | unsupported "internal:list.sort.pending"
  set (setPending st (((pendingOf st).setIfInBounds n (u, nu + nv, pw)).eraseIdxIfInBounds (n + 1)))
  let some k ← gal false (← elem' (arrOf st) v) (arrOf st) u nu 0 | return false
  let (u, nu) := (u + k, nu - k)
  if nu == 0 then return true
  let some nv ← gal true (← elem' (arrOf st) (u + nu - 1)) (arrOf st) v nv (nv - 1) | return false
  if nv == 0 then return true
  let X := (arrOf st).extract u v
  let Y := (arrOf st).extract v (v + nv)
  let R ← if nu ≤ nv then mLo X Y else mHi X Y
  modify fun st => setArr st (R.toList.zipIdx.foldl (fun z (q, j) => z.setIfInBounds (u + j) q) (arrOf st))
  return (failedOf (← get)).isNone) := rfl
theorem fold_set {α : Type} : ∀ (l : List α) (k s : Nat) (z : Array α), s + k + l.length ≤ z.size →
    ((l.zipIdx k).foldl (fun z x => z.setIfInBounds (s + x.2) x.1) z).toList = z.toList.take (s + k) ++ l ++ z.toList.drop (s + k + l.length)
  | [], k, s, z, h => by simp
  | x :: l, k, s, z, h => by
    rw [List.zipIdx_cons, List.foldl_cons]
    have ih := fold_set l (k + 1) s (z.setIfInBounds (s + k) x) (by rw [Array.size_setIfInBounds]; simp at h; omega)
    rw [ih]
    have hz : s + k < z.toList.length := by simp at h ⊢; omega
    rw [Array.toList_setIfInBounds]
    have e1 : (z.toList.set (s + k) x).take (s + (k + 1)) = z.toList.take (s + k) ++ [x] := by
      rw [show s + (k + 1) = s + k + 1 by omega, List.take_succ_eq_append_getElem (by simpa using hz)]
      rw [List.getElem_set_self, List.take_set_of_le (Nat.le_refl _)]
    have e2 : (z.toList.set (s + k) x).drop (s + (k + 1) + l.length) = z.toList.drop (s + (k + 1) + l.length) := by
      rw [List.drop_set, if_pos (by omega)]
    rw [e1, e2]
    simp only [List.append_assoc, List.cons_append, List.nil_append, List.length_cons]
    rw [show s + (k + 1) + l.length = s + k + (l.length + 1) by omega]
section
variable {O : Orc} {b : Ab}
theorem W.set {st : SortSt} {Q : PUnit → Ab → Prop} (b' : Ab) (e : st = b'.st O) (h : Q ⟨⟩ b') : W O (MonadStateOf.set st : SM PUnit) Q b := fun s hs => by
  unfold kasC
  show wpAny _ _ ((StateT.set st : SM PUnit).run (b.st O)) _ _ s
  exact wpAny_pure ⟨hs, b', e, h⟩
theorem gd {p : Array Nat} {pre l : List Nat} (h : p.toList = pre ++ l) (d : Nat) : p.getD (pre.length + d) 0 = l.getD d 0 := by
  have : p.getD (pre.length + d) 0 = p.toList.getD (pre.length + d) 0 := by
    by_cases q : pre.length + d < p.size
    · simp [Array.getD, q]
    · have q' : ¬ pre.length + d < p.toList.length := by simpa using q
      simp [Array.getD, q, List.getD, List.getElem?_eq_none (Nat.le_of_not_lt q')]
  rw [this, h]
  simp [List.getD, List.getElem?_append_right]
theorem gl {l : List Nat} {d : Nat} (h : d < l.length) : l.getD d 0 = l[d] := by simp [List.getD, h]
structure Nb (O : Orc) (p : Array Nat) (pre R1 R2 suf : List Nat) : Prop where
  H : Lt O.lt
  e : p.toList = pre ++ (R1 ++ (R2 ++ suf))
  nn : ∀ k, k < p.size → p.getD k 0 < O.N
  s1 : R1.Pairwise (Ah O.lt)
  s2 : R2.Pairwise (Ah O.lt)
  xy : ∀ x ∈ R1, ∀ y ∈ R2, x < y
  l1 : 0 < R1.length
  l2 : 0 < R2.length
theorem W.mAt {p : Array Nat} {pd : Array (Nat × Nat × Nat)} {mg n pw pw2 : Nat} {pre R1 R2 suf : List Nat} {Q : Bool → Ab → Prop} (T : Nb O p pre R1 R2 suf) (d1 : pd[n]? = some (pre.length, R1.length, pw)) (d2 : pd[n + 1]? = some (pre.length + R1.length, R2.length, pw2))
    (h : ∀ (M : List Nat) (p' : Array Nat) mg', M.Perm (R1 ++ R2) → M.Pairwise (Ah O.lt) → p'.toList = pre ++ (M ++ suf) → Q true ⟨p', (pd.setIfInBounds n (pre.length, R1.length + R2.length, pw)).eraseIdxIfInBounds (n + 1), mg'⟩) : W O (mergeAt' n) Q ⟨p, pd, mg⟩ := by
  have l1 := T.l1
  have l2 := T.l2
  have hz : p.size = pre.length + (R1.length + (R2.length + suf.length)) := by rw [← Array.length_toList, T.e]; simp
  have g1 : ∀ d, d < R1.length → p.getD (pre.length + d) 0 = R1.getD d 0 := fun d hd => by
    rw [gd T.e, gl (by simp; omega), gl hd, List.getElem_append_left hd]
  have e2 : p.toList = (pre ++ R1) ++ (R2 ++ suf) := by rw [T.e]; simp
  have g2 : ∀ d, d < R2.length → p.getD (pre.length + R1.length + d) 0 = R2.getD d 0 := fun d hd => by
    have := gd e2 d
    rw [List.length_append] at this
    rw [this, gl (by simp; omega), gl hd, List.getElem_append_left hd]
  have m1 : ∀ d, d < R1.length → R1.getD d 0 ∈ R1 := fun d hd => by rw [gl hd]; exact List.getElem_mem hd
  have m2 : ∀ d, d < R2.length → R2.getD d 0 ∈ R2 := fun d hd => by rw [gl hd]; exact List.getElem_mem hd
  have a1 : ∀ c d, c < d → d < R1.length → Ah O.lt (R1.getD c 0) (R1.getD d 0) := fun c d hc hd => by
    rw [gl hd, gl (by omega)]; exact List.pairwise_iff_getElem.mp T.s1 c d (by omega) hd hc
  have a2 : ∀ c d, c < d → d < R2.length → Ah O.lt (R2.getD c 0) (R2.getD d 0) := fun c d hc hd => by
    rw [gl hd, gl (by omega)]; exact List.pairwise_iff_getElem.mp T.s2 c d (by omega) hd hc
  rw [mAt_eq]
  refine W.bind (W.get ?_)
  have hp : pendingOf (Ab.st O ⟨p, pd, mg⟩) = pd := rfl
  have ha : arrOf (Ab.st O ⟨p, pd, mg⟩) = p.map (kas_item O.it) := rfl
  simp only [hp, ha, d1, d2]
  refine W.bind (W.set ⟨p, (pd.setIfInBounds n (pre.length, R1.length + R2.length, pw)).eraseIdxIfInBounds (n + 1), mg⟩ rfl ?_)
  generalize (pd.setIfInBounds n (pre.length, R1.length + R2.length, pw)).eraseIdxIfInBounds (n + 1) = pd' at h ⊢
  -- the first of the second run, looked for in the first
  obtain ⟨K, hK, k1, k2⟩ := pre_ex (P := fun d => bey O false (p.getD (pre.length + R1.length) 0) p pre.length d) R1.length (fun c d h1 h2 h3 => by
    simp only [bey, Bool.false_eq_true, if_false, Bool.not_eq_true'] at h3 ⊢
    rcases Nat.eq_or_lt_of_le h1 with rfl | h1
    · exact h3
    · rw [g1 d h2] at h3; rw [g1 c (by omega)]
      exact T.H.tr _ _ _ h3 (a1 c d h1 h2).1)
  have y0 : p.getD (pre.length + R1.length) 0 = R2.getD 0 0 := g2 0 l2
  have k1' : ∀ d, d < K → O.lt (R2.getD 0 0) (R1.getD d 0) = false := fun d hd => by
    have := k1 d hd
    simp only [bey, Bool.false_eq_true, if_false, Bool.not_eq_true'] at this
    rwa [y0, g1 d (by omega)] at this
  have k2' : ∀ d, K ≤ d → d < R1.length → O.lt (R2.getD 0 0) (R1.getD d 0) = true := fun d h1 h2 => by
    have := k2 d h1 h2
    simp only [bey, Bool.false_eq_true, if_false, Bool.not_eq_false'] at this
    rwa [y0, g1 d (by omega)] at this
  refine W.bind (W.elem (by omega) (W.bind (W.gal (K := K) (T.nn _ (by omega)) T.nn (by omega) l1 hK k1 k2 ?_)))
  -- what stays ahead stands ahead of all of the second run
  have F1 : ∀ a ∈ R1.take K, ∀ y ∈ R2, Ah O.lt a y := fun a ha y hy => by
    obtain ⟨d, hd, rfl⟩ := List.getElem_of_mem ha
    have hd' : d < K := by rw [List.length_take] at hd; omega
    have hd1 : d < R1.length := by omega
    have e : (R1.take K)[d] = R1.getD d 0 := by rw [gl hd1]; simp
    rw [e]
    have b0 : Ah O.lt (R1.getD d 0) (R2.getD 0 0) := ⟨k1' d hd', fun _ => T.xy _ (m1 d hd1) _ (m2 0 l2)⟩
    obtain ⟨c, hc, rfl⟩ := List.getElem_of_mem hy
    rw [← gl hc]
    rcases Nat.eq_zero_or_pos c with rfl | hc0
    · exact b0
    · exact b0.trans T.H (a2 0 c hc0 hc)
  dsimp only
  by_cases q : (R1.length - K == 0) = true
  · rw [if_pos q]
    have q' : R1.length - K = 0 := by simpa using q
    have eK : R1.take K = R1 := List.take_of_length_le (by omega)
    rw [eK] at F1
    exact W.pure (h (R1 ++ R2) p mg (List.Perm.refl _) (List.pairwise_append.mpr ⟨T.s1, T.s2, fun a ha c hc => F1 a ha c hc⟩) (by rw [T.e]; simp))
  rw [if_neg q]
  have q' : ¬ R1.length - K = 0 := by simpa using q
  have ex : pre.length + K + (R1.length - K) - 1 = pre.length + (R1.length - 1) := by omega
  rw [ex]
  obtain ⟨K', hK', j1, j2⟩ := pre_ex (P := fun d => bey O true (p.getD (pre.length + (R1.length - 1)) 0) p (pre.length + R1.length) d) R2.length (fun c d h1 h2 h3 => by
    simp only [bey, if_true] at h3 ⊢
    rcases Nat.eq_or_lt_of_le h1 with rfl | h1
    · exact h3
    · rw [g2 d h2] at h3; rw [g2 c (by omega)]
      exact lt_true' T.H h3 (a2 c d h1 h2).1)
  have x9 := g1 (R1.length - 1) (by omega)
  have j1' : ∀ d, d < K' → O.lt (R2.getD d 0) (R1.getD (R1.length - 1) 0) = true := fun d hd => by
    have := j1 d hd
    simp only [bey, if_true] at this
    rwa [x9, g2 d (by omega)] at this
  have j2' : ∀ d, K' ≤ d → d < R2.length → O.lt (R2.getD d 0) (R1.getD (R1.length - 1) 0) = false := fun d h1 h2 => by
    have := j2 d h1 h2
    simp only [bey, if_true] at this
    rwa [x9, g2 d (by omega)] at this
  refine W.bind (W.elem (by omega) (W.bind (W.gal (K := K') (T.nn _ (by omega)) T.nn (by omega) (by omega) hK' j1 j2 ?_)))
  dsimp only
  have kp : 0 < K' := by
    rcases Nat.eq_zero_or_pos K' with z | z
    · have := j2' 0 (by omega) l2
      rw [k2' _ (by omega) (by omega)] at this; cases this
    · exact z
  rw [if_neg (by simp; omega)]
  have F2 : ∀ x ∈ R1, ∀ y ∈ R2.drop K', Ah O.lt x y := fun x hx y hy => by
    obtain ⟨d, hd, rfl⟩ := List.getElem_of_mem hy
    have hd' : K' + d < R2.length := by rw [List.length_drop] at hd; omega
    have e : (R2.drop K')[d] = R2.getD (K' + d) 0 := by rw [gl hd']; simp
    rw [e]
    have b0 : Ah O.lt (R1.getD (R1.length - 1) 0) (R2.getD (K' + d) 0) := ⟨j2' _ (by omega) hd', fun _ => T.xy _ (m1 _ (by omega)) _ (m2 _ hd')⟩
    obtain ⟨c, hc, rfl⟩ := List.getElem_of_mem hx
    rw [← gl hc]
    rcases Nat.eq_or_lt_of_le (show c ≤ R1.length - 1 by omega) with rfl | hc0
    · exact b0
    · exact (a1 c _ hc0 (by omega)).trans T.H b0
  have mext : ∀ (zs : Array Nat) (i j : Nat), (zs.map (kas_item O.it)).extract i j = (zs.extract i j).map (kas_item O.it) := fun zs i j => by rw [Array.map_extract]
  simp only [mext]
  have ex1 : (p.extract (pre.length + K) (pre.length + R1.length)).toList = R1.drop K := by
    rw [Array.toList_extract, List.extract_eq_drop_take, T.e, show pre.length + R1.length - (pre.length + K) = R1.length - K by omega, List.drop_append, List.drop_eq_nil_of_le (by omega), List.nil_append, show pre.length + K - pre.length = K by omega, List.drop_append_of_le_length hK, List.take_append_of_le_length (by simp)]
    exact List.take_of_length_le (by simp)
  have ex2 : (p.extract (pre.length + R1.length) (pre.length + R1.length + K')).toList = R2.take K' := by
    rw [Array.toList_extract, List.extract_eq_drop_take, e2, show pre.length + R1.length + K' - (pre.length + R1.length) = K' by omega, List.drop_append, List.drop_eq_nil_of_le (by simp), List.nil_append, List.length_append, Nat.sub_self, List.drop_zero, List.take_append_of_le_length hK']
  have z1 : (p.extract (pre.length + K) (pre.length + R1.length)).size = R1.length - K := by rw [← Array.length_toList, ex1, List.length_drop]
  have z2 : (p.extract (pre.length + R1.length) (pre.length + R1.length + K')).size = K' := by rw [← Array.length_toList, ex2, List.length_take]; omega
  generalize p.extract (pre.length + K) (pre.length + R1.length) = xs at ex1 z1 ⊢
  generalize p.extract (pre.length + R1.length) (pre.length + R1.length + K') = ys at ex2 z2 ⊢
  have gx : ∀ d, d < xs.size → xs.getD d 0 = R1.getD (K + d) 0 := fun d hd => by
    have := gd (p := xs) (pre := []) (l := R1.drop K) (by simpa using ex1) d
    simp only [List.length_nil, Nat.zero_add] at this
    rw [this, gl (by rw [List.length_drop]; omega), gl (by omega), List.getElem_drop]
  have gy : ∀ d, d < ys.size → ys.getD d 0 = R2.getD d 0 := fun d hd => by
    have := gd (p := ys) (pre := []) (l := R2.take K') (by simpa using ex2) d
    simp only [List.length_nil, Nat.zero_add] at this
    rw [this, gl (by rw [List.length_take]; omega), gl (by omega), List.getElem_take]
  have TT : Two O xs ys := by
    refine ⟨T.H, fun d hd => ?_, fun d hd => ?_, ?_, ?_, fun x hx y hy => ?_, by omega, by omega⟩
    · rw [gx d hd, ← g1 (K + d) (by omega)]; exact T.nn _ (by omega)
    · rw [gy d hd, ← g2 d (by omega)]; exact T.nn _ (by omega)
    · rw [ex1]; exact T.s1.sublist (List.drop_sublist _ _)
    · rw [ex2]; exact T.s2.sublist (List.take_sublist _ _)
    · rw [ex1] at hx; rw [ex2] at hy
      exact T.xy x (List.mem_of_mem_drop hx) y (List.mem_of_mem_take hy)
  have h0 : O.lt (ys.getD 0 0) (xs.getD 0 0) = true := by
    rw [gx 0 (by omega), gy 0 (by omega)]; exact k2' _ (by omega) (by omega)
  have hl : ∀ y ∈ ys.toList, O.lt y (xs.getD (xs.size - 1) 0) = true := fun y hy => by
    rw [gx _ (by omega), show K + (xs.size - 1) = R1.length - 1 by omega]
    rw [ex2] at hy
    obtain ⟨d, hd, rfl⟩ := List.getElem_of_mem hy
    rw [List.length_take] at hd
    have e : (R2.take K')[d] = R2.getD d 0 := by rw [gl (by omega)]; simp
    rw [e]; exact j1' d (by omega)
  have fin : ∀ (rs : Array Nat) (mg' : Nat), Made O xs ys rs → W O (do
      _root_.modify fun st => setArr st ((rs.map (kas_item O.it)).toList.zipIdx.foldl (fun z x => z.setIfInBounds (pre.length + K + x.2) x.1) (arrOf st))
      let st ← MonadState.get
      Pure.pure (failedOf st).isNone) Q ⟨p, pd', mg'⟩ := by
    intro rs mg' ⟨hm, hs⟩
    rw [ex1, ex2] at hm
    have hrl : rs.toList.length = R1.length - K + K' := by rw [hm.length_eq, List.length_append, List.length_drop, List.length_take]; omega
    have hfs := fold_set (rs.map (kas_item O.it)).toList 0 (pre.length + K) (p.map (kas_item O.it)) (by rw [Array.toList_map, List.length_map, hrl, Array.size_map]; omega)
    have el : (((rs.map (kas_item O.it)).toList.zipIdx.foldl (fun z x => z.setIfInBounds (pre.length + K + x.2) x.1) (p.map (kas_item O.it)))) = (List.toArray (pre ++ ((R1.take K ++ rs.toList ++ R2.drop K') ++ suf))).map (kas_item O.it) := by
      apply Array.toList_inj.mp
      rw [hfs]
      rw [Array.toList_map, Array.toList_map, Array.toList_map, List.length_map, hrl, ← List.map_take, ← List.map_drop, ← List.map_append, ← List.map_append]
      congr 1
      have t1 : p.toList.take (pre.length + K + 0) = pre ++ R1.take K := by
        rw [T.e, Nat.add_zero, List.take_append, List.take_of_length_le (by omega), show pre.length + K - pre.length = K by omega, List.take_append_of_le_length hK]
      have t2 : p.toList.drop (pre.length + K + 0 + (R1.length - K + K')) = R2.drop K' ++ suf := by
        rw [e2, show pre.length + K + 0 + (R1.length - K + K') = (pre ++ R1).length + K' by rw [List.length_append]; omega, List.drop_length_add_append, List.drop_append_of_le_length hK']
      rw [t1, t2]
      simp
    refine W.bind (W.modify ⟨List.toArray (pre ++ ((R1.take K ++ rs.toList ++ R2.drop K') ++ suf)), pd', mg'⟩ ?_ ?_)
    · show SortSt.mk' O.κ _ pd' mg' none = SortSt.mk' O.κ _ pd' mg' none
      have : arrOf (Ab.st O ⟨p, pd', mg'⟩) = p.map (kas_item O.it) := rfl
      rw [this, el]
    refine W.bind (W.get (W.pure ?_))
    refine h (R1.take K ++ rs.toList ++ R2.drop K') _ mg' ?_ ?_ rfl
    · have : (R1 ++ R2) = R1.take K ++ (R1.drop K ++ R2.take K') ++ R2.drop K' := by
        rw [← List.append_assoc, List.take_append_drop, List.append_assoc, List.take_append_drop]
      rw [this]
      exact (hm.append_left _).append_right _
    · have mem : ∀ r ∈ rs.toList, r ∈ R1.drop K ∨ r ∈ R2.take K' := fun r hr => List.mem_append.mp (hm.mem_iff.mp hr)
      have p1 : (R1.take K ++ R1.drop K).Pairwise (Ah O.lt) := by rw [List.take_append_drop]; exact T.s1
      have p2 : (R2.take K' ++ R2.drop K').Pairwise (Ah O.lt) := by rw [List.take_append_drop]; exact T.s2
      refine List.pairwise_append.mpr ⟨List.pairwise_append.mpr ⟨T.s1.sublist (List.take_sublist _ _), hs, fun a ha r hr => ?_⟩, T.s2.sublist (List.drop_sublist _ _), fun a ha y hy => ?_⟩
      · rcases mem r hr with z | z
        · exact (List.pairwise_append.mp p1).2.2 a ha r z
        · exact F1 a ha r (List.mem_of_mem_take z)
      · rcases List.mem_append.mp ha with z | z
        · exact F1 a z y (List.mem_of_mem_drop hy)
        · rcases mem a z with z | z
          · exact F2 a (List.mem_of_mem_drop z) y hy
          · exact (List.pairwise_append.mp p2).2.2 a z y hy
  by_cases c : R1.length - K ≤ K'
  · rw [if_pos c]
    exact W.bind (W.mLo TT h0 hl fun rs mg' hm => fin rs mg' hm)
  · rw [if_neg c]
    exact W.bind (W.mHi TT h0 hl fun rs mg' hm => fin rs mg' hm)
end
end L2

namespace L2
open PySem PySem.Spec PyProof.Rows PySem.W
def ev (lt : Nat → Nat → Bool) {α : Type} : KasT α → α
  | .ret a => a
  | .ask i j k => ev lt (k (lt i j))
theorem ev_bind (lt : Nat → Nat → Bool) {α β : Type} (f : α → KasT β) : ∀ t : KasT α, ev lt (t.bind f) = ev lt (f (ev lt t))
  | .ret _ => rfl
  | .ask i j k => ev_bind lt f (k (lt i j))
theorem Sat.ev {N : Nat} {lt : Nat → Nat → Bool} {α : Type} {R : α → Prop} : ∀ t : KasT α, Sat N lt t R → R (L2.ev lt t)
  | .ret _, h => h
  | .ask i j k, h => Sat.ev (k (lt i j)) h.2.2
def sh (lt : Nat → Nat → Bool) (lo : Nat) : Nat → Nat → Bool := fun i j => lt (i + lo) (j + lo)
theorem Lt.sh {lt : Nat → Nat → Bool} (H : Lt lt) (lo : Nat) : Lt (sh lt lo) := ⟨fun i j h => H.asym _ _ h, fun i j k h h' => H.tr _ _ _ h h'⟩
section
variable {O : Orc} {b : Ab} {lo n nrem : Nat} {pre : List Nat} {pd : Array (Nat × Nat × Nat)} {mg : Nat} {P : Array Nat}
theorem W.rangeV {γ : Type} {x y : Nat} {c : γ} {f : Nat → γ → SM (ForInStep γ)} {D : γ → Ab → Prop} (J : Nat → γ → Ab → Prop) (hxy : x ≤ y) (h0 : J x c b)
    (hs : ∀ k c b, x ≤ k → k < y → J k c b → W O (f k c) (fun r b' => match r with | .done c' => D c' b' | .yield c' => J (k + 1) c' b') b) (hd : ∀ c b, J y c b → D c b) : W O (ForIn.forIn [x:y] c f) D b := fun s hi => by
  refine kasC_range ?_
  have go : ∀ (m k : Nat) (c : γ) (b : Ab), x ≤ k → k + m = y → J k c b → W O (ForIn.forIn (List.range' k m) c f) D b := by
    intro m
    induction m with
    | zero =>
      intro k c b _ e h s hi
      have : k = y := by omega
      subst this
      exact kasC_nil ⟨hi, b, rfl, hd c b h⟩
    | succ m ih =>
      intro k c b hk e h s hi
      rw [List.range'_succ]
      refine kasC_cons (wpAny_mono (hs k c b hk (by omega) h s hi) (fun r s' ⟨i, b', e', q⟩ => ?_) fun _ _ z => z)
      obtain ⟨r, st⟩ := r
      have e' : st = b'.st O := e'
      subst e'
      cases r with
      | done c' => exact ⟨i, b', rfl, q⟩
      | yield c' => exact ih (k + 1) c' b' (by omega) (by omega) q s' i
  exact go (y - x) x c b (Nat.le_refl _) (by omega) h0 s hi
def abP (lo : Nat) (pre : List Nat) (pd : Array (Nat × Nat × Nat)) (mg : Nat) (P : Array Nat) : Ab := ⟨List.toArray (pre ++ P.toList.map (· + lo)), pd, mg⟩
structure Fm (O : Orc) (lo nrem : Nat) (pre : List Nat) (P : Array Nat) : Prop where
  pl : pre.length = lo
  pn : ∀ x ∈ pre, x < O.N
  top : lo + nrem ≤ O.N
  perm : P.Perm (List.toArray (List.range nrem))
theorem Fm.get (F : Fm O lo nrem pre P) {i : Nat} (hi : i < nrem) : (abP lo pre pd mg P).p.getD (lo + i) 0 = P.getD i 0 + lo := by
  have hz := (pm_of F.perm).sz
  have e : (abP lo pre pd mg P).p.toList = pre ++ P.toList.map (· + lo) := rfl
  have := gd e i
  rw [F.pl] at this
  rw [this, gl (by simp; omega)]
  simp [Array.getD, hz, hi]
theorem Fm.size (F : Fm O lo nrem pre P) : (abP lo pre pd mg P).p.size = lo + nrem := by
  have hz := (pm_of F.perm).sz
  show (List.toArray (pre ++ P.toList.map (· + lo))).size = _
  simp [F.pl, hz]
theorem Fm.all (F : Fm O lo nrem pre P) : ∀ k, k < (abP lo pre pd mg P).p.size → (abP lo pre pd mg P).p.getD k 0 < O.N := fun k hk => by
  rw [F.size] at hk
  rcases Nat.lt_or_ge k lo with h | h
  · have e : (abP lo pre pd mg P).p.getD k 0 = pre.getD k 0 := by
      show (List.toArray (pre ++ P.toList.map (· + lo))).getD k 0 = _
      have hk' : k < pre.length := by rw [F.pl]; exact h
      have hz := (pm_of F.perm).sz
      have : k < (List.toArray (pre ++ P.toList.map (· + lo))).size := by simp [F.pl, hz]; omega
      rw [gl hk']
      simp [Array.getD, F.pl, hz, hk, List.getElem_append_left hk']
    rw [e, gl (by rw [F.pl]; exact h)]
    exact F.pn _ (List.getElem_mem _)
  · obtain ⟨d, rfl⟩ : ∃ d, k = lo + d := ⟨k - lo, by omega⟩
    rw [F.get (by omega)]
    have := (pm_of F.perm).bd d (by omega)
    have := F.top
    omega
theorem Fm.of (F : Fm O lo nrem pre P) {P' : Array Nat} (h : P'.Perm (List.toArray (List.range nrem))) : Fm O lo nrem pre P' := ⟨F.pl, F.pn, F.top, h⟩
theorem W.ltF {i j : Nat} {Q : Option Bool → Ab → Prop} (F : Fm O lo nrem pre P) (hi : i < nrem) (hj : j < nrem) (h : Q (some (sh O.lt lo (P.getD i 0) (P.getD j 0))) (abP lo pre pd mg P)) : W O (ltAt' (lo + i) (lo + j)) Q (abP lo pre pd mg P) := by
  refine W.ltAt (by rw [F.size]; omega) (by rw [F.size]; omega) F.all ?_
  rw [F.get hi, F.get hj]; exact h
theorem getq (xs : Array Nat) (k : Nat) (h : k < xs.size) : xs[k]? = some (xs.getD k 0) := by simp [Array.getD, h]
theorem W.revF {i j : Nat} {Q : Unit → Ab → Prop} (F : Fm O lo nrem pre P) (hj : j ≤ nrem) (h : Q () (abP lo pre pd mg (kas_rev P i j))) : W O (reverseSlice' (lo + i) (lo + j)) Q (abP lo pre pd mg P) := by
  rw [reverseSlice'_eq]
  refine W.modify _ ?_ h
  show SortSt.mk' O.κ (mirror ((abP lo pre pd mg P).p.map (kas_item O.it)) (lo + i) (lo + j) (((lo + j) - (lo + i)) / 2)) pd mg none = SortSt.mk' O.κ ((abP lo pre pd mg (kas_rev P i j)).p.map (kas_item O.it)) pd mg none
  have e1 : mirror ((abP lo pre pd mg P).p.map (kas_item O.it)) (lo + i) (lo + j) (((lo + j) - (lo + i)) / 2) = (mirror (abP lo pre pd mg P).p (lo + i) (lo + j) (((lo + j) - (lo + i)) / 2)).map (kas_item O.it) := kas_swaps_map (kas_item O.it) (fun k => lo + i + k) (fun k => lo + j - 1 - k) _ _
  rw [e1]
  have F' : Fm O lo nrem pre (kas_rev P i j) := F.of (rev_perm _ _ F.perm)
  have hz := (pm_of F.perm).sz
  congr 2
  apply Array.ext_getElem?
  intro k
  rw [getElem?_mirror_all (by rw [F.size]; omega)]
  rcases Nat.lt_or_ge k lo with hk | hk
  · rw [if_neg (by omega)]
    show (List.toArray (pre ++ _))[k]? = (List.toArray (pre ++ _))[k]?
    have hk' : k < pre.length := by rw [F.pl]; exact hk
    simp [List.getElem?_append_left hk']
  · obtain ⟨d, rfl⟩ : ∃ d, k = lo + d := ⟨k - lo, by omega⟩
    rcases Nat.lt_or_ge d nrem with hd | hd
    · rw [getq (abP lo pre pd mg (kas_rev P i j)).p (lo + d) (by rw [F'.size]; omega), F'.get hd, getD_rev (by omega)]
      by_cases c : i ≤ d ∧ d < j
      · rw [if_pos (by omega), if_pos c, show lo + i + (lo + j) - 1 - (lo + d) = lo + (i + j - 1 - d) by omega, getq _ _ (by rw [F.size]; omega), F.get (by omega)]
      · rw [if_neg (by omega), if_neg c, getq _ _ (by rw [F.size]; omega), F.get hd]
    · rw [if_neg (by omega), Array.getElem?_eq_none (by rw [F.size]; omega), Array.getElem?_eq_none (by rw [F'.size]; omega)]
theorem W.movF {k l : Nat} {Q : Unit → Ab → Prop} (F : Fm O lo nrem pre P) (hk : k < nrem) (hl : l ≤ k) (h : Q () (abP lo pre pd mg (bubble P k (k - l)))) : W O (moveDown' (lo + k) (lo + l)) Q (abP lo pre pd mg P) := by
  rw [moveDown'_eq]
  refine W.modify _ ?_ h
  show SortSt.mk' O.κ (bubble ((abP lo pre pd mg P).p.map (kas_item O.it)) (lo + k) (lo + k - (lo + l))) pd mg none = SortSt.mk' O.κ ((abP lo pre pd mg (bubble P k (k - l))).p.map (kas_item O.it)) pd mg none
  have e1 : bubble ((abP lo pre pd mg P).p.map (kas_item O.it)) (lo + k) (lo + k - (lo + l)) = (bubble (abP lo pre pd mg P).p (lo + k) (lo + k - (lo + l))).map (kas_item O.it) := kas_swaps_map (kas_item O.it) (fun i => lo + k - i) (fun i => lo + k - i - 1) _ _
  rw [e1]
  have F' : Fm O lo nrem pre (bubble P k (k - l)) := F.of (bub_perm _ _ F.perm)
  have hz := (pm_of F.perm).sz
  congr 2
  apply Array.ext_getElem?
  intro x
  rw [getElem?_bubble (by rw [F.size]; omega) _ (by omega), show lo + k - (lo + k - (lo + l)) = lo + l by omega]
  rcases Nat.lt_or_ge x lo with hx | hx
  · rw [if_neg (by omega), if_neg (by omega)]
    show (List.toArray (pre ++ _))[x]? = (List.toArray (pre ++ _))[x]?
    have hx' : x < pre.length := by rw [F.pl]; exact hx
    simp [List.getElem?_append_left hx']
  · obtain ⟨d, rfl⟩ : ∃ d, x = lo + d := ⟨x - lo, by omega⟩
    rcases Nat.lt_or_ge d nrem with hd | hd
    · rw [getq (abP lo pre pd mg (bubble P k (k - l))).p (lo + d) (by rw [F'.size]; omega), F'.get hd, getD_bub (by omega) hl]
      by_cases c : d = l
      · rw [if_pos (by omega), if_pos c, getq _ _ (by rw [F.size]; omega), F.get hk]
      · rw [if_neg (by omega), if_neg c]
        by_cases c2 : l < d ∧ d ≤ k
        · rw [if_pos (by omega), if_pos c2, show lo + d - 1 = lo + (d - 1) by omega, getq _ _ (by rw [F.size]; omega), F.get (by omega)]
        · rw [if_neg (by omega), if_neg c2, getq _ _ (by rw [F.size]; omega), F.get hd]
    · rw [if_neg (by omega), if_neg (by omega), Array.getElem?_eq_none (by rw [F.size]; omega), Array.getElem?_eq_none (by rw [F'.size]; omega)]
theorem W.cnt {Q : Option Nat → Ab → Prop} (F : Fm O lo nrem pre P) (h1 : 1 ≤ nrem) (h : Q (some (ev (sh O.lt lo) (kas_count nrem P)).1) (abP lo pre pd mg (ev (sh O.lt lo) (kas_count nrem P)).2)) : W O (countRun' lo nrem) Q (abP lo pre pd mg P) := by
  rw [countRun'_eq]
  refine W.bind (W.range (D := fun c b1 => b1 = abP lo pre pd mg P ∧ c.1 = none ∧ c.2 = ev (sh O.lt lo) (kas_asc P (nrem - 1) 1) ∧ 1 ≤ c.2 ∧ c.2 ≤ nrem) (fun k c b1 => b1 = abP lo pre pd mg P ∧ c.1 = none ∧ 1 ≤ c.2 ∧ c.2 + k = nrem ∧ ev (sh O.lt lo) (kas_asc P k c.2) = ev (sh O.lt lo) (kas_asc P (nrem - 1) 1)) ⟨rfl, rfl, by show 1 ≤ 1; omega, by show 1 + (nrem - 1) = nrem; omega, rfl⟩ ?_ ?_ |>.mono fun c b1 hc => ?_)
  · rintro x k ⟨r, m⟩ b1 ⟨eb, er, q1, q2, q3⟩
    dsimp only at er q1 q2 q3 ⊢
    subst eb er
    rw [show lo + m - 1 = lo + (m - 1) by omega]
    refine W.bind (W.ltF F (by omega) (by omega) ?_)
    have q3 : ev (sh O.lt lo) (if sh O.lt lo (Array.getD P m 0) (Array.getD P (m - 1) 0) = true then KasT.ret m else kas_asc P k (m + 1)) = _ := q3
    cases e : sh O.lt lo (Array.getD P m 0) (Array.getD P (m - 1) 0) with
    | true =>
      rw [e, if_pos rfl] at q3
      simp only [if_true]
      exact W.pure ⟨rfl, rfl, q3, q1, by show m ≤ nrem; omega⟩
    | false =>
      rw [e, if_neg Bool.false_ne_true] at q3
      simp only [Bool.false_eq_true, if_false]
      exact W.pure ⟨rfl, rfl, by show 1 ≤ m + 1; omega, by show m + 1 + k = nrem; omega, q3⟩
  · rintro ⟨r, m⟩ b1 ⟨eb, er, q1, q2, q3⟩
    dsimp only at er q1 q2 q3
    exact ⟨eb, er, q3, q1, by show m ≤ nrem; omega⟩
  obtain ⟨r, m⟩ := c
  obtain ⟨eb, er, em, m1, m2⟩ := hc
  dsimp only at er em m1 m2 ⊢
  subst eb er
  dsimp only
  have ec : ev (sh O.lt lo) (kas_count nrem P) = ev (sh O.lt lo) (if (m == nrem) = true then KasT.ret (m, P) else if m > 1 then KasT.ask (P.getD 0 0) (P.getD (m - 1) 0) fun c => if c = true then KasT.ret (m, P) else kas_descPart m nrem (kas_rev P 0 m) else kas_descPart m nrem P) := by
    unfold kas_count
    rw [ev_bind, ← em]
  rw [ec] at h
  clear ec em
  by_cases q : (m == nrem) = true
  · rw [if_pos q] at h ⊢
    exact W.pure h
  rw [if_neg q] at h ⊢
  have q' : ¬ m = nrem := by simpa using q
  by_cases hm : m > 1
  · rw [if_pos hm] at h ⊢
    rw [show lo + m - 1 = lo + (m - 1) by omega]
    refine W.bind (W.ltF (i := 0) F (by omega) (by omega) ?_)
    have h : Q (some (ev (sh O.lt lo) (if sh O.lt lo (P.getD 0 0) (P.getD (m - 1) 0) = true then KasT.ret (m, P) else kas_descPart m nrem (kas_rev P 0 m))).1) (abP lo pre pd mg (ev (sh O.lt lo) (if sh O.lt lo (P.getD 0 0) (P.getD (m - 1) 0) = true then KasT.ret (m, P) else kas_descPart m nrem (kas_rev P 0 m))).2) := h
    cases e : sh O.lt lo (P.getD 0 0) (P.getD (m - 1) 0) with
    | true =>
      rw [e, if_pos rfl] at h
      simp only [if_true]
      exact W.pure h
    | false =>
      rw [e, if_neg Bool.false_ne_true] at h
      simp only [Bool.false_eq_true, if_false]
      refine W.bind (W.revF (i := 0) F (by omega) ?_)
      have F1 := F.of (rev_perm 0 m F.perm)
      have ed : ev (sh O.lt lo) (kas_descPart m nrem (kas_rev P 0 m)) = (fun r : Array Nat × Nat × Nat => ev (sh O.lt lo) (if r.2.2 > 0 then kas_tail3 r.2.1 nrem (kas_rev r.1 (r.2.1 - (r.2.2 + 1)) r.2.1) else kas_tail3 r.2.1 nrem r.1)) (ev (sh O.lt lo) (kas_desc (nrem - (m + 1)) (kas_rev P 0 m) (m + 1) 0)) := by
        unfold kas_descPart
        rw [ev_bind]
      rw [ed] at h
      clear ed
      refine W.bind (W.rule ?_)
      refine W.bind (W.range (D := fun c b1 => c.1 = none ∧ ∃ P', b1 = abP lo pre pd mg P' ∧ Fm O lo nrem pre P' ∧ (P', c.2.1, c.2.2) = ev (sh O.lt lo) (kas_desc (nrem - (m + 1)) (kas_rev P 0 m) (m + 1) 0) ∧ c.2.2 + 1 ≤ c.2.1 ∧ c.2.1 ≤ nrem) (fun k c b1 => c.1 = none ∧ ∃ P', b1 = abP lo pre pd mg P' ∧ Fm O lo nrem pre P' ∧ ev (sh O.lt lo) (kas_desc k P' c.2.1 c.2.2) = ev (sh O.lt lo) (kas_desc (nrem - (m + 1)) (kas_rev P 0 m) (m + 1) 0) ∧ c.2.2 + 1 ≤ c.2.1 ∧ c.2.1 + k = nrem) ⟨rfl, _, rfl, F1, rfl, by show 0 + 1 ≤ m + 1; omega, by show m + 1 + (nrem - (m + 1)) = nrem; omega⟩ ?_ ?_ |>.mono fun c b1 hc => ?_)
      · rintro x k ⟨r, u, v⟩ b1 ⟨er, P', eb, F', q3, q1, q2⟩
        dsimp only at er q1 q2 q3 ⊢
        subst eb er
        rw [show lo + u - 1 = lo + (u - 1) by omega, show lo + u - (v + 1) = lo + (u - (v + 1)) by omega]
        refine W.bind (W.ltF F' (by omega) (by omega) ?_)
        have q3 : ev (sh O.lt lo) (if sh O.lt lo (P'.getD u 0) (P'.getD (u - 1) 0) = true then (if v > 0 then kas_desc k (kas_rev P' (u - (v + 1)) u) (u + 1) 0 else kas_desc k P' (u + 1) 0) else KasT.ask (P'.getD (u - 1) 0) (P'.getD u 0) fun d => if d = true then KasT.ret (P', u, v) else kas_desc k P' (u + 1) (v + 1)) = _ := q3
        cases e : sh O.lt lo (P'.getD u 0) (P'.getD (u - 1) 0) with
        | true =>
          rw [e, if_pos rfl] at q3
          simp only [if_true]
          by_cases hv : v > 0
          · rw [if_pos hv] at q3 ⊢
            exact W.bind (W.revF F' (by omega) (W.pure ⟨rfl, _, rfl, F'.of (rev_perm _ _ F'.perm), q3, by show 0 + 1 ≤ u + 1; omega, by show u + 1 + k = nrem; omega⟩))
          · rw [if_neg hv] at q3 ⊢
            exact W.pure ⟨rfl, _, rfl, F', q3, by show 0 + 1 ≤ u + 1; omega, by show u + 1 + k = nrem; omega⟩
        | false =>
          rw [e, if_neg Bool.false_ne_true] at q3
          simp only [Bool.false_eq_true, if_false]
          refine W.bind (W.ltF F' (by omega) (by omega) ?_)
          have q3 : ev (sh O.lt lo) (if sh O.lt lo (P'.getD (u - 1) 0) (P'.getD u 0) = true then KasT.ret (P', u, v) else kas_desc k P' (u + 1) (v + 1)) = _ := q3
          cases e2 : sh O.lt lo (P'.getD (u - 1) 0) (P'.getD u 0) with
          | true =>
            rw [e2, if_pos rfl] at q3
            simp only [if_true]
            exact W.pure ⟨rfl, _, rfl, F', q3, q1, by show u ≤ nrem; omega⟩
          | false =>
            rw [e2, if_neg Bool.false_ne_true] at q3
            simp only [Bool.false_eq_true, if_false]
            exact W.pure ⟨rfl, _, rfl, F', q3, by show v + 1 + 1 ≤ u + 1; omega, by show u + 1 + k = nrem; omega⟩
      · rintro ⟨r, u, v⟩ b1 ⟨er, P', eb, F', q3, q1, q2⟩
        dsimp only at er q1 q2 q3
        exact ⟨er, P', eb, F', q3, q1, by show u ≤ nrem; omega⟩
      obtain ⟨r, u, v⟩ := c
      obtain ⟨er, P', eb, F', e9, q1, q2⟩ := hc
      dsimp only at er e9 q1 q2 ⊢
      subst eb er
      rw [← e9] at h
      dsimp only at h ⊢
      rw [show lo + u - (v + 1) = lo + (u - (v + 1)) by omega]
      by_cases hv : v > 0
      · rw [if_pos hv] at h ⊢
        refine W.bind (W.revF F' (by omega) ?_)
        have F3 := F'.of (rev_perm (u - (v + 1)) u F'.perm)
        generalize kas_rev P' (u - (v + 1)) u = P3 at F3 h ⊢
        have e3 : ev (sh O.lt lo) (kas_tail3 u nrem P3) = (ev (sh O.lt lo) (kas_asc (kas_rev P3 0 u) (nrem - u) u), kas_rev P3 0 u) := by
          unfold kas_tail3
          rw [ev_bind]; rfl
        rw [e3] at h
        have F4 := F3.of (rev_perm 0 u F3.perm)
        refine W.bind (W.revF (i := 0) F3 (by omega) ?_)
        refine W.bind (W.range (D := fun c b1 => b1 = abP lo pre pd mg (kas_rev P3 0 u) ∧ c.1 = none ∧ c.2 = ev (sh O.lt lo) (kas_asc (kas_rev P3 0 u) (nrem - u) u) ∧ 1 ≤ c.2 ∧ c.2 ≤ nrem) (fun k c b1 => b1 = abP lo pre pd mg (kas_rev P3 0 u) ∧ c.1 = none ∧ 1 ≤ c.2 ∧ c.2 + k = nrem ∧ ev (sh O.lt lo) (kas_asc (kas_rev P3 0 u) k c.2) = ev (sh O.lt lo) (kas_asc (kas_rev P3 0 u) (nrem - u) u)) ⟨rfl, rfl, by show 1 ≤ u; omega, by show u + (nrem - u) = nrem; omega, rfl⟩ ?_ ?_ |>.mono fun c b1 hc => ?_)
        · rintro x k ⟨r, m⟩ b1 ⟨eb, er, q1, q2, q3⟩
          dsimp only at er q1 q2 q3 ⊢
          subst eb er
          rw [show lo + m - 1 = lo + (m - 1) by omega]
          refine W.bind (W.ltF F4 (by omega) (by omega) ?_)
          have q3 : ev (sh O.lt lo) (if sh O.lt lo (Array.getD (kas_rev P3 0 u) m 0) (Array.getD (kas_rev P3 0 u) (m - 1) 0) = true then KasT.ret m else kas_asc (kas_rev P3 0 u) k (m + 1)) = _ := q3
          cases e : sh O.lt lo (Array.getD (kas_rev P3 0 u) m 0) (Array.getD (kas_rev P3 0 u) (m - 1) 0) with
          | true =>
            rw [e, if_pos rfl] at q3
            simp only [if_true]
            exact W.pure ⟨rfl, rfl, q3, q1, by show m ≤ nrem; omega⟩
          | false =>
            rw [e, if_neg Bool.false_ne_true] at q3
            simp only [Bool.false_eq_true, if_false]
            exact W.pure ⟨rfl, rfl, by show 1 ≤ m + 1; omega, by show m + 1 + k = nrem; omega, q3⟩
        · rintro ⟨r, m⟩ b1 ⟨eb, er, q1, q2, q3⟩
          dsimp only at er q1 q2 q3
          exact ⟨eb, er, q3, q1, by show m ≤ nrem; omega⟩
        obtain ⟨r, z⟩ := c
        obtain ⟨eb, er, em, z1, z2⟩ := hc
        dsimp only at er em z1 z2 ⊢
        subst eb er
        rw [← em] at h
        exact W.pure h
      · rw [if_neg hv] at h ⊢
        have F3 := F'
        generalize P' = P3 at F3 h ⊢
        have e3 : ev (sh O.lt lo) (kas_tail3 u nrem P3) = (ev (sh O.lt lo) (kas_asc (kas_rev P3 0 u) (nrem - u) u), kas_rev P3 0 u) := by
          unfold kas_tail3
          rw [ev_bind]; rfl
        rw [e3] at h
        have F4 := F3.of (rev_perm 0 u F3.perm)
        refine W.bind (W.revF (i := 0) F3 (by omega) ?_)
        refine W.bind (W.range (D := fun c b1 => b1 = abP lo pre pd mg (kas_rev P3 0 u) ∧ c.1 = none ∧ c.2 = ev (sh O.lt lo) (kas_asc (kas_rev P3 0 u) (nrem - u) u) ∧ 1 ≤ c.2 ∧ c.2 ≤ nrem) (fun k c b1 => b1 = abP lo pre pd mg (kas_rev P3 0 u) ∧ c.1 = none ∧ 1 ≤ c.2 ∧ c.2 + k = nrem ∧ ev (sh O.lt lo) (kas_asc (kas_rev P3 0 u) k c.2) = ev (sh O.lt lo) (kas_asc (kas_rev P3 0 u) (nrem - u) u)) ⟨rfl, rfl, by show 1 ≤ u; omega, by show u + (nrem - u) = nrem; omega, rfl⟩ ?_ ?_ |>.mono fun c b1 hc => ?_)
        · rintro x k ⟨r, m⟩ b1 ⟨eb, er, q1, q2, q3⟩
          dsimp only at er q1 q2 q3 ⊢
          subst eb er
          rw [show lo + m - 1 = lo + (m - 1) by omega]
          refine W.bind (W.ltF F4 (by omega) (by omega) ?_)
          have q3 : ev (sh O.lt lo) (if sh O.lt lo (Array.getD (kas_rev P3 0 u) m 0) (Array.getD (kas_rev P3 0 u) (m - 1) 0) = true then KasT.ret m else kas_asc (kas_rev P3 0 u) k (m + 1)) = _ := q3
          cases e : sh O.lt lo (Array.getD (kas_rev P3 0 u) m 0) (Array.getD (kas_rev P3 0 u) (m - 1) 0) with
          | true =>
            rw [e, if_pos rfl] at q3
            simp only [if_true]
            exact W.pure ⟨rfl, rfl, q3, q1, by show m ≤ nrem; omega⟩
          | false =>
            rw [e, if_neg Bool.false_ne_true] at q3
            simp only [Bool.false_eq_true, if_false]
            exact W.pure ⟨rfl, rfl, by show 1 ≤ m + 1; omega, by show m + 1 + k = nrem; omega, q3⟩
        · rintro ⟨r, m⟩ b1 ⟨eb, er, q1, q2, q3⟩
          dsimp only at er q1 q2 q3
          exact ⟨eb, er, q3, q1, by show m ≤ nrem; omega⟩
        obtain ⟨r, z⟩ := c
        obtain ⟨eb, er, em, z1, z2⟩ := hc
        dsimp only at er em z1 z2 ⊢
        subst eb er
        rw [← em] at h
        exact W.pure h
  · rw [if_neg hm] at h ⊢
    have ed : ev (sh O.lt lo) (kas_descPart m nrem P) = (fun r : Array Nat × Nat × Nat => ev (sh O.lt lo) (if r.2.2 > 0 then kas_tail3 r.2.1 nrem (kas_rev r.1 (r.2.1 - (r.2.2 + 1)) r.2.1) else kas_tail3 r.2.1 nrem r.1)) (ev (sh O.lt lo) (kas_desc (nrem - (m + 1)) P (m + 1) 0)) := by
      unfold kas_descPart
      rw [ev_bind]
    rw [ed] at h
    clear ed
    refine W.bind (W.rule ?_)
    refine W.bind (W.range (D := fun c b1 => c.1 = none ∧ ∃ P', b1 = abP lo pre pd mg P' ∧ Fm O lo nrem pre P' ∧ (P', c.2.1, c.2.2) = ev (sh O.lt lo) (kas_desc (nrem - (m + 1)) P (m + 1) 0) ∧ c.2.2 + 1 ≤ c.2.1 ∧ c.2.1 ≤ nrem) (fun k c b1 => c.1 = none ∧ ∃ P', b1 = abP lo pre pd mg P' ∧ Fm O lo nrem pre P' ∧ ev (sh O.lt lo) (kas_desc k P' c.2.1 c.2.2) = ev (sh O.lt lo) (kas_desc (nrem - (m + 1)) P (m + 1) 0) ∧ c.2.2 + 1 ≤ c.2.1 ∧ c.2.1 + k = nrem) ⟨rfl, _, rfl, F, rfl, by show 0 + 1 ≤ m + 1; omega, by show m + 1 + (nrem - (m + 1)) = nrem; omega⟩ ?_ ?_ |>.mono fun c b1 hc => ?_)
    · rintro x k ⟨r, u, v⟩ b1 ⟨er, P', eb, F', q3, q1, q2⟩
      dsimp only at er q1 q2 q3 ⊢
      subst eb er
      rw [show lo + u - 1 = lo + (u - 1) by omega, show lo + u - (v + 1) = lo + (u - (v + 1)) by omega]
      refine W.bind (W.ltF F' (by omega) (by omega) ?_)
      have q3 : ev (sh O.lt lo) (if sh O.lt lo (P'.getD u 0) (P'.getD (u - 1) 0) = true then (if v > 0 then kas_desc k (kas_rev P' (u - (v + 1)) u) (u + 1) 0 else kas_desc k P' (u + 1) 0) else KasT.ask (P'.getD (u - 1) 0) (P'.getD u 0) fun d => if d = true then KasT.ret (P', u, v) else kas_desc k P' (u + 1) (v + 1)) = _ := q3
      cases e : sh O.lt lo (P'.getD u 0) (P'.getD (u - 1) 0) with
      | true =>
        rw [e, if_pos rfl] at q3
        simp only [if_true]
        by_cases hv : v > 0
        · rw [if_pos hv] at q3 ⊢
          exact W.bind (W.revF F' (by omega) (W.pure ⟨rfl, _, rfl, F'.of (rev_perm _ _ F'.perm), q3, by show 0 + 1 ≤ u + 1; omega, by show u + 1 + k = nrem; omega⟩))
        · rw [if_neg hv] at q3 ⊢
          exact W.pure ⟨rfl, _, rfl, F', q3, by show 0 + 1 ≤ u + 1; omega, by show u + 1 + k = nrem; omega⟩
      | false =>
        rw [e, if_neg Bool.false_ne_true] at q3
        simp only [Bool.false_eq_true, if_false]
        refine W.bind (W.ltF F' (by omega) (by omega) ?_)
        have q3 : ev (sh O.lt lo) (if sh O.lt lo (P'.getD (u - 1) 0) (P'.getD u 0) = true then KasT.ret (P', u, v) else kas_desc k P' (u + 1) (v + 1)) = _ := q3
        cases e2 : sh O.lt lo (P'.getD (u - 1) 0) (P'.getD u 0) with
        | true =>
          rw [e2, if_pos rfl] at q3
          simp only [if_true]
          exact W.pure ⟨rfl, _, rfl, F', q3, q1, by show u ≤ nrem; omega⟩
        | false =>
          rw [e2, if_neg Bool.false_ne_true] at q3
          simp only [Bool.false_eq_true, if_false]
          exact W.pure ⟨rfl, _, rfl, F', q3, by show v + 1 + 1 ≤ u + 1; omega, by show u + 1 + k = nrem; omega⟩
    · rintro ⟨r, u, v⟩ b1 ⟨er, P', eb, F', q3, q1, q2⟩
      dsimp only at er q1 q2 q3
      exact ⟨er, P', eb, F', q3, q1, by show u ≤ nrem; omega⟩
    obtain ⟨r, u, v⟩ := c
    obtain ⟨er, P', eb, F', e9, q1, q2⟩ := hc
    dsimp only at er e9 q1 q2 ⊢
    subst eb er
    rw [← e9] at h
    dsimp only at h ⊢
    rw [show lo + u - (v + 1) = lo + (u - (v + 1)) by omega]
    by_cases hv : v > 0
    · rw [if_pos hv] at h ⊢
      refine W.bind (W.revF F' (by omega) ?_)
      have F3 := F'.of (rev_perm (u - (v + 1)) u F'.perm)
      generalize kas_rev P' (u - (v + 1)) u = P3 at F3 h ⊢
      have e3 : ev (sh O.lt lo) (kas_tail3 u nrem P3) = (ev (sh O.lt lo) (kas_asc (kas_rev P3 0 u) (nrem - u) u), kas_rev P3 0 u) := by
        unfold kas_tail3
        rw [ev_bind]; rfl
      rw [e3] at h
      have F4 := F3.of (rev_perm 0 u F3.perm)
      refine W.bind (W.revF (i := 0) F3 (by omega) ?_)
      refine W.bind (W.range (D := fun c b1 => b1 = abP lo pre pd mg (kas_rev P3 0 u) ∧ c.1 = none ∧ c.2 = ev (sh O.lt lo) (kas_asc (kas_rev P3 0 u) (nrem - u) u) ∧ 1 ≤ c.2 ∧ c.2 ≤ nrem) (fun k c b1 => b1 = abP lo pre pd mg (kas_rev P3 0 u) ∧ c.1 = none ∧ 1 ≤ c.2 ∧ c.2 + k = nrem ∧ ev (sh O.lt lo) (kas_asc (kas_rev P3 0 u) k c.2) = ev (sh O.lt lo) (kas_asc (kas_rev P3 0 u) (nrem - u) u)) ⟨rfl, rfl, by show 1 ≤ u; omega, by show u + (nrem - u) = nrem; omega, rfl⟩ ?_ ?_ |>.mono fun c b1 hc => ?_)
      · rintro x k ⟨r, m⟩ b1 ⟨eb, er, q1, q2, q3⟩
        dsimp only at er q1 q2 q3 ⊢
        subst eb er
        rw [show lo + m - 1 = lo + (m - 1) by omega]
        refine W.bind (W.ltF F4 (by omega) (by omega) ?_)
        have q3 : ev (sh O.lt lo) (if sh O.lt lo (Array.getD (kas_rev P3 0 u) m 0) (Array.getD (kas_rev P3 0 u) (m - 1) 0) = true then KasT.ret m else kas_asc (kas_rev P3 0 u) k (m + 1)) = _ := q3
        cases e : sh O.lt lo (Array.getD (kas_rev P3 0 u) m 0) (Array.getD (kas_rev P3 0 u) (m - 1) 0) with
        | true =>
          rw [e, if_pos rfl] at q3
          simp only [if_true]
          exact W.pure ⟨rfl, rfl, q3, q1, by show m ≤ nrem; omega⟩
        | false =>
          rw [e, if_neg Bool.false_ne_true] at q3
          simp only [Bool.false_eq_true, if_false]
          exact W.pure ⟨rfl, rfl, by show 1 ≤ m + 1; omega, by show m + 1 + k = nrem; omega, q3⟩
      · rintro ⟨r, m⟩ b1 ⟨eb, er, q1, q2, q3⟩
        dsimp only at er q1 q2 q3
        exact ⟨eb, er, q3, q1, by show m ≤ nrem; omega⟩
      obtain ⟨r, z⟩ := c
      obtain ⟨eb, er, em, z1, z2⟩ := hc
      dsimp only at er em z1 z2 ⊢
      subst eb er
      rw [← em] at h
      exact W.pure h
    · rw [if_neg hv] at h ⊢
      have F3 := F'
      generalize P' = P3 at F3 h ⊢
      have e3 : ev (sh O.lt lo) (kas_tail3 u nrem P3) = (ev (sh O.lt lo) (kas_asc (kas_rev P3 0 u) (nrem - u) u), kas_rev P3 0 u) := by
        unfold kas_tail3
        rw [ev_bind]; rfl
      rw [e3] at h
      have F4 := F3.of (rev_perm 0 u F3.perm)
      refine W.bind (W.revF (i := 0) F3 (by omega) ?_)
      refine W.bind (W.range (D := fun c b1 => b1 = abP lo pre pd mg (kas_rev P3 0 u) ∧ c.1 = none ∧ c.2 = ev (sh O.lt lo) (kas_asc (kas_rev P3 0 u) (nrem - u) u) ∧ 1 ≤ c.2 ∧ c.2 ≤ nrem) (fun k c b1 => b1 = abP lo pre pd mg (kas_rev P3 0 u) ∧ c.1 = none ∧ 1 ≤ c.2 ∧ c.2 + k = nrem ∧ ev (sh O.lt lo) (kas_asc (kas_rev P3 0 u) k c.2) = ev (sh O.lt lo) (kas_asc (kas_rev P3 0 u) (nrem - u) u)) ⟨rfl, rfl, by show 1 ≤ u; omega, by show u + (nrem - u) = nrem; omega, rfl⟩ ?_ ?_ |>.mono fun c b1 hc => ?_)
      · rintro x k ⟨r, m⟩ b1 ⟨eb, er, q1, q2, q3⟩
        dsimp only at er q1 q2 q3 ⊢
        subst eb er
        rw [show lo + m - 1 = lo + (m - 1) by omega]
        refine W.bind (W.ltF F4 (by omega) (by omega) ?_)
        have q3 : ev (sh O.lt lo) (if sh O.lt lo (Array.getD (kas_rev P3 0 u) m 0) (Array.getD (kas_rev P3 0 u) (m - 1) 0) = true then KasT.ret m else kas_asc (kas_rev P3 0 u) k (m + 1)) = _ := q3
        cases e : sh O.lt lo (Array.getD (kas_rev P3 0 u) m 0) (Array.getD (kas_rev P3 0 u) (m - 1) 0) with
        | true =>
          rw [e, if_pos rfl] at q3
          simp only [if_true]
          exact W.pure ⟨rfl, rfl, q3, q1, by show m ≤ nrem; omega⟩
        | false =>
          rw [e, if_neg Bool.false_ne_true] at q3
          simp only [Bool.false_eq_true, if_false]
          exact W.pure ⟨rfl, rfl, by show 1 ≤ m + 1; omega, by show m + 1 + k = nrem; omega, q3⟩
      · rintro ⟨r, m⟩ b1 ⟨eb, er, q1, q2, q3⟩
        dsimp only at er q1 q2 q3
        exact ⟨eb, er, q3, q1, by show m ≤ nrem; omega⟩
      obtain ⟨r, z⟩ := c
      obtain ⟨eb, er, em, z1, z2⟩ := hc
      dsimp only at er em z1 z2 ⊢
      subst eb er
      rw [← em] at h
      exact W.pure h
end
end L2

namespace L2
open PySem PySem.Spec PyProof.Rows PySem.W
section
variable {O : Orc} {b : Ab} {lo n nrem : Nat} {pre : List Nat} {pd : Array (Nat × Nat × Nat)} {mg : Nat} {P : Array Nat}
theorem W.bin {ok : Nat} {Q : Bool → Ab → Prop} (H : Lt O.lt) (F : Fm O lo nrem pre P) (R : Rn nrem (sh O.lt lo) P ok) (h1 : 1 ≤ ok) (hn : ok ≤ n) (hn2 : n ≤ nrem) (h : ∀ P', Fm O lo nrem pre P' → Rn nrem (sh O.lt lo) P' n → Q true (abP lo pre pd mg P')) :
    W O (binarySort' lo n ok) Q (abP lo pre pd mg P) := by
  have H' := H.sh lo
  rw [binarySort'_eq]
  rw [show max ok 1 = ok by omega]
  refine W.bind (W.rangeV (D := fun c b1 => c.1 = none ∧ ∃ P', b1 = abP lo pre pd mg P' ∧ Fm O lo nrem pre P' ∧ Rn nrem (sh O.lt lo) P' n) (fun k c b1 => c.1 = none ∧ ∃ P', b1 = abP lo pre pd mg P' ∧ Fm O lo nrem pre P' ∧ Rn nrem (sh O.lt lo) P' k) hn ⟨rfl, P, rfl, F, R⟩ ?_ ?_ |>.mono fun c b1 hc => ?_)
  · rintro k ⟨r, u⟩ b1 hk1 hk2 ⟨er, P', eb, F', R'⟩
    dsimp only at er
    subst eb er
    have ek : P'.getD k 0 = k := R'.tl k (Nat.le_refl _) (by omega)
    refine W.bind (W.range (D := fun c b1 => b1 = abP lo pre pd mg P' ∧ c.1 = none ∧ c.2.1 ≤ k ∧ (∀ i, i < c.2.1 → sh O.lt lo k (P'.getD i 0) = false) ∧ ∀ i, c.2.1 ≤ i → i < k → sh O.lt lo k (P'.getD i 0) = true)
      (fun j c b1 => b1 = abP lo pre pd mg P' ∧ c.1 = none ∧ c.2.1 ≤ c.2.2 ∧ c.2.2 ≤ k ∧ c.2.2 - c.2.1 ≤ j ∧ (∀ i, i < c.2.1 → sh O.lt lo k (P'.getD i 0) = false) ∧ ∀ i, c.2.2 ≤ i → i < k → sh O.lt lo k (P'.getD i 0) = true)
      ⟨rfl, rfl, Nat.zero_le _, Nat.le_refl _, by show k - 0 ≤ k - 0; omega, fun i hi => absurd hi (Nat.not_lt_zero _), fun i h1 h2 => absurd h1 (by show ¬ k ≤ i; omega)⟩ ?_ ?_ |>.mono fun c b1 hc => ?_)
    · rintro x j ⟨r, l, t⟩ b1 ⟨eb, er, q1, q2, q3, q4, q5⟩
      dsimp only at er q1 q2 q3 q4 q5 ⊢
      subst eb er
      by_cases c : l ≥ t
      · rw [if_pos c]
        exact W.pure ⟨rfl, rfl, by show l ≤ k; omega, q4, fun i h1 h2 => q5 i (by have : l ≤ i := h1; omega) h2⟩
      · rw [if_neg c]
        refine W.bind (W.ltF F' (by omega) (by omega) ?_)
        rw [ek]
        cases e : sh O.lt lo k (P'.getD ((l + t) / 2) 0) with
        | true =>
          simp only [if_true]
          refine W.pure ⟨rfl, rfl, by show l ≤ (l + t) / 2; omega, by show (l + t) / 2 ≤ k; omega, by show (l + t) / 2 - l ≤ j; omega, q4, fun i h1 h2 => ?_⟩
          rcases Nat.eq_or_lt_of_le (show (l + t) / 2 ≤ i from h1) with z | z
          · rw [← z]; exact e
          · exact lt_true H' e (R'.up.at H' z h2).1
        | false =>
          simp only [Bool.false_eq_true, if_false]
          refine W.pure ⟨rfl, rfl, by show (l + t) / 2 + 1 ≤ t; omega, q2, by show t - ((l + t) / 2 + 1) ≤ j; omega, fun i h1 => ?_, q5⟩
          have h1 : i < (l + t) / 2 + 1 := h1
          rcases Nat.lt_or_ge i ((l + t) / 2) with z | z
          · exact H'.tr _ _ _ e (R'.up.at H' z (by omega)).1
          · have : i = (l + t) / 2 := by omega
            rw [this]; exact e
    · rintro ⟨r, l, t⟩ b1 ⟨eb, er, q1, q2, q3, q4, q5⟩
      dsimp only at er q1 q2 q3 q4 q5
      exact ⟨eb, er, by show l ≤ k; omega, q4, fun i h1 h2 => q5 i (by have : l ≤ i := h1; omega) h2⟩
    · obtain ⟨r, l, t⟩ := c
      obtain ⟨eb, er, q1, q4, q5⟩ := hc
      dsimp only at er q1 q4 q5 ⊢
      subst eb er
      exact W.bind (W.movF F' (by omega) q1 (W.pure ⟨rfl, _, rfl, F'.of (bub_perm _ _ F'.perm), R'.put H' (by omega) q1 q4 q5⟩))
  · rintro ⟨r, u⟩ b1 hc
    exact hc
  · obtain ⟨r, u⟩ := c
    obtain ⟨er, P', eb, F', R'⟩ := hc
    dsimp only at er ⊢
    subst eb er
    exact W.pure (h P' F' R')
def Gd (O : Orc) : Nat → List (List Nat) → List (Nat × Nat × Nat) → Prop
  | _, [], [] => True
  | s, r :: rs, d :: ds => d.1 = s ∧ d.2.1 = r.length ∧ 0 < r.length ∧ r.Perm (List.range' s r.length) ∧ r.Pairwise (Ah O.lt) ∧ Gd O (s + r.length) rs ds
  | _, _, _ => False
theorem Gd.len : ∀ {s : Nat} {rs : List (List Nat)} {ds : List (Nat × Nat × Nat)}, Gd O s rs ds → rs.length = ds.length
  | _, [], [], _ => rfl
  | _, _ :: _, _ :: _, h => by rw [List.length_cons, List.length_cons, Gd.len h.2.2.2.2.2]
  | _, [], _ :: _, h => h.elim
  | _, _ :: _, [], h => h.elim
theorem Gd.app : ∀ {s : Nat} {rs : List (List Nat)} {ds : List (Nat × Nat × Nat)} {rs' : List (List Nat)} {ds' : List (Nat × Nat × Nat)}, Gd O s rs ds → Gd O (s + rs.flatten.length) rs' ds' → Gd O s (rs ++ rs') (ds ++ ds')
  | _, [], [], _, _, _, h => by simpa using h
  | s, r :: rs, d :: ds, rs', ds', h, h' => by
    refine ⟨h.1, h.2.1, h.2.2.1, h.2.2.2.1, h.2.2.2.2.1, Gd.app h.2.2.2.2.2 ?_⟩
    rw [List.flatten_cons, List.length_append, ← Nat.add_assoc] at h'
    exact h'
  | _, [], _ :: _, _, _, h, _ => h.elim
  | _, _ :: _, [], _, _, h, _ => h.elim
theorem Gd.cut : ∀ {s : Nat} (rs : List (List Nat)) {ds : List (Nat × Nat × Nat)} {rs' : List (List Nat)}, Gd O s (rs ++ rs') ds → ∃ da db, ds = da ++ db ∧ Gd O s rs da ∧ Gd O (s + rs.flatten.length) rs' db
  | s, [], ds, rs', h => ⟨[], ds, rfl, trivial, by simpa using h⟩
  | s, r :: rs, [], rs', h => h.elim
  | s, r :: rs, d :: ds, rs', h => by
    obtain ⟨da, db, e, a, c⟩ := Gd.cut rs h.2.2.2.2.2
    refine ⟨d :: da, db, by rw [e]; rfl, ⟨h.1, h.2.1, h.2.2.1, h.2.2.2.1, h.2.2.2.2.1, a⟩, ?_⟩
    rw [List.flatten_cons, List.length_append, ← Nat.add_assoc]; exact c
theorem Gd.pair {rs : List (List Nat)} {ds : List (Nat × Nat × Nat)} (h : Gd O 0 rs ds) {i : Nat} (hi : i + 1 < rs.length) : ∃ A R1 R2 B pw pw2, rs = A ++ R1 :: R2 :: B ∧ A.length = i ∧ ds[i]? = some (A.flatten.length, R1.length, pw) ∧ ds[i + 1]? = some (A.flatten.length + R1.length, R2.length, pw2) ∧
    R1.Pairwise (Ah O.lt) ∧ R2.Pairwise (Ah O.lt) ∧ 0 < R1.length ∧ 0 < R2.length ∧ (∀ x ∈ R1, ∀ y ∈ R2, x < y) ∧
    ∀ M : List Nat, M.Perm (R1 ++ R2) → M.Pairwise (Ah O.lt) → Gd O 0 (A ++ M :: B) ((ds.set i (A.flatten.length, R1.length + R2.length, pw)).eraseIdx (i + 1)) := by
  have e1 : rs = rs.take i ++ rs[i] :: rs[i + 1] :: rs.drop (i + 2) := by
    have h1 := List.drop_eq_getElem_cons (show i < rs.length by omega)
    have h2 := List.drop_eq_getElem_cons hi
    have : rs.take i ++ rs.drop i = rs := List.take_append_drop i rs
    rw [h1, h2] at this
    exact this.symm
  have hA : (rs.take i).length = i := by rw [List.length_take]; omega
  generalize rs.take i = A at e1 hA
  generalize rs[i] = R1 at e1
  generalize rs[i + 1] = R2 at e1
  generalize rs.drop (i + 2) = B at e1
  subst e1
  obtain ⟨da, db, rfl, ga, gb⟩ := Gd.cut A h
  have hda := ga.len
  rw [Nat.zero_add] at gb
  match db, gb with
  | [], gb => exact gb.elim
  | [_], gb => exact gb.2.2.2.2.2.elim
  | (u, nu, pw) :: (v, nv, pw2) :: db, gb =>
    obtain ⟨x1, x2, x3, x4, x5, y1, y2, y3, y4, y5, gz⟩ := gb
    dsimp only at x1 x2 y1 y2
    subst x1 x2 y1 y2
    have la : da.length = i := by omega
    refine ⟨A, R1, R2, B, pw, pw2, rfl, hA, ?_, ?_, x5, y5, x3, y3, fun x hx y hy => ?_, fun M hm hs => ?_⟩
    · rw [List.getElem?_append_right (by omega), la, Nat.sub_self]; rfl
    · rw [List.getElem?_append_right (by omega), la, show i + 1 - i = 1 by omega]; rfl
    · have hx' := x4.mem_iff.mp hx
      have hy' := y4.mem_iff.mp hy
      rw [List.mem_range'_1] at hx' hy'
      omega
    · have ml : M.length = R1.length + R2.length := by rw [hm.length_eq, List.length_append]
      have ed : ((da ++ (A.flatten.length, R1.length, pw) :: (A.flatten.length + R1.length, R2.length, pw2) :: db).set i (A.flatten.length, R1.length + R2.length, pw)).eraseIdx (i + 1) = da ++ (A.flatten.length, R1.length + R2.length, pw) :: db := by
        rw [List.set_append_right _ _ (by omega), la, Nat.sub_self, List.set_cons_zero, List.eraseIdx_append_of_length_le (by omega), la, show i + 1 - i = 1 by omega]
        rfl
      rw [ed]
      refine ga.app ⟨?_, ml.symm, by omega, ?_, hs, ?_⟩
      · show _ = 0 + A.flatten.length; omega
      · rw [Nat.zero_add, ml, ← List.range'_append_1]
        exact hm.trans (x4.append y4)
      · rw [Nat.zero_add, ml, ← Nat.add_assoc]; exact gz
theorem Gd.below : ∀ {s : Nat} {rs : List (List Nat)} {ds : List (Nat × Nat × Nat)}, Gd O s rs ds → ∀ x ∈ rs.flatten, x < s + rs.flatten.length
  | _, [], [], _, x, hx => by simp at hx
  | s, r :: rs, d :: ds, h, x, hx => by
    rw [List.flatten_cons] at hx ⊢
    rw [List.length_append]
    rcases List.mem_append.mp hx with z | z
    · have := List.mem_range'_1.mp (h.2.2.2.1.mem_iff.mp z); omega
    · have := Gd.below h.2.2.2.2.2 x z; omega
  | _, [], _ :: _, h, _, _ => h.elim
  | _, _ :: _, [], h, _, _ => h.elim
theorem Gd.many : ∀ {s : Nat} {rs : List (List Nat)} {ds : List (Nat × Nat × Nat)}, Gd O s rs ds → rs.length ≤ rs.flatten.length
  | _, [], [], _ => Nat.le_refl _
  | s, r :: rs, d :: ds, h => by
    have := Gd.many h.2.2.2.2.2
    have := h.2.2.1
    rw [List.flatten_cons, List.length_append, List.length_cons]; omega
  | _, [], _ :: _, h => h.elim
  | _, _ :: _, [], h => h.elim
theorem Gd.pow {f : Nat × Nat × Nat → Nat × Nat × Nat} (hf : ∀ d, (f d).1 = d.1 ∧ (f d).2.1 = d.2.1) : ∀ {s : Nat} {rs : List (List Nat)} {ds : List (Nat × Nat × Nat)} (i : Nat), Gd O s rs ds → Gd O s rs (ds.modify i f)
  | _, [], [], i, _ => by simp; trivial
  | s, r :: rs, d :: ds, 0, h => by
    rw [List.modify_zero_cons]
    exact ⟨(hf d).1.trans h.1, (hf d).2.trans h.2.1, h.2.2⟩
  | s, r :: rs, d :: ds, i + 1, h => by
    rw [List.modify_succ_cons]
    exact ⟨h.1, h.2.1, h.2.2.1, h.2.2.2.1, h.2.2.2.2.1, Gd.pow hf i h.2.2.2.2.2⟩
  | _, [], _ :: _, _, h => h.elim
  | _, _ :: _, [], _, h => h.elim
theorem map_sh (lo n : Nat) : (List.range n).map (· + lo) = List.range' lo n := by
  have : (fun x : Nat => x + lo) = fun x => lo + x := funext fun x => Nat.add_comm x lo
  rw [this, List.range_eq_range', List.map_add_range']; simp
theorem Rn.split (R : Rn nrem (sh O.lt lo) P n) (H : Lt O.lt) : ∃ r, P.toList.map (· + lo) = r ++ List.range' (lo + n) (nrem - n) ∧ r.length = n ∧ r.Perm (List.range' lo n) ∧ r.Pairwise (Ah O.lt) := by
  have Pm := pm_of R.perm
  have ht := R.top
  have hz := Pm.sz
  have hr : List.range' lo nrem = List.range' lo n ++ List.range' (lo + n) (nrem - n) := by rw [List.range'_append_1]; congr 1; omega
  have hp : (P.toList.map (· + lo)).Perm (List.range' lo nrem) := by
    have h1 : P.toList.Perm (List.range nrem) := by simpa using Array.perm_iff_toList_perm.mp R.perm
    have h2 : (List.range nrem).map (· + lo) = List.range' lo nrem := map_sh lo nrem
    rw [← h2]; exact h1.map _
  have hd : (P.toList.drop n).map (· + lo) = List.range' (lo + n) (nrem - n) := by
    apply List.ext_getElem
    · simp [hz]
    · intro i h1 h2
      have hi : n + i < nrem := by simp at h2; omega
      have := R.tl (n + i) (by omega) hi
      have e : P.getD (n + i) 0 = P.toList[n + i]'(by simp [hz]; exact hi) := by simp [Array.getD, hz, hi]
      rw [e] at this
      rw [List.getElem_map, List.getElem_drop, this, List.getElem_range']
      omega
  refine ⟨(P.toList.take n).map (· + lo), ?_, by simp [hz]; omega, ?_, ?_⟩
  · rw [← hd, ← List.map_append, List.take_append_drop]
  · have : ((P.toList.take n).map (· + lo) ++ List.range' (lo + n) (nrem - n)).Perm (List.range' lo n ++ List.range' (lo + n) (nrem - n)) := by
      rw [← hd, ← List.map_append, List.take_append_drop, hd, ← hr]; exact hp
    exact (List.perm_append_right_iff _).mp this
  · rw [List.pairwise_iff_getElem]
    intro i j hi hj hij
    have hi' : i < n := by simp at hi; omega
    have hj' : j < n := by simp at hj; omega
    have := R.up.at (H.sh lo) hij hj'
    have e1 : P.getD i 0 = P.toList[i]'(by simp [hz]; omega) := by simp [Array.getD, hz, show i < nrem by omega]
    have e2 : P.getD j 0 = P.toList[j]'(by simp [hz]; omega) := by simp [Array.getD, hz, show j < nrem by omega]
    rw [e1, e2] at this
    simp only [List.getElem_map, List.getElem_take]
    exact ⟨this.1, fun z => Nat.add_lt_add_right (this.2 z) lo⟩
theorem W.runs {N : Nat} {Q : Unit → Ab → Prop} (H : Lt O.lt) (hN : O.N = N) (h2 : 2 ≤ N) (h : ∀ b' : Ab, b'.p.toList.Perm (List.range N) → b'.p.toList.Pairwise (Ah O.lt) → Q () b') : W O sortRuns' Q ⟨List.toArray (List.range N), #[], 7⟩ := by
  rw [sortRuns'_eq]
  refine W.bind (W.get ?_)
  have hz : (arrOf (Ab.st O ⟨List.toArray (List.range N), #[], 7⟩)).size = N := by
    show ((List.toArray (List.range N)).map (kas_item O.it)).size = N
    simp
  simp only [hz]
  generalize minRun' N N 0 = mr
  have merge : ∀ (rs : List (List Nat)) (suf : List Nat) (b1 : Ab) (i : Nat), b1.p.toList = rs.flatten ++ suf → Gd O 0 rs b1.pd.toList → (∀ x ∈ suf, x < N) → rs.flatten.length ≤ N → i + 1 < rs.length → ∀ (Q : Bool → Ab → Prop),
      (∀ (rs' : List (List Nat)) (b2 : Ab), b2.p.toList = rs'.flatten ++ suf → Gd O 0 rs' b2.pd.toList → rs'.flatten.length = rs.flatten.length → rs'.length + 1 = rs.length → Q true b2) → W O (mergeAt' i) Q b1 := by
    intro rs suf b1 i e g hs hl hi Q hQ
    obtain ⟨p1, d1, m1⟩ := b1
    dsimp only at e g
    obtain ⟨A, R1, R2, B, pw, pw2, rfl, hA, dd1, dd2, s1, s2, l1, l2, xy, mk⟩ := g.pair hi
    have e' : p1.toList = A.flatten ++ (R1 ++ (R2 ++ (B.flatten ++ suf))) := by rw [e]; simp
    have bl := g.below
    refine W.mAt (pre := A.flatten) (R1 := R1) (R2 := R2) (suf := B.flatten ++ suf) ⟨H, e', fun k hk => ?_, s1, s2, xy, l1, l2⟩ (by simpa using dd1) (by simpa using dd2) fun M p' mg' hm hs' ep => ?_
    · have hk' : k < p1.toList.length := by simpa using hk
      have ek : p1.getD k 0 = p1.toList[k] := by simp [Array.getD, hk]
      rw [ek, hN]
      have hmem : p1.toList[k] ∈ (A ++ R1 :: R2 :: B).flatten ++ suf := by rw [← e]; exact List.getElem_mem hk'
      rcases List.mem_append.mp hmem with z | z
      · have := bl _ z; omega
      · exact hs _ z
    · refine hQ (A ++ M :: B) _ (by rw [ep]; simp) ?_ ?_ (by simp; omega)
      · have := mk M hm hs'
        have ex : ((d1.setIfInBounds i (A.flatten.length, R1.length + R2.length, pw)).eraseIdxIfInBounds (i + 1)).toList = (d1.toList.set i (A.flatten.length, R1.length + R2.length, pw)).eraseIdx (i + 1) := by
          simp
        show Gd O 0 (A ++ M :: B) ((d1.setIfInBounds i (A.flatten.length, R1.length + R2.length, pw)).eraseIdxIfInBounds (i + 1)).toList
        rw [ex]; exact this
      · have := hm.length_eq
        simp only [List.flatten_append, List.flatten_cons, List.length_append] at this ⊢
        omega
  refine W.bind (W.range (D := fun c b1 => c.1 = none ∧ c.2 = N ∧ ∃ rs : List (List Nat), b1.p.toList = rs.flatten ++ List.range' c.2 (N - c.2) ∧ Gd O 0 rs b1.pd.toList ∧ rs.flatten.length = c.2) (fun k c b1 => c.1 = none ∧ c.2 ≤ N ∧ N ≤ c.2 + k ∧ ∃ rs : List (List Nat), b1.p.toList = rs.flatten ++ List.range' c.2 (N - c.2) ∧ Gd O 0 rs b1.pd.toList ∧ rs.flatten.length = c.2) ⟨rfl, Nat.zero_le _, by show N ≤ 0 + (N - 0); omega, [], by show (List.toArray (List.range N)).toList = [] ++ List.range' 0 (N - 0); simp [List.range_eq_range'], by exact trivial, rfl⟩ ?_ ?_ |>.mono fun c b1 hc => ?_)
  rotate_left
  · rintro ⟨r, lo⟩ b1 ⟨er, q1, q2, q3⟩
    dsimp only at er q1 q2 q3
    exact ⟨er, by show lo = N; omega, q3⟩
  · obtain ⟨r, lo⟩ := c
    obtain ⟨er, q1, rs, e, g, hl⟩ := hc
    dsimp only at er q1 e g hl ⊢
    subst er q1
    rw [Nat.sub_self, List.range'_zero] at e
    have gm := g.many
    refine W.bind (W.range (D := fun c b2 => c.1 = none ∧ ∃ rs' : List (List Nat), b2.p.toList = rs'.flatten ++ [] ∧ Gd O 0 rs' b2.pd.toList ∧ rs'.flatten.length = lo ∧ rs'.length ≤ 1) (fun k c b2 => c.1 = none ∧ ∃ rs' : List (List Nat), b2.p.toList = rs'.flatten ++ [] ∧ Gd O 0 rs' b2.pd.toList ∧ rs'.flatten.length = lo ∧ rs'.length ≤ k + 1) ⟨rfl, rs, e, g, hl, by show rs.length ≤ lo - 0 + 1; omega⟩ ?_ ?_ |>.mono fun c b2 hc => ?_)
    · rintro x k ⟨r, u⟩ b2 ⟨er, rs', e', g', hl', hk⟩
      dsimp only at er
      subst er
      refine W.bind (W.get ?_)
      have hp : pendingOf (Ab.st O b2) = b2.pd := rfl
      simp only [hp]
      have hps : b2.pd.size = rs'.length := by rw [g'.len]; simp
      by_cases c1 : b2.pd.size ≤ 1
      · rw [if_pos c1]
        exact W.pure ⟨rfl, rs', e', g', hl', by omega⟩
      rw [if_neg c1]
      refine W.bind ?_
      refine merge rs' [] b2 _ e' g' (fun x hx => nomatch hx) (by omega) ?_ _ fun rs2 b3 e3 g3 hl3 hk3 => ?_
      · (repeat' split) <;> omega
      simp only [Bool.not_true, Bool.false_eq_true, if_false]
      exact W.pure ⟨rfl, rs2, e3, g3, by omega, by omega⟩
    · rintro ⟨r, u⟩ b2 ⟨er, rs', e', g', hl', hk⟩
      exact ⟨er, rs', e', g', hl', by omega⟩
    · obtain ⟨r, u⟩ := c
      obtain ⟨er, rs', e', g', hl', hk⟩ := hc
      dsimp only at er ⊢
      subst er
      dsimp only
      refine W.pure ?_
      match rs', hk with
      | [], _ => simp at hl'; omega
      | [r], _ =>
        have ev1 : b2.p.toList = r := by rw [e']; simp
        have lr : r.length = lo := by simpa using hl'
        match hd : b2.pd.toList, g' with
        | d :: ds, g' =>
          have pr := g'.2.2.2.1
          rw [lr] at pr
          refine h b2 (by rw [ev1, List.range_eq_range']; exact pr) (by rw [ev1]; exact g'.2.2.2.2.1)
  rintro x k ⟨r, lo⟩ b1 ⟨er, q1, q2, rs, e, g, hl⟩
  dsimp only at er q1 q2 e g hl ⊢
  subst er
  by_cases c0 : lo ≥ N
  · rw [if_pos c0]
    exact W.pure ⟨rfl, by show lo = N; omega, rs, e, g, hl⟩
  rw [if_neg c0]
  obtain ⟨p1, d1, m1⟩ := b1
  dsimp only at e g
  have F0 : Fm O lo (N - lo) rs.flatten (List.toArray (List.range (N - lo))) := ⟨hl, fun x hx => by have := g.below x hx; rw [hN]; omega, by rw [hN]; omega, Array.Perm.refl _⟩
  have eb : (⟨p1, d1, m1⟩ : Ab) = abP lo rs.flatten d1 m1 (List.toArray (List.range (N - lo))) := by
    unfold abP
    congr 1
    apply Array.toList_inj.mp
    rw [e]
    have : (List.range (N - lo)).map (· + lo) = List.range' lo (N - lo) := map_sh lo (N - lo)
    simp [this]
  rw [eb]
  have HS := H.sh lo
  obtain ⟨n1, R1⟩ := Sat.ev _ (sat_count (N := N - lo) HS (by omega))
  refine W.bind (W.cnt F0 (by omega) ?_)
  generalize ev (sh O.lt lo) (kas_count (N - lo) (List.toArray (List.range (N - lo)))) = R at n1 R1 ⊢
  obtain ⟨n, P1⟩ := R
  dsimp only at n1 R1 ⊢
  have nt := R1.top
  have F1 : Fm O lo (N - lo) rs.flatten P1 := F0.of R1.perm
  by_cases c1 : n < mr
  · rw [if_pos c1]
    refine W.bind (W.rule ?_)
    refine W.bind (W.bin H F1 R1 n1 (show n ≤ min (N - lo) mr by omega) (by omega) fun P2 F2 R2 => ?_)
    have n2 : 1 ≤ min (N - lo) mr := by omega
    have nt2 : min (N - lo) mr ≤ N - lo := by omega
    generalize min (N - lo) mr = n' at R2 n2 nt2 ⊢
    simp only [Bool.not_true, Bool.false_eq_true, if_false]
    obtain ⟨r, er1, er2, er3, er4⟩ := R2.split H
    have hsuf : ∀ x ∈ r ++ List.range' (lo + n') (N - lo - n'), x < N := fun x hx => by
      rcases List.mem_append.mp hx with z | z
      · have := List.mem_range'_1.mp (er3.mem_iff.mp z); omega
      · have := List.mem_range'_1.mp z; omega
    have fin : ∀ (rs2 : List (List Nat)) (b2 : Ab), b2.p.toList = rs2.flatten ++ (r ++ List.range' (lo + n') (N - lo - n')) → Gd O 0 rs2 b2.pd.toList → rs2.flatten.length = lo → (fun c (b1 : Ab) => c.1 = none ∧ c.2 ≤ N ∧ N ≤ c.2 + k ∧ ∃ rs : List (List Nat), b1.p.toList = rs.flatten ++ List.range' c.2 (N - c.2) ∧ Gd O 0 rs b1.pd.toList ∧ rs.flatten.length = c.2) ((none : Option PUnit), lo + n') { b2 with pd := b2.pd.push (lo, n', 0) } := fun rs2 b2 e2 g2 l2 => by
      refine ⟨rfl, by show lo + n' ≤ N; omega, by show N ≤ lo + n' + k; omega, rs2 ++ [r], ?_, ?_, ?_⟩
      · show b2.p.toList = _ ++ List.range' (lo + n') (N - (lo + n'))
        rw [e2, show N - (lo + n') = N - lo - n' by omega]; simp
      · show Gd O 0 (rs2 ++ [r]) (b2.pd.push (lo, n', 0)).toList
        rw [Array.toList_push]
        refine g2.app ⟨by show lo = 0 + rs2.flatten.length; omega, by show n' = r.length; omega, by omega, ?_, er4, trivial⟩
        rw [Nat.zero_add, l2, er2]; exact er3
      · show (rs2 ++ [r]).flatten.length = lo + n'; simp at l2 ⊢; omega
    have e0 : (abP lo rs.flatten d1 m1 P2).p.toList = rs.flatten ++ (r ++ List.range' (lo + n') (N - lo - n')) := by rw [← er1]; rfl
    refine W.bind (W.get ?_)
    have hp : pendingOf (Ab.st O (abP lo rs.flatten d1 m1 P2)) = d1 := rfl
    simp only [hp]
    cases hb : d1.back? with
    | none =>
      dsimp only
      exact W.bind (W.modify { abP lo rs.flatten d1 m1 P2 with pd := d1.push (lo, n', 0) } rfl (W.pure (fin rs _ e0 g hl)))
    | some w9 =>
      obtain ⟨u9, v9, z9⟩ := w9
      dsimp only
      generalize power' N (2 * u9 + v9) (2 * u9 + v9 + v9 + n') N = pw9
      refine W.bind (W.range (D := fun c b2 => c.1 = none ∧ ∃ rs2 : List (List Nat), b2.p.toList = rs2.flatten ++ (r ++ List.range' (lo + n') (N - lo - n')) ∧ Gd O 0 rs2 b2.pd.toList ∧ rs2.flatten.length = lo) (fun k c b2 => c.1 = none ∧ ∃ rs2 : List (List Nat), b2.p.toList = rs2.flatten ++ (r ++ List.range' (lo + n') (N - lo - n')) ∧ Gd O 0 rs2 b2.pd.toList ∧ rs2.flatten.length = lo) ⟨rfl, rs, e0, g, hl⟩ ?_ ?_ |>.mono fun c b2 hc => ?_)
      · rintro x k ⟨r2, u2⟩ b2 ⟨er, rs2, e2, g2, l2⟩
        dsimp only at er
        subst er
        refine W.bind (W.get ?_)
        have hp : pendingOf (Ab.st O b2) = b2.pd := rfl
        simp only [hp]
        have hps : b2.pd.size = rs2.length := by rw [g2.len]; simp
        cases ho : (if b2.pd.size > 1 then b2.pd[b2.pd.size - 2]? else none) with
        | none => exact W.pure ⟨rfl, rs2, e2, g2, l2⟩
        | some w8 =>
          obtain ⟨u8, v8, z8⟩ := w8
          dsimp only
          have hgt : b2.pd.size > 1 := by
            by_cases q : b2.pd.size > 1
            · exact q
            · rw [if_neg q] at ho; cases ho
          refine W.ite (fun _ => W.pure ⟨rfl, rs2, e2, g2, l2⟩) (fun _ => ?_)
          refine W.bind (merge rs2 _ b2 _ e2 g2 hsuf (by omega) (by omega) _ fun rs3 b3 e3 g3 l3 k3 => ?_)
          simp only [Bool.not_true, Bool.false_eq_true, if_false]
          exact W.pure ⟨rfl, rs3, e3, g3, by omega⟩
      · rintro ⟨r2, u2⟩ b2 hc
        exact hc
      · obtain ⟨r2, u2⟩ := c
        obtain ⟨er, rs2, e2, g2, l2⟩ := hc
        dsimp only at er ⊢
        subst er
        dsimp only
        have g3 : Gd O 0 rs2 (b2.pd.modify (b2.pd.size - 1) fun x => (x.1, x.2.1, pw9)).toList := by
          rw [Array.toList_modify]
          exact g2.pow (f := fun x => (x.1, x.2.1, pw9)) (fun d => ⟨rfl, rfl⟩) _
        refine W.bind (W.modify { b2 with pd := b2.pd.modify (b2.pd.size - 1) fun x => (x.1, x.2.1, pw9) } rfl ?_)
        exact W.bind (W.modify { b2 with pd := (b2.pd.modify (b2.pd.size - 1) fun x => (x.1, x.2.1, pw9)).push (lo, n', 0) } rfl (W.pure (fin rs2 { b2 with pd := b2.pd.modify (b2.pd.size - 1) fun x => (x.1, x.2.1, pw9) } e2 g3 l2)))
  · rw [if_neg c1]
    obtain ⟨r, er1, er2, er3, er4⟩ := R1.split H
    have hsuf : ∀ x ∈ r ++ List.range' (lo + n) (N - lo - n), x < N := fun x hx => by
      rcases List.mem_append.mp hx with z | z
      · have := List.mem_range'_1.mp (er3.mem_iff.mp z); omega
      · have := List.mem_range'_1.mp z; omega
    have fin : ∀ (rs2 : List (List Nat)) (b2 : Ab), b2.p.toList = rs2.flatten ++ (r ++ List.range' (lo + n) (N - lo - n)) → Gd O 0 rs2 b2.pd.toList → rs2.flatten.length = lo → (fun c (b1 : Ab) => c.1 = none ∧ c.2 ≤ N ∧ N ≤ c.2 + k ∧ ∃ rs : List (List Nat), b1.p.toList = rs.flatten ++ List.range' c.2 (N - c.2) ∧ Gd O 0 rs b1.pd.toList ∧ rs.flatten.length = c.2) ((none : Option PUnit), lo + n) { b2 with pd := b2.pd.push (lo, n, 0) } := fun rs2 b2 e2 g2 l2 => by
      refine ⟨rfl, by show lo + n ≤ N; omega, by show N ≤ lo + n + k; omega, rs2 ++ [r], ?_, ?_, ?_⟩
      · show b2.p.toList = _ ++ List.range' (lo + n) (N - (lo + n))
        rw [e2, show N - (lo + n) = N - lo - n by omega]; simp
      · show Gd O 0 (rs2 ++ [r]) (b2.pd.push (lo, n, 0)).toList
        rw [Array.toList_push]
        refine g2.app ⟨by show lo = 0 + rs2.flatten.length; omega, by show n = r.length; omega, by omega, ?_, er4, trivial⟩
        rw [Nat.zero_add, l2, er2]; exact er3
      · show (rs2 ++ [r]).flatten.length = lo + n; simp at l2 ⊢; omega
    have e0 : (abP lo rs.flatten d1 m1 P1).p.toList = rs.flatten ++ (r ++ List.range' (lo + n) (N - lo - n)) := by rw [← er1]; rfl
    refine W.bind (W.get ?_)
    have hp : pendingOf (Ab.st O (abP lo rs.flatten d1 m1 P1)) = d1 := rfl
    simp only [hp]
    cases hb : d1.back? with
    | none =>
      dsimp only
      exact W.bind (W.modify { abP lo rs.flatten d1 m1 P1 with pd := d1.push (lo, n, 0) } rfl (W.pure (fin rs _ e0 g hl)))
    | some w9 =>
      obtain ⟨u9, v9, z9⟩ := w9
      dsimp only
      generalize power' N (2 * u9 + v9) (2 * u9 + v9 + v9 + n) N = pw9
      refine W.bind (W.range (D := fun c b2 => c.1 = none ∧ ∃ rs2 : List (List Nat), b2.p.toList = rs2.flatten ++ (r ++ List.range' (lo + n) (N - lo - n)) ∧ Gd O 0 rs2 b2.pd.toList ∧ rs2.flatten.length = lo) (fun k c b2 => c.1 = none ∧ ∃ rs2 : List (List Nat), b2.p.toList = rs2.flatten ++ (r ++ List.range' (lo + n) (N - lo - n)) ∧ Gd O 0 rs2 b2.pd.toList ∧ rs2.flatten.length = lo) ⟨rfl, rs, e0, g, hl⟩ ?_ ?_ |>.mono fun c b2 hc => ?_)
      · rintro x k ⟨r2, u2⟩ b2 ⟨er, rs2, e2, g2, l2⟩
        dsimp only at er
        subst er
        refine W.bind (W.get ?_)
        have hp : pendingOf (Ab.st O b2) = b2.pd := rfl
        simp only [hp]
        have hps : b2.pd.size = rs2.length := by rw [g2.len]; simp
        cases ho : (if b2.pd.size > 1 then b2.pd[b2.pd.size - 2]? else none) with
        | none => exact W.pure ⟨rfl, rs2, e2, g2, l2⟩
        | some w8 =>
          obtain ⟨u8, v8, z8⟩ := w8
          dsimp only
          have hgt : b2.pd.size > 1 := by
            by_cases q : b2.pd.size > 1
            · exact q
            · rw [if_neg q] at ho; cases ho
          refine W.ite (fun _ => W.pure ⟨rfl, rs2, e2, g2, l2⟩) (fun _ => ?_)
          refine W.bind (merge rs2 _ b2 _ e2 g2 hsuf (by omega) (by omega) _ fun rs3 b3 e3 g3 l3 k3 => ?_)
          simp only [Bool.not_true, Bool.false_eq_true, if_false]
          exact W.pure ⟨rfl, rs3, e3, g3, by omega⟩
      · rintro ⟨r2, u2⟩ b2 hc
        exact hc
      · obtain ⟨r2, u2⟩ := c
        obtain ⟨er, rs2, e2, g2, l2⟩ := hc
        dsimp only at er ⊢
        subst er
        dsimp only
        have g3 : Gd O 0 rs2 (b2.pd.modify (b2.pd.size - 1) fun x => (x.1, x.2.1, pw9)).toList := by
          rw [Array.toList_modify]
          exact g2.pow (f := fun x => (x.1, x.2.1, pw9)) (fun d => ⟨rfl, rfl⟩) _
        refine W.bind (W.modify { b2 with pd := b2.pd.modify (b2.pd.size - 1) fun x => (x.1, x.2.1, pw9) } rfl ?_)
        exact W.bind (W.modify { b2 with pd := (b2.pd.modify (b2.pd.size - 1) fun x => (x.1, x.2.1, pw9)).push (lo, n, 0) } rfl (W.pure (fin rs2 { b2 with pd := b2.pd.modify (b2.pd.size - 1) fun x => (x.1, x.2.1, pw9) } e2 g3 l2)))
end
end L2

namespace HT
open PySem PyProof.Rows PySem.W L2
theorem big_run {prog : Program} {w : World} {A : Around} {E : Value → Shared → Prop} {s : Shared} {κ : SortKind} {lt : Nat → Nat → Bool} {ks vs : List Value} {I : Shared → Prop} (hl : ks.length = vs.length) (h2 : 2 ≤ vs.length) (H : Lt lt) (hI : I s)
    (hc : ∀ i j s', i < vs.length → j < vs.length → I s' → wpAny (model prog w) A (keyLt' κ (ks.getD i Value.none) (ks.getD j Value.none)) (fun b s'' => b = lt i j ∧ I s'') (fun _ _ => False) s') :
    wpAny (model prog w) A ((sortRuns').run (SortSt.mk' κ (ks.toArray.zip vs.toArray) #[] 7 none))
      (fun r s' => ∃ p : Array Nat, arrOf r.2 = p.map (kas_item (ks.toArray.zip vs.toArray)) ∧ failedOf r.2 = none ∧ p.size = vs.length ∧ I s' ∧ p.toList.Perm (List.range vs.length) ∧ p.toList.Pairwise (Ah lt)) E s := by
  have hc' : ∀ i j s', i < vs.length → j < vs.length → I s' → kas_cmp prog w A κ (ks.toArray.zip vs.toArray) i j (fun b s'' => b = lt i j ∧ I s'') s' := fun i j s' hi hj hs => by
    have := hc i j s' hi hj hs
    rw [← kat_ask_eq (prog := prog) (w := w) (A := A) (κ := κ) hl]
    exact this
  have run := W.runs (O := ⟨prog, w, A, E, κ, ks.toArray.zip vs.toArray, vs.length, lt, I, hc'⟩) (N := vs.length) (Q := fun _ b' => b'.p.toList.Perm (List.range vs.length) ∧ b'.p.toList.Pairwise (Ah lt)) H rfl h2 (fun b' h1 h2 => ⟨h1, h2⟩) s hI
  have est : SortSt.mk' κ (ks.toArray.zip vs.toArray) #[] 7 none = Ab.st ⟨prog, w, A, E, κ, ks.toArray.zip vs.toArray, vs.length, lt, I, hc'⟩ ⟨List.toArray (List.range vs.length), #[], 7⟩ := by
    have e := kas_range (ks.toArray.zip vs.toArray)
    rw [show (ks.toArray.zip vs.toArray).size = vs.length by simp [hl]] at e
    show SortSt.mk' κ (ks.toArray.zip vs.toArray) #[] 7 none = SortSt.mk' κ ((List.toArray (List.range vs.length)).map (kas_item (ks.toArray.zip vs.toArray))) #[] 7 none
    rw [e]
  rw [est]
  refine wpAny_mono run (fun r s' hr => ?_) fun _ _ z => z
  obtain ⟨hi, b', eb, p1, p2⟩ := hr
  obtain ⟨u, st⟩ := r
  have eb : st = Ab.st _ b' := eb
  subst eb
  exact ⟨b'.p, rfl, rfl, by rw [← Array.length_toList, p1.length_eq, List.length_range], hi, p1, p2⟩
end HT

namespace HT
open PySem PyProof.Rows PySem.W L2
section
variable {prog : Program} {w : World} {A : Around} {E : Value → Shared → Prop} {s : Shared}
theorem pw_small {R : Nat → Nat → Prop} (n : Nat) (h : n < 2) : (List.range n).Pairwise R := by
  match n, h with
  | 0, _ => exact .nil
  | 1, _ => exact List.pairwise_singleton _ _
theorem lex_ints {fin : Bool} {Q : Bool → Shared → Prop} : ∀ {xs ys : List Value} {ns ms : List Int}, IntsAre xs ns → IntsAre ys ms → ∀ (i : Nat) (b : Bool), fin = decide (ns.length < ms.length) → Q (lexLt ns ms) s →
    KatLex prog w A b fin Q (xs.zip ys) i s
  | _, _, _, _, .nil, .nil, i, b, e, h => by subst e; exact h
  | _, _, _, _, .nil, .cons m u r, i, b, e, h => by
    subst e; rw [List.zip_nil_left]; refine kat_nil ?_; simpa using (show Q true s from h)
  | _, _, _, _, .cons n t r, .nil, i, b, e, h => by
    subst e; rw [List.zip_nil_right]; refine kat_nil ?_; simpa using (show Q false s from h)
  | _, _, _, _, .cons n t r, .cons m u r', i, b, e, h => by
    rw [List.zip_cons_cons]
    refine kat_cons (wpAny_eqBool_int ?_)
    rw [lexLt_cons] at h
    by_cases hn : n = m
    · rw [if_pos hn] at h
      rw [show (n == m) = true by simp [hn]]
      exact kat_yes (lex_ints r r' (i + 1) b (by rw [e]; simp) h)
    · rw [if_neg hn] at h
      rw [show (n == m) = false by simp [hn]]
      refine kat_no ?_
      cases (b && i == 0) with
      | true => exact oneLt_int h
      | false => exact kat_one _ _ (lt_int h)
theorem ask_tups {x y : Addr} {its its2 : Array Value} {ns ms : List Int} {b : Bool} {Q : Bool → Shared → Prop} (hx : IsTup s.heap x its) (hy : IsTup s.heap y its2) (hi : IntsAre its.toList ns) (hj : IntsAre its2.toList ms) (h : Q (lexLt ns ms) s) :
    wpAny (model prog w) A (keyLt' (tuples' b) (.ref x) (.ref y)) Q E s := by
  obtain ⟨o, ho, hc, n, hd⟩ := id hx
  obtain ⟨o2, ho2, hc2, n2, hd2⟩ := id hy
  refine kat_lt ho hd ho2 hd2 (lex_ints hi hj 0 b ?_ h)
  rw [← hi.length, ← hj.length]; simp
theorem ask_one {x y : Addr} {its its2 : Array Value} {ns ms : List Int} {Q : Bool → Shared → Prop} (hu : A.units < cLine) (hx : IsTup s.heap x its) (hy : IsTup s.heap y its2) (hi : IntsAre its.toList ns) (hj : IntsAre its2.toList ms) (h : Q (lexLt ns ms) s) :
    wpAny (model prog w) A (keyLt' oneType' (.ref x) (.ref y)) Q E s := by
  obtain ⟨⟨cls, dd, data, sl⟩, ho, hc, n, hd⟩ := id hx
  obtain ⟨⟨cls2, dd2, data2, sl2⟩, ho2, hc2, n2, hd2⟩ := id hy
  simp only at hc hd hc2 hd2
  subst hc hd hc2 hd2
  rw [keyLt'_oneType, oneLt'_eq]
  simp only [if_true]
  refine wpAny_bind (wpAny_cRoomFor hu ?_)
  refine wpAny_bind (wpAny_callSpecialIfBound?_slot (T := "tuple") ⟨_, ho, rfl⟩ PySem.F.slot_tuple_lt (call_meets PySem.F.slot_tuple_lt ⟨_, ho, rfl⟩ PySem.F.entry_tuple_lt (PySem.F.args_tuple_lt_2 _ _) (tuple_lt_ints x y its its2 n n2 dd dd2 sl sl2 ns ms hi hj) ⟨ho, ho2, ?_⟩))
  exact wpAny_truthy_bool h
theorem kind_nil {vs : List Value} {Q : SortKind → Shared → Prop} (h2 : 2 ≤ vs.length) (ht : ∀ v ∈ vs, ∃ a, v = .ref a ∧ IsTup s.heap a #[]) (h : Q oneType' s) :
    wpAny (model prog w) A (keyKind' vs.toArray) Q E s := by
  obtain ⟨v₁, rest, rfl⟩ : ∃ v₁ rest, vs = v₁ :: rest := by
    match vs, h2 with
    | v₁ :: rest, _ => exact ⟨v₁, rest, rfl⟩
  rw [kat_kind_eq, List.mapM_toArray, map_eq_pure_bind]
  refine wpAny_bind (wpAny_bind (kas_mapM (r := none) _ (fun v hv Q' hq => ?_) (wpAny_pure ?_)))
  · obtain ⟨a, rfl, o, ho, hc, n, hd⟩ := ht v hv
    rw [kas_first_eq]
    refine wpAny_bind (Looks.here (show Looks (model prog w) s.heap (typeOf (.ref a)) o.cls from (Looks.ld ho).andThen .now) ?_)
    rw [hc, if_neg (by first | decide | simp)]
    refine wpAny_bind (listItems_at ho hd (wpAny_pure ?_))
    exact hq
  · rw [if_neg (by simp), if_neg (by simp)]
    rw [oneTypeOnly'_eq, List.mapM_toArray, map_eq_pure_bind]
    refine wpAny_bind (wpAny_bind (wpAny_bind (kas_mapM (r := Value.type "tuple") _ (fun v hv Q' hq => ?_) (wpAny_pure ?_))))
    · obtain ⟨a, rfl, o, ho, hc, n, hd⟩ := ht v hv
      refine Looks.here (show Looks (model prog w) s.heap (typeOf (.ref a)) (Value.type "tuple") from ?_) hq
      rw [← hc]
      exact (Looks.ld ho).andThen .now
    · have hall : ((List.map (fun _ => Value.type "tuple") (v₁ :: rest)).toArray.all fun x => x == Value.type "tuple") = true := by
        simp only [List.all_toArray, List.all_map, List.all_eq_true]
        intro _ _
        rfl
      have h0 : (List.map (fun _ => Value.type "tuple") (v₁ :: rest)).toArray[0]? = some (Value.type "tuple") := by simp
      rw [h0]
      simp only [hall, if_true]
      exact wpAny_pure (wpAny_pure h)
theorem tups_of : ∀ {vs : List Value} {rss : List (List Int)}, vs.length = rss.length → (∀ (i : Nat) v r, vs[i]? = some v → rss[i]? = some r → ∃ a its, v = .ref a ∧ IsTup s.heap a its ∧ IntsAre its.toList r) → (∀ r ∈ rss, r ≠ []) →
    ∃ fs, KatTups s.heap vs fs ∧ fs.length = vs.length ∧ ∀ f ∈ fs, ∃ n t, f = Value.int n t
  | [], [], _, _, _ => ⟨[], .nil, rfl, fun _ h => nomatch h⟩
  | v :: vs, r :: rss, hl, h, hne => by
    obtain ⟨fs, k1, k2, k3⟩ := tups_of (vs := vs) (rss := rss) (by simpa using hl) (fun i v r e1 e2 => h (i + 1) v r (by simpa using e1) (by simpa using e2)) fun r hr => hne r (.tail _ hr)
    obtain ⟨a, its, rfl, ⟨o, ho, hc, n, hd⟩, hi⟩ := h 0 v r rfl rfl
    have hr := hne r (.head _)
    obtain ⟨its'⟩ := its
    cases hi with
    | nil => exact absurd rfl hr
    | cons m t hi' => exact ⟨_ :: fs, KatTups.cons (f := .int m t) ho hc hd (by simp) k1, by simp [k2], fun f hf => (List.mem_cons.mp hf).elim (fun e => ⟨m, t, e⟩) (k3 f)⟩
theorem kind_tups {vs : List Value} {rss : List (List Int)} {Q : SortKind → Shared → Prop} (h2 : 2 ≤ vs.length) (hl : vs.length = rss.length) (ht : ∀ (i : Nat) v r, vs[i]? = some v → rss[i]? = some r → ∃ a its, v = .ref a ∧ IsTup s.heap a its ∧ IntsAre its.toList r) (hne : ∀ r ∈ rss, r ≠ [])
    (h : Q (tuples' true) s) : wpAny (model prog w) A (keyKind' vs.toArray) Q E s := by
  obtain ⟨fs, k1, k2, k3⟩ := tups_of hl ht hne
  refine kat_kind (T := Value.type "int") k1 (by omega) (fun v hv => ?_) rfl h
  obtain ⟨n, t, rfl⟩ := k3 v hv
  exact Looks.of_pure rfl
end
theorem lexLt_asym (a : List Int) : ∀ b, lexLt a b = true → lexLt b a = false := by
  induction a with
  | nil => intro b h; cases b <;> first | rfl | cases h
  | cons x xs ih =>
    intro b h
    cases b with
    | nil => cases h
    | cons y ys =>
      rw [lexLt_cons] at h ⊢
      by_cases e : x = y
      · rw [if_pos e] at h; rw [if_pos e.symm]; exact ih ys h
      · rw [if_neg e] at h; rw [if_neg (Ne.symm e)]
        have := of_decide_eq_true h
        exact decide_eq_false (by omega)
theorem lexLt_ntr (a : List Int) : ∀ b c, lexLt a b = false → lexLt b c = false → lexLt a c = false := by
  induction a with
  | nil =>
    intro b c h1 h2
    cases b with
    | nil => exact h2
    | cons y ys => cases h1
  | cons x xs ih =>
    intro b c h1 h2
    cases c with
    | nil => rfl
    | cons z zs =>
      cases b with
      | nil => cases h2
      | cons y ys =>
        rw [lexLt_cons] at h1 h2 ⊢
        by_cases e : x = y
        · subst e
          rw [if_pos rfl] at h1
          by_cases e2 : x = z
          · subst e2; rw [if_pos rfl] at h2 ⊢; exact ih ys zs h1 h2
          · rw [if_neg e2] at h2 ⊢; exact h2
        · rw [if_neg e] at h1
          have h1 := of_decide_eq_false h1
          by_cases e2 : y = z
          · subst e2; rw [if_neg e]; exact decide_eq_false h1
          · rw [if_neg e2] at h2
            have h2 := of_decide_eq_false h2
            rw [if_neg (by omega)]; exact decide_eq_false (by omega)
theorem lt_lex (rss : List (List Int)) : Lt (fun i j => lexLt (rss.getD i []) (rss.getD j [])) := ⟨fun i j h => lexLt_asym _ _ h, fun i j k h1 h2 => lexLt_ntr _ _ _ h1 h2⟩
end HT
namespace L2
open PySem PySem.Spec PyProof.Rows PySem.W
section
variable {X : Cx}
theorem vals_refs : ∀ {rs : List Addr} {us : List Value}, Vals (rs.map V.ref) us → us = rs.map Value.ref
  | [], _, .nil => rfl
  | _ :: _, _, .cons r t => by
    rw [List.map_cons, ← vals_refs t]
    cases r
    rfl
theorem vals_map {f : Nat → V} {g : Nat → Value} : ∀ {p : List Nat}, (∀ i ∈ p, RelV (f i) (g i)) → Vals (p.map f) (p.map g)
  | [], _ => .nil
  | i :: p, h => .cons (h i (.head _)) (vals_map fun j hj => h j (.tail _ hj))
end
end L2

namespace L2
open PySem PySem.Spec PyProof.Rows PySem.W
section
variable {X : Cx}
end
end L2

namespace HT
open PySem PyProof.Rows PySem.W L2
section
variable {prog : Program} {w : World} {A : Around} {E : Value → Shared → Prop} {s : Shared}
end
theorem lt_ints (ns : List Int) : Lt (fun i j => decide (ns.getD i 0 < ns.getD j 0)) := ⟨fun i j h => by
  have := of_decide_eq_true h
  exact decide_eq_false (by omega), fun i j k h1 h2 => by
  have a := of_decide_eq_false h1
  have b := of_decide_eq_false h2
  exact decide_eq_false (by omega)⟩
theorem ints_at {vs : List Value} {ns : List Int} (h : IntsAre vs ns) : ∀ {i : Nat}, i < vs.length → ∃ t, vs.getD i Value.none = .int (ns.getD i 0) t := by
  induction h with
  | nil => intro i hi; cases hi
  | cons n t h ih =>
    intro i hi
    cases i with
    | zero => exact ⟨t, rfl⟩
    | succ i =>
      obtain ⟨t', e⟩ := ih (i := i) (by simpa using hi)
      exact ⟨t', by simpa using e⟩
end HT
namespace L2
open PySem PySem.Spec PyProof.Rows PySem.W
section
variable {X : Cx}
end
end L2

namespace L2
open PySem PySem.Spec PyProof.Rows
section
variable {X : Cx} {pins : List (Addr × Obj)} {σ : St} {H : Hp} {s : Shared}
end
end L2

namespace L2
open PySem PySem.Spec PyProof.Rows

section
variable {κ : Type} [DecidableEq κ]
end


section
variable {P : Program} {w : World} {H : Hp} {h : Heap} {a : Addr}
end

section
variable {X : Cx} {pins : List (Addr × Obj)} {σ : St} {H : Hp} {s : Shared} {a : Addr} {y v : V} {u r : Value} {o : Option V} {A : Around} {E : Value → Shared → Prop}

end

section
variable {X : Cx} {pins : List (Addr × Obj)} {σ : St} {H : Hp} {s : Shared} {a : Addr} {kvs : List (Key × V)} {k : Key} {u : Value} {A : Around} {E : Value → Shared → Prop}
end


section
variable {X : Cx} {o i e value : Expr} {pos pos' tpos : Pos} {td ty tv : TE}
end


section
variable {X : Cx} {pos : Pos}
end

section
variable {X : Cx} {pins : List (Addr × Obj)} {σ : St} {H : Hp} {s : Shared} {a : Addr} {y d : V} {u r : Value} {o : Option V} {A : Around} {E : Value → Shared → Prop}
end

section
variable {X : Cx} {o e f : Expr} {apos cpos : Pos} {td ty tx : TE}
end

section
variable {X : Cx} {pins : List (Addr × Obj)} {σ : St} {H : Hp} {s : Shared} {a : Addr} {kvs : List (Key × V)} {A : Around} {E : Value → Shared → Prop}
end


section
variable {X : Cx} {pins : List (Addr × Obj)} {σ : St} {H : Hp} {s : Shared} {a : Addr} {y : V} {u : Value} {A : Around} {E : Value → Shared → Prop}
end
end L2


namespace L2
open PySem PySem.Spec PyProof.Rows
section
variable {X : Cx} {o i value : Expr} {td ty tv : TE} {pos pos' : Pos}
end
end L2

namespace L2
open PySem PySem.Spec PyProof.Rows
def itN (os : List Nat) : Nat → Nat → Nat
  | 0, i => i
  | k + 1, i => os.getD (itN os k i) 0
def Rb (os : List Nat) (i j : Nat) : Prop := ∃ k, j = itN os k i
def sm (f : Nat → Nat) : Nat → Nat
  | 0 => 0
  | n + 1 => sm f n + f n
def wt (os : List Nat) (j : Nat) : Nat := if os.getD j 0 = j then 0 else 1
end L2

namespace L2
open PySem PySem.Spec PyProof.Rows
end L2

namespace L2
open PySem PySem.Spec PyProof.Rows
def seenP (os : List Nat) (i j : Nat) : Prop := wt os j = 1 ∧ ∃ a, a < i ∧ Rb os a j
open Classical in
noncomputable def sx (os : List Nat) (i j : Nat) : Nat := if seenP os i j then 1 else 0
end L2

namespace L2
open PySem PySem.Spec PyProof.Rows
def furth (at_ c : Nat) : Nat := if at_ ≤ c then c + 1 else c
def bk (at_ : Nat) (s : Str3) : Str3 := (s.1, s.2.1, if s.2.2 ≤ at_ then s.2.2 else s.2.2 - 1)
def tr3 (at_ : Nat) (s : Str3) : Str3 := (s.1, s.2.1, furth at_ s.2.2)
end L2

namespace HT
open PySem PyProof.Rows PySem.W L2
section
variable {prog : Program} {w : World} {A : Around} {E : Value → Shared → Prop} {s : Shared} {a kS : Addr} {vs ks : List Value} {e e1 : Nat} {P : PySem.Fin → Shared → Prop}
abbrev keyedHeap (h : Heap) (kS a : Addr) (out : Array Value) : Heap := (h.update kS (Obj.mapSeq fun _ => (#[] : Array Value))).update a (Obj.mapSeq fun _ => out)
theorem key_tail {st : SortSt} {out : Array Value} (hka : kS ≠ a) (hoA : s.heap.get? a = some (seqObj "list" #[] e1)) (hoK : s.heap.get? kS = some (seqObj "list" ks.toArray e)) (hkl : ks.length < 1000) (hol : out.size < 1000) (hout : (arrOf st).map (·.2) = out) (hfl : failedOf st = none)
    (h : P (.done (.ret .none)) { s with heap := keyedHeap s.heap kS a out }) : wpAny (model prog w) A (ksk_tail a false e1 (.ref kS) st) P E s := by
  have s1 := Heap.SameBut.update s.heap kS (Obj.mapSeq fun _ => (#[] : Array Value))
  have na1 : (s.heap.update kS (Obj.mapSeq fun _ => (#[] : Array Value))).get? a = some (seqObj "list" #[] e1) := (s1.2 a hka.symm).trans hoA
  unfold ksk_tail
  rw [hout]
  simp only [Bool.false_eq_true, if_false]
  refine wpAny_bind (listUpdate_at hoK rfl ?_ (by rw [List.size_toArray, sizeLine_eq]; omega) (Nat.zero_le _))
  refine wpAny_bind (wpAny_letGo ?_)
  refine wpAny_bind (seqEpoch_at na1 rfl ?_)
  refine wpAny_bind (listUpdate_at na1 rfl ?_ (Nat.zero_le _) (by rw [sizeLine_eq]; omega))
  rw [hfl]
  simp only [bne_self_eq_false, Bool.false_eq_true, if_false]
  exact wpAny_pure h
theorem key_end {κ : SortKind} {lt : Nat → Nat → Bool} (hka : kS ≠ a) (hoA : s.heap.get? a = some (seqObj "list" #[] e1)) (hoK : s.heap.get? kS = some (seqObj "list" ks.toArray e)) (hlen : ks.length = vs.length) (h64 : vs.length < 1000) (H : Lt lt)
    (hk : ∀ (Q : SortKind → Shared → Prop), 2 ≤ vs.length → Q κ s → wpAny (model prog w) A (keyKind' ks.toArray) Q (fun _ _ => False) s)
    (hc : ∀ i j (Q : Bool → Shared → Prop), i < vs.length → j < vs.length → Q (lt i j) s → wpAny (model prog w) A (keyLt' κ (ks.getD i Value.none) (ks.getD j Value.none)) Q (fun _ _ => False) s)
    (h : ∀ p : List Nat, p.Perm (List.range vs.length) → p.Pairwise (Ah lt) → P (.done (.ret .none)) { s with heap := keyedHeap s.heap kS a (List.toArray (p.map fun i => vs.getD i Value.none)) }) :
    wpAny (model prog w) A (ksk_end a false vs.toArray e1 (.ref kS) ks.toArray) P E s := by
  unfold ksk_end
  simp only [Bool.false_eq_true, if_false]
  have hsz : vs.toArray.size = vs.length := by simp
  by_cases h2 : vs.toArray.size < 2
  · rw [if_pos h2, if_pos h2]
    refine wpAny_bind (wpAny_pure ?_)
    rw [StateT.run_pure]
    refine wpAny_bind (wpAny_pure ?_)
    dsimp only
    have eo : (arrOf (SortSt.mk' general' (ks.toArray.zip vs.toArray) #[] 7 none)).map (·.2) = List.toArray ((List.range vs.length).map fun i => vs.getD i Value.none) := by
      have e := kas_range (ks.toArray.zip vs.toArray)
      rw [show (ks.toArray.zip vs.toArray).size = vs.length by simp [hlen]] at e
      have := kat_snds (st := SortSt.mk' general' (ks.toArray.zip vs.toArray) #[] 7 none) (ks := ks) (vs := vs) hlen e.symm
      simpa using this
    exact key_tail (st := SortSt.mk' general' (ks.toArray.zip vs.toArray) #[] 7 none) hka hoA hoK (by omega) (by simp; omega) eo rfl (h (List.range vs.length) (List.Perm.refl _) (pw_small _ (by omega)))
  · rw [if_neg h2, if_neg h2]
    refine wpAny_bind (wpAny_mono (hk (fun κ' s' => κ' = κ ∧ s' = s) (by omega) ⟨rfl, rfl⟩) (fun κ' s' hh => ?_) fun _ _ x => x.elim)
    obtain ⟨rfl, rfl⟩ := hh
    refine wpAny_bind (wpAny_mono (big_run (ks := ks) (vs := vs) (I := fun s'' => s'' = s') hlen (by omega) H rfl (fun i j s'' hi hj es => by subst es; exact hc i j _ hi hj ⟨rfl, rfl⟩)) ?_ fun _ _ e => e)
    rintro ⟨⟨⟩, st'⟩ s'' ⟨p, har, hf, hp, rfl, q1, q2⟩
    dsimp only
    exact key_tail hka hoA hoK (by omega) (by rw [List.size_toArray, List.length_map, Array.length_toList, hp]; exact h64) (kat_snds hlen har) hf (h p.toList q1 q2)
theorem key_rest {f : Value} (J : Nat → List Value → Shared → Prop) (h0 : J 0 [] s) (h64 : vs.length < 1000)
    (step : ∀ i x ks s, vs[i]? = some x → J i ks s → ks.length = i ∧ wpAny (model prog w) A (call f [x]) (fun k s' => ∃ e, s'.heap.get? kS = some (seqObj "list" ks.toArray e) ∧ J (i + 1) (ks ++ [k]) { s' with heap := s'.heap.update kS (Obj.mapSeq (·.push k)) }) (fun _ _ => False) s)
    (done : ∀ ks s, J vs.length ks s → ∃ e, s.heap.get? kS = some (seqObj "list" ks.toArray e) ∧ wpAny (model prog w) A (ksk_end a false vs.toArray e1 (.ref kS) ks.toArray) P E s) :
    wpAny (model prog w) A (ksk_rest a f false vs.toArray e1 (.ref kS)) P E s := by
  unfold ksk_rest
  refine wpAny_bind (wpAny_rule ?_)
  first
    | rw [List.forIn_toArray]
    | (rw [← Array.forIn_toList]; simp only [List.toList_toArray])
    | rw [← Array.forIn_toList]
  refine wpAny_bind (ksk_fold (fun i s' => ∃ ks, J i ks s') vs 0 s ⟨[], h0⟩ ?step ?done)
  case step =>
    rintro j x s' hx ⟨ks, hJ⟩
    rw [Nat.zero_add] at hJ ⊢
    obtain ⟨hkl, hcall⟩ := step j x ks s' hx hJ
    have hj : j < vs.length := (List.getElem?_eq_some_iff.mp hx).1
    refine wpAny_bind (wpAny_attempt (wpAny_mono hcall (fun k s'' he => ?_) fun _ _ hF => hF.elim))
    obtain ⟨e, hk, hJ'⟩ := he
    try dsimp only
    refine wpAny_bind (listUpdate_at hk rfl ?_ (by rw [List.size_toArray, sizeLine_eq]; omega) (Nat.le_trans (Nat.le_of_eq (Array.size_push ..)) (by rw [List.size_toArray, sizeLine_eq]; omega)))
    exact wpAny_pure ⟨rfl, _, hJ'⟩
  case done =>
    rintro s' ⟨ks, hJ⟩
    rw [Nat.zero_add] at hJ
    obtain ⟨e, hk, hd⟩ := done ks s' hJ
    try dsimp only
    exact wpAny_bind (listItems_at hk rfl hd)
theorem key_sort {f : Value} {n : Nat} (ho : s.heap.get? a = some (seqObj "list" vs.toArray n)) (h64 : vs.length < 1000)
    (h : ∀ (h' : Heap) (kS : Addr) (e1 : Nat), (∀ b o, b ≠ a → s.heap.get? b = some o → h'.get? b = some o) → s.heap.objs.size ≤ kS → h'.get? kS = some (seqObj "list" #[] 0) → h'.get? a = some (seqObj "list" #[] e1) → (∀ b, s.heap.objs.size ≤ b → b < h'.objs.size → True) →
      wpAny (model prog w) A (ksk_rest a f false vs.toArray e1 (.ref kS)) P E { s with heap := h' }) :
    wpAny (model prog w) A (ksk_tree a f false) P E s := by
  have ha : a < s.heap.objs.size := Heap.lt_size ho
  have s1 := Heap.SameBut.update s.heap a (Obj.mapSeq fun _ => (#[] : Array Value))
  obtain ⟨e1, ho1⟩ : ∃ e1, (s.heap.update a (Obj.mapSeq fun _ => (#[] : Array Value))).get? a = some (seqObj "list" #[] e1) := ⟨_, get?_update_seq ho fun _ => #[]⟩
  have hkS : ((s.heap.update a (Obj.mapSeq fun _ => (#[] : Array Value))).push (seqObj "tuple" vs.toArray 0)).objs.size = s.heap.objs.size + 1 := by rw [size_push', Heap.size_update]
  unfold ksk_tree
  refine wpAny_bind (listItems_at ho rfl ?_)
  refine wpAny_bind (listUpdate_at ho rfl ?_ (by rw [List.size_toArray, sizeLine_eq]; omega) (Nat.zero_le _))
  refine wpAny_bind (seqEpoch_at ho1 rfl ?_)
  refine wpAny_bind (wpAny_newTuple ?_ (by show vs.length ≤ _; rw [sizeLine_eq]; omega))
  refine wpAny_bind (wpAny_newList ?_ (Nat.zero_le _))
  refine wpAny_holding ?_
  refine h (((s.heap.update a (Obj.mapSeq fun _ => (#[] : Array Value))).push (seqObj "tuple" vs.toArray 0)).push (seqObj "list" #[] 0)) _ e1 (fun b o hb e => ?_) (by rw [hkS]; omega) (Heap.get?_push_size _ rfl) (Heap.get?_push_of_some _ (Heap.get?_push_of_some _ ho1)) (fun _ _ _ => trivial)
  exact Heap.get?_push_of_some _ (Heap.get?_push_of_some _ ((s1.2 b hb).trans e))
theorem key_sorted {l q : Addr} {Q : Value → Shared → Prop} {G : List Value → Prop} (h64 : ∀ vs, G vs → vs.length < 1000)
    (hcol : ∀ (Q : List Value → Shared → Prop), (∀ vs h1 tk, G vs → (∀ b o, s.heap.get? b = some o → h1.get? b = some o) → Q vs { s with heap := h1, toks := tk }) → wpAny (model prog w) A.in1 (collect (.ref l)) Q (fun _ _ => False) s)
    (h : ∀ (vs : List Value) (h1 h' : Heap) (tk : Nat) (a kS : Addr) (e1 : Nat), G vs → (∀ b o, s.heap.get? b = some o → h1.get? b = some o) → (∀ b o, h1.get? b = some o → h'.get? b = some o) → h1.objs.size ≤ a → a < kS → h'.get? kS = some (seqObj "list" #[] 0) → h'.get? a = some (seqObj "list" #[] e1) →
      wpAny (model prog w) A.in1.in1 (ksk_rest a (.ref q) false vs.toArray e1 (.ref kS)) (fun r s' => r = .done (.ret .none) ∧ Q (.ref a) s') (fun _ _ => False) { s with heap := h', toks := tk }) :
    wpAny (model prog w) A (call (.builtin "sorted") [.ref l] [(Str.ofString "key", .ref q)]) Q E s := by
  refine call_function_entry_kw kind_sorted plain_sorted entry_sorted (ksk_s1 _ _) ?_
  unfold Builtin.«sorted»
  refine wpAny_bind (m := checkCount "sorted" 1 1 _) (wpAny_pure ?_)
  refine wpAny_bind (wpAny_mono (hcol _ fun vs h1 tk g1 k1 => ?_) (fun _ _ x => x) fun _ _ x => x.elim)
  have h64 := h64 vs g1
  refine wpAny_bind (wpAny_newList ?_ (by rw [sizeLine_eq]; omega))
  have hoL : (h1.push (seqObj "list" vs.toArray 0)).get? h1.objs.size = some (seqObj "list" vs.toArray 0) := Heap.get?_push_size _ rfl
  show wpAny _ _ _ _ _ { s with heap := h1.push (seqObj "list" vs.toArray 0), toks := tk }
  refine wpAny_bind (wpAny_holding (wpAny_call_entry_kw slot_list_sort ⟨_, hoL, rfl⟩ entry_list_sort ?body (ksk_l1 _ _)))
  case body =>
    show wpAny (model prog w) A.in1.in1 (Builtin.«list.sort» ⟨[.ref h1.objs.size], [(Str.ofString "key", .ref q)]⟩) _ _ _
    rw [ksk_t1]
    refine key_sort (s := { s with heap := h1.push (seqObj "list" vs.toArray 0), toks := tk }) hoL h64 fun h' kS e1 k2 hk1 hk2 hk3 _ => ?_
    have hlt : h1.objs.size < kS := by
      have := hk1
      rw [show ({ s with heap := h1.push (seqObj "list" vs.toArray 0), toks := tk } : Shared).heap.objs.size = h1.objs.size + 1 from size_push' ..] at this
      omega
    refine wpAny_mono (h vs h1 h' tk h1.objs.size kS e1 g1 k1 (fun b o e => k2 b o (Nat.ne_of_lt (Heap.lt_size e)) (Heap.get?_push_of_some _ e)) (Nat.le_refl _) hlt hk2 hk3) (fun r s' hr => ?_) fun _ _ x => x.elim
    obtain ⟨rfl, hq⟩ := hr
    exact ⟨_, rfl, wpAny_pure ⟨_, rfl, hq⟩⟩
theorem collect_range {r : Addr} {x b c : Int} {t u v : Tok} {n : Nat} {Q : List Value → Shared → Prop} (hh : A.handled = none) (hr : IsRange s.heap r x b c t u v) (hsmall : Builtin.Range.small x b c = true) (hn : Builtin.Range.rangeSize x b c = n) (hlen : n ≤ 2 ^ 24)
    (hQ : ∀ h' tk (acc : Array Value), (∀ b o, s.heap.get? b = some o → h'.get? b = some o) → ItemsOf (fun i v => ∃ t, v = .int (x + i * c) t) acc n → Q acc.toList { s with heap := h', toks := tk }) :
    wpAny (model prog w) A (collect (.ref r)) Q E s := by
  unfold collect
  refine wpAny_bind (wpAny_runValue (codeAny_builtin PySem.F.entry_proto_collect ?_))
  rw [Around.under_plainId PySem.F.plain_proto_collect _]
  show wpAny _ A.in1 (newList [] >>= fun l => again (.builtin "list.__iadd__" ⟨[l, .ref r], []⟩)) _ _ s
  refine wpAny_bind (wpAny_newObj_type ?_)
  refine wpAny_pure ⟨plainId_quiet PySem.F.plain_list_iadd _, codeAny_builtin PySem.F.entry_list_iadd ?_⟩
  rw [Around.under_plainId PySem.F.plain_list_iadd _]
  show wpAny _ A.in1 (Builtin.List.listExtendWith (.ref s.heap.objs.size) (.ref r) (.ref s.heap.objs.size)) _ _ _
  have hS : (s.heap.push { cls := .type "list", data := .seq ([] : List Value).toArray }).get? s.heap.objs.size = some { cls := .type "list", data := .seq #[] 0 } := Heap.get?_push_size _ rfl
  refine wpAny_mono (wpAny_extend_range (A := A) (s := { s with heap := s.heap.push { cls := .type "list", data := .seq ([] : List Value).toArray } }) (R := fun r' s' => r' = .ok (.ret (.ref s.heap.objs.size)) ∧ ∃ h' tk acc c', s' = { s with heap := h', toks := tk } ∧ (∀ b o, s.heap.get? b = some o → h'.get? b = some o) ∧ h'.get? s.heap.objs.size = some { cls := .type "list", dict := none, data := .seq acc c', slots := #[] } ∧ ItemsOf (fun i v => ∃ t, v = .int (x + i * c) t) acc n)
    hh (Heap.get?_push_of_some _ hr) hsmall hn hlen s.heap.objs.size _ 0 hS fun h' tk acc c' k g i => ⟨rfl, h', tk, acc, c', rfl, fun b o e => k b o (Nat.ne_of_lt (Heap.lt_size e)) (Heap.get?_push_of_some _ e), g, i⟩) (fun fin s' hf => ?_) (fun e s' hf => ?_)
  · have fin' : ∀ s', (∃ h' tk acc c', s' = { s with heap := h', toks := tk } ∧ (∀ b o, s.heap.get? b = some o → h'.get? b = some o) ∧ h'.get? s.heap.objs.size = some { cls := .type "list", dict := none, data := .seq acc c', slots := #[] } ∧ ItemsOf (fun i v => ∃ t, v = .int (x + i * c) t) acc n) →
      wpAny (model prog w) A (match Value.ref s.heap.objs.size with
      | Value.ref a => do
        match (← load a).data with
          | Data.seq xs _ => pure xs.toList
          | _ => unsupported "internal:collect"
      | _ => unsupported "internal:collect") Q E s' := by
      rintro s' ⟨h', tk, acc, c', rfl, k, g, i⟩
      show wpAny _ A (load s.heap.objs.size >>= _) _ _ _
      exact wpAny_bind (wpAny_load g (wpAny_pure (hQ h' tk acc k i)))
    cases fin with
    | done f =>
      obtain ⟨e, hx⟩ := hf
      cases e
      exact fin' _ hx
    | again c' => exact ⟨hf.1, codeAny_mono hf.2 fun r' s'' hr => by obtain ⟨rfl, hx⟩ := hr; exact fin' _ hx⟩
  · exact absurd hf.1 (by simp)
end
end HT
namespace L2
open PySem PySem.Spec PyProof.Rows PySem.W
def cxLam (X : Cx) (N : List Str) (qual : Str) (scope : Scope) (f c' : Addr) (cl : List (Str × Addr)) (A : Around) (C : Addr) (s : Shared) (H : Hp) : Cx :=
  { X with A := A.deeper (envX qual scope C f (.ref c') cl), N := N, s₀ := s, H₀ := H, env := envX qual scope C f (.ref c') cl, outer := X.stack, stack := envX qual scope C f (.ref c') cl :: X.stack, ex := [], fn := fun _ => false, calm := true, pn := [], xe := fun _ _ => False }
def FlOk (X : Cx) (scope : Scope) (cl : List (Str × Addr)) : List Str → Prop
  | [] => True
  | x :: r => (X.env.kindOf x = some .cell ∧ scope.names.lookup x = some .free ∧ ∃ c, cl.lookup x = some c ∧ X.env.cells.lookup x = some c) ∧ FlOk X scope cl r
theorem FlOk.mem {X : Cx} {scope : Scope} {cl : List (Str × Addr)} : ∀ {l : List Str}, FlOk X scope cl l → ∀ x ∈ l,
    X.env.kindOf x = some .cell ∧ scope.names.lookup x = some .free ∧ ∃ c, cl.lookup x = some c ∧ X.env.cells.lookup x = some c
  | [], _, _, h => nomatch h
  | y :: r, ⟨h1, h2⟩, x, h => by
    rcases List.mem_cons.mp h with e | e
    · subst e; exact h1
    · exact FlOk.mem h2 x e
structure LamOk (X : Cx) (N : List Str) (x : Str) (frs : List Str) (ix : List Nat) (scope : Scope) (cl : List (Str × Addr)) : Prop where
  clos : closureFor scope X.env = pure cl
  cell : ∀ y ∈ scope.names, y.2 ≠ .cell
  kind : scope.kind = .function
  par : scope.names.lookup x = some .local
  nm : N = x :: frs
  ixs : ix.map (X.N[·]?) = frs.map some
  fr : FlOk X scope cl frs
  cls : ClOk X cl
  has : scope.names.all (fun p => !(p.2 == .cell || p.2 == .free) || (cl.lookup p.1).isSome) = true
  co : scope.isCoroutine = false
  gen : scope.isGenerator = false
def stLam (ix : List Nat) (σ : St) (v : V) : St := some v :: ix.map fun j => (σ[j]?).getD none
section
variable {X : Cx} {N frs : List Str} {x qual : Str} {ix : List Nat} {scope : Scope} {cl : List (Str × Addr)} {A : Around} {f c' C : Addr}
theorem LamOk.hasOf (c : LamOk X N x frs ix scope cl) {y : Str} (h : scope.names.lookup y = some .cell ∨ scope.names.lookup y = some .free) : ∃ a, cl.lookup y = some a := by
  have all := List.all_eq_true.mp c.has
  rcases h with h | h
  · have q := all _ (lookup_mem h)
    exact Option.isSome_iff_exists.mp (by simpa only [beq_self_eq_true, Bool.true_or, Bool.not_true, Bool.false_or] using q)
  · have q := all _ (lookup_mem h)
    exact Option.isSome_iff_exists.mp (by simpa only [beq_self_eq_true, Bool.or_true, Bool.not_true, Bool.false_or] using q)
theorem inv_lam {pins : List (Addr × Obj)} {σ : St} {H : Hp} {s : Shared} {h1 : Heap} {tk : Nat} {m : Str → Option Value} {v : V} {u : Value} (c : LamOk X N x frs ix scope cl) (I : Inv X pins σ H s) (hA : A.frames = some X.stack) (hh : A.handled = none)
    (hC : s.heap.objs.size ≤ C) (hns : h1.Ns C m) (hm : m x = some u) (r : RelV v u) (hk : ∀ b o, s.heap.get? b = some o → h1.get? b = some o) :
    Inv (cxLam X N qual scope f c' cl A C s H) [] (stLam ix σ v) H { s with heap := h1, toks := tk } := by
  have hcn : ∀ x a, cl.lookup x = some a → X.env.cells.lookup x = some a := c.cls.get
  refine ⟨⟨I.ok.mod, c.kind, rfl, rfl, hC, fun x y a h1 h2 => I.ok.inj x y a (hcn _ _ h1) (hcn _ _ h2), fun x hx => c.hasOf hx, (fun x a z _ => Bool.noConfusion z), fun _ => hh, ?_, .inr ⟨rfl, rfl⟩, fun b hb => (by cases hb), I.bs, Nat.le_trans I.ok.bsz I.sz, fun b o e hb => (by cases hb), fun b hb z => (by cases hb), I.stack, I.stkFree⟩,
    rfl, I.bare, Un.kept hk, ⟨m, hns, fun i y w e1 e2 e3 => ?_⟩, fun x a e => ?_, I.hok.fresh hC, fun x a e => I.freeC x a (hcn x a e), fun p hp => (by cases hp), I.hok.kept hk, ?_⟩
  · show (A.deeper _).frames = some _
    simp only [Around.deeper, hA]
    rfl
  · rw [show (cxLam X N qual scope f c' cl A C s H).N = x :: frs from c.nm] at e1
    match i, e1, e2 with
    | 0, e1, e2 =>
      cases e1; cases e2
      exact ⟨u, r, .inl ⟨c.par, hm⟩⟩
    | i + 1, e1, e2 =>
      have e1 : frs[i]? = some y := by simpa using e1
      have e2 : (ix.map fun j => (σ[j]?).getD none)[i]? = some (some w) := e2
      have hy : y ∈ frs := List.mem_of_getElem? e1
      obtain ⟨k1, k2, a, l1, l2⟩ := c.fr.mem y hy
      have e := congrArg (·[i]?) c.ixs
      simp only [List.getElem?_map, e1] at e
      rw [List.getElem?_map] at e2
      cases q : ix[i]? with
      | none => rw [q] at e; cases e
      | some j =>
        rw [q] at e e2
        simp only [Option.map_some, Option.some.injEq] at e e2
        have n2 : σ[j]? = some (some w) := by
          cases z : σ[j]? with
          | none => rw [z] at e2; cases e2
          | some o => rw [z] at e2; simp at e2; rw [e2]
        obtain ⟨m', _, hl⟩ := I.loc
        obtain ⟨u', r', l⟩ := hl j y w e n2 (.inr (.inl k1))
        refine ⟨u', r', .inr ⟨.inr k2, a, l1, ?_⟩⟩
        rcases l with ⟨l, _⟩ | ⟨_, a', l3, o, l4, l5⟩
        · rw [k1] at l; cases l
        · rw [l2] at l3; cases l3
          exact ⟨o, hk _ _ l4, l5⟩
  · obtain ⟨v, o, q1, q2⟩ := I.cell x a (hcn x a e)
    exact ⟨v, o, hk _ _ q1, q2⟩
  · show (stLam ix σ v).length = N.length
    unfold stLam
    have e := congrArg List.length c.ixs
    simp only [List.length_map] at e
    rw [c.nm]; simp [e]
theorem lam_call {pins : List (Addr × Obj)} {σ : St} {H : Hp} {s : Shared} {name : Str} {params : Arguments} {body : Expr} {pm ctv : Value} {te : TE} {Q : VK} {v : V} {u : Value} (c : LamOk X N x frs ix scope cl) (I : Inv X pins σ H s) (hA : A.frames = some X.stack) (hh : A.handled = none) (hroom : A.depth < recursionLimit)
    (hf : s.heap.get? f = some (kla_obj name qual params body scope cl pm c' ctv)) (hcd : s.heap.CodeRec (.ref c') qual) (hbind : bindArgs (kla_fn name qual params body scope cl pm (.ref c') ctv) ⟨[u], []⟩ = pure [(x, u)]) (r : RelV v u)
    (he : ∀ C s H, PE (cxLam X N qual scope f c' cl A C s H) body te) (q : te (stLam ix σ v) H Q) : wpAny (model X.prog X.w) A (call (.ref f) [u]) (EP X pins σ Q) (fun _ _ => False) s := by
  refine wpAny_call (codeAny_mono (R := fun r s' => match r with
    | .ok (.ret u) => CE X.stack X.prog X.w H s Q u s'
    | _ => False) (kla_callFunE hroom hf rfl c.co c.gen rfl hcd ?_) fun r s' hr => ?_)
  · rw [hbind]
    refine wpAny_pure (wpAny_newFunctionEnv c.cell (fun y hy => by rw [List.mem_singleton.mp hy]; exact c.par) (fun h₁ hns hsb => ⟨(I.nolimit).fresh _ hsb, ?_⟩) c.kind)
    have hk₁ : ∀ b o, s.heap.get? b = some o → h₁.get? b = some o := fun b o e => hsb.extBut b o (Nat.ne_of_lt (Heap.lt_size e)) (Heap.get?_push_of_some _ e)
    show codeAny _ _ (.expr body (envX qual scope s.heap.objs.size f (.ref c') cl)) _ _
    have I1 := inv_lam (qual := qual) (f := f) (c' := c') (tk := s.toks + [(x, u)].length) c I hA hh (Nat.le_refl _) hns (by show ([(x, u)].reverse).lookup x = some u; simp) r hk₁
    refine kla_codeExpr (wpAny_mono (he _ _ _ [] _ _ H Q I1 q) (fun w s' hs => ?_) fun _ _ z => (by exact z.elim))
    obtain ⟨y, H', J, rv, hq⟩ := hs
    exact ⟨y, H', J.os, J.bare, J.base, J.hok, rv, hq⟩
  · match r, hr with
    | .ok (.ret u'), hr => exact I.after hr
end
end L2

namespace L2
open PySem PySem.Spec PyProof.Rows PySem.W
def codeφ (c' : Addr) (qual : Str) : HO := .ext fun h => h.CodeRec (.ref c') qual
def TabOk (P : Addr) (lpos : Pos) (qual : Str) (H : Hp) : Prop := H P = some (.tbl #[]) ∨ ∃ c', H P = some (.tbl #[rawInt lpos.line, rawInt lpos.col, .ref c']) ∧ H c' = some (codeφ c' qual)
def SameX (P : Addr) (H H' : Hp) : Prop := ∀ b o, b ≠ P → H b = some o → H' b = some o
theorem SameX.refl (P : Addr) (H : Hp) : SameX P H H := fun _ _ _ h => h
theorem TabOk.ne {P : Addr} {lpos : Pos} {qual : Str} {H : Hp} (t : TabOk P lpos qual H) {b : Addr} {xs : List V} (h : H b = some (.lst xs)) : b ≠ P := fun e => by
  subst e
  rcases t with t | ⟨c, t, _⟩ <;> rw [h] at t <;> cases t
theorem TabOk.neT {P : Addr} {lpos : Pos} {qual : Str} {H : Hp} (t : TabOk P lpos qual H) {b : Addr} {xs : List V} (h : H b = some (.tup xs)) : b ≠ P := fun e => by
  subst e
  rcases t with t | ⟨c, t, _⟩ <;> rw [h] at t <;> cases t
theorem TabOk.same {P : Addr} {lpos : Pos} {qual : Str} {H H1 : Hp} (t : TabOk P lpos qual H) (s : Same H H1) : TabOk P lpos qual H1 := by
  rcases t with t | ⟨c, t, u⟩
  · exact .inl (s _ _ t)
  · exact .inr ⟨c, s _ _ t, s _ _ u⟩
section
variable {X : Cx} {N frs : List Str} {x : Str} {ix : List Nat} {scope : Scope} {cl : List (Str × Addr)} {A : Around} {cc P : Addr} {pins : List (Addr × Obj)} {σ : St} {H : Hp} {s : Shared} {params : Arguments} {body : Expr} {lpos : Pos}
theorem objOk_code {P : Program} {w : World} {H : Hp} {h : Heap} {c' : Addr} {qual : Str} (e : h.CodeRec (.ref c') qual) : ObjOk P w H h c' (codeφ c' qual) := by
  obtain ⟨c, o, vs, t, e1, e2, e3, e4⟩ := id e
  cases e1
  refine ⟨e, ⟨o, e2⟩, fun h1 h2 hφ k => ?_⟩
  obtain ⟨c2, o2, vs2, t2, f1, f2, f3, f4⟩ := hφ
  cases f1
  exact ⟨_, o2, vs2, t2, rfl, k _ f2, f3, f4⟩
theorem lam_make {M : Model} {E : Value → Shared → Prop} {Q : Value → Shared → Prop} (hcl : closureFor scope X.env = pure cl) (I : Inv X pins σ H s) (hcode : X.env.code = .ref cc) (hcd : codeHdIn X.K cc P = true) (hb : X.base.BuiltinsAt X.mg P) (hdef : defaultsOf params X.env = ([], [])) (T : TabOk P lpos (X.env.qual ++ "<lambda>") H)
    (h : ∀ f c' pm ctv H' s', Inv X ((f, kla_obj "<lambda>" (X.env.qual ++ "<lambda>") params body scope cl pm c' ctv) :: pins) σ H' s' → TabOk P lpos (X.env.qual ++ "<lambda>") H' → SameX P H H' → H' c' = some (codeφ c' (X.env.qual ++ "<lambda>")) → Q (.ref f) s') :
    wpAny M A (eval (.Lambda params body scope lpos) X.env) Q E s := by
  refine kla_eval hdef ?_
  have hg : s.heap.Ns mainGlobals X.mg := I.mod.glob.keeps I.bk
  have C : CodeHd s.heap cc P := codeHd_of_K I.kIn hcd
  have hbs : s.heap.BuiltinsAt X.mg P := by
    obtain ⟨bm, o, b1, b2, b3, b4, b5, b6⟩ := hb
    exact ⟨bm, o, b1, b2, b3, b4, I.bk _ _ b5, b6⟩
  have hPL : ∀ ps, H P = some (.tbl ps) → P ≠ X.env.locals := fun ps e z => by rw [z, I.free] at e; cases e
  have hPc : ∀ ps, H P = some (.tbl ps) → ∀ x c, X.env.cells.lookup x = some c → c ≠ P := fun ps e x c h1 z => by rw [← z, I.freeC x c h1] at e; cases e
  have hgP : ∀ ps, H P = some (.tbl ps) → mainGlobals ≠ P := fun ps e z => by
    obtain ⟨o, es, ep, ho, _⟩ := I.mod.glob
    rw [← z, (I.bs _ _ ho).2] at e; cases e
  rcases T with T | ⟨c', T, Tc⟩
  · have hP : s.heap.get? P = some (tabObj #[]) := I.hok P _ T
    refine kla_makeFunction (mg := X.mg) hcl I.ok.glob hg hcode C hP trivial rfl (hgP _ T) hbs fun c' ctv h' tk hx hge hlt hrec htb => ?_
    have htb' : h'.get? P = some (tabObj #[rawInt lpos.line, rawInt lpos.col, .ref c']) := htb
    have nP : ∀ (b : Addr) (u : Obj), H b = none → b ≠ P := fun b u n z => by rw [z, T] at n; cases n
    have hcP : c' ≠ P := Nat.ne_of_gt (Nat.lt_of_lt_of_le (I.hok.lt T) hge)
    have I1 : Inv X pins σ (upd H P (.tbl #[rawInt lpos.line, rawInt lpos.col, .ref c'])) { s with heap := h', toks := tk } := by
      refine I.step (g' := s.gens) (d' := s.drawn) (ch := []) (fun _ z => nomatch z) (fun b o _ _ _ e n => hx b o (nP b o n) e) (fun b o _ _ _ e n => ⟨o.slots, hx b o (nP b o n) e⟩) (fun b o _ e n => by rw [upd_ne (nP b o n)]; exact n) (fun b o _ e => ?_)
        (fun b xs e => ?_) (fun b o u e => ?_) (fun b ps e => ?_) (fun m hm => ?_) (fun b u e => ?_) I.bare
      · by_cases hb : b = P
        · exact ⟨_, hb ▸ htb'⟩
        · exact ⟨o, hx b o hb e⟩
      · rw [upd_ne (ne_of e T (by intro z; cases z))]; exact e
      · rw [upd_ne (ne_of e T (by intro z; cases z))]; exact e
      · by_cases hb : b = P
        · subst hb
          rw [T] at e
          cases e
          exact ⟨#[rawInt lpos.line, rawInt lpos.col, .ref c'], by rw [upd_same]; rfl⟩
        · exact ⟨#[], by rw [upd_ne hb, e]; simp⟩
      · obtain ⟨o, es, ep, ho, r⟩ := hm
        exact ⟨o, es, ep, hx _ o (Ne.symm (hPL _ T)) ho, r⟩
      · by_cases hb : b = P
        · subst hb
          rw [upd_same] at e
          cases e
          exact htb'
        · rw [upd_ne hb] at e
          refine (I.hok b u e).stay (fun c v hc q => hx c v ?_ q) (fun c q => by rw [upd_ne (ne_of q T (by intro z; cases z))]; exact q) fun c xs q => by rw [upd_ne (ne_of q T (by intro z; cases z))]; exact q
          rcases hc with z | z
          · rw [z]; exact hb
          · exact ne_of z T (by intro z; cases z)
    have hcn : (upd H P (.tbl #[rawInt lpos.line, rawInt lpos.col, .ref c'])) c' = none := by rw [upd_ne hcP]; exact I.hok.fresh hge
    obtain ⟨q0, q1, q2, q3, q4, q5⟩ := I.fpOk (b := c') (H' := fun _ => none) hge rfl
    have I2 := I1.adopt (D := c') (o := codeφ c' (X.env.qual ++ "<lambda>")) hcn q1 q3 q4 q5 (objOk_code hrec)
    have I3 : Inv X pins σ _ { s with heap := h'.push (kla_obj "<lambda>" (X.env.qual ++ "<lambda>") params body scope cl ((X.mg "__name__").getD .none) c' ctv), toks := tk } := I2.kept (t' := tk) fun b o e => Heap.get?_push_of_some _ e
    have hfn : (upd (upd H P (.tbl #[rawInt lpos.line, rawInt lpos.col, .ref c'])) c' (codeφ c' (X.env.qual ++ "<lambda>"))) h'.objs.size = none := I2.hok.fresh (Nat.le_refl _)
    obtain ⟨r0, r1, r2, r3, r4, r5⟩ := I2.fpOk (b := h'.objs.size) (H' := fun _ => none) (Nat.le_refl _) rfl
    have I4 := I3.pins_of (pins' := (h'.objs.size, kla_obj "<lambda>" (X.env.qual ++ "<lambda>") params body scope cl ((X.mg "__name__").getD .none) c' ctv) :: pins) fun p hp => by
      rcases List.mem_cons.mp hp with rfl | hp
      · exact ⟨Heap.get?_push_size _ rfl, hfn, r1, r2, fun v z => by cases z⟩
      · exact I3.pin p (List.mem_append_right _ hp)
    refine h _ c' _ ctv _ _ I4 (.inr ⟨c', by rw [upd_ne (Ne.symm hcP), upd_same], upd_same⟩) (fun b o hb e => ?_) upd_same
    rw [upd_ne (fun z => by rw [z, I.hok.fresh hge] at e; cases e), upd_ne hb]; exact e
  · have hP : s.heap.get? P = some (tabObj #[rawInt lpos.line, rawInt lpos.col, .ref c']) := I.hok P _ T
    refine kla_makeFunctionHit (mg := X.mg) (cv := .ref c') hcl I.ok.glob hg hcode C hP (show TriplesOk [_, _, _] from trivial) (codeAmong_snoc [] trivial rfl) hbs fun ctv h' tk hk hsz => ?_
    have I1 : Inv X pins σ H { s with heap := h', toks := tk } := I.kept (t' := tk) hk
    have I3 : Inv X pins σ H { s with heap := h'.push (kla_obj "<lambda>" (X.env.qual ++ "<lambda>") params body scope cl ((X.mg "__name__").getD .none) c' ctv), toks := tk } := I1.kept (t' := tk) fun b o e => Heap.get?_push_of_some _ e
    obtain ⟨r0, r1, r2, r3, r4, r5⟩ := I1.fpOk (b := h'.objs.size) (H' := fun _ => none) (Nat.le_refl _) rfl
    have I4 := I3.pins_of (pins' := (h'.objs.size, kla_obj "<lambda>" (X.env.qual ++ "<lambda>") params body scope cl ((X.mg "__name__").getD .none) c' ctv) :: pins) fun p hp => by
      rcases List.mem_cons.mp hp with rfl | hp
      · exact ⟨Heap.get?_push_size _ rfl, I1.hok.fresh (Nat.le_refl _), r1, r2, fun v z => by cases z⟩
      · exact I3.pin p (List.mem_append_right _ hp)
    exact h _ c' _ ctv _ _ I4 (.inr ⟨c', T, Tc⟩) (SameX.refl _ _) Tc
def KeyR (H : Hp) (ys : List V) (lt : Nat → Nat → Bool) : Prop :=
  (∃ ns : List Int, ys = ns.map V.int ∧ lt = fun i j => decide (ns.getD i 0 < ns.getD j 0)) ∨
  (∃ (rs : List Addr) (rss : List (List Int)), ys = rs.map V.ref ∧ rs.length = rss.length ∧ (∀ (i : Nat) a r, rs[i]? = some a → rss[i]? = some r → H a = some (.tup (r.map V.int))) ∧ ((∀ r ∈ rss, r = []) ∨ (∀ r ∈ rss, r ≠ [])) ∧ lt = fun i j => HT.lexLt (rss.getD i []) (rss.getD j []))
theorem KeyR.lt {H : Hp} {ys : List V} {lt : Nat → Nat → Bool} (k : KeyR H ys lt) : Lt lt := by
  rcases k with ⟨ns, _, rfl⟩ | ⟨rs, rss, _, _, _, _, rfl⟩
  · exact HT.lt_ints ns
  · exact HT.lt_lex rss
theorem KeyR.ask {ys : List V} {lt : Nat → Nat → Bool} {ks : List Value} (k : KeyR H ys lt) (I : Inv X pins σ H s) (hu : A.units < cLine) (rv : Vals ys ks) : ∃ κ : SortKind,
    (∀ (Q : SortKind → Shared → Prop), 2 ≤ ks.length → Q κ s → wpAny (model X.prog X.w) A (keyKind' ks.toArray) Q (fun _ _ => False) s) ∧
    (∀ i j (Q : Bool → Shared → Prop), i < ks.length → j < ks.length → Q (lt i j) s → wpAny (model X.prog X.w) A (keyLt' κ (ks.getD i Value.none) (ks.getD j Value.none)) Q (fun _ _ => False) s) := by
  rcases k with ⟨ns, rfl, rfl⟩ | ⟨rs, rss, rfl, hlen, ht, hw, rfl⟩
  · have hi := intsAre_of rv
    refine ⟨oneType', fun Q h2 hQ => ?_, fun i j Q hi1 hj1 hQ => ?_⟩
    · obtain ⟨v₁, v₂, rest, rfl⟩ : ∃ v₁ v₂ rest, ks = v₁ :: v₂ :: rest := by
        match ks, h2 with
        | v₁ :: v₂ :: rest, _ => exact ⟨v₁, v₂, rest, rfl⟩
      rw [keyKind_ints hi]
      exact wpAny_pure hQ
    · obtain ⟨t1, e1⟩ := HT.ints_at hi hi1
      obtain ⟨t2, e2⟩ := HT.ints_at hi hj1
      rw [e1, e2, keyLt'_oneType]
      exact oneLt_int hQ
  · obtain rfl := vals_refs rv
    have hl : (rs.map Value.ref).length = rs.length := List.length_map _
    have tup : ∀ (i : Nat) v r, (rs.map Value.ref)[i]? = some v → rss[i]? = some r → ∃ a its, v = .ref a ∧ IsTup s.heap a its ∧ IntsAre its.toList r := fun i v r e1 e2 => by
      rw [List.getElem?_map] at e1
      obtain ⟨a, ea, rfl⟩ := Option.map_eq_some_iff.mp e1
      obtain ⟨its, r1, hT, _⟩ := I.tuple (SqT.of (ht i a r ea e2))
      exact ⟨a, its.toArray, rfl, hT, intsAre_of r1⟩
    have get : ∀ i, i < (rs.map Value.ref).length → (rs.map Value.ref)[i]? = some ((rs.map Value.ref).getD i Value.none) ∧ rss[i]? = some (rss.getD i []) := fun i hi => by
      have h2 : i < rss.length := by omega
      constructor
      · rw [List.getD_eq_getElem?_getD, List.getElem?_eq_getElem hi]; rfl
      · rw [List.getD_eq_getElem?_getD, List.getElem?_eq_getElem h2]; rfl
    rcases hw with hw | hw
    · refine ⟨oneType', fun Q h2 hQ => HT.kind_nil h2 (fun v hv => ?_) hQ, fun i j Q hi hj hQ => ?_⟩
      · obtain ⟨i, hi, ei⟩ := List.getElem_of_mem hv
        obtain ⟨g1, g2⟩ := get i hi
        obtain ⟨a, its, rfl, t, ti⟩ := tup i v _ (by rw [List.getElem?_eq_getElem hi, ei]) g2
        rw [hw _ (List.mem_of_getElem? g2)] at ti
        obtain ⟨its'⟩ := its
        cases ti
        exact ⟨a, rfl, t⟩
      · obtain ⟨g1, g2⟩ := get i hi
        obtain ⟨k1, k2⟩ := get j hj
        obtain ⟨a, its, e, t, ti⟩ := tup i _ _ g1 g2
        obtain ⟨a', its', e', t', ti'⟩ := tup j _ _ k1 k2
        rw [e, e']
        exact HT.ask_one hu t t' ti ti' hQ
    · refine ⟨tuples' true, fun Q h2 hQ => HT.kind_tups h2 (by omega) tup hw hQ, fun i j Q hi hj hQ => ?_⟩
      obtain ⟨g1, g2⟩ := get i hi
      obtain ⟨k1, k2⟩ := get j hj
      obtain ⟨a, its, e, t, ti⟩ := tup i _ _ g1 g2
      obtain ⟨a', its', e', t', ti'⟩ := tup j _ _ k1 k2
      rw [e, e']
      exact HT.ask_tups t t' ti ti' hQ
def keyed (te : TE) (ix : List Nat) (xs : List V) (σ : St) (H : Hp) (Q : VK) : Prop := xs.length < 1000 ∧
  ∃ W : Nat → List V → Hp → Prop, W 0 [] H ∧ (∀ i ys H x, xs[i]? = some x → W i ys H → te (stLam ix σ x) H fun y H' => Same H H' ∧ W (i + 1) (ys ++ [y]) H') ∧
    ∀ ys H, ys.length = xs.length → W xs.length ys H → ∃ lt, KeyR H ys lt ∧ ∀ (d : Addr) (p : List Nat), H d = none → p.Perm (List.range xs.length) → p.Pairwise (Ah lt) → Q (.ref d) (upd H d (.lst (p.map fun i => xs.getD i .non)))
theorem vals_get : ∀ {xs : List V} {us : List Value}, Vals xs us → ∀ {i : Nat} {u : Value}, us[i]? = some u → ∃ y, xs[i]? = some y ∧ RelV y u
  | _, _, .nil, _, _, h => by simp at h
  | _, _, .cons r t, 0, u, h => by cases h; exact ⟨_, rfl, r⟩
  | _, _, .cons r t, i + 1, u, h => by
    obtain ⟨y, e, q⟩ := vals_get t (i := i) (by simpa using h)
    exact ⟨y, by simpa using e, q⟩
theorem vals_perm {xs : List V} {us : List Value} (r : Vals xs us) {p : List Nat} (h : ∀ i ∈ p, i < us.length) : Vals (p.map fun i => xs.getD i .non) (p.map fun i => us.getD i Value.none) := by
  refine vals_map fun i hi => ?_
  have h1 := h i hi
  obtain ⟨y, e, q⟩ := vals_get r (List.getElem?_eq_getElem h1)
  rw [List.getD_eq_getElem?_getD, List.getD_eq_getElem?_getD, e, List.getElem?_eq_getElem h1]
  exact q
theorem sort_core {qual name : Str} {pm ctv : Value} {te : TE} {Q : VK} {l f c' : Addr} {xs : List V} (c : LamOk X N x frs ix scope cl) (hc : X.calm = true) (hroom : X.A.in1.in1.depth < recursionLimit) (hu : X.A.in1.in1.units < cLine)
    (I : Inv X ((f, kla_obj name qual params body scope cl pm c' ctv) :: pins) σ H s) (hH : H c' = some (codeφ c' qual)) (hbind : ∀ u, bindArgs (kla_fn name qual params body scope cl pm (.ref c') ctv) ⟨[u], []⟩ = pure [(x, u)])
    (he : ∀ C s H, PE (cxLam X N qual scope f c' cl X.A.in1.in1 C s H) body te)
    (hcol : ∀ (Q : List Value → Shared → Prop), (∀ vs h1 tk, Vals xs vs → (∀ b o, s.heap.get? b = some o → h1.get? b = some o) → Q vs { s with heap := h1, toks := tk }) → wpAny (model X.prog X.w) X.A.in1 (collect (.ref l)) Q (fun _ _ => False) s)
    (h : keyed te ix xs σ H Q) : wpAny (model X.prog X.w) X.A (call (.builtin "sorted") [.ref l] [(Str.ofString "key", .ref f)]) (EP X pins σ Q) X.xe s := by
  obtain ⟨h64, W, w0, wst, wfin⟩ := h
  refine HT.key_sorted (G := Vals xs) (fun vs g => by rw [← g.length]; exact h64) hcol fun vs h1 h' tk a kS e1 g k1 k2 ha hak hkS hoA => ?_
  have hvl : vs.length = xs.length := g.length.symm
  generalize hfo : kla_obj name qual params body scope cl pm c' ctv = fo at I
  have I1 : Inv X ((f, fo) :: pins) σ H { s with heap := h1, toks := tk } := I.kept (t' := tk) k1
  have I2 : Inv X ((f, fo) :: pins) σ H { s with heap := h', toks := tk } := I1.kept (t' := tk) k2
  obtain ⟨_, a1, a2, a3, a4, a5⟩ := I1.fpOk (b := a) (H' := fun _ => none) ha rfl
  have hak' : @LT.lt Nat _ a kS := hak
  have hk : h1.objs.size ≤ kS := Nat.le_of_lt (Nat.lt_of_le_of_lt ha hak')
  obtain ⟨_, b1, b2, b3, b4, b5⟩ := I1.fpOk (b := kS) (H' := fun _ => none) hk rfl
  have hka : kS ≠ a := Nat.ne_of_gt hak'
  have I3 : Inv X ((a, seqObj "list" #[] e1) :: (kS, seqObj "list" ([] : List Value).toArray 0) :: (f, fo) :: pins) σ H { s with heap := h', toks := tk } := I2.pins_of fun p hp => by
    rcases List.mem_cons.mp hp with rfl | hp
    · exact ⟨hoA, I1.hok.fresh ha, a1, a2, fun v z => by cases z⟩
    · rcases List.mem_cons.mp hp with rfl | hp
      · exact ⟨hkS, I1.hok.fresh hk, b1, b2, fun v z => by cases z⟩
      · exact I2.pin p (List.mem_append_right _ hp)
  have old : ∀ {pn : List (Addr × Obj)} {H' : Hp} {s' : Shared} {u : Obj} {it : Addr}, Inv X pn σ H' s' → H' it = none → it ≠ X.env.locals → (it ∈ X.ex ∨ X.s₀.heap.objs.size ≤ it) → (∀ x c, X.env.cells.lookup x = some c → c ≠ it) → (∀ p ∈ X.pn ++ pn, p.1 ≠ it) → ∀ g : Obj → Obj, Inv X pn σ H' { s' with heap := s'.heap.update it g } :=
    fun {pn H' s' u it} J n1 n2 n3 n4 n5 g => J.turned (t' := s'.toks) (it := it) (fun b o hb e => ((Heap.SameBut.update s'.heap it g).2 b hb).trans e) n1 n2 n3 n4 n5
  have pinF : ∀ p ∈ X.pn ++ ((f, fo) :: pins), p.1 ≠ a ∧ p.1 ≠ kS := fun p hp => ⟨a5 p hp, b5 p hp⟩
  refine HT.key_rest (fun i ks s' => ∃ ys H' e, Inv X ((a, seqObj "list" #[] e1) :: (kS, seqObj "list" ks.toArray e) :: (f, fo) :: pins) σ H' s' ∧ Vals ys ks ∧ W i ys H' ∧ H' c' = some (codeφ c' qual) ∧ ks.length = i) ⟨[], H, 0, I3, .nil, w0, hH, rfl⟩ (by omega) ?_ ?_
  · rintro i u ks s' hu' ⟨ys, H', e, J, rv, hw, hHc, hkl⟩
    refine ⟨hkl, ?_⟩
    obtain ⟨xv, ex, rx⟩ := vals_get g hu'
    have q := wst i ys H' xv ex hw
    have hfp := (J.pin (f, fo) (List.mem_append_right _ (.tail _ (.tail _ (.head _))))).1
    rw [← hfo] at hfp
    have hrec : s'.heap.CodeRec (.ref c') qual := (J.hok c' _ hHc).1
    refine wpAny_mono (lam_call c J (show X.A.in1.in1.frames = some X.stack from J.ok.frames) (J.ok.hd hc) hroom hfp hrec (hbind u) rx he q) (fun k s2 hk2 => ?_) fun _ _ z => z
    obtain ⟨y, H2, J2, ry, sm, hw2⟩ := hk2
    obtain ⟨p1, p2, p3, p4, p5⟩ := J2.pin (kS, seqObj "list" ks.toArray e) (List.mem_append_right _ (.tail _ (.head _)))
    refine ⟨e, p1, ys ++ [y], H2, ?_⟩
    have J3 : Inv X ((a, seqObj "list" #[] e1) :: (f, fo) :: pins) σ H2 s2 := J2.pins_of fun p hp => by
      rcases List.mem_cons.mp hp with rfl | hp
      · exact J2.pin _ (List.mem_append_right _ (.head _))
      · exact J2.pin p (List.mem_append_right _ (.tail _ (.tail _ hp)))
    have J4 := old (u := fo) J3 p2 b1 b3 b4 (fun p hp => by
      rcases List.mem_append.mp hp with hp | hp
      · exact (pinF p (List.mem_append_left _ hp)).2
      · rcases List.mem_cons.mp hp with rfl | hp
        · exact Ne.symm hka
        · exact (pinF p (List.mem_append_right _ hp)).2) (Obj.mapSeq (·.push k))
    obtain ⟨c2, hc2⟩ : ∃ c2, (s2.heap.update kS (Obj.mapSeq (·.push k))).get? kS = some (seqObj "list" (ks.toArray.push k) c2) := ⟨_, get?_update_seq p1 (·.push k)⟩
    have eu : ks.toArray.push k = (ks ++ [k]).toArray := by simp
    rw [eu] at hc2
    refine ⟨c2, J4.pins_of fun p hp => ?_, rv.append (.cons ry .nil), hw2, sm _ _ hHc, by simp [hkl]⟩
    rcases List.mem_cons.mp hp with rfl | hp
    · exact J4.pin _ (List.mem_append_right _ (.head _))
    · rcases List.mem_cons.mp hp with rfl | hp
      · exact ⟨hc2, p2, p3, p4, fun v z => by cases z⟩
      · exact J4.pin p (List.mem_append_right _ (.tail _ hp))
  · rintro ks s' ⟨ys, H', e, J, rv, hw, hHc, hkl⟩
    have hyl : ys.length = xs.length := by rw [rv.length, hkl, hvl]
    rw [hvl] at hw
    obtain ⟨lt, hK, fin⟩ := wfin ys H' hyl hw
    obtain ⟨κ, ask1, ask2⟩ := hK.ask (A := X.A.in1.in1) J hu rv
    obtain ⟨p1, p2, p3, p4, p5⟩ := J.pin (kS, seqObj "list" ks.toArray e) (List.mem_append_right _ (.tail _ (.head _)))
    obtain ⟨r1, r2, r3, r4, r5⟩ := J.pin (a, seqObj "list" #[] e1) (List.mem_append_right _ (.head _))
    refine ⟨e, p1, HT.key_end hka r1 p1 hkl (by omega) hK.lt (fun Q' h2 hQ => ask1 Q' (by omega) hQ) (fun i j Q' hi hj hQ => ask2 i j Q' (by omega) (by omega) hQ) fun p hp hs => ⟨rfl, ?_⟩⟩
    rw [hvl] at hp
    have J0 : Inv X pins σ H' s' := J.pins_of fun p hp => J.pin p (List.mem_append_right _ (.tail _ (.tail _ (.tail _ hp))))
    have hpins : ∀ it, (∀ p ∈ X.pn ++ ((f, fo) :: pins), p.1 ≠ it) → ∀ p ∈ X.pn ++ pins, p.1 ≠ it := fun it hh p hp => hh p (by
      rcases List.mem_append.mp hp with hp | hp
      · exact List.mem_append_left _ hp
      · exact List.mem_append_right _ (.tail _ hp))
    have J1 := old (u := fo) J0 p2 b1 b3 b4 (hpins kS b5) (Obj.mapSeq fun _ => (#[] : Array Value))
    have J2 := old (u := fo) J1 r2 a1 a3 a4 (hpins a a5) (Obj.mapSeq fun _ => List.toArray (p.map fun i => vs.getD i Value.none))
    have oa : (s'.heap.update kS (Obj.mapSeq fun _ => (#[] : Array Value))).get? a = some (seqObj "list" #[] e1) := ((Heap.SameBut.update s'.heap kS _).2 a (Ne.symm hka)).trans r1
    obtain ⟨c2, hc2⟩ : ∃ c2, ((s'.heap.update kS (Obj.mapSeq fun _ => (#[] : Array Value))).update a (Obj.mapSeq fun _ => List.toArray (p.map fun i => vs.getD i Value.none))).get? a = some (seqObj "list" (List.toArray (p.map fun i => vs.getD i Value.none)) c2) := ⟨_, get?_update_seq oa _⟩
    have hpl := hp.length_eq
    rw [List.length_range] at hpl
    have J3 := J2.adopt (D := a) (o := .lst (p.map fun i => xs.getD i .non)) r2 a1 a3 a4 (hpins a a5) ⟨by rw [List.length_map, hpl, sizeLine_eq]; omega, _, c2, vals_perm g fun i hi => by rw [hvl]; exact List.mem_range.mp (hp.mem_iff.mp hi), hc2⟩
    exact ⟨.ref a, _, J3, rfl, fin a p r2 hp hs⟩
def tSortKR (P : Addr) (lpos : Pos) (qual : Str) (ix : List Nat) (te : TE) (t : TA) : TE := fun σ H Q => t σ H fun vs H1 => ∃ n : Nat, vs = [.int n] ∧ n < 1000 ∧ TabOk P lpos qual H1 ∧ ∀ H2, SameX P H1 H2 → TabOk P lpos qual H2 → keyed te ix (natsV 0 n) σ H2 Q
section
variable {te : TE} {t : TA} {p p2 pos pos2 kpos : Pos} {e a : Expr} {k : Nat} {qual : Str}
theorem kw_lam {E : Value → Shared → Prop} {Q : List Value → Shared → Prop} {lam : Expr} (h : wpAny (model X.prog X.w) X.A (eval lam X.env) (fun v s' => Q [v] s') E s) :
    wpAny (model X.prog X.w) X.A (evalAll ((backToKw pos (keywordEach [⟨some "key", lam, kpos⟩] X.env)).map (·.2))) Q E s := by
  show wpAny _ _ (evalAll ((do let v ← eval lam X.env; standAt pos; pure v) :: [])) _ _ s
  exact wpAny_evalAll_cons (wpAny_bind (wpAny_mono h (fun v s' hq => wpAny_bind (wpAny_standAt (wpAny_pure (wpAny_evalAll_nil hq)))) fun _ _ z => z))
theorem room_sort (hr : Room k X.A) : X.A.in1.in1.depth < recursionLimit ∧ X.A.in1.in1.units < cLine := ⟨hr.depth, by have := hr.units; show X.A.units + 1 + 1 < _; omega⟩
theorem qe_sortKR (c : LamOk X N x frs ix scope cl) (hc : X.calm = true) (hr : Room k X.A) (hg : Gl X "sorted") (hm : X.mg "sorted" = none) (hgr : Gl X "range") (hmr : X.mg "range" = none) (hcode : X.env.code = .ref cc) (hcd : codeHdIn X.K cc P = true) (hb : X.base.BuiltinsAt X.mg P) (ha : QA X [a] t)
    (he : ∀ A f c' C s H, QE (cxLam X N (X.env.qual ++ "<lambda>") scope f c' cl A C s H) body te) (hbind : ∀ u pm c' ctv, bindArgs (kla_fn "<lambda>" (X.env.qual ++ "<lambda>") params body scope cl pm (.ref c') ctv) ⟨[u], []⟩ = pure [(x, u)])
    (hdef : defaultsOf params X.env = ([], []) := by rfl) (hn : nstar a = true := by rfl) : QE X (.Call (.Name "sorted" p) [.Call (.Name "range" p2) [a] [] pos2] [⟨some "key", .Lambda params body scope lpos, kpos⟩] pos) (tSortKR P lpos (X.env.qual ++ "<lambda>") ix te t) := by
  refine ⟨fun pins s σ H Q I h => ?_⟩
  refine wpAny_Call_Name_kw (ld_blt I hg hm (by decide +kernel : bootBuiltins "sorted" = some (.builtin "sorted")) ?_)
  refine callWith_kw ?_ (by rfl) (by rfl)
  refine Calls.spliced_cons (Call_ (ld_blt I hgr hmr boot_range (PyProof.Rows.callWith_type1 (thn (ha.out pos2 pins s σ H _ I h) fun us s1 hu => ?_) (star_cons hn) rfl)))
  obtain ⟨vs, H1, I1, r1, n, rfl, hn64, T1, q⟩ := hu
  obtain ⟨u, rfl, ru⟩ := vals1 r1
  obtain ⟨tt, rfl⟩ := ru
  refine call_range_1 (Calls.spliced_nil ?_)
  obtain ⟨w0, w1, w2, w3, w4, w5⟩ := I1.fpOk (b := s1.heap.objs.size) (H' := fun _ => none) (Nat.le_refl _) rfl
  have I1' : Inv X ((s1.heap.objs.size, { cls := .type "range", data := .fields #[.int 0 s1.toks, .int n tt, .int 1 (s1.toks + 1)] }) :: pins) σ H1 { s1 with heap := s1.heap.push { cls := .type "range", data := .fields #[.int 0 s1.toks, .int n tt, .int 1 (s1.toks + 1)] }, toks := s1.toks + 1 + 1 } := by
    have K := I1.kept (h' := s1.heap.push { cls := .type "range", data := .fields #[.int 0 s1.toks, .int n tt, .int 1 (s1.toks + 1)] }) (t' := s1.toks + 1 + 1) fun b o e => Heap.get?_push_of_some _ e
    refine K.pins_of fun p hp => ?_
    rcases List.mem_cons.mp hp with rfl | hp
    · exact ⟨Heap.get?_push_size _ rfl, I1.hok.fresh (Nat.le_refl _), w1, w2, fun v z => by cases z⟩
    · exact K.pin p (List.mem_append_right _ hp)
  refine kw_lam (lam_make c.clos I1' hcode hcd hb hdef T1 fun f c' pm ctv H2 s2 I2 T2 sx hc2 => ?_)
  obtain ⟨g1, g2⟩ := room_sort hr
  refine thn (sort_core (l := s1.heap.objs.size) (xs := natsV 0 n) c hc g1 g2 I2 hc2 (fun u => hbind u pm c' ctv) (fun C s H => (he _ _ _ C s H).out) (fun Q' hQ => ?_) (q H2 sx T2)) fun v s3 hv => ?_
  · have hrg := (I2.pin (s1.heap.objs.size, { cls := .type "range", data := .fields #[.int 0 s1.toks, .int n tt, .int 1 (s1.toks + 1)] }) (List.mem_append_right _ (.tail _ (.head _)))).1
    refine HT.collect_range (n := n) (I2.ok.hd hc) hrg (small_one (by omega) (by omega) (by omega) (by omega)) (by rw [rangeSize_one]; split <;> omega) (by omega) fun h' tk acc k hit => hQ _ h' tk ?_ k
    obtain ⟨hz, hit⟩ := hit
    refine vals_of (by simp [natsV, hz]) fun k x w a b => ?_
    have hk' : k < n := by have := (List.getElem?_eq_some_iff.mp a).1; simpa [natsV] using this
    unfold natsV at a
    rw [List.getElem?_map, List.getElem?_range hk'] at a
    obtain rfl := Option.some.inj a
    obtain ⟨t2, rfl⟩ := hit k w (by simpa using b)
    refine ⟨t2, ?_⟩
    rw [Int.mul_one, Int.natCast_add]; rfl
  · obtain ⟨y, H', J, ry, hq⟩ := hv
    exact ⟨y, H', J.pins_of fun p hp => J.pin p (List.mem_append_right _ (.tail _ hp)), ry, hq⟩
end
end
end L2

namespace L2
open PySem PySem.Spec PyProof.Rows PySem.W
theorem law_callT {P : Program} {w : World} {K : PySem.W.Frag} {mg mb : Str → Option Value} {CX : CXT} {k : Nat} {fa a c Pt : Addr} {fd : FuncData} {x : Str} {sp : Sp} {s₁ : Shared} {vs : List Value} {ns : List Int}
    (KX : K.In s₁.heap) (hns : s₁.heap.Ns mainGlobals mg) (hb : s₁.heap.Ns builtinsNs mb) (hbb : ∀ x : Str, x ≠ "__name__" → mb x = bootBuiltins x) (hlim : s₁.heap.NoLimit) (hg : s₁.gens = #[])
    (hbm : ∃ bm ob, mg "__builtins__" = some (.ref bm) ∧ bm ≠ builtinsNs ∧ s₁.heap.get? bm = some ob ∧ ob.cls = .type "module" ∧ ob.dict = some builtinsNs ∧ ob.data = .plain)
    (hcd : CodeHd s₁.heap c Pt) (hT : s₁.heap.get? Pt = some (tabObj #[])) (hKP : K.lookup Pt = none)
    (ha : s₁.heap.get? a = some { cls := .type "list", data := .seq vs.toArray }) (hi : IntsAre vs ns) (hl : ns.length ≤ sizeLine) (hr : Room k callerA)
    (F : ∀ base : Heap, K.In base → base.Ns mainGlobals mg → base.BuiltinsAt mg Pt → FnOk P w K mg base CX k fa fd [x] sp) (hbind : ∀ (s : Shared) (u : Value), BindsTo s fd ⟨[u], []⟩ [(x, u)])
    (hsp : ∀ H : Hp, H Pt = some (.tbl #[]) → SqL K H a (ns.map V.int) → sp [.ref a] H (fun v _ => v = .bl true) fun _ _ _ => False)
    (hCX : ∀ H e s', CX [] H s₁ (fun _ _ _ => False) e s' → False) :
    codeAny (model P w) callerA (.call (.ref fa) ⟨[.ref a], []⟩) (fun r s' => r = .ok (.ret (.bool true)) ∧ OldK s₁.heap s'.heap ∧ s'.os = s₁.os ∧ AllBare s'.gens) s₁ := by
  have rv := vals_ints hi
  have lenV := hi.length
  have haP : a ≠ Pt := fun z => by rw [z, hT] at ha; cases ha
  have core : ∀ H : Hp, H Pt = some (.tbl #[]) → (∀ b, H b = none ∨ b = Pt ∨ ∃ o xs, H b = some (.frz o (.lst xs))) → SqL K H a (ns.map V.int) → HOk P w H s₁.heap → (∀ b, H b ≠ none → b = a ∨ b = Pt) → (H a ≠ none → K.lookup a = none) →
      codeAny (model P w) callerA (.call (.ref fa) ⟨[.ref a], []⟩) (fun r s' => r = .ok (.ret (.bool true)) ∧ OldK s₁.heap s'.heap ∧ s'.os = s₁.os ∧ AllBare s'.gens) s₁ := by
    intro H hP hO hS hok hA hK
    have base_of : ∀ {b : Addr} {o : Obj}, s₁.heap.get? b = some o → H b = none → (hidT s₁.heap H).get? b = some o := fun e n => hidT_get e n
    have noA : ∀ {b : Addr} {o : Obj}, s₁.heap.get? b = some o → (∀ its n, o.data ≠ .seq its n) → (∀ fs, o.data ≠ .fields fs) → H b = none := fun {b o} e d1 d2 => by
      cases q : H b with
      | none => rfl
      | some u =>
        rcases hA b (by rw [q]; simp) with e' | e'
        · subst e'
          rw [ha] at e; cases e
          exact absurd rfl (d1 _ _)
        · subst e'
          rw [hT] at e; cases e
          exact absurd rfl (d2 _)
    have nsK : ∀ {b : Addr} {m : Str → Option Value}, s₁.heap.Ns b m → (hidT s₁.heap H).Ns b m := fun {b m} ⟨o, es, ep, e, d, r⟩ => ⟨o, es, ep, base_of e (noA e (fun _ _ z => by rw [d] at z; cases z) (fun _ z => by rw [d] at z; cases z)), d, r⟩
    have hKb : K.In (hidT s₁.heap H) := fun b o e => base_of (KX b o e) (by
      cases q : H b with
      | none => rfl
      | some u =>
        rcases hA b (by rw [q]; simp) with e' | e'
        · subst e'
          rw [hK (by rw [q]; simp)] at e; cases e
        · subst e'
          rw [hKP] at e; cases e)
    have hM : Mod K mg (hidT s₁.heap H) := ⟨hKb, nsK hns, ⟨mb, nsK hb, hbb⟩, let ⟨mc, h1, h2⟩ := hlim; ⟨mc, nsK h1, h2⟩⟩
    have hBA : (hidT s₁.heap H).BuiltinsAt mg Pt := by
      obtain ⟨bm, ob, b1, b2, b3, b4, b5, b6⟩ := hbm
      refine ⟨bm, ob, b1, b2, fun z => ?_, fun z => ?_, base_of b3 (noA b3 (fun _ _ z => by rw [b6] at z; cases z) (fun _ z => by rw [b6] at z; cases z)), b4, b5, b6⟩
      · obtain ⟨o, es, ep, e, d, _⟩ := hns
        rw [z, e] at b3; cases b3; rw [d] at b6; cases b6
      · rw [z, hT] at b3; cases b3; cases b6
    have e0 : Env0 P w K mg (hidT s₁.heap H) callerA [] s₁ H := ⟨rfl, hM, fun b o e => of_hidT e, Nat.le_of_eq (hidT_size _ _), trivial, fun b hb => absurd (show b ∈ ([] : List Addr) from hb) (by simp), hok, .of_eq hg⟩
    refine codeAny_mono ((F _ hKb (nsK hns) hBA).run callerA [] s₁ H ⟨[.ref a], []⟩ [.ref a] [.ref a] _ _ hr e0 (hbind s₁ (.ref a)) (.cons rfl .nil) (hsp H hP hS)) fun r s' h => ?_
    cases r with
    | error e => exact (hCX H e s' h).elim
    | ok fl =>
      cases fl with
      | next => exact False.elim h
      | brk => exact False.elim h
      | cont => exact False.elim h
      | ret u =>
        obtain ⟨v, H', os, bare, un, hok', r', q⟩ := h
        have q' : v = .bl true := q
        subst q'
        obtain rfl : u = Value.bool true := r'
        refine ⟨rfl, ⟨fun b o e => ?_, fun b o e => un.there b o e (by simp)⟩, os, bare⟩
        cases q : H b with
        | none => exact .inl (un.keep b o e q (by intro z; exact absurd (show b ∈ ([] : List Addr) from z) (by simp)) (by simp))
        | some u =>
          rcases hO b with z | z | ⟨ob, xs, z⟩
          · rw [q] at z; cases z
          · subst z
            rw [hT] at e
            cases e
            obtain ⟨more, em⟩ := un.tbls b #[] hP
            exact .inr (.inl ⟨(hcd.tab hT).isCodeTable, rfl, #[], more, rfl, hok' b _ em⟩)
          · have z2 := un.frzs b ob _ z
            obtain ⟨e1, _⟩ := hok b _ z
            obtain ⟨e2, _⟩ := hok' b _ z2
            rw [e] at e1; cases e1
            exact .inl e2
  cases hk : K.lookup a with
  | some o =>
    have e := KX a o hk
    rw [ha] at e
    cases e
    refine core (fun b => if b = Pt then some (.tbl #[]) else none) (if_pos rfl) (fun b => ?_) (.inr ⟨_, vs.toArray, _, hk, rfl, rfl, rfl, by rw [List.size_toArray, lenV]; exact hl, by simpa using rv⟩) (fun b u z => ?_) (fun b z => ?_) (fun z => absurd (if_neg haP) z)
    · by_cases hb : b = Pt
      · exact .inr (.inl hb)
      · exact .inl (if_neg hb)
    · by_cases hb : b = Pt
      · have z' := (if_pos hb).symm.trans z
        cases z'
        subst hb
        exact hT
      · have z' := (if_neg hb).symm.trans z
        cases z'
    · by_cases hb : b = Pt
      · exact .inr hb
      · exact absurd (if_neg hb) z
  | none =>
    have e1 : ∀ b, (if b = Pt then some (.tbl #[]) else if b = a then some (.frz { cls := .type "list", data := .seq vs.toArray } (.lst (ns.map V.int))) else none : Option HO) = if b = Pt then some (.tbl #[]) else if b = a then some (.frz { cls := .type "list", data := .seq vs.toArray } (.lst (ns.map V.int))) else none := fun b => rfl
    have ea : (if a = Pt then some (.tbl #[]) else if a = a then some (.frz { cls := .type "list", data := .seq vs.toArray } (.lst (ns.map V.int))) else none : Option HO) = some (.frz { cls := .type "list", data := .seq vs.toArray } (.lst (ns.map V.int))) := by rw [if_neg haP, if_pos rfl]
    refine core (fun b => if b = Pt then some (.tbl #[]) else if b = a then some (.frz { cls := .type "list", data := .seq vs.toArray } (.lst (ns.map V.int))) else none) (if_pos rfl) (fun b => ?_) (.inl (.inr ⟨{ cls := .type "list", data := .seq vs.toArray }, ea⟩)) (fun b u z => ?_) (fun b z => ?_) (fun _ => hk)
    · by_cases hb : b = Pt
      · exact .inr (.inl hb)
      · by_cases hb2 : b = a
        · exact .inr (.inr ⟨_, _, by rw [hb2]; exact ea⟩)
        · exact .inl (by show (if b = Pt then _ else _) = _; rw [if_neg hb, if_neg hb2])
    · by_cases hb : b = Pt
      · have z' := (if_pos hb).symm.trans z
        cases z'
        subst hb
        exact hT
      · by_cases hb2 : b = a
        · subst hb2
          have z' := ea.symm.trans z
          cases z'
          exact ⟨ha, by rw [List.length_map]; exact hl, vs, _, rv, ha⟩
        · have z' : (if b = Pt then some (.tbl #[]) else if b = a then some (.frz { cls := .type "list", data := .seq vs.toArray } (.lst (ns.map V.int))) else none : Option HO) = some u := z
          rw [if_neg hb, if_neg hb2] at z'
          cases z'
    · by_cases hb : b = Pt
      · exact .inr hb
      · by_cases hb2 : b = a
        · exact .inl hb2
        · exact absurd (show (if b = Pt then some (.tbl #[]) else if b = a then some (.frz { cls := .type "list", data := .seq vs.toArray } (.lst (ns.map V.int))) else none : Option HO) = none by rw [if_neg hb, if_neg hb2]) z
theorem look_tab {K : PySem.W.Frag} {h : Heap} {Pt : Addr} (X : K.In h) (hT : h.get? Pt = some (tabObj #[])) (hK : noTabs K = true) : K.lookup Pt = none := by
  cases e : K.lookup Pt with
  | none => rfl
  | some o =>
    have e2 := X _ _ e
    rw [hT] at e2
    cases e2
    exact absurd (List.all_eq_true.mp hK _ (mem_of_lookupK e)) Bool.false_ne_true
theorem walk_ofT {l : PySem.W.OpenLaw} {n k : Nat} {q : Program} {loose : List Str} {XP : (Str → Option Value) → Heap → Prop} {YP : World → Heap → Prop} {d : DefRec} {K : Params → PySem.W.Frag} {CX : World → CXT} {sp : World → Addr → Sp} {x : Str} {Pt : Addr}
    (hn : l.most = some n) (hn2 : n ≤ sizeLine) (hdf : d.params.defaults = []) (hr : Room k callerA)
    (hY : ∀ (w : World) (h : Heap), YP w h → (K w.params).In h)
    (hYT : ∀ (w : World) (h : Heap), YP w h → h.get? Pt = some (tabObj #[])) (hnt : ∀ w : World, noTabs (K w.params) = true)
    (F : ∀ (w : World) (mg : Str → Option Value) (fa : Addr) (h : Heap), (K w.params).In h → h.Ns mainGlobals mg → mg d.name = some (.ref fa) →
      ∃ fd : FuncData, (∃ c, codeHdIn (K w.params) c Pt = true) ∧ (∀ (s : Shared) (u : Value), BindsTo s fd ⟨[u], []⟩ [(x, u)]) ∧
        ∀ base : Heap, (K w.params).In base → base.Ns mainGlobals mg → base.BuiltinsAt mg Pt → FnOk l.prog w (K w.params) mg base (CX w) k fa fd [x] (sp w Pt))
    (hsp : ∀ (w : World) (H : Hp) (a : Addr) (ns : List Int), ns.length ≤ n → H Pt = some (.tbl #[]) → SqL (K w.params) H a (ns.map V.int) → sp w Pt [.ref a] H (fun v _ => v = .bl true) fun _ _ _ => False)
    (hCX : ∀ (w : World) (H : Hp) (s : Shared) (e : Value) (s' : Shared), CX w [] H s (fun _ _ _ => False) e s' → False) :
    PySem.W.WalkO q loose XP YP l.row.toRowW d [] (fun f vs => PySem.call f vs) := by
  refine Att.attach_call hn hdf fun w s₀ s₁ mg mb fa o pm cd doc a vs ns G Y ho hd hcd hmg hobj hints hlen hg => ?_
  have KX := hY w _ Y
  obtain ⟨fd, ⟨c, hchd⟩, hb, hF⟩ := F w mg fa _ KX G.T.g hmg
  have hT := hYT w _ Y
  have hC := codeHd_of_K KX hchd
  exact law_callT KX G.T.g G.T.b G.T.builtins G.T.nolimit hg G.T.bmain hC hT (look_tab KX hT (hnt w)) hobj hints (Nat.le_trans hlen hn2) hr hF hb (fun H hP hS => hsp w H a ns hlen hP hS) fun H e s' => hCX w H s₁ e s'
section
variable {P : Program} {w : World} {K : PySem.W.Frag} {mg : Str → Option Value} {base : Heap}
theorem Fun.okC {x qual : Str} {st : Stmt} {f cc : Addr} {fd : FuncData} {N ps : List Str} {k : Nat} {sp : Sp} (F : Fun K x qual st f fd) (hcc : fd.code = .ref cc) (S : FnScope N ps (defScope st)) (len : ∀ vs H Q E, sp vs H Q E → vs.length = ps.length)
    (hbody : ∀ (A : Around) (outer : List Env) (s : Shared) (H : Hp) (vs : List V) (Q : VK) (E : XK), Room k (A.deeper (envOfC qual (defScope st) s.heap.objs.size f (.ref cc))) → sp vs H Q E →
      ∃ t, QB (cxOf CX0 P w K mg base N qual (defScope st) f (.ref cc) A outer s H E).nox (defBody st) t ∧ t { nx := fun _ H' => Q .non H', rt := Q } (start N vs) H) : FnOk P w K mg base CX0 (k + 1) f fd ps sp := by
  obtain ⟨oc, od, kV, doc, pm, an, cdv, ct, osl, rfl, lk, hcd⟩ := F.ex
  have e : cdv = .ref cc := hcc
  subst e
  refine fn_of lk hcd S len fun A outer s H vs Q E hr hsp => ?_
  obtain ⟨t, h, q⟩ := hbody A outer s H vs Q E hr hsp
  exact ⟨t, h.out.nox, q⟩
end
end L2

namespace L2
open PySem PySem.Spec PyProof.Rows PySem.W
section
variable {X : Cx} {o : Expr} {to : TE} {pos apos cpos : Pos}
end
end L2

namespace L2
open PySem PySem.Spec PyProof.Rows
end L2

namespace L2
open PySem PySem.Spec PyProof.Rows
section
variable {X : Cx}
end
inductive Kd (H : Hp) : V → Prop where
  | non : Kd H .non
  | bl (b : Bool) : Kd H (.bl b)
  | int (i : Int) : Kd H (.int i)
  | str (y : Str) : Kd H (.str y)
  | lst {a : Addr} {xs : List V} (e : H a = some (.lst xs)) : Kd H (.ref a)
  | tup {a : Addr} {xs : List V} (e : H a = some (.tup xs)) : Kd H (.ref a)
section
variable {K : PySem.W.Frag} {H : Hp} {Q : VK}
theorem in_isiNB (h : Q (.bl false) H) : rIsi K [.non, .ty "bool"] H Q := ⟨_, _, _, _, rfl, .non, rfl, h⟩
theorem in_isiLB {a : Addr} {xs : List V} (e : H a = some (.lst xs)) (h : Q (.bl false) H) : rIsi K [.ref a, .ty "bool"] H Q := ⟨_, _, _, _, rfl, .lst e, rfl, h⟩
theorem in_isiTB {a : Addr} {xs : List V} (e : H a = some (.tup xs)) (h : Q (.bl false) H) : rIsi K [.ref a, .ty "bool"] H Q := ⟨_, _, _, _, rfl, .tup e, rfl, h⟩
theorem in_isiXB {x : V} (k : Kd H x) (hx : ∀ b, x ≠ .bl b) (h : Q (.bl false) H) : rIsi K [x, .ty "bool"] H Q := by
  cases k with
  | non => exact in_isiNB h
  | bl b => exact absurd rfl (hx b)
  | int i => exact in_isiIB h
  | str y => exact in_isiSB h
  | lst e => exact in_isiLB e h
  | tup e => exact in_isiTB e h
end
end L2

namespace L2
open PySem PySem.Spec PyProof.Rows
section
variable {H : Hp} {n w : Nat}
end
end L2

namespace L2
open PySem PySem.Spec PyProof.Rows
section
variable {H H1 H2 : Hp}
end
section
variable {H H1 : Hp} {p a : Addr} {o : HO}
end
section
variable {H H1 : Hp} {x : V} {os : List Nat} {a : Addr} {xs : List V}
end
end L2

namespace L2
open PySem PySem.Spec PyProof.Rows
theorem Rk.tr0 {rss : List (List Nat)} {c i j k : Nat} (h1 : Rk rss c i j) (h2 : Rk rss c j k) : Rk rss c i k := by
  unfold Rk at *
  rcases h1 with h1 | ⟨e1, l1⟩
  · rcases h2 with h2 | ⟨e2, l2⟩
    · exact .inl (lxt_trans h1 h2)
    · rw [e2] at h1; exact .inl h1
  · rcases h2 with h2 | ⟨e2, l2⟩
    · rw [← e1] at h2; exact .inl h2
    · exact .inr ⟨e1.trans e2, by omega⟩
structure Seg (rss : List (List Nat)) (f l : Nat) (x : List Nat) : Prop where
  perm : x.Perm (List.range' f (l - f))
  sort : x.Pairwise (Rk rss 0)
section
variable {rss : List (List Nat)} {f m l : Nat} {x y : List Nat}
theorem Seg.len (h : Seg rss f l x) : x.length = l - f := by have := h.perm.length_eq; simpa using this
theorem Seg.mem (h : Seg rss f l x) {i : Nat} (hi : i ∈ x) : f ≤ i ∧ i < l := by
  have := h.perm.mem_iff.mp hi
  rw [List.mem_range'_1] at this
  omega
theorem Seg.both (hx : Seg rss f m x) (hy : Seg rss m l y) (h1 : f ≤ m) (h2 : m ≤ l) : (x ++ y).Perm (List.range' f (l - f)) := by
  have e : List.range' f (l - f) = List.range' f (m - f) ++ List.range' m (l - m) := by
    rw [show l - f = (m - f) + (l - m) by omega, ← List.range'_append_1, show f + (m - f) = m by omega]
  rw [e]
  exact hx.perm.append hy.perm
end
section
variable {rss : List (List Nat)}
end
inductive Mgd (r1 r2 : List (List Nat)) : Nat → Nat → List (Nat × Nat) → Prop where
  | nil : Mgd r1 r2 0 0 []
  | one {i j : Nat} {ws : List (Nat × Nat)} (h : Mgd r1 r2 i j ws) (hi : i < r1.length) (c : j = r2.length ∨ lxt (r2.getD j []) (r1.getD i []) = false) : Mgd r1 r2 (i + 1) j (ws ++ [(0, i)])
  | two {i j : Nat} {ws : List (Nat × Nat)} (h : Mgd r1 r2 i j ws) (hj : j < r2.length) (c : i = r1.length ∨ lxt (r2.getD j []) (r1.getD i []) = true) : Mgd r1 r2 i (j + 1) (ws ++ [(1, j)])
def pick (xs ys : List Nat) (w : Nat × Nat) : Nat := if w.1 = 0 then xs.getD w.2 0 else ys.getD w.2 0
theorem pw_getD {rss : List (List Nat)} {xs : List Nat} (h : xs.Pairwise (Rk rss 0)) {i k : Nat} (hik : i < k) (hk : k < xs.length) : Rk rss 0 (xs.getD i 0) (xs.getD k 0) := by
  rw [List.pairwise_iff_getElem] at h
  have := h i k (by omega) hk hik
  rw [List.getD_eq_getElem?_getD, List.getD_eq_getElem?_getD, List.getElem?_eq_getElem (by omega : i < xs.length), List.getElem?_eq_getElem hk]
  exact this
theorem getD_mapR {rss : List (List Nat)} {xs : List Nat} {i : Nat} (h : i < xs.length) : (xs.map fun x => rss.getD x []).getD i [] = rss.getD (xs.getD i 0) [] := by
  rw [List.getD_eq_getElem?_getD, List.getElem?_map, List.getD_eq_getElem?_getD (l := xs), List.getElem?_eq_getElem h]; rfl
theorem getD_memN {xs : List Nat} {i : Nat} (h : i < xs.length) : xs.getD i 0 ∈ xs := by
  rw [List.getD_eq_getElem?_getD, List.getElem?_eq_getElem h]; exact List.getElem_mem h
theorem take_snocN {xs : List Nat} {i : Nat} (h : i < xs.length) : xs.take (i + 1) = xs.take i ++ [xs.getD i 0] := by
  rw [List.take_add_one, List.getD_eq_getElem?_getD, List.getElem?_eq_getElem h]; rfl
theorem Mgd.inv {rss : List (List Nat)} {xs ys : List Nat} {f m l i j : Nat} {ws : List (Nat × Nat)} (hx : Seg rss f m xs) (hy : Seg rss m l ys)
    (h : Mgd (xs.map fun x => rss.getD x []) (ys.map fun x => rss.getD x []) i j ws) : i ≤ xs.length ∧ j ≤ ys.length ∧ (ws.map (pick xs ys)).Perm (xs.take i ++ ys.take j) ∧ (ws.map (pick xs ys)).Pairwise (Rk rss 0) ∧
      ∀ z ∈ ws.map (pick xs ys), (∀ k, i ≤ k → k < xs.length → Rk rss 0 z (xs.getD k 0)) ∧ (∀ k, j ≤ k → k < ys.length → Rk rss 0 z (ys.getD k 0)) := by
  induction h with
  | nil => exact ⟨Nat.zero_le _, Nat.zero_le _, by simp, List.Pairwise.nil, fun z hz => nomatch hz⟩
  | @one i j ws h hi c ih =>
    obtain ⟨h1, h2, h3, h4, h5⟩ := ih
    rw [List.length_map] at hi c
    have ez : (ws ++ [(0, i)]).map (pick xs ys) = ws.map (pick xs ys) ++ [xs.getD i 0] := by rw [List.map_append]; rfl
    have ryj : j < ys.length → Rk rss 0 (xs.getD i 0) (ys.getD j 0) := fun hj => by
      rcases c with c | c
      · omega
      · rw [getD_mapR hj, getD_mapR hi] at c
        unfold Rk
        rw [List.drop_zero, List.drop_zero]
        rcases lxt_tri (rss.getD (xs.getD i 0) []) (rss.getD (ys.getD j 0) []) with q | q | q
        · exact .inl q
        · exact .inr ⟨q, by have a := hx.mem (getD_memN hi); have b := hy.mem (getD_memN hj); omega⟩
        · rw [q] at c; cases c
    rw [ez]
    refine ⟨hi, h2, ?_, ?_, fun z hz => ?_⟩
    · rw [take_snocN hi]
      refine (h3.append_right [xs.getD i 0]).trans ?_
      rw [List.append_assoc, List.append_assoc]
      exact List.Perm.append_left _ List.perm_append_comm
    · rw [List.pairwise_append]
      exact ⟨h4, List.pairwise_singleton _ _, fun a ha b hb => by rw [List.mem_singleton.mp hb]; exact (h5 a ha).1 i (Nat.le_refl _) hi⟩
    · rcases List.mem_append.mp hz with hz | hz
      · exact ⟨fun k a b => (h5 z hz).1 k (by omega) b, (h5 z hz).2⟩
      · rw [List.mem_singleton.mp hz]
        refine ⟨fun k a b => pw_getD hx.sort (by omega) b, fun k a b => ?_⟩
        have := ryj (by omega)
        rcases Nat.lt_or_ge j k with g | g
        · exact this.tr0 (pw_getD hy.sort g b)
        · rw [show k = j by omega]; exact this
  | @two i j ws h hj c ih =>
    obtain ⟨h1, h2, h3, h4, h5⟩ := ih
    rw [List.length_map] at hj c
    have ez : (ws ++ [(1, j)]).map (pick xs ys) = ws.map (pick xs ys) ++ [ys.getD j 0] := by rw [List.map_append]; rfl
    have rxi : i < xs.length → Rk rss 0 (ys.getD j 0) (xs.getD i 0) := fun hi => by
      rcases c with c | c
      · omega
      · rw [getD_mapR hj, getD_mapR hi] at c
        exact .inl (by rw [List.drop_zero, List.drop_zero]; exact c)
    rw [ez]
    refine ⟨h1, hj, ?_, ?_, fun z hz => ?_⟩
    · rw [take_snocN hj, ← List.append_assoc]
      exact h3.append_right _
    · rw [List.pairwise_append]
      exact ⟨h4, List.pairwise_singleton _ _, fun a ha b hb => by rw [List.mem_singleton.mp hb]; exact (h5 a ha).2 j (Nat.le_refl _) hj⟩
    · rcases List.mem_append.mp hz with hz | hz
      · exact ⟨(h5 z hz).1, fun k a b => (h5 z hz).2 k (by omega) b⟩
      · rw [List.mem_singleton.mp hz]
        refine ⟨fun k a b => ?_, fun k a b => pw_getD hy.sort (by omega) b⟩
        have := rxi (by omega)
        rcases Nat.lt_or_ge i k with g | g
        · exact this.tr0 (pw_getD hx.sort g b)
        · rw [show k = i by omega]; exact this
theorem Mgd.seg {rss : List (List Nat)} {xs ys : List Nat} {f m l : Nat} {ws : List (Nat × Nat)} (hx : Seg rss f m xs) (hy : Seg rss m l ys) (h1 : f ≤ m) (h2 : m ≤ l)
    (h : Mgd (xs.map fun x => rss.getD x []) (ys.map fun x => rss.getD x []) xs.length ys.length ws) : Seg rss f l (ws.map (pick xs ys)) := by
  obtain ⟨_, _, p, s, _⟩ := h.inv hx hy
  rw [List.take_length, List.take_length] at p
  exact ⟨p.trans (hx.both hy h1 h2), s⟩
end L2

namespace L2
open PySem PySem.Spec PyProof.Rows
section
variable {X : Cx} {pos : Pos}
def tPar3 (i j k : Nat) (ta : TA) : TS := fun D σ H => ta σ H fun vs H1 => ∃ u v w, vs = [u, v, w] ∧ D.nx (((σ.set k (some w)).set j (some v)).set i (some u)) H1
theorem qs_par3 {i j k : Nat} {x y z : Str} {a b c : Expr} {ta : TA} {px py pz pt : Pos} {kt k2 pt2} (hc : X.calm = true) (hN : X.N.Nodup) (hi : X.N[i]? = some x) (hj : X.N[j]? = some y) (hk : X.N[k]? = some z)
    (hx : X.env.scope.names.lookup x = some .local) (hy : X.env.scope.names.lookup y = some .local) (hz : X.env.scope.names.lookup z = some .local) (ha : QA X [a, b, c] ta)
    (hw : swappedStores [.Tuple [.Name x px, .Name y py, .Name z pz] kt pt] (.Tuple [a, b, c] k2 pt2) X.env = pure (some [x, y, z]) := by rfl)
    (hs : swapsWithSole [.Tuple [.Name x px, .Name y py, .Name z pz] kt pt] (.Tuple [a, b, c] k2 pt2) pos.line X.env = pure false := by rfl) :
    QS X (.Assign [.Tuple [.Name x px, .Name y py, .Name z pz] kt pt] (.Tuple [a, b, c] k2 pt2) pos) (tPar3 i j k ta) := by
  refine ⟨fun pins s σ H D I h => ?_⟩
  rw [exec_Assign_arm]
  refine wpAny_bind (wpAny_standAt ?_)
  rw [hs]
  refine wpAny_bind (wpAny_pure ?_)
  rw [if_neg (by decide)]
  refine wpAny_bind (Tuple_ (thn (ha.out _ pins s σ H _ I h) fun us s1 ⟨vs, H1, I1, r1, q1⟩ => ?_))
  obtain ⟨u, v, w, e1, q1⟩ := q1
  subst e1
  obtain ⟨u1, u2, u3, rfl, ru, rv, rw'⟩ : ∃ u1 u2 u3, us = [u1, u2, u3] ∧ RelV u u1 ∧ RelV v u2 ∧ RelV w u3 := by
    cases r1 with
    | cons p q =>
      cases q with
      | cons p' q' =>
        cases q' with
        | cons p'' q'' =>
          cases q''
          exact ⟨_, _, _, rfl, p, p', p''⟩
  refine wpAny_newObj_type ?_ (by show 3 ≤ sizeLine; decide)
  have I2 : Inv X pins σ H1 { s1 with heap := s1.heap.push { cls := .type "tuple", data := .seq [u1, u2, u3].toArray } } := I1.kept (t' := s1.toks) fun b o e => Heap.get?_push_of_some _ e
  rw [hw]
  refine wpAny_bind (wpAny_pure ?_)
  show wpAny (model X.prog X.w) X.A (do rule "assign.swapped-stores"; let items ← unpackItems (.ref s1.heap.objs.size) 3 none; assignInOrder [fun v => bindName X.env z v, fun v => bindName X.env y v, fun v => bindName X.env x v] items.reverse; pure Flow.next) _ _ _
  refine wpAny_bind (wpAny_rule (wpAny_bind (unpackItems_tuple (items := #[u1, u2, u3]) (I.ok.hd hc) (IsTup.new s1.heap _) fun h' hx' => ?_)))
  have I3 := I2.kept (h' := h') (t' := s1.toks) fun b o e => hx' b o (Nat.ne_of_lt (Heap.lt_size e)) e
  show wpAny _ _ (assignInOrder [fun v => bindName X.env z v, fun v => bindName X.env y v, fun v => bindName X.env x v] [u3, u2, u1] >>= fun _ => pure Flow.next) _ _ _
  refine wpAny_bind (assignInOrder_cons (wpAny_bindName (store_ok I3 hN hk (.inl hz) rw' (fun s2 I4 => ?_) (.inr hz))))
  refine assignInOrder_cons (wpAny_bindName (store_ok I4 hN hj (.inl hy) rv (fun s3 I5 => ?_) (.inr hy)))
  refine assignInOrder_cons (wpAny_bindName (store_ok I5 hN hi (.inl hx) ru (fun s4 I6 => assignInOrder_nil (wpAny_pure ?_)) (.inr hx)))
  exact ⟨_, H1, I6, q1⟩
end
theorem in_par3 {D : Ends} {σ : St} {H : Hp} {i j k : Nat} {ta : TA} (h : ta σ H fun vs H1 => ∃ u v w, vs = [u, v, w] ∧ D.nx (((σ.set k (some w)).set j (some v)).set i (some u)) H1) : tPar3 i j k ta D σ H := h
def It2o (n : Nat) : It := ⟨fun i _ => i < n / 2, fun i H x H' => H' = H ∧ x = .int ((2 * i + 1 : Nat) : Int), fun i _ => n / 2 ≤ i⟩
section
variable {X : Cx} {tg a b c : Expr} {t : TA} {p pos : Pos}
def iRngO (t : TA) : TI := fun σ H R => t σ H fun vs H1 => ∃ n : Nat, vs = [.int 1, .int (n : Nat), .int 2] ∧ n ≤ 1000 ∧ R (It2o n) H1
end
theorem in_rngO {σ : St} {H : Hp} {t : TA} {R : It → Hp → Prop} (h : t σ H fun vs H1 => ∃ n : Nat, vs = [.int 1, .int (n : Nat), .int 2] ∧ n ≤ 1000 ∧ R (It2o n) H1) : iRngO t σ H R := h
def cs : Nat → List Nat → List Nat
  | f, [] => [f]
  | f, a :: r => f :: cs (f + a) r
end L2

namespace L2
open PySem PySem.Spec PyProof.Rows
def Fl (e C : Addr) (H : Hp) (h0 h : Heap) : Prop :=
  ∃ oe vs T oT ts a0, h.get? e = some oe ∧ oe.cls = .ref C ∧ oe.data = .fields vs ∧ vs[0]? = some a0 ∧ vs[1]? = some (.ref T) ∧ T ≠ e ∧ h.get? T = some oT ∧ oT.data = .fields ts ∧ ts[3]? = some .none ∧
    H e = none ∧ H T = none ∧ h0.get? e = none ∧ h0.get? T = none
def ExcO (e C : Addr) : HO := .ext fun h => ∃ o vs, h.get? e = some o ∧ o.cls = .ref C ∧ o.data = .fields vs
section
variable {X : Cx} {pins : List (Addr × Obj)} {σ : St} {H : Hp} {s : Shared} {h' : Heap}
end
abbrev XW := Addr → St → Hp → Prop
abbrev TX := Ends → XW → St → Hp → Prop
def XP (X : Cx) (pins : List (Addr × Obj)) (Ex : XW) (ev : Value) (s' : Shared) : Prop :=
  ∃ e C σ' H', ev = .ref e ∧ Ex C σ' H' ∧
    ((∃ s0 vs, Inv X pins σ' H' s0 ∧ Heap.MadeExcOf s0.heap s'.heap e (.ref C) vs ∧ s' = { s0 with heap := s'.heap }) ∨
     (Inv X pins σ' H' s' ∧ ∃ hb : Heap, Fl e C H' hb s'.heap ∧ (∀ b o, X.s₀.heap.get? b = some o → ∃ o', hb.get? b = some o') ∧ ∀ p ∈ X.pn ++ pins, ∃ o', hb.get? p.1 = some o'))
abbrev TEX := St → Hp → VK → (Addr → Hp → Prop) → Prop
section
variable {X : Cx} {st : Stmt} {sts s1 s2 : List Stmt} {T1 T2 : TX} {c e : Expr} {es : List Expr} {tA : TT} {te : TE} {t : TA} {pos p : Pos} {x : Str} {i : Nat}
def xOf (t : TS) : TX := fun D _ σ H => t D σ H
def xSeq (t u : TX) : TX := fun D Ex σ H => t { D with nx := u D Ex } Ex σ H
def xIf (c : TT) (t u : TX) : TX := fun D Ex σ H => c σ H fun b H1 => if b = true then t D Ex σ H1 else u D Ex σ H1
def xDrop (te : TEX) : TX := fun D Ex σ H => te σ H (fun _ H1 => D.nx σ H1) fun C H1 => Ex C σ H1
def xRet (te : TEX) : TX := fun D Ex σ H => te σ H D.rt fun C H1 => Ex C σ H1
def xSet (i : Nat) (te : TEX) : TX := fun D Ex σ H => te σ H (fun v H1 => D.nx (σ.set i (some v)) H1) fun C H1 => Ex C σ H1
variable {tx : TEX}
def xCall (sp : Sp) (t : TA) : TEX := fun σ H Q Ex => t σ H fun vs H1 => sp vs H1 Q fun c _ H2 => ∃ C, c = .ref C ∧ Ex C H2
end
end L2

namespace L2
open PySem PySem.Spec PyProof.Rows
section
variable {X : Cx} {pins : List (Addr × Obj)} {σ : St} {H : Hp} {s : Shared} {h' : Heap}
end
section
variable {P : Program} {w : World} {K : PySem.W.Frag} {mg : Str → Option Value} {base : Heap}
end
end L2

namespace L2
open PySem PySem.Spec PyProof.Rows PySem.W
section
variable {prog : Program} {w : World} {A : Around} {E : Value → Shared → Prop} {h : Heap} {g : Array GenState} {d : Drawn} {t : Nat} {os : OsState} {K : Frag} {a C : Addr} {o : Obj} {vs : Array Value}
end
section
variable {X : Cx}
end
end L2

namespace L2
open PySem PySem.Spec PyProof.Rows PySem.W
def xRaise (C : Addr) (t : TA) : TX := fun _ Ex σ H => t σ H fun vs H1 => vs.length ≤ sizeLine ∧ Ex C σ H1
section
variable {X : Cx} {e : Expr} {es : List Expr} {t : TA} {np cpos pos p : Pos} {x : Str} {C : Addr}
end
section
variable {X : Cx} {pins : List (Addr × Obj)} {σ : St} {H : Hp} {s : Shared}
end
def tTry (K : Frag) (C : Addr) (i : Nat) (tb : TX) (ts : TS) : TS := fun D σ H => tb D (fun C' σ1 H1 => exmOne K (.ref C') (.ref C) = some true ∧ ∀ e, H1 e = none →
  ts { nx := fun σ2 H2 => D.nx (σ2.set i none) H2, rt := D.rt, bk := fun σ2 H2 => D.bk (σ2.set i none) H2, ct := fun σ2 H2 => D.ct (σ2.set i none) H2 } (σ1.set i (some (.ref e))) (upd H1 e (ExcO e C'))) σ H
section
variable {X : Cx} {body suite : List Stmt} {b0 : Stmt} {tb : TX} {ts : TS} {n x : Str} {i : Nat} {C : Addr} {np hpos pos : Pos}
end
end L2

namespace L2
open PySem PySem.Spec PyProof.Rows
def tFs (te : TE) : TE := fun σ H Q => te σ H fun x H1 => ∃ i : Int, x = .int i ∧ i.natAbs.log2 < 1920 ∧ ∀ y, Q (.str y) H1
section
variable {X : Cx} {v : Expr} {te : TE} {a b : Str} {p1 p2 p3 pos : Pos} {j1 j3 : Nat}
end
section
variable {D : Ends} {Ex : XW} {σ : St} {H : Hp} {Q : VK} {K : PySem.W.Frag} {i : Nat} {C : Addr}
theorem in_fstr {te : TE} (h : te σ H fun x H1 => ∃ i : Int, x = .int i ∧ i.natAbs.log2 < 1920 ∧ ∀ y, Q (.str y) H1) : tFs te σ H Q := h
theorem in_xof {t : TS} (h : t D σ H) : xOf t D Ex σ H := h
theorem in_xseq {t u : TX} (h : t { D with nx := u D Ex } Ex σ H) : xSeq t u D Ex σ H := h
theorem in_xif {c : TT} {t u : TX} (h : c σ H fun b H1 => if b = true then t D Ex σ H1 else u D Ex σ H1) : xIf c t u D Ex σ H := h
theorem in_xdrop {te : TEX} (h : te σ H (fun _ H1 => D.nx σ H1) fun C H1 => Ex C σ H1) : xDrop te D Ex σ H := h
theorem in_xret {te : TEX} (h : te σ H D.rt fun C H1 => Ex C σ H1) : xRet te D Ex σ H := h
theorem in_xset {te : TEX} (h : te σ H (fun v H1 => D.nx (σ.set i (some v)) H1) fun C H1 => Ex C σ H1) : xSet i te D Ex σ H := h
theorem in_xcall {sp : Sp} {t : TA} {Ex : Addr → Hp → Prop} (h : t σ H fun vs H1 => sp vs H1 Q fun c _ H2 => ∃ C, c = .ref C ∧ Ex C H2) : xCall sp t σ H Q Ex := h
theorem in_xraise {t : TA} (h : t σ H fun vs H1 => vs.length ≤ sizeLine ∧ Ex C σ H1) : xRaise C t D Ex σ H := h
theorem in_try {tb : TX} {ts : TS} (h : tb D (fun C' σ1 H1 => PySem.W.exmOne K (.ref C') (.ref C) = some true ∧ ∀ e, H1 e = none →
  ts { nx := fun σ2 H2 => D.nx (σ2.set i none) H2, rt := D.rt, bk := fun σ2 H2 => D.bk (σ2.set i none) H2, ct := fun σ2 H2 => D.ct (σ2.set i none) H2 } (σ1.set i (some (.ref e))) (upd H1 e (ExcO e C'))) σ H) : tTry K C i tb ts D σ H := h
end
end L2

namespace L2
open PySem PySem.Spec PyProof.Rows
section
variable {X : Cx}
end
section
variable {H H1 : Hp} {x : V} {n : Nat}
end
end L2
namespace L2
open PySem PySem.Spec PyProof.Rows
end L2

namespace HT
open PySem PyProof.Rows PySem.W L2
section
variable {prog : Program} {w : World} {A : Around} {E : Value → Shared → Prop} {s : Shared}
end
end HT
namespace L2
open PySem PySem.Spec PyProof.Rows
section
variable {X : Cx}
end
end L2

namespace L2
open PySem PySem.Spec PyProof.Rows
section
variable {X : Cx} {o e value : Expr} {es : List Expr} {f m x : Str} {pos pos' tpos apos p : Pos} {ta tv : TE} {t : TA} {C g : Addr} {CX : CXT} {k : Nat} {fd : FuncData} {ps : List Str} {sp : Sp} {E : XK}
theorem q_notInS {K : PySem.W.Frag} (hK : X.K = K := by rfl) : QOp X (compareOp .NotIn) (rIn K true) := by subst hK; exact ⟨op_notIn_seq⟩
theorem qe_fld {K : PySem.W.Frag} (he : QE X e ta) (hb : attributeBase e f X.env (eval e X.env) = eval e X.env := by rfl) (hK : X.K = K := by rfl) : QE X (.Attribute e f pos) (tFld K ta f) := by
  subst hK; exact ⟨pe_fld he.out hb⟩
theorem qs_fld {K : PySem.W.Frag} (ha : QE X o ta) (hv : QE X value tv) (hs : swapsWith value (some (.Attribute o f pos')) pos.line X.env = pure false := by rfl) (hK : X.K = K := by rfl) : QS X (.Assign [.Attribute o f pos'] value pos) (sFld K ta tv f) := by
  subst hK; exact ⟨ps_fld ha.out hv.out hs⟩
theorem qs_fldaug {K : PySem.W.Frag} {op : Operator} {rd : R2} (ha : QE X o ta) (hv : QE X value tv) (ho : QOp X (inplaceOp op) rd) (hK : X.K = K := by rfl) : QS X (.AugAssign (.Attribute o f tpos) op value pos) (sFldAug K ta tv rd f) := by
  subst hK; exact ⟨ps_fldaug ha.out hv.out ho.out⟩
theorem qe_meth {pl : Sem Bool} (he : QE X o ta) (c : Cls X.K C) (hm : Meth X.K C m g) (F : FnOk X.prog X.w X.K X.mg X.base CX k g fd ps sp) (hr : Room k X.A) (hb : Binds X.K fd ps []) (hx : Passes CX X E) (ha : QA X (e :: es) t)
    (hst : starEach (e :: es) X.env = (false, eval e X.env) :: starEach es X.env := by rfl) (hpl : (backTo pos (starEach es X.env)).any (·.1) = false := by rfl)
    (ht : eval (.Call (.Attribute o m apos) (e :: es) [] pos) X.env = (do
      let ov ← eval o X.env
      standAt apos.atName
      let (q, first) ← holding [ov] (getMethod ov m pl)
      callWith pos q first (backTo pos (starEach (e :: es) X.env)) (backToKw pos (keywordEach [] X.env))) := by rfl) :
    QE X (.Call (.Attribute o m apos) (e :: es) [] pos) (tMeth C m sp [] E ta t) := ⟨pe_meth (pl := pl) he.out c hm F hr hb .nil hx ha.out hst hpl ht⟩
theorem qe_meth0 {pl : Sem Bool} (he : QE X o ta) (c : Cls X.K C) (hm : Meth X.K C m g) (F : FnOk X.prog X.w X.K X.mg X.base CX k g fd ps sp) (hr : Room k X.A) (hb : Binds X.K fd ps []) (hx : Passes CX X E)
    (ht : eval (.Call (.Attribute o m apos) [] [] pos) X.env = (do
      let ov ← eval o X.env
      standAt apos.atName
      let (q, first) ← holding [ov] (getMethod ov m pl)
      callWith pos q first (backTo pos (starEach [] X.env)) (backToKw pos (keywordEach [] X.env))) := by rfl) :
    QE X (.Call (.Attribute o m apos) [] [] pos) (tMeth C m sp [] E ta tNil) := ⟨pe_meth0 (pl := pl) he.out c hm F hr hb .nil hx ht⟩
theorem qe_make0 (M : Mk X.K C g) (F : FnOk X.prog X.w X.K X.mg X.base CX k g fd ps sp) (hr : Room (k + 1) X.A) (hg : Gl X x) (hm : X.mg x = some (.ref C)) (hb : Binds X.K fd ps []) (hx : Passes CX X E)
    (hdb : (x == ("__debug__" : Str)) = false := by decide) : QE X (.Call (.Name x p) [] [] pos) (tMake C sp [] E tNil) := ⟨pe_make0 M F hr hg hm hb .nil hx hdb⟩
end
section
variable {K : PySem.W.Frag} {σ : St} {H : Hp} {Q : VK} {D : Ends} {ta tv : TE} {t : TA} {f m : Str} {C : Addr} {sp : Sp} {E : XK} {a dx : Addr} {fs : List (Str × V)} {v : V}
theorem in_fld (h : ta σ H fun x H1 => ∃ a C dx fs v, x = .ref a ∧ H1 a = some (.ins C dx fs) ∧ Cls K C ∧ NoAttr K C f ∧ fs.lookup f = some v ∧ Q v H1) : tFld K ta f σ H Q := h
theorem in_sfld (h : tv σ H fun y H1 => ta σ H1 fun x H2 => ∃ a C dx fs, x = .ref a ∧ H2 a = some (.ins C dx fs) ∧ Cls K C ∧ NoAttr K C f ∧ fs.length < 1000 ∧ D.nx σ (upd H2 a (.ins C dx (putF f y fs)))) : sFld K ta tv f D σ H := h
theorem in_sfldaug {rd : R2} (h : ta σ H fun x H1 => ∃ a C dx fs v, x = .ref a ∧ H1 a = some (.ins C dx fs) ∧ Cls K C ∧ NoAttr K C f ∧ fs.lookup f = some v ∧
  tv σ H1 fun y H2 => rd v y H2 fun z H3 => ∃ dx' fs', H3 a = some (.ins C dx' fs') ∧ fs'.length < 1000 ∧ D.nx σ (upd H3 a (.ins C dx' (putF f z fs')))) : sFldAug K ta tv rd f D σ H := h
theorem in_meth (h : ta σ H fun x H1 => ∃ a dx fs, x = .ref a ∧ H1 a = some (.ins C dx fs) ∧ fs.lookup m = none ∧ t σ H1 fun vs H2 => sp (x :: (vs ++ [])) H2 Q E) : tMeth C m sp [] E ta t σ H Q := h
theorem in_make (h : t σ H fun vs H1 => ∀ x dx, H1 x = none → H1 dx = none → dx ≠ x → sp (.ref x :: (vs ++ [])) (upd (upd H1 dx (.own x)) x (.ins C dx [])) (fun v H2 => v = .non ∧ Q (.ref x) H2) E) : tMake C sp [] E t σ H Q := h
theorem in_notInS {p : Addr} {xs : List V} {x : V} (h1 : H p = some (.lst xs)) (fx : flatV x = true) (fs : xs.all flatV = true) (h : Q (.bl (!inV x xs)) H) : rIn K true x (.ref p) H Q := ⟨p, xs, rfl, .inl (SqL.of h1), fx, fs, h⟩
end
end L2

namespace L2
open PySem PySem.Spec PyProof.Rows
section
variable {X : Cx} {pins : List (Addr × Obj)} {σ : St} {H : Hp} {s : Shared}
end
section
variable {H : Hp} {Q : VK} {x y : V} {n : Nat} {d e : PyData}
end
end L2
namespace HT
open PySem PyProof.Rows PySem.W L2
section
variable {prog : Program} {w : World} {A : Around} {E : Value → Shared → Prop} {s : Shared}
end
end HT
namespace L2
open PySem PySem.Spec PyProof.Rows PySem.W
section
variable {X : Cx} {e : Expr} {t : TA} {p pos kpos cp : Pos} {k : Nat} {j : Nat}
def tSortDn (K : PySem.W.Frag) (t : TA) : TE := fun σ H Q => t σ H fun vs H1 => ∃ (l : Addr) (ns : List Int), vs = [.ref l] ∧ (SqL K H1 l (ns.map V.int) ∨ SqT K H1 l (ns.map V.int)) ∧ ns.length < 1000 ∧
  ∀ (d : Addr) (ms : List Int), H1 d = none → ms.Perm ns → ms.Pairwise (· ≥ ·) → Q (.ref d) (upd H1 d (.lst (ms.map V.int)))
theorem in_sortDn {K : PySem.W.Frag} {σ : St} {H : Hp} {Q : VK} (h : t σ H fun vs H1 => ∃ (l : Addr) (ns : List Int), vs = [.ref l] ∧ (SqL K H1 l (ns.map V.int) ∨ SqT K H1 l (ns.map V.int)) ∧ ns.length < 1000 ∧
  ∀ (d : Addr) (ms : List Int), H1 d = none → ms.Perm ns → ms.Pairwise (· ≥ ·) → Q (.ref d) (upd H1 d (.lst (ms.map V.int)))) : tSortDn K t σ H Q := h
end
end L2

namespace L2
open PySem PySem.Spec PyProof.Rows
abbrev PR := Option (Nat × Nat)
structure HW where
  ps : List PR
  hd : PR
  mks : List Nat
  en : List Nat
  pt : Nat
section
variable {qs : List (Nat × Nat)} {b : Nat} {st : HW}
end
section
variable {qs : List (Nat × Nat)} {b : Nat} {st : HW}
end
end L2
namespace L2
open PySem PySem.Spec PyProof.Rows
def rNotN : R2 := fun x y H Q => y = .non ∧ Q (.bl (!decide (x = .non))) H
theorem in_notNo {H : Hp} {Q : VK} {x : V} (h : Q (.bl (!decide (x = .non))) H) : rNotN x .non H Q := ⟨rfl, h⟩
section
variable (pa : Addr) (hv v : V) (ma ea : Addr) (n m : Int)
end
section
variable {C : Addr} {H H1 : Hp} {w pa ma ea : Addr} {vs : List V} {hv : V} {st : HW}
end
end L2

namespace L2
open PySem PySem.Spec PyProof.Rows
end L2

set_option maxHeartbeats 0
namespace Fs
open PySem PySem.Spec PyProof.Rows L2
local macro_rules
  | `(tactic| walk_at "fs_rd") => do
    let q ← ("in_seq in_xseq in_xof in_xif in_xdrop in_xret in_xcall in_xraise in_try in_fstr in_asg in_gsub in_ret in_drop in_next in_if in_tif in_test in_B in_not in_or in_and in_andV in_orV in_notV in_C in_op in_un in_I0 in_pow18 in_pow6 in_pow15 in_pow53 in_abs in_intB in_min in_max in_isiII in_isiIB in_U in_eqI in_neI in_for in_rng1 in_ilist in_itup in_cb in_cons in_nil in_call in_lst in_tup in_bl in_itrue in_nt in_nf in_comp in_par2 in_rev in_compF in_bm0 in_augS in_rev2 in_isiIS in_isiBB in_isiSB in_isiSS in_eqB in_neB in_isNo in_notNo in_lrng2 in_lrng1 in_eqS in_tru in_chain in_sl in_part in_nopart in_enumL in_enumT in_sortDn in_fld in_sfld in_sfldaug in_meth in_make in_zip in_zipT in_rngD in_gslA in_rngS in_rngO in_par3 in_rng2 in_cont in_bm in_ifalse".splitOn " ").foldrM (fun n (a : Lean.TSyntax `tactic) => `(tactic| first | (with_reducible refine $(Lean.mkIdent (Lean.Name.mkSimple n)) ?_) | $a:tactic)) (← `(tactic| fail))
    `(tactic| (repeat (first | $q:tactic | (with_reducible refine in_xset ?_; dsimp only [List.set]) | (with_reducible refine in_gname ?_; dsimp only [List.set]) | ((with_reducible show tVar _ _ _ _); refine ⟨_, rfl, ?_⟩) | (with_reducible refine in_I ?c ?_; (case c => first | (show (0 : Int) < _; omega) | exact cdivL (by omega) (by omega) | exact cdiv (by omega) (by omega) | exact cdivP (by omega) (by omega) (by omega) | exact cmulL (by omega) (by omega) | exact cmulR (by omega) (by omega) | exact cpow (by decide) (by decide) (by decide))) | (with_reducible refine in_ix' (by assumption) ?_; refine ⟨_, rfl, ?_⟩) | (with_reducible refine in_ix' upd_same ?_; refine ⟨_, rfl, ?_⟩) | (with_reducible refine in_ixT' (by assumption) ?_; refine ⟨_, rfl, ?_⟩) | (with_reducible refine in_ixT' upd_same ?_; refine ⟨_, rfl, ?_⟩) | (with_reducible refine in_set' (by assumption) ?_; refine ⟨_, rfl, ?_⟩; dsimp only [Int.reduceToNat, List.set]) | (with_reducible refine in_set' upd_same ?_; refine ⟨_, rfl, ?_⟩; dsimp only [Int.reduceToNat, List.set]) | (with_reducible refine in_pair ?_; dsimp only [List.set]) | ((with_reducible show tAug _ _ _ _ _ _); refine ⟨_, rfl, ?_⟩))))
def top (i : Nat) : Stmt := PySem.Challenge.pw_figuresort_k42_pours_apart.main.body.getD i (.Pass ⟨0, 0, 0, 0⟩)
abbrev s_told_order : Stmt := top 1
abbrev s_merged : Stmt := top 3
abbrev s_merged_places : Stmt := top 4
abbrev s_is_due : Stmt := top 6
abbrev s_Pour___init__ : Stmt := inClass (top 7) 0
abbrev s_Pour_pour : Stmt := inClass (top 7) 1
abbrev s_Pour_merge_last_two : Stmt := inClass (top 7) 2
abbrev s_Pour_heaps : Stmt := inClass (top 7) 3
abbrev s_Pour_order : Stmt := inClass (top 7) 4
abbrev s_Pour_rows : Stmt := inClass (top 7) 5
abbrev s_Pour_moves : Stmt := inClass (top 7) 6
abbrev s_tape : Stmt := top 9
abbrev s_draw : Stmt := top 10
abbrev s_rows : Stmt := top 11
abbrev s_pours : Stmt := top 12
abbrev s_seen : Stmt := top 13
abbrev s_spoilt : Stmt := top 14
abbrev s_pour_spoilt : Stmt := top 15
abbrev s_alone : Stmt := top 16
abbrev s_law : Stmt := top 17
structure Ad where
  f_told_order : Addr
  d_told_order : FuncData
  f_merged : Addr
  d_merged : FuncData
  f_merged_places : Addr
  d_merged_places : FuncData
  f_is_due : Addr
  d_is_due : FuncData
  f_Pour___init__ : Addr
  d_Pour___init__ : FuncData
  f_Pour_pour : Addr
  d_Pour_pour : FuncData
  f_Pour_merge_last_two : Addr
  d_Pour_merge_last_two : FuncData
  f_Pour_heaps : Addr
  d_Pour_heaps : FuncData
  f_Pour_order : Addr
  d_Pour_order : FuncData
  f_Pour_rows : Addr
  d_Pour_rows : FuncData
  f_Pour_moves : Addr
  d_Pour_moves : FuncData
  f_tape : Addr
  d_tape : FuncData
  f_draw : Addr
  d_draw : FuncData
  f_rows : Addr
  d_rows : FuncData
  f_pours : Addr
  d_pours : FuncData
  f_seen : Addr
  d_seen : FuncData
  f_spoilt : Addr
  d_spoilt : FuncData
  f_pour_spoilt : Addr
  d_pour_spoilt : FuncData
  f_alone : Addr
  d_alone : FuncData
  f_law : Addr
  d_law : FuncData
  cc : Addr
  pt : Addr
  bs : Heap
  c_Pour : Addr
structure Tx (K : PySem.W.Frag) (mg : Str → Option Value) (t : Ad) : Prop where
  m_told_order : mg "told_order" = some (.ref t.f_told_order)
  F_told_order : Fun K "told_order" "told_order" s_told_order t.f_told_order t.d_told_order
  b_told_order : Binds K t.d_told_order ["rows"] []
  m_merged : mg "merged" = some (.ref t.f_merged)
  F_merged : Fun K "merged" "merged" s_merged t.f_merged t.d_merged
  b_merged : Binds K t.d_merged ["one", "other"] []
  m_merged_places : mg "merged_places" = some (.ref t.f_merged_places)
  F_merged_places : Fun K "merged_places" "merged_places" s_merged_places t.f_merged_places t.d_merged_places
  b_merged_places : Binds K t.d_merged_places ["rows", "one", "other"] []
  m_is_due : mg "is_due" = some (.ref t.f_is_due)
  F_is_due : Fun K "is_due" "is_due" s_is_due t.f_is_due t.d_is_due
  b_is_due : Binds K t.d_is_due ["lengths"] []
  M_Pour___init__ : Mk K t.c_Pour t.f_Pour___init__
  F_Pour___init__ : Fun K "__init__" "Pour.__init__" s_Pour___init__ t.f_Pour___init__ t.d_Pour___init__
  b_Pour___init__ : Binds K t.d_Pour___init__ ["self"] []
  M_Pour_pour : Meth K t.c_Pour "pour" t.f_Pour_pour
  F_Pour_pour : Fun K "pour" "Pour.pour" s_Pour_pour t.f_Pour_pour t.d_Pour_pour
  b_Pour_pour : Binds K t.d_Pour_pour ["self", "rows"] []
  M_Pour_merge_last_two : Meth K t.c_Pour "merge_last_two" t.f_Pour_merge_last_two
  F_Pour_merge_last_two : Fun K "merge_last_two" "Pour.merge_last_two" s_Pour_merge_last_two t.f_Pour_merge_last_two t.d_Pour_merge_last_two
  b_Pour_merge_last_two : Binds K t.d_Pour_merge_last_two ["self"] []
  M_Pour_heaps : Meth K t.c_Pour "heaps" t.f_Pour_heaps
  F_Pour_heaps : Fun K "heaps" "Pour.heaps" s_Pour_heaps t.f_Pour_heaps t.d_Pour_heaps
  b_Pour_heaps : Binds K t.d_Pour_heaps ["self"] []
  M_Pour_order : Meth K t.c_Pour "order" t.f_Pour_order
  F_Pour_order : Fun K "order" "Pour.order" s_Pour_order t.f_Pour_order t.d_Pour_order
  b_Pour_order : Binds K t.d_Pour_order ["self"] []
  M_Pour_rows : Meth K t.c_Pour "rows" t.f_Pour_rows
  F_Pour_rows : Fun K "rows" "Pour.rows" s_Pour_rows t.f_Pour_rows t.d_Pour_rows
  b_Pour_rows : Binds K t.d_Pour_rows ["self"] []
  M_Pour_moves : Meth K t.c_Pour "moves" t.f_Pour_moves
  F_Pour_moves : Fun K "moves" "Pour.moves" s_Pour_moves t.f_Pour_moves t.d_Pour_moves
  b_Pour_moves : Binds K t.d_Pour_moves ["self"] []
  m_tape : mg "_law_tape" = some (.ref t.f_tape)
  F_tape : Fun K "_law_tape" "_law_tape" s_tape t.f_tape t.d_tape
  b_tape : Binds K t.d_tape ["_law_script", "_law_k"] []
  m_draw : mg "_law_draw" = some (.ref t.f_draw)
  F_draw : Fun K "_law_draw" "_law_draw" s_draw t.f_draw t.d_draw
  b_draw : Binds K t.d_draw ["_law_tape_here", "_law_many"] []
  m_rows : mg "_law_rows" = some (.ref t.f_rows)
  F_rows : Fun K "_law_rows" "_law_rows" s_rows t.f_rows t.d_rows
  b_rows : Binds K t.d_rows ["_law_tape_here", "_law_many", "_law_base"] []
  m_pours : mg "_law_pours" = some (.ref t.f_pours)
  F_pours : Fun K "_law_pours" "_law_pours" s_pours t.f_pours t.d_pours
  b_pours : Binds K t.d_pours ["_law_tape_here", "_law_k"] []
  m_seen : mg "_law_seen" = some (.ref t.f_seen)
  F_seen : Fun K "_law_seen" "_law_seen" s_seen t.f_seen t.d_seen
  b_seen : Binds K t.d_seen ["_law_pour"] []
  m_spoilt : mg "_law_spoilt" = some (.ref t.f_spoilt)
  F_spoilt : Fun K "_law_spoilt" "_law_spoilt" s_spoilt t.f_spoilt t.d_spoilt
  b_spoilt : Binds K t.d_spoilt ["_law_pour"] []
  m_pour_spoilt : mg "_law_pour_spoilt" = some (.ref t.f_pour_spoilt)
  F_pour_spoilt : Fun K "_law_pour_spoilt" "_law_pour_spoilt" s_pour_spoilt t.f_pour_spoilt t.d_pour_spoilt
  b_pour_spoilt : Binds K t.d_pour_spoilt ["_law_pour", "_law_rows_here"] []
  m_alone : mg "_law_alone" = some (.ref t.f_alone)
  F_alone : Fun K "_law_alone" "_law_alone" s_alone t.f_alone t.d_alone
  b_alone : Binds K t.d_alone ["_law_pour"] []
  m_law : mg "law" = some (.ref t.f_law)
  F_law : Fun K "law" "law" s_law t.f_law t.d_law
  b_law : Binds K t.d_law ["_law_script"] []
  z_abs : mg "abs" = none
  z_int : mg "int" = none
  z_len : mg "len" = none
  z_list : mg "list" = none
  z_min : mg "min" = none
  z_range : mg "range" = none
  z_sorted : mg "sorted" = none
  z_str : mg "str" = none
  z_sum : mg "sum" = none
  z_tuple : mg "tuple" = none
  c_cc : t.d_told_order.code = .ref t.cc
  c_hd : PySem.W.codeHdIn K t.cc t.pt = true
  c_ba : t.bs.BuiltinsAt mg t.pt
  mc_Pour : mg "Pour" = some (.ref t.c_Pour)
  cl_Pour : Cls K t.c_Pour
  n_Pour_came : NoAttr K t.c_Pour "came"
  n_Pour_heaped : NoAttr K t.c_Pour "heaped"
  n_Pour_moved : NoAttr K t.c_Pour "moved"
theorem bt_abs : bootBuiltins "abs" = some (.builtin "abs") := by decide +kernel
theorem bt_int : bootBuiltins "int" = some (.type "int") := by decide +kernel
theorem bt_len : bootBuiltins "len" = some (.builtin "len") := by decide +kernel
theorem bt_list : bootBuiltins "list" = some (.type "list") := by decide +kernel
theorem bt_min : bootBuiltins "min" = some (.builtin "min") := by decide +kernel
theorem bt_range : bootBuiltins "range" = some (.type "range") := by decide +kernel
theorem bt_sorted : bootBuiltins "sorted" = some (.builtin "sorted") := by decide +kernel
theorem bt_str : bootBuiltins "str" = some (.type "str") := by decide +kernel
theorem bt_sum : bootBuiltins "sum" = some (.builtin "sum") := by decide +kernel
theorem bt_tuple : bootBuiltins "tuple" = some (.type "tuple") := by decide +kernel
theorem sc_told_order : FnScope ["rows"] ["rows"] (defScope s_told_order) := ⟨rfl, rfl, rfl, by decide +kernel, rfl, by decide +kernel, by decide +kernel⟩
theorem sc_merged : FnScope ["one", "other", "both", "at", "beside"] ["one", "other"] (defScope s_merged) := ⟨rfl, rfl, rfl, by decide +kernel, rfl, by decide +kernel, by decide +kernel⟩
theorem sc_merged_places : FnScope ["rows", "one", "other", "pairs", "places"] ["rows", "one", "other"] (defScope s_merged_places) := ⟨rfl, rfl, rfl, by decide +kernel, rfl, by decide +kernel, by decide +kernel⟩
theorem sc_is_due : FnScope ["lengths"] ["lengths"] (defScope s_is_due) := ⟨rfl, rfl, rfl, by decide +kernel, rfl, by decide +kernel, by decide +kernel⟩
theorem sc_Pour___init__ : FnScope ["self"] ["self"] (defScope s_Pour___init__) := ⟨rfl, rfl, rfl, by decide +kernel, rfl, by decide +kernel, by decide +kernel⟩
theorem sc_Pour_pour : FnScope ["self", "rows", "ahead", "moves"] ["self", "rows"] (defScope s_Pour_pour) := ⟨rfl, rfl, rfl, by decide +kernel, rfl, by decide +kernel, by decide +kernel⟩
theorem sc_Pour_merge_last_two : FnScope ["self", "last"] ["self"] (defScope s_Pour_merge_last_two) := ⟨rfl, rfl, rfl, by decide +kernel, rfl, by decide +kernel, by decide +kernel⟩
theorem sc_Pour_heaps : FnScope ["self"] ["self"] (defScope s_Pour_heaps) := ⟨rfl, rfl, rfl, by decide +kernel, rfl, by decide +kernel, by decide +kernel⟩
theorem sc_Pour_order : FnScope ["self", "places", "heap"] ["self"] (defScope s_Pour_order) := ⟨rfl, rfl, rfl, by decide +kernel, rfl, by decide +kernel, by decide +kernel⟩
theorem sc_Pour_rows : FnScope ["self"] ["self"] (defScope s_Pour_rows) := ⟨rfl, rfl, rfl, by decide +kernel, rfl, by decide +kernel, by decide +kernel⟩
theorem sc_Pour_moves : FnScope ["self"] ["self"] (defScope s_Pour_moves) := ⟨rfl, rfl, rfl, by decide +kernel, rfl, by decide +kernel, by decide +kernel⟩
theorem sc_tape : FnScope ["_law_script", "_law_k", "_law_cell", "_law_digits"] ["_law_script", "_law_k"] (defScope s_tape) := ⟨rfl, rfl, rfl, by decide +kernel, rfl, by decide +kernel, by decide +kernel⟩
theorem sc_draw : FnScope ["_law_tape_here", "_law_many", "_law_found", "_law_once"] ["_law_tape_here", "_law_many"] (defScope s_draw) := ⟨rfl, rfl, rfl, by decide +kernel, rfl, by decide +kernel, by decide +kernel⟩
theorem sc_rows : FnScope ["_law_tape_here", "_law_many", "_law_base", "_law_columns", "_law_top", "_law_found", "_law_k", "_law_row", "_law_way", "_law_other", "_law_at"] ["_law_tape_here", "_law_many", "_law_base"] (defScope s_rows) := ⟨rfl, rfl, rfl, by decide +kernel, rfl, by decide +kernel, by decide +kernel⟩
theorem sc_pours : FnScope ["_law_tape_here", "_law_k", "_law_found", "_law_turn"] ["_law_tape_here", "_law_k"] (defScope s_pours) := ⟨rfl, rfl, rfl, by decide +kernel, rfl, by decide +kernel, by decide +kernel⟩
theorem sc_seen : FnScope ["_law_pour"] ["_law_pour"] (defScope s_seen) := ⟨rfl, rfl, rfl, by decide +kernel, rfl, by decide +kernel, by decide +kernel⟩
theorem sc_spoilt : FnScope ["_law_pour", "_law_told"] ["_law_pour"] (defScope s_spoilt) := ⟨rfl, rfl, rfl, by decide +kernel, rfl, by decide +kernel, by decide +kernel⟩
theorem sc_pour_spoilt : FnScope ["_law_pour", "_law_rows_here", "_law_handed", "_law_found", "_law_row"] ["_law_pour", "_law_rows_here"] (defScope s_pour_spoilt) := ⟨rfl, rfl, rfl, by decide +kernel, rfl, by decide +kernel, by decide +kernel⟩
theorem sc_alone : FnScope ["_law_pour", "_law_one"] ["_law_pour"] (defScope s_alone) := ⟨rfl, rfl, rfl, by decide +kernel, rfl, by decide +kernel, by decide +kernel⟩
theorem sc_law : FnScope ["_law_script", "_law_k", "_law_tape_here", "_law_lengths", "_law_others", "_law_rows_here", "_law_other_rows", "_law_first", "_law_second", "_law_third", "_law_length"] ["_law_script"] (defScope s_law) := ⟨rfl, rfl, rfl, by decide +kernel, rfl, by decide +kernel, by decide +kernel⟩
section
variable {P : Program} {w : World} {K : PySem.W.Frag} {mg : Str → Option Value} {base : Heap} {t : Ad}
theorem ok_draw (T : Tx K mg t) : FnOk P w K mg t.bs CX0 1 t.f_draw t.d_draw ["_law_tape_here", "_law_many"] spDraw2 := by
  refine T.F_draw.okQ sc_draw (fun vs H Q E h => ?_) (fun cdv A outer s H vs Q E hr h => ?_)
  · obtain ⟨p, m, rfl, _⟩ := h
    rfl
  · obtain ⟨p, m, rfl, ⟨a, b, hp, ha, hb⟩, hm, hm2, k⟩ := h
    have fin : ∀ (x : Int) H', St2 p H H' → Q (.int (x % m)) H' := fun x H' S => by
      have := k (x % m).toNat H' (by rw [Int.toNat_of_nonneg (Int.emod_nonneg _ (by omega))]; exact Int.emod_lt_of_pos _ hm) S
      rw [Int.toNat_of_nonneg (Int.emod_nonneg _ (by omega))] at this
      exact this
    refine ⟨_, (qb_cons (qs_if (qt_cmpR q_gt (qe_ix (q_ixL (K := K)) (qv 0) qe_int) qe_int (nomark _)) (qb_cons (qs_set (i := 2) sc_draw.nd rfl (Or.inl rfl) (qe_op q_mod (qe_ix (q_ixL (K := K)) (qv 0) qe_int) (qv 1)))
      (qb_cons (qs_sub (qe_op q_fdivL (qe_ix (q_ixL (K := K)) (qv 0) qe_int) (qv 1)) (qv 0) qe_int)
      (qb_one (qs_ret (qv 2))))) qb_nil)
      (qb_cons (qs_sub (qe_op q_mod (qe_op q_add (qe_op q_mul (qe_ix (q_ixL (K := K)) (qv 0) qe_int) qe_int) qe_int) qe_int) (qv 0) qe_int)
      (qb_cons (qs_set (i := 3) sc_draw.nd rfl (Or.inl rfl) (qe_op q_mod (qe_op q_mul (qe_ix (q_ixL (K := K)) (qv 0) qe_int) (qe_op q_add (qe_op q_mod (qe_ix (q_ixL (K := K)) (qv 0) qe_int) qe_int) qe_int)) qe_int))
      (qb_one (qs_ret (qe_op q_mod (qe_op q_mod (qe_op q_mul (qv 3) (qe_op q_add (qe_op q_mod (qv 3) qe_int) qe_int)) qe_int) (qv 1))))))), ?_⟩
    rw [show L2.start ["_law_tape_here", "_law_many", "_law_found", "_law_once"] [V.ref p, V.int m] = [some (V.ref p), some (V.int m), none, none] from rfl]
    walk_at "fs_rd"
    refine in_split (fun h0 => ?_) (fun h0 => ?_)
    · walk_at "fs_rd"
      exact fin _ _ (Tp2.mk (Int.ediv_nonneg ha (by omega)) hb)
    · walk_at "fs_rd"
      exact fin _ _ (Tp2.mk ha (Int.emod_nonneg _ (by omega)))
theorem ok_tape (T : Tx K mg t) : FnOk P w K mg t.bs CX0 1 t.f_tape t.d_tape ["_law_script", "_law_k"] (spTape2 K) := by
  refine T.F_tape.okQ sc_tape (fun vs H Q E h => ?_) (fun cdv A outer s H vs Q E hr h => ?_)
  · obtain ⟨a, ns, k, rfl, _⟩ := h
    rfl
  · obtain ⟨a, ns, k, rfl, hS, hk, q⟩ := h
    refine ⟨_, (qb_cons (qs_set (i := 2) sc_tape.nd rfl (Or.inl rfl) qe_int)
      (qb_cons (qs_if (qt_cmpR q_lt (qv 1) (qe_callB (qc_len (K := K)) (by rfl) T.z_len bt_len (qa_c (qv 0) qa_nil)) (nomark _)) (qb_one (qs_set (i := 2) sc_tape.nd rfl (Or.inl rfl) (qe_ix (q_ixL (K := K)) (qv 0) (qv 1)))) qb_nil)
      (qb_cons (qs_set (i := 3) sc_tape.nd rfl (Or.inl rfl) (qe_op q_mul (qe_callB qc_abs (by rfl) T.z_abs bt_abs (qa_c (qv 2) qa_nil)) (qe_callTy qc_int (by rfl) T.z_int bt_int (qa_c (qe_cmpR q_ge (qe_callB qc_abs (by rfl) T.z_abs bt_abs (qa_c (qv 2) qa_nil)) (qe_op q_pow qe_int qe_int) (nomark _)) qa_nil))))
      (qb_one (qs_ret (qe_lst (qa_c (qv 3) (qa_c (qe_op q_mod (qe_op q_mul (qe_op q_mod (qe_op q_add (qe_op q_add (qv 2) (qe_op q_mul qe_int (qv 1))) qe_int) qe_int) qe_int) qe_int) qa_nil)))))))), ?_⟩
    rw [show L2.start ["_law_script", "_law_k", "_law_cell", "_law_digits"] [V.ref a, V.int k] = [some (V.ref a), some (V.int k), none, none] from rfl]
    walk_at "fs_rd"
    refine in_lenL hS ?_
    walk_at "fs_rd"
    refine in_split (fun h0 => ?_) (fun h0 => ?_)
    · walk_at "fs_rd"
      have hlt : k.toNat < ns.length := by rw [List.length_map] at h0; omega
      have hget : atI (ns.map V.int) k = some (V.int ns[k.toNat]) := by
        have e : k = (k.toNat : Int) := by omega
        have := atI_nat (xs := ns.map V.int) (j := k.toNat) (v := V.int ns[k.toNat]) (by simp [hlt])
        rw [← e] at this; exact this
      refine in_ix hS hget ?_
      generalize ns[k.toNat] = cell
      walk_at "fs_rd"
      exact ⟨three (by simp), fun p hp => q p _ hp ((Same.refl H).new hp) ⟨_, _, upd_same, Int.mul_nonneg (by split <;> omega) (by (repeat' split) <;> omega), Int.emod_nonneg _ (by omega)⟩⟩
    · walk_at "fs_rd"
      exact ⟨three (by simp), fun p hp => q p _ hp ((Same.refl H).new hp) ⟨_, _, upd_same, Int.mul_nonneg (by split <;> omega) (by (repeat' split) <;> omega), Int.emod_nonneg _ (by omega)⟩⟩

def RowsT (H : Hp) (ps : List Addr) (rss : List (List Nat)) : Prop := ps.length = rss.length ∧ ∀ (i : Nat) p r, ps[i]? = some p → rss[i]? = some r → H p = some (.tup (NV r))
theorem RowsT.same {H H1 : Hp} {ps : List Addr} {rss : List (List Nat)} (h : RowsT H ps rss) (e : Same H H1) : RowsT H1 ps rss := ⟨h.1, fun i p z a c => e _ _ (h.2 i p z a c)⟩
theorem RowsT.snoc {H : Hp} {ps : List Addr} {rss : List (List Nat)} {p : Addr} {r : List Nat} (h : RowsT H ps rss) (e : H p = some (.tup (NV r))) : RowsT H (ps ++ [p]) (rss ++ [r]) := by
  refine ⟨by simp [h.1], fun i q y a c => ?_⟩
  rcases snoc_get a with ⟨l, a⟩ | ⟨l, a⟩
  · rcases snoc_get c with ⟨_, c⟩ | ⟨l', c⟩
    · exact h.2 i q y a c
    · have := h.1; omega
  · rcases snoc_get c with ⟨l', c⟩ | ⟨_, c⟩
    · have := h.1; omega
    · rw [a, c]; exact e
theorem RowsT.st2 {H H1 : Hp} {q : Addr} {ps : List Addr} {rss : List (List Nat)} (h : RowsT H ps rss) (t : Tp2 H q) (e : St2 q H H1) : RowsT H1 ps rss := ⟨h.1, fun i p z a b => by
  have hp := h.2 i p z a b
  obtain ⟨x, y, ht, _⟩ := t
  exact e.keep _ _ hp (ne_of hp ht (by intro c; cases c))⟩
theorem tp_ne {H : Hp} {p x : Addr} {zs : List V} (t : Tp2 H p) (hx : H x = some (.tup zs)) : x ≠ p := by
  obtain ⟨a1, a2, h9, _⟩ := t
  exact ne_of hx h9 (by intro c; cases c)
theorem RowsT.own {H : Hp} {ps : List Addr} {rss : List (List Nat)} {l : Addr} {xs ys : List V} (h : RowsT H ps rss) (hl : H l = some (.lst xs)) : RowsT (upd H l (.lst ys)) ps rss := ⟨h.1, fun i p z a b => by
  have := h.2 i p z a b
  rw [upd_ne (ne_of this hl (by intro c; cases c))]; exact this⟩
def Good (rss : List (List Nat)) (w b : Nat) : Prop := ∀ r ∈ rss, r.length = w ∧ ∀ x ∈ r, x < b
theorem Good.snoc {rss : List (List Nat)} {w b : Nat} {r : List Nat} (h : Good rss w b) (h1 : r.length = w) (h2 : ∀ x ∈ r, x < b) : Good (rss ++ [r]) w b := fun q hq => by
  rcases List.mem_append.mp hq with g | g
  · exact h q g
  · rw [List.mem_singleton.mp g]; exact ⟨h1, h2⟩
theorem col_get {rss : List (List Nat)} {w b i c : Nat} {r : List Nat} (h : Good rss w b) (hr : rss[i]? = some r) (hc : c < w) : r[c]? = some (r.getD c 0) ∧ (colN rss c)[i]? = some (r.getD c 0) := by
  have hl := (h r (List.mem_of_getElem? hr)).1
  constructor
  · have : c < r.length := by omega
    simp [this]
  · unfold colN
    rw [List.getElem?_map, hr]; rfl
theorem col_lt {rss : List (List Nat)} {w b c : Nat} (h : Good rss w b) (hc : c < w) : ∀ o ∈ colN rss c, o < b := fun o ho => by
  obtain ⟨r, hr, rfl⟩ := List.mem_map.mp ho
  obtain ⟨h1, h2⟩ := h r hr
  have : c < r.length := by omega
  apply h2
  rw [List.getD_eq_getElem?_getD, List.getElem?_eq_getElem this]
  exact List.getElem_mem this
theorem col_len (rss : List (List Nat)) (c : Nat) : (colN rss c).length = rss.length := by simp [colN]

def RowsS (H : Hp) (ps : List Addr) (rss : List (List Nat)) : Prop := ps.length = rss.length ∧ ∀ (i : Nat) p r, ps[i]? = some p → rss[i]? = some r → H p = some (.lst (NV r)) ∨ H p = some (.tup (NV r))
theorem RowsS.same {H H1 : Hp} {ps : List Addr} {rss : List (List Nat)} (h : RowsS H ps rss) (e : Same H H1) : RowsS H1 ps rss := ⟨h.1, fun i p z a c => (h.2 i p z a c).elim (fun h => .inl (e _ _ h)) (fun h => .inr (e _ _ h))⟩
theorem RowsT.toS {H : Hp} {ps : List Addr} {rss : List (List Nat)} (h : RowsT H ps rss) : RowsS H ps rss := ⟨h.1, fun i p z a c => .inr (h.2 i p z a c)⟩
theorem LsAt.toS {H : Hp} {ps : List Addr} {rss : List (List Nat)} (h : LsAt H ps rss) : RowsS H ps rss := ⟨h.1, fun i p z a c => .inl (h.2 i p z a c)⟩
theorem NV_castL (r : List Nat) : NV r = (castL r).map V.int := NV_int r
theorem getD_row {rss : List (List Nat)} {i : Nat} {r : List Nat} (h : rss[i]? = some r) : rss.getD i [] = r := by rw [List.getD_eq_getElem?_getD, h]; rfl
theorem in_tupAny {K : PySem.W.Frag} {H : Hp} {Q : VK} {p : Addr} {xs : List V} (h : H p = some (.lst xs) ∨ H p = some (.tup xs)) (k : ∀ (q : Addr) H', Same H H' → H' q = some (.tup xs) → Q (.ref q) H') : rTupleOf K [.ref p] H Q := by
  rcases h with h | h
  · exact ⟨p, xs, rfl, .inl ⟨SqL.of h, fun l hl => k l _ ((Same.refl H).new hl) upd_same⟩⟩
  · exact ⟨p, xs, rfl, .inr ⟨SqT.of h, k p H (Same.refl H) h⟩⟩
def PrAt (H : Hp) (qs : List Addr) (ws : List (Nat × Nat)) : Prop := qs.length = ws.length ∧ ∀ (i : Nat) q s, qs[i]? = some q → ws[i]? = some s → H q = some (.tup [.int (s.1 : Nat), .int (s.2 : Nat)])
theorem PrAt.same {H H1 : Hp} {qs : List Addr} {ws : List (Nat × Nat)} (h : PrAt H qs ws) (s : Same H H1) : PrAt H1 qs ws := ⟨h.1, fun i q t a b => s _ _ (h.2 i q t a b)⟩
theorem PrAt.own {H : Hp} {qs : List Addr} {ws : List (Nat × Nat)} {l : Addr} {xs ys : List V} (h : PrAt H qs ws) (hl : H l = some (.lst xs)) : PrAt (upd H l (.lst ys)) qs ws := ⟨h.1, fun i q t a b => by
  have e := h.2 i q t a b
  rw [upd_ne (ne_of e hl (by intro c; cases c))]; exact e⟩
theorem PrAt.snoc {H : Hp} {qs : List Addr} {ws : List (Nat × Nat)} {q : Addr} {s : Nat × Nat} (h : PrAt H qs ws) (e : H q = some (.tup [.int (s.1 : Nat), .int (s.2 : Nat)])) : PrAt H (qs ++ [q]) (ws ++ [s]) := by
  refine ⟨by simp [h.1], fun i p y a b => ?_⟩
  rcases snoc_get a with ⟨l, a⟩ | ⟨l, a⟩
  · rcases snoc_get b with ⟨_, b⟩ | ⟨l', b⟩
    · exact h.2 i p y a b
    · have := h.1; omega
  · rcases snoc_get b with ⟨l', b⟩ | ⟨_, b⟩
    · have := h.1; omega
    · rw [a, b]; exact e
theorem PrAt.nil {H : Hp} : PrAt H [] [] := ⟨rfl, fun i q s h => by simp at h⟩
theorem TrAt.nil {H : Hp} : TrAt H [] [] := ⟨rfl, fun i q s h => by simp at h⟩
theorem either_same {H H1 : Hp} {p : Addr} {xs : List V} (s : H p = some (.lst xs) ∨ H p = some (.tup xs)) (e : Same H H1) : H1 p = some (.lst xs) ∨ H1 p = some (.tup xs) := s.elim (fun h => .inl (e _ _ h)) (fun h => .inr (e _ _ h))
def spMergedS : Sp := fun vs H Q _ => ∃ (a c : Addr) (ps qs : List Addr) (r1 r2 : List (List Nat)), vs = [.ref a, .ref c] ∧ H a = some (.lst (ps.map V.ref)) ∧ H c = some (.lst (qs.map V.ref)) ∧ RowsS H ps r1 ∧ RowsS H qs r2 ∧ ps.length + qs.length ≤ 200 ∧
  ∀ (l : Addr) (us : List Addr) (ws : List (Nat × Nat)) H', H l = none → Same H H' → H' l = some (.lst (us.map V.ref)) → PrAt H' us ws → ws.length = ps.length + qs.length → Mgd r1 r2 r1.length r2.length ws → Q (.ref l) H'
theorem _root_.L2.Mgd.le {r1 r2 : List (List Nat)} {i j : Nat} {ws : List (Nat × Nat)} (h : Mgd r1 r2 i j ws) : i ≤ r1.length ∧ j ≤ r2.length ∧ ∀ w ∈ ws, (w.1 = 0 ∧ w.2 < r1.length) ∨ (w.1 = 1 ∧ w.2 < r2.length) := by
  induction h with
  | nil => exact ⟨Nat.zero_le _, Nat.zero_le _, fun w h => nomatch h⟩
  | one h hi c ih => exact ⟨hi, ih.2.1, fun w hw => by
      rcases List.mem_append.mp hw with g | g
      · exact ih.2.2 w g
      · rw [List.mem_singleton.mp g]; exact .inl ⟨rfl, hi⟩⟩
  | two h hj c ih => exact ⟨ih.1, hj, fun w hw => by
      rcases List.mem_append.mp hw with g | g
      · exact ih.2.2 w g
      · rw [List.mem_singleton.mp g]; exact .inr ⟨rfl, hj⟩⟩
theorem ok_merged (T : Tx K mg t) : FnOk P w K mg t.bs CX0 1 t.f_merged t.d_merged ["one", "other"] spMergedS := by
  refine T.F_merged.okQ sc_merged (fun vs H Q E h => ?_) (fun cdv A outer s H vs Q E hr h => ?_)
  · obtain ⟨a, c, ps, qs, r1, r2, rfl, _⟩ := h
    rfl
  · obtain ⟨a, c, ps, qs, r1, r2, rfl, ta, tc, hR1, hR2, hn, k⟩ := h
    have hl1 : ps.length = r1.length := hR1.1
    have hl2 : qs.length = r2.length := hR2.1
    refine ⟨_, (qb_cons (qs_set (i := 2) sc_merged.nd rfl (Or.inl rfl) (qe_lst qa_nil))
      (qb_cons (qs_asgT (qe_tup (qa_c qe_int (qa_c qe_int qa_nil))) (qg_tup (K := K) (n := 2) rfl (qgs_cons (qg_name (i := 3) sc_merged.nd rfl (Or.inl rfl)) (qgs_cons (qg_name (i := 4) sc_merged.nd rfl (Or.inl rfl)) qgs_nil))))
      (qb_cons (qs_while PassesOwn.never (QW.qt (qw_or (qt_cmpR q_lt (qv 3) (qe_callB (qc_len (K := K)) (by rfl) T.z_len bt_len (qa_c (qv 0) qa_nil)) (nomark _)) (qw_or1 (qt_cmpR q_lt (qv 4) (qe_callB (qc_len (K := K)) (by rfl) T.z_len bt_len (qa_c (qv 1) qa_nil)) (nomark _))))) (qb_one (qs_if (QW.qt (qw_or (qt_cmpR q_eq (qv 4) (qe_callB (qc_len (K := K)) (by rfl) T.z_len bt_len (qa_c (qv 1) qa_nil)) (nomark _)) (qw_or1 (QW.qt (qw_and (qt_cmpR q_lt (qv 3) (qe_callB (qc_len (K := K)) (by rfl) T.z_len bt_len (qa_c (qv 0) qa_nil)) (nomark _)) (qw_and1 (qt_cmpR (q_leT (K := K) hr.units0) (qe_callTy (qc_tuple (K := K)) (by rfl) T.z_tuple bt_tuple (qa_c (qe_ix (q_ixL (K := K)) (qv 0) (qv 3)) qa_nil)) (qe_callTy (qc_tuple (K := K)) (by rfl) T.z_tuple bt_tuple (qa_c (qe_ix (q_ixL (K := K)) (qv 1) (qv 4)) qa_nil)) (nomark _)))))))) (qb_cons (qs_expr (qe_append (K := K) (qv 2) (qa_c (qe_tup (qa_c qe_int (qa_c (qv 3) qa_nil))) qa_nil)))
      (qb_one (qs_aug (i := 3) sc_merged.nd rfl (Or.inl rfl) qe_int q_iadd))) (qb_cons (qs_expr (qe_append (K := K) (qv 2) (qa_c (qe_tup (qa_c qe_int (qa_c (qv 4) qa_nil))) qa_nil)))
      (qb_one (qs_aug (i := 4) sc_merged.nd rfl (Or.inl rfl) qe_int q_iadd))))))
      (qb_one (qs_ret (qv 2)))))), ?_⟩
    rw [show L2.start ["one", "other", "both", "at", "beside"] [V.ref a, V.ref c] = [some (V.ref a), some (V.ref c), none, none, none] from rfl]
    walk_at "fs_rd"
    refine ⟨three (by simp), fun l hbn => ?_⟩
    have s1 := (Same.refl H).new (o := .lst []) hbn
    have tl : (upd H l (.lst [])) l = some (.lst (([] : List Addr).map V.ref)) := upd_same
    generalize upd H l (.lst []) = H1 at s1 tl
    walk_at "fs_rd"
    refine ⟨three (by simp), fun z0 hz0 => ?_⟩
    have s1 := s1.new (o := .tup [V.int 0, V.int 0]) hz0
    have tl : (upd H1 z0 (.tup [V.int 0, V.int 0])) l = some (.lst (([] : List Addr).map V.ref)) := by rw [upd_ne (ne_of_none tl hz0)]; exact tl
    have tz0 : (upd H1 z0 (.tup [V.int 0, V.int 0])) z0 = some (.tup [V.int 0, V.int 0]) := upd_same
    generalize upd H1 z0 (.tup [V.int 0, V.int 0]) = H1 at s1 tl tz0
    refine in_gtup2 tz0 ?_
    dsimp only [List.set]
    walk_at "fs_rd"
    refine ⟨fun m σ H' => ∃ (us : List Addr) (ws : List (Nat × Nat)) (i j : Nat), m = (ps.length - i) + (qs.length - j) ∧ Same H H' ∧ H' l = some (.lst (us.map V.ref)) ∧ PrAt H' us ws ∧ ws.length = i + j ∧ Mgd r1 r2 i j ws ∧ σ = [some (V.ref a), some (V.ref c), some (V.ref l), some (V.int (i : Nat)), some (V.int (j : Nat))], ⟨_, [], [], 0, 0, rfl, s1, tl, PrAt.nil, rfl, Mgd.nil, rfl⟩, ?_⟩
    rintro m σ H3 ⟨us, ws, i, j, rfl, s3, tb3, hU, hwl, hM, rfl⟩
    have hil := hM.le.1
    have hjl := hM.le.2.1
    walk_at "fs_rd"
    refine in_lenL (SqL.of (s3 _ _ ta)) ?_
    rw [List.length_map]
    walk_at "fs_rd"
    refine in_split (fun g1 => ?_) (fun g1 => ?_)
    · skip
      walk_at "fs_rd"
      refine ⟨_, fun _ _ z => z, ?_⟩
      walk_at "fs_rd"
      refine in_lenL (SqL.of (s3 _ _ tc)) ?_
      rw [List.length_map]
      walk_at "fs_rd"
      refine in_split (fun g2 => ?_) (fun g2 => ?_)
      · have e2 : j = qs.length := Int.ofNat.inj (V.int.inj g2)
        walk_at "fs_rd"
        refine ⟨ty_list tb3, ?_⟩
        walk_at "fs_rd"
        refine ⟨three (by simp), fun u hu => ?_⟩
        have s4 := (Same.refl H3).new (o := .tup [V.int 0, V.int (i : Nat)]) hu
        have tu : (upd H3 u (.tup [V.int 0, V.int (i : Nat)])) u = some (.tup [V.int ((0 : Nat) : Int), V.int (i : Nat)]) := upd_same
        generalize upd H3 u (.tup [V.int 0, V.int (i : Nat)]) = H4 at s4 tu
        walk_at "fs_rd"
        refine in_append (s4 _ _ tb3) (by rw [List.length_map, hU.1]; exact small1000 (by omega)) ?_
        walk_at "fs_rd"
        have e9 : (i : Int) + 1 = ((i + 1 : Nat) : Int) := by omega
        refine ⟨(ps.length - (i + 1)) + (qs.length - j), by omega, us ++ [u], ws ++ [(0, i)], i + 1, j, rfl, (s3.trans s4).own hbn, by rw [upd_same, List.map_append]; rfl, ((hU.same s4).snoc tu).own (s4 _ _ tb3), by rw [List.length_append, List.length_singleton]; omega, hM.one (by omega) (.inl (by omega)), by rw [← e9]; rfl⟩
      walk_at "fs_rd"
      refine in_lenL (SqL.of (s3 _ _ ta)) ?_
      rw [List.length_map]
      walk_at "fs_rd"
      have g2' : j < qs.length := by have : j ≠ qs.length := fun z => g2 (by rw [z]); omega
      refine in_split (fun g3 => ?_) (fun g3 => ?_)
      · have hip : i < ps.length := by omega
        have ei : r1[i]? = some (r1[i]'(by rw [← hR1.1]; exact hip)) := List.getElem?_eq_getElem _
        have ej : r2[j]? = some (r2[j]'(by rw [← hR2.1]; exact g2')) := List.getElem?_eq_getElem _
        have t1 := (hR1.same s3).2 i ps[i] _ (by simp [hip]) ei
        have t2 := (hR2.same s3).2 j qs[j] _ (by simp [g2']) ej
        walk_at "fs_rd"
        refine in_ix (SqL.of (s3 _ _ ta)) (v := V.ref ps[i]) (atI_nat (by rw [List.getElem?_map]; simp [hip])) ?_
        walk_at "fs_rd"
        refine in_tupAny t1 fun q1 H3a s3a u1 => ?_
        walk_at "fs_rd"
        refine in_ix (SqL.of (s3a _ _ (s3 _ _ tc))) (v := V.ref qs[j]) (atI_nat (by rw [List.getElem?_map]; simp [g2'])) ?_
        walk_at "fs_rd"
        refine in_tupAny (either_same t2 s3a) fun q2 H3b s3b u2 => ?_
        refine in_leT (ns := castL _) (ms := castL _) (SqT.of (by rw [← NV_castL]; exact s3b _ _ u1)) (SqT.of (by rw [← NV_castL]; exact u2)) ?_
        have ev : HT.lexLe (castL (r1[i]'(by rw [← hR1.1]; exact hip))) (castL (r2[j]'(by rw [← hR2.1]; exact g2'))) = !lxt (r2.getD j []) (r1.getD i []) := by
          rw [HT.lexLe_not, getD_row ei, getD_row ej]; rfl
        rw [ev]
        have s3' := s3.trans (s3a.trans s3b)
        have tb3' := (s3a.trans s3b) _ _ tb3
        have hU' := hU.same (s3a.trans s3b)
        clear s3 tb3 hU t1 t2 u1
        have s3 := s3'
        have tb3 := tb3'
        have hU := hU'
        clear s3' tb3' hU' s3a u2 s3b
        generalize H3b = H3 at s3 tb3 hU
        walk_at "fs_rd"
        cases hle : lxt (r2.getD j []) (r1.getD i []) with
        | false =>
          walk_at "fs_rd"
          refine ⟨ty_list tb3, ?_⟩
          walk_at "fs_rd"
          refine ⟨three (by simp), fun u hu => ?_⟩
          have s4 := (Same.refl H3).new (o := .tup [V.int 0, V.int (i : Nat)]) hu
          have tu : (upd H3 u (.tup [V.int 0, V.int (i : Nat)])) u = some (.tup [V.int ((0 : Nat) : Int), V.int (i : Nat)]) := upd_same
          generalize upd H3 u (.tup [V.int 0, V.int (i : Nat)]) = H4 at s4 tu
          walk_at "fs_rd"
          refine in_append (s4 _ _ tb3) (by rw [List.length_map, hU.1]; exact small1000 (by omega)) ?_
          walk_at "fs_rd"
          have e9 : (i : Int) + 1 = ((i + 1 : Nat) : Int) := by omega
          refine ⟨(ps.length - (i + 1)) + (qs.length - j), by omega, us ++ [u], ws ++ [(0, i)], i + 1, j, rfl, (s3.trans s4).own hbn, by rw [upd_same, List.map_append]; rfl, ((hU.same s4).snoc tu).own (s4 _ _ tb3), by rw [List.length_append, List.length_singleton]; omega, hM.one (by omega) (.inr hle), by rw [← e9]; rfl⟩
        | true =>
          walk_at "fs_rd"
          refine ⟨ty_list tb3, ?_⟩
          walk_at "fs_rd"
          refine ⟨three (by simp), fun u hu => ?_⟩
          have s4 := (Same.refl H3).new (o := .tup [V.int 1, V.int (j : Nat)]) hu
          have tu : (upd H3 u (.tup [V.int 1, V.int (j : Nat)])) u = some (.tup [V.int ((1 : Nat) : Int), V.int (j : Nat)]) := upd_same
          generalize upd H3 u (.tup [V.int 1, V.int (j : Nat)]) = H4 at s4 tu
          walk_at "fs_rd"
          refine in_append (s4 _ _ tb3) (by rw [List.length_map, hU.1]; exact small1000 (by omega)) ?_
          walk_at "fs_rd"
          have e9 : (j : Int) + 1 = ((j + 1 : Nat) : Int) := by omega
          refine ⟨(ps.length - i) + (qs.length - (j + 1)), by omega, us ++ [u], ws ++ [(1, j)], i, j + 1, rfl, (s3.trans s4).own hbn, by rw [upd_same, List.map_append]; rfl, ((hU.same s4).snoc tu).own (s4 _ _ tb3), by rw [List.length_append, List.length_singleton]; omega, hM.two (by omega) (.inr hle), by rw [← e9]; rfl⟩
      · have hnp : ¬ i < ps.length := by omega
        walk_at "fs_rd"
        refine ⟨ty_list tb3, ?_⟩
        walk_at "fs_rd"
        refine ⟨three (by simp), fun u hu => ?_⟩
        have s4 := (Same.refl H3).new (o := .tup [V.int 1, V.int (j : Nat)]) hu
        have tu : (upd H3 u (.tup [V.int 1, V.int (j : Nat)])) u = some (.tup [V.int ((1 : Nat) : Int), V.int (j : Nat)]) := upd_same
        generalize upd H3 u (.tup [V.int 1, V.int (j : Nat)]) = H4 at s4 tu
        walk_at "fs_rd"
        refine in_append (s4 _ _ tb3) (by rw [List.length_map, hU.1]; exact small1000 (by omega)) ?_
        walk_at "fs_rd"
        have e9 : (j : Int) + 1 = ((j + 1 : Nat) : Int) := by omega
        refine ⟨(ps.length - i) + (qs.length - (j + 1)), by omega, us ++ [u], ws ++ [(1, j)], i, j + 1, rfl, (s3.trans s4).own hbn, by rw [upd_same, List.map_append]; rfl, ((hU.same s4).snoc tu).own (s4 _ _ tb3), by rw [List.length_append, List.length_singleton]; omega, hM.two (by omega) (.inl (by omega)), by rw [← e9]; rfl⟩
    walk_at "fs_rd"
    refine in_lenL (SqL.of (s3 _ _ tc)) ?_
    rw [List.length_map]
    walk_at "fs_rd"
    refine in_split (fun g1' => ?_) (fun g1' => ?_)
    · skip
      walk_at "fs_rd"
      refine ⟨_, fun _ _ z => z, ?_⟩
      walk_at "fs_rd"
      refine in_lenL (SqL.of (s3 _ _ tc)) ?_
      rw [List.length_map]
      walk_at "fs_rd"
      refine in_split (fun g2 => ?_) (fun g2 => ?_)
      · have e2 : j = qs.length := Int.ofNat.inj (V.int.inj g2)
        walk_at "fs_rd"
        refine ⟨ty_list tb3, ?_⟩
        walk_at "fs_rd"
        refine ⟨three (by simp), fun u hu => ?_⟩
        have s4 := (Same.refl H3).new (o := .tup [V.int 0, V.int (i : Nat)]) hu
        have tu : (upd H3 u (.tup [V.int 0, V.int (i : Nat)])) u = some (.tup [V.int ((0 : Nat) : Int), V.int (i : Nat)]) := upd_same
        generalize upd H3 u (.tup [V.int 0, V.int (i : Nat)]) = H4 at s4 tu
        walk_at "fs_rd"
        refine in_append (s4 _ _ tb3) (by rw [List.length_map, hU.1]; exact small1000 (by omega)) ?_
        walk_at "fs_rd"
        have e9 : (i : Int) + 1 = ((i + 1 : Nat) : Int) := by omega
        refine ⟨(ps.length - (i + 1)) + (qs.length - j), by omega, us ++ [u], ws ++ [(0, i)], i + 1, j, rfl, (s3.trans s4).own hbn, by rw [upd_same, List.map_append]; rfl, ((hU.same s4).snoc tu).own (s4 _ _ tb3), by rw [List.length_append, List.length_singleton]; omega, hM.one (by omega) (.inl (by omega)), by rw [← e9]; rfl⟩
      walk_at "fs_rd"
      refine in_lenL (SqL.of (s3 _ _ ta)) ?_
      rw [List.length_map]
      walk_at "fs_rd"
      have g2' : j < qs.length := by have : j ≠ qs.length := fun z => g2 (by rw [z]); omega
      refine in_split (fun g3 => ?_) (fun g3 => ?_)
      · have hip : i < ps.length := by omega
        have ei : r1[i]? = some (r1[i]'(by rw [← hR1.1]; exact hip)) := List.getElem?_eq_getElem _
        have ej : r2[j]? = some (r2[j]'(by rw [← hR2.1]; exact g2')) := List.getElem?_eq_getElem _
        have t1 := (hR1.same s3).2 i ps[i] _ (by simp [hip]) ei
        have t2 := (hR2.same s3).2 j qs[j] _ (by simp [g2']) ej
        walk_at "fs_rd"
        refine in_ix (SqL.of (s3 _ _ ta)) (v := V.ref ps[i]) (atI_nat (by rw [List.getElem?_map]; simp [hip])) ?_
        walk_at "fs_rd"
        refine in_tupAny t1 fun q1 H3a s3a u1 => ?_
        walk_at "fs_rd"
        refine in_ix (SqL.of (s3a _ _ (s3 _ _ tc))) (v := V.ref qs[j]) (atI_nat (by rw [List.getElem?_map]; simp [g2'])) ?_
        walk_at "fs_rd"
        refine in_tupAny (either_same t2 s3a) fun q2 H3b s3b u2 => ?_
        refine in_leT (ns := castL _) (ms := castL _) (SqT.of (by rw [← NV_castL]; exact s3b _ _ u1)) (SqT.of (by rw [← NV_castL]; exact u2)) ?_
        have ev : HT.lexLe (castL (r1[i]'(by rw [← hR1.1]; exact hip))) (castL (r2[j]'(by rw [← hR2.1]; exact g2'))) = !lxt (r2.getD j []) (r1.getD i []) := by
          rw [HT.lexLe_not, getD_row ei, getD_row ej]; rfl
        rw [ev]
        have s3' := s3.trans (s3a.trans s3b)
        have tb3' := (s3a.trans s3b) _ _ tb3
        have hU' := hU.same (s3a.trans s3b)
        clear s3 tb3 hU t1 t2 u1
        have s3 := s3'
        have tb3 := tb3'
        have hU := hU'
        clear s3' tb3' hU' s3a u2 s3b
        generalize H3b = H3 at s3 tb3 hU
        walk_at "fs_rd"
        cases hle : lxt (r2.getD j []) (r1.getD i []) with
        | false =>
          walk_at "fs_rd"
          refine ⟨ty_list tb3, ?_⟩
          walk_at "fs_rd"
          refine ⟨three (by simp), fun u hu => ?_⟩
          have s4 := (Same.refl H3).new (o := .tup [V.int 0, V.int (i : Nat)]) hu
          have tu : (upd H3 u (.tup [V.int 0, V.int (i : Nat)])) u = some (.tup [V.int ((0 : Nat) : Int), V.int (i : Nat)]) := upd_same
          generalize upd H3 u (.tup [V.int 0, V.int (i : Nat)]) = H4 at s4 tu
          walk_at "fs_rd"
          refine in_append (s4 _ _ tb3) (by rw [List.length_map, hU.1]; exact small1000 (by omega)) ?_
          walk_at "fs_rd"
          have e9 : (i : Int) + 1 = ((i + 1 : Nat) : Int) := by omega
          refine ⟨(ps.length - (i + 1)) + (qs.length - j), by omega, us ++ [u], ws ++ [(0, i)], i + 1, j, rfl, (s3.trans s4).own hbn, by rw [upd_same, List.map_append]; rfl, ((hU.same s4).snoc tu).own (s4 _ _ tb3), by rw [List.length_append, List.length_singleton]; omega, hM.one (by omega) (.inr hle), by rw [← e9]; rfl⟩
        | true =>
          walk_at "fs_rd"
          refine ⟨ty_list tb3, ?_⟩
          walk_at "fs_rd"
          refine ⟨three (by simp), fun u hu => ?_⟩
          have s4 := (Same.refl H3).new (o := .tup [V.int 1, V.int (j : Nat)]) hu
          have tu : (upd H3 u (.tup [V.int 1, V.int (j : Nat)])) u = some (.tup [V.int ((1 : Nat) : Int), V.int (j : Nat)]) := upd_same
          generalize upd H3 u (.tup [V.int 1, V.int (j : Nat)]) = H4 at s4 tu
          walk_at "fs_rd"
          refine in_append (s4 _ _ tb3) (by rw [List.length_map, hU.1]; exact small1000 (by omega)) ?_
          walk_at "fs_rd"
          have e9 : (j : Int) + 1 = ((j + 1 : Nat) : Int) := by omega
          refine ⟨(ps.length - i) + (qs.length - (j + 1)), by omega, us ++ [u], ws ++ [(1, j)], i, j + 1, rfl, (s3.trans s4).own hbn, by rw [upd_same, List.map_append]; rfl, ((hU.same s4).snoc tu).own (s4 _ _ tb3), by rw [List.length_append, List.length_singleton]; omega, hM.two (by omega) (.inr hle), by rw [← e9]; rfl⟩
      · have hnp : ¬ i < ps.length := by omega
        walk_at "fs_rd"
        refine ⟨ty_list tb3, ?_⟩
        walk_at "fs_rd"
        refine ⟨three (by simp), fun u hu => ?_⟩
        have s4 := (Same.refl H3).new (o := .tup [V.int 1, V.int (j : Nat)]) hu
        have tu : (upd H3 u (.tup [V.int 1, V.int (j : Nat)])) u = some (.tup [V.int ((1 : Nat) : Int), V.int (j : Nat)]) := upd_same
        generalize upd H3 u (.tup [V.int 1, V.int (j : Nat)]) = H4 at s4 tu
        walk_at "fs_rd"
        refine in_append (s4 _ _ tb3) (by rw [List.length_map, hU.1]; exact small1000 (by omega)) ?_
        walk_at "fs_rd"
        have e9 : (j : Int) + 1 = ((j + 1 : Nat) : Int) := by omega
        refine ⟨(ps.length - i) + (qs.length - (j + 1)), by omega, us ++ [u], ws ++ [(1, j)], i, j + 1, rfl, (s3.trans s4).own hbn, by rw [upd_same, List.map_append]; rfl, ((hU.same s4).snoc tu).own (s4 _ _ tb3), by rw [List.length_append, List.length_singleton]; omega, hM.two (by omega) (.inl (by omega)), by rw [← e9]; rfl⟩
    · walk_at "fs_rd"
      have ei : i = r1.length := by omega
      have ej : j = r2.length := by omega
      rw [ei, ej] at hM
      exact k l us ws H3 hbn s3 tb3 hU (by omega) hM

theorem RowsS.snoc {H : Hp} {ps : List Addr} {rss : List (List Nat)} {p : Addr} {r : List Nat} (h : RowsS H ps rss) (e : H p = some (.lst (NV r)) ∨ H p = some (.tup (NV r))) : RowsS H (ps ++ [p]) (rss ++ [r]) := by
  refine ⟨by simp [h.1], fun i q y a b => ?_⟩
  rcases snoc_get a with ⟨l, a⟩ | ⟨l, a⟩
  · rcases snoc_get b with ⟨_, b⟩ | ⟨l', b⟩
    · exact h.2 i q y a b
    · have := h.1; omega
  · rcases snoc_get b with ⟨l', b⟩ | ⟨_, b⟩
    · have := h.1; omega
    · rw [a, b]; exact e
section
variable {K : PySem.W.Frag} {H : Hp} {Q : VK}
theorem in_slLA {a : Addr} {xs : List V} {lo hi : Option Int} (h1 : H a = some (.lst xs)) (h : ∀ p H', H p = none → Same H H' → H' p = some (.lst (cutV xs lo hi)) → Q (.ref p) H') : rSlL K (.ref a) lo hi H Q := ⟨a, xs, rfl, SqL.of h1, fun p hp => h p _ hp ((Same.refl H).new hp) upd_same⟩
theorem in_slL0 {a : Addr} {xs : List V} {lo hi : Option Int} (h1 : H a = some (.lst xs)) (h : ∀ p H', Same H H' → H' p = some (.lst (cutV xs lo hi)) → Q (.ref p) H') : rSlL K (.ref a) lo hi H Q := ⟨a, xs, rfl, SqL.of h1, fun p hp => h p _ ((Same.refl H).new hp) upd_same⟩
theorem in_slT0 {a : Addr} {xs : List V} {lo hi : Option Int} (h1 : H a = some (.tup xs)) (h : ∀ p H', Same H H' → H' p = some (.tup (cutV xs lo hi)) → Q (.ref p) H') : rSlTA (.ref a) lo hi H Q := ⟨a, xs, rfl, h1, h⟩
end
def spMPS : Sp := fun vs H Q _ => ∃ (r a c : Addr) (ps : List Addr) (rss : List (List Nat)) (xs ys : List Nat) (f m e : Nat), vs = [.ref r, .ref a, .ref c] ∧ (H r = some (.lst (ps.map V.ref)) ∨ H r = some (.tup (ps.map V.ref))) ∧ RowsS H ps rss ∧ H a = some (.lst (NV xs)) ∧ H c = some (.lst (NV ys)) ∧ Seg rss f m xs ∧ Seg rss m e ys ∧ f ≤ m ∧ m ≤ e ∧ e ≤ rss.length ∧ rss.length ≤ 200 ∧
  ∀ (l : Addr) (zs : List Nat) H', H l = none → Same H H' → H' l = some (.lst (NV zs)) → Seg rss f e zs → Q (.ref l) H'
theorem ok_merged_places (T : Tx K mg t) : FnOk P w K mg t.bs CX0 2 t.f_merged_places t.d_merged_places ["rows", "one", "other"] spMPS := by
  refine T.F_merged_places.okQ sc_merged_places (fun vs H Q E h => ?_) (fun cdv A outer s H vs Q E hr h => ?_)
  · obtain ⟨r, a, c, ps, rss, xs, ys, f, m, e, rfl, _⟩ := h
    rfl
  · obtain ⟨r, a, c, ps, rss, xs, ys, f, m, e, rfl, htr, hR, ta, tc, hsx, hsy, hfm, hme, hel, hrn, k⟩ := h
    have hpl : ps.length = rss.length := hR.1
    have hx : ∀ x ∈ xs, x < rss.length := fun x hx => by have := hsx.mem hx; omega
    have hy : ∀ x ∈ ys, x < rss.length := fun x hx => by have := hsy.mem hx; omega
    have hn : xs.length + ys.length ≤ 200 := by have := hsx.len; have := hsy.len; omega
    rcases htr with tr | tr
    · refine ⟨_, (qb_cons (qs_set (i := 3) sc_merged_places.nd rfl (Or.inl rfl) (qe_call (ok_merged T) (hr.mono (by decide)) rfl T.m_merged T.F_merged.kp T.b_merged pass0 (qa_c (qe_comp (N := ["place", "rows"]) (tgs := ["place"]) (frs := ["rows"]) (ix := [0]) ⟨rfl, by decide +kernel, rfl, by decide +kernel, rfl, rfl, ⟨⟨rfl, rfl, _, rfl, rfl⟩, True.intro⟩, ⟨rfl, True.intro⟩, rfl⟩ rfl (qi_list (K := K) (qv 1)) (fun _ _ _ _ => (qg_name (i := 0) (by show List.Nodup (["place", "rows"] : List Str); decide +kernel) rfl (Or.inl rfl))) (fun _ _ _ _ => (qe_ix (q_ixL (K := K)) (qv 1) (qv 0)))) (qa_c (qe_comp (N := ["place", "rows"]) (tgs := ["place"]) (frs := ["rows"]) (ix := [0]) ⟨rfl, by decide +kernel, rfl, by decide +kernel, rfl, rfl, ⟨⟨rfl, rfl, _, rfl, rfl⟩, True.intro⟩, ⟨rfl, True.intro⟩, rfl⟩ rfl (qi_list (K := K) (qv 2)) (fun _ _ _ _ => (qg_name (i := 0) (by show List.Nodup (["place", "rows"] : List Str); decide +kernel) rfl (Or.inl rfl))) (fun _ _ _ _ => (qe_ix (q_ixL (K := K)) (qv 1) (qv 0)))) qa_nil))))
      (qb_cons (qs_set (i := 4) sc_merged_places.nd rfl (Or.inr rfl) (qe_tup (qa_c (qv 1) (qa_c (qv 2) qa_nil))))
      (qb_one (qs_ret (qe_comp (N := ["which", "at", "places"]) (tgs := ["which", "at"]) (frs := ["places"]) (ix := [4]) ⟨rfl, by decide +kernel, rfl, by decide +kernel, rfl, rfl, ⟨⟨rfl, rfl, _, rfl, rfl⟩, True.intro⟩, ⟨rfl, True.intro⟩, rfl⟩ rfl (qi_list (K := K) (qv 3)) (fun _ _ _ _ => (qg_tup (K := K) (n := 2) rfl (qgs_cons (qg_name (i := 0) (by show List.Nodup (["which", "at", "places"] : List Str); decide +kernel) rfl (Or.inl rfl)) (qgs_cons (qg_name (i := 1) (by show List.Nodup (["which", "at", "places"] : List Str); decide +kernel) rfl (Or.inl rfl)) qgs_nil)))) (fun _ _ _ _ => (qe_ix (q_ixL (K := K)) (qe_ix (q_ixT (K := K)) (qv 2) (qv 0)) (qv 1)))))))), ?_⟩
      rw [show L2.start ["rows", "one", "other", "pairs", "places"] [V.ref r, V.ref a, V.ref c] = [some (V.ref r), some (V.ref a), some (V.ref c), none, none] from rfl]
      walk_at "fs_rd"
      refine ⟨a, rfl, ⟨_, SqL.of ta⟩, comp_lst (a := a) (vs := NV xs) (fun i zs σ H' => H' = H ∧ i ≤ xs.length ∧ (∃ us : List Addr, zs = us.map V.ref ∧ us.length = i ∧ RowsS H us ((xs.take i).map fun x => rss.getD x [])) ∧ ∃ v, σ = [v, some (V.ref r)]) (by rw [NV_len]; exact small1000 (by omega)) (fun i zs σ H' h => by obtain ⟨_, _, ⟨us, rfl, e, _⟩, _⟩ := h; rw [List.length_map, e]) (fun i zs σ H' h => by rw [h.1]; exact SqL.of ta) ⟨rfl, Nat.zero_le _, ⟨[], rfl, rfl, rfl, fun i p z h => by simp at h⟩, none, rfl⟩ ?_ ?_⟩
      · rintro i zs σ H' x hx' ⟨rfl, _, ⟨us, rfl, hul, hU⟩, v, rfl⟩
        have hil := get_lt hx'
        obtain ⟨q, rfl, hq, hqm, hi⟩ := map_get hx'
        have hqn := hx q hqm
        have hqp : q < ps.length := by omega
        have eq' : rss[q]? = some rss[q] := by simp [hqn]
        have eg : rss.getD q [] = rss[q] := by rw [List.getD_eq_getElem?_getD, eq']; rfl
        walk_at "fs_rd"
        refine in_ix (SqL.of tr) (v := V.ref ps[q]) (atI_nat (by rw [List.getElem?_map]; simp [hqp])) ?_
        refine Nx.mk hil ⟨rfl, hi, ⟨us ++ [ps[q]], by rw [List.map_append]; rfl, by simp [hul], ?_⟩, _, rfl⟩
        rw [List.take_add_one, hq, List.map_append]
        show RowsS _ _ (_ ++ [rss.getD q []])
        rw [eg]
        exact hU.snoc (hR.2 q ps[q] _ (by simp [hqp]) eq')
      rintro zs σ H1 ⟨e1, _, ⟨us, rfl, hul, hU⟩, v, rfl⟩ l1 hl1
      subst e1
      rw [NV_len] at hul hU
      rw [List.take_of_length_le (Nat.le_refl _)] at hU
      have s2 := (Same.refl H1).new (o := .lst (us.map V.ref)) hl1
      have tl1 : (upd H1 l1 (.lst (us.map V.ref))) l1 = some (.lst (us.map V.ref)) := upd_same
      generalize upd H1 l1 (.lst (us.map V.ref)) = H2 at s2 tl1
      have tc2 := s2 _ _ tc
      walk_at "fs_rd"
      refine ⟨c, rfl, ⟨_, SqL.of tc2⟩, comp_lst (a := c) (vs := NV ys) (fun i zs σ H' => H' = H2 ∧ i ≤ ys.length ∧ (∃ vs : List Addr, zs = vs.map V.ref ∧ vs.length = i ∧ RowsS H2 vs ((ys.take i).map fun x => rss.getD x [])) ∧ ∃ v, σ = [v, some (V.ref r)]) (by rw [NV_len]; exact small1000 (by omega)) (fun i zs σ H' h => by obtain ⟨_, _, ⟨us, rfl, e, _⟩, _⟩ := h; rw [List.length_map, e]) (fun i zs σ H' h => by rw [h.1]; exact SqL.of tc2) ⟨rfl, Nat.zero_le _, ⟨[], rfl, rfl, rfl, fun i p z h => by simp at h⟩, none, rfl⟩ ?_ ?_⟩
      · rintro i zs σ H' x hx' ⟨rfl, _, ⟨vs, rfl, hvl, hV⟩, v, rfl⟩
        have hil := get_lt hx'
        obtain ⟨q, rfl, hq, hqm, hi⟩ := map_get hx'
        have hqn := hy q hqm
        have hqp : q < ps.length := by omega
        have eq' : rss[q]? = some rss[q] := by simp [hqn]
        have eg : rss.getD q [] = rss[q] := by rw [List.getD_eq_getElem?_getD, eq']; rfl
        walk_at "fs_rd"
        refine in_ix (SqL.of (s2 _ _ tr)) (v := V.ref ps[q]) (atI_nat (by rw [List.getElem?_map]; simp [hqp])) ?_
        refine Nx.mk hil ⟨rfl, hi, ⟨vs ++ [ps[q]], by rw [List.map_append]; rfl, by simp [hvl], ?_⟩, _, rfl⟩
        rw [List.take_add_one, hq, List.map_append]
        show RowsS _ _ (_ ++ [rss.getD q []])
        rw [eg]
        exact hV.snoc ((hR.same s2).2 q ps[q] _ (by simp [hqp]) eq')
      rintro zs σ H3 ⟨e3, _, ⟨vs, rfl, hvl, hV⟩, v, rfl⟩ l2 hl2
      subst e3
      rw [NV_len] at hvl hV
      rw [List.take_of_length_le (Nat.le_refl _)] at hV
      have s34 := (Same.refl H3).new (o := .lst (vs.map V.ref)) hl2
      have tl2 : (upd H3 l2 (.lst (vs.map V.ref))) l2 = some (.lst (vs.map V.ref)) := upd_same
      generalize upd H3 l2 (.lst (vs.map V.ref)) = H4 at s34 tl2
      have s4 := s2.trans s34
      walk_at "fs_rd"
      refine ⟨l1, l2, us, vs, _, _, rfl, s34 _ _ tl1, tl2, hU.same s4, hV.same s34, by omega, fun pl qs ws H5 hpl0 s5 tpl hP hwl hM => ?_⟩
      rw [List.length_map, List.length_map] at hM
      have hok := hM.le.2.2
      have hul' : us.length = xs.length := hul
      have hvl' : vs.length = ys.length := hvl
      have s05 := s4.trans s5
      walk_at "fs_rd"
      refine ⟨three (by simp), fun tt htt => ?_⟩
      have s56 := (Same.refl H5).new (o := .tup [V.ref a, V.ref c]) htt
      have ttt : (upd H5 tt (.tup [V.ref a, V.ref c])) tt = some (.tup [V.ref a, V.ref c]) := upd_same
      generalize upd H5 tt (.tup [V.ref a, V.ref c]) = H6 at s56 ttt
      have s06 := s05.trans s56
      have tpl6 := s56 _ _ tpl
      have P6 := hP.same s56
      have hqw : qs.length = ws.length := hP.1
      walk_at "fs_rd"
      refine ⟨pl, rfl, ⟨_, SqL.of tpl6⟩, comp_lst (a := pl) (vs := qs.map V.ref) (fun i zs σ H' => H' = H6 ∧ (zs = NV ((ws.take i).map (pick xs ys)) ∧ i ≤ ws.length) ∧ ∃ v w, σ = [v, w, some (V.ref tt)]) (by rw [List.length_map]; exact small1000 (by omega)) (fun i zs σ H' h => by rw [h.2.1.1, NV_len, List.length_map, List.length_take]; have := h.2.1.2; omega) (fun i zs σ H' h => by rw [h.1]; exact SqL.of tpl6) ⟨rfl, ⟨rfl, Nat.zero_le _⟩, none, none, rfl⟩ ?_ ?_⟩
      · rintro i zs σ H' x hx' ⟨rfl, ⟨rfl, hnl⟩, v, w, rfl⟩
        have hil := get_lt hx'
        obtain ⟨q, rfl, hq, _, hi⟩ := map_get hx'
        have hiw : i < ws.length := by omega
        have tq := P6.2 i q ws[i] hq (by simp [hiw])
        have hw := hok ws[i] (List.getElem_mem hiw)
        have etk : (ws.take (i + 1)).map (pick xs ys) = (ws.take i).map (pick xs ys) ++ [pick xs ys ws[i]] := by rw [List.take_add_one, List.getElem?_eq_getElem hiw, List.map_append]; rfl
        generalize ws[i] = w9 at tq hw etk
        obtain ⟨w1, w2⟩ := w9
        refine in_gtup2 tq ?_
        dsimp only [List.set]
        rcases hw with ⟨h1, h2⟩ | ⟨h1, h2⟩
        · have h1 : w1 = 0 := h1
          have h2 : w2 < xs.length := by have := h2; rw [List.length_map] at this; exact this
          subst h1
          have hw2 : w2 < xs.length := by omega
          walk_at "fs_rd"
          refine in_ix (SqL.of (s06 _ _ ta)) (NV_at rfl (o := xs[w2]) (by simp [hw2])) ?_
          refine Nx.mk hil ⟨rfl, ⟨?_, hiw⟩, _, _, rfl⟩
          rw [etk, ← NV_snoc]
          have ep : pick xs ys (0, w2) = xs[w2] := by unfold pick; simp [hw2]
          rw [ep]
        · have h1 : w1 = 1 := h1
          have h2 : w2 < ys.length := by have := h2; rw [List.length_map] at this; exact this
          subst h1
          have hw2 : w2 < ys.length := by omega
          walk_at "fs_rd"
          refine in_ix (SqL.of (s06 _ _ tc)) (NV_at rfl (o := ys[w2]) (by simp [hw2])) ?_
          refine Nx.mk hil ⟨rfl, ⟨?_, hiw⟩, _, _, rfl⟩
          rw [etk, ← NV_snoc]
          have ep : pick xs ys (1, w2) = ys[w2] := by unfold pick; simp [hw2]
          rw [ep]
      · rintro zs σ H7 ⟨e7, ⟨rfl, hnl⟩, v, w, rfl⟩ l hl
        subst e7
        rw [List.length_map, List.take_of_length_le (by omega)]
        exact k l _ _ (s06.free hl) (s06.new hl) upd_same (Mgd.seg hsx hsy hfm hme hM)
    · refine ⟨_, (qb_cons (qs_set (i := 3) sc_merged_places.nd rfl (Or.inl rfl) (qe_call (ok_merged T) (hr.mono (by decide)) rfl T.m_merged T.F_merged.kp T.b_merged pass0 (qa_c (qe_comp (N := ["place", "rows"]) (tgs := ["place"]) (frs := ["rows"]) (ix := [0]) ⟨rfl, by decide +kernel, rfl, by decide +kernel, rfl, rfl, ⟨⟨rfl, rfl, _, rfl, rfl⟩, True.intro⟩, ⟨rfl, True.intro⟩, rfl⟩ rfl (qi_list (K := K) (qv 1)) (fun _ _ _ _ => (qg_name (i := 0) (by show List.Nodup (["place", "rows"] : List Str); decide +kernel) rfl (Or.inl rfl))) (fun _ _ _ _ => (qe_ix (q_ixT (K := K)) (qv 1) (qv 0)))) (qa_c (qe_comp (N := ["place", "rows"]) (tgs := ["place"]) (frs := ["rows"]) (ix := [0]) ⟨rfl, by decide +kernel, rfl, by decide +kernel, rfl, rfl, ⟨⟨rfl, rfl, _, rfl, rfl⟩, True.intro⟩, ⟨rfl, True.intro⟩, rfl⟩ rfl (qi_list (K := K) (qv 2)) (fun _ _ _ _ => (qg_name (i := 0) (by show List.Nodup (["place", "rows"] : List Str); decide +kernel) rfl (Or.inl rfl))) (fun _ _ _ _ => (qe_ix (q_ixT (K := K)) (qv 1) (qv 0)))) qa_nil))))
      (qb_cons (qs_set (i := 4) sc_merged_places.nd rfl (Or.inr rfl) (qe_tup (qa_c (qv 1) (qa_c (qv 2) qa_nil))))
      (qb_one (qs_ret (qe_comp (N := ["which", "at", "places"]) (tgs := ["which", "at"]) (frs := ["places"]) (ix := [4]) ⟨rfl, by decide +kernel, rfl, by decide +kernel, rfl, rfl, ⟨⟨rfl, rfl, _, rfl, rfl⟩, True.intro⟩, ⟨rfl, True.intro⟩, rfl⟩ rfl (qi_list (K := K) (qv 3)) (fun _ _ _ _ => (qg_tup (K := K) (n := 2) rfl (qgs_cons (qg_name (i := 0) (by show List.Nodup (["which", "at", "places"] : List Str); decide +kernel) rfl (Or.inl rfl)) (qgs_cons (qg_name (i := 1) (by show List.Nodup (["which", "at", "places"] : List Str); decide +kernel) rfl (Or.inl rfl)) qgs_nil)))) (fun _ _ _ _ => (qe_ix (q_ixL (K := K)) (qe_ix (q_ixT (K := K)) (qv 2) (qv 0)) (qv 1)))))))), ?_⟩
      rw [show L2.start ["rows", "one", "other", "pairs", "places"] [V.ref r, V.ref a, V.ref c] = [some (V.ref r), some (V.ref a), some (V.ref c), none, none] from rfl]
      walk_at "fs_rd"
      refine ⟨a, rfl, ⟨_, SqL.of ta⟩, comp_lst (a := a) (vs := NV xs) (fun i zs σ H' => H' = H ∧ i ≤ xs.length ∧ (∃ us : List Addr, zs = us.map V.ref ∧ us.length = i ∧ RowsS H us ((xs.take i).map fun x => rss.getD x [])) ∧ ∃ v, σ = [v, some (V.ref r)]) (by rw [NV_len]; exact small1000 (by omega)) (fun i zs σ H' h => by obtain ⟨_, _, ⟨us, rfl, e, _⟩, _⟩ := h; rw [List.length_map, e]) (fun i zs σ H' h => by rw [h.1]; exact SqL.of ta) ⟨rfl, Nat.zero_le _, ⟨[], rfl, rfl, rfl, fun i p z h => by simp at h⟩, none, rfl⟩ ?_ ?_⟩
      · rintro i zs σ H' x hx' ⟨rfl, _, ⟨us, rfl, hul, hU⟩, v, rfl⟩
        have hil := get_lt hx'
        obtain ⟨q, rfl, hq, hqm, hi⟩ := map_get hx'
        have hqn := hx q hqm
        have hqp : q < ps.length := by omega
        have eq' : rss[q]? = some rss[q] := by simp [hqn]
        have eg : rss.getD q [] = rss[q] := by rw [List.getD_eq_getElem?_getD, eq']; rfl
        walk_at "fs_rd"
        refine in_ixT (SqT.of tr) (v := V.ref ps[q]) (atI_nat (by rw [List.getElem?_map]; simp [hqp])) ?_
        refine Nx.mk hil ⟨rfl, hi, ⟨us ++ [ps[q]], by rw [List.map_append]; rfl, by simp [hul], ?_⟩, _, rfl⟩
        rw [List.take_add_one, hq, List.map_append]
        show RowsS _ _ (_ ++ [rss.getD q []])
        rw [eg]
        exact hU.snoc (hR.2 q ps[q] _ (by simp [hqp]) eq')
      rintro zs σ H1 ⟨e1, _, ⟨us, rfl, hul, hU⟩, v, rfl⟩ l1 hl1
      subst e1
      rw [NV_len] at hul hU
      rw [List.take_of_length_le (Nat.le_refl _)] at hU
      have s2 := (Same.refl H1).new (o := .lst (us.map V.ref)) hl1
      have tl1 : (upd H1 l1 (.lst (us.map V.ref))) l1 = some (.lst (us.map V.ref)) := upd_same
      generalize upd H1 l1 (.lst (us.map V.ref)) = H2 at s2 tl1
      have tc2 := s2 _ _ tc
      walk_at "fs_rd"
      refine ⟨c, rfl, ⟨_, SqL.of tc2⟩, comp_lst (a := c) (vs := NV ys) (fun i zs σ H' => H' = H2 ∧ i ≤ ys.length ∧ (∃ vs : List Addr, zs = vs.map V.ref ∧ vs.length = i ∧ RowsS H2 vs ((ys.take i).map fun x => rss.getD x [])) ∧ ∃ v, σ = [v, some (V.ref r)]) (by rw [NV_len]; exact small1000 (by omega)) (fun i zs σ H' h => by obtain ⟨_, _, ⟨us, rfl, e, _⟩, _⟩ := h; rw [List.length_map, e]) (fun i zs σ H' h => by rw [h.1]; exact SqL.of tc2) ⟨rfl, Nat.zero_le _, ⟨[], rfl, rfl, rfl, fun i p z h => by simp at h⟩, none, rfl⟩ ?_ ?_⟩
      · rintro i zs σ H' x hx' ⟨rfl, _, ⟨vs, rfl, hvl, hV⟩, v, rfl⟩
        have hil := get_lt hx'
        obtain ⟨q, rfl, hq, hqm, hi⟩ := map_get hx'
        have hqn := hy q hqm
        have hqp : q < ps.length := by omega
        have eq' : rss[q]? = some rss[q] := by simp [hqn]
        have eg : rss.getD q [] = rss[q] := by rw [List.getD_eq_getElem?_getD, eq']; rfl
        walk_at "fs_rd"
        refine in_ixT (SqT.of (s2 _ _ tr)) (v := V.ref ps[q]) (atI_nat (by rw [List.getElem?_map]; simp [hqp])) ?_
        refine Nx.mk hil ⟨rfl, hi, ⟨vs ++ [ps[q]], by rw [List.map_append]; rfl, by simp [hvl], ?_⟩, _, rfl⟩
        rw [List.take_add_one, hq, List.map_append]
        show RowsS _ _ (_ ++ [rss.getD q []])
        rw [eg]
        exact hV.snoc ((hR.same s2).2 q ps[q] _ (by simp [hqp]) eq')
      rintro zs σ H3 ⟨e3, _, ⟨vs, rfl, hvl, hV⟩, v, rfl⟩ l2 hl2
      subst e3
      rw [NV_len] at hvl hV
      rw [List.take_of_length_le (Nat.le_refl _)] at hV
      have s34 := (Same.refl H3).new (o := .lst (vs.map V.ref)) hl2
      have tl2 : (upd H3 l2 (.lst (vs.map V.ref))) l2 = some (.lst (vs.map V.ref)) := upd_same
      generalize upd H3 l2 (.lst (vs.map V.ref)) = H4 at s34 tl2
      have s4 := s2.trans s34
      walk_at "fs_rd"
      refine ⟨l1, l2, us, vs, _, _, rfl, s34 _ _ tl1, tl2, hU.same s4, hV.same s34, by omega, fun pl qs ws H5 hpl0 s5 tpl hP hwl hM => ?_⟩
      rw [List.length_map, List.length_map] at hM
      have hok := hM.le.2.2
      have hul' : us.length = xs.length := hul
      have hvl' : vs.length = ys.length := hvl
      have s05 := s4.trans s5
      walk_at "fs_rd"
      refine ⟨three (by simp), fun tt htt => ?_⟩
      have s56 := (Same.refl H5).new (o := .tup [V.ref a, V.ref c]) htt
      have ttt : (upd H5 tt (.tup [V.ref a, V.ref c])) tt = some (.tup [V.ref a, V.ref c]) := upd_same
      generalize upd H5 tt (.tup [V.ref a, V.ref c]) = H6 at s56 ttt
      have s06 := s05.trans s56
      have tpl6 := s56 _ _ tpl
      have P6 := hP.same s56
      have hqw : qs.length = ws.length := hP.1
      walk_at "fs_rd"
      refine ⟨pl, rfl, ⟨_, SqL.of tpl6⟩, comp_lst (a := pl) (vs := qs.map V.ref) (fun i zs σ H' => H' = H6 ∧ (zs = NV ((ws.take i).map (pick xs ys)) ∧ i ≤ ws.length) ∧ ∃ v w, σ = [v, w, some (V.ref tt)]) (by rw [List.length_map]; exact small1000 (by omega)) (fun i zs σ H' h => by rw [h.2.1.1, NV_len, List.length_map, List.length_take]; have := h.2.1.2; omega) (fun i zs σ H' h => by rw [h.1]; exact SqL.of tpl6) ⟨rfl, ⟨rfl, Nat.zero_le _⟩, none, none, rfl⟩ ?_ ?_⟩
      · rintro i zs σ H' x hx' ⟨rfl, ⟨rfl, hnl⟩, v, w, rfl⟩
        have hil := get_lt hx'
        obtain ⟨q, rfl, hq, _, hi⟩ := map_get hx'
        have hiw : i < ws.length := by omega
        have tq := P6.2 i q ws[i] hq (by simp [hiw])
        have hw := hok ws[i] (List.getElem_mem hiw)
        have etk : (ws.take (i + 1)).map (pick xs ys) = (ws.take i).map (pick xs ys) ++ [pick xs ys ws[i]] := by rw [List.take_add_one, List.getElem?_eq_getElem hiw, List.map_append]; rfl
        generalize ws[i] = w9 at tq hw etk
        obtain ⟨w1, w2⟩ := w9
        refine in_gtup2 tq ?_
        dsimp only [List.set]
        rcases hw with ⟨h1, h2⟩ | ⟨h1, h2⟩
        · have h1 : w1 = 0 := h1
          have h2 : w2 < xs.length := by have := h2; rw [List.length_map] at this; exact this
          subst h1
          have hw2 : w2 < xs.length := by omega
          walk_at "fs_rd"
          refine in_ix (SqL.of (s06 _ _ ta)) (NV_at rfl (o := xs[w2]) (by simp [hw2])) ?_
          refine Nx.mk hil ⟨rfl, ⟨?_, hiw⟩, _, _, rfl⟩
          rw [etk, ← NV_snoc]
          have ep : pick xs ys (0, w2) = xs[w2] := by unfold pick; simp [hw2]
          rw [ep]
        · have h1 : w1 = 1 := h1
          have h2 : w2 < ys.length := by have := h2; rw [List.length_map] at this; exact this
          subst h1
          have hw2 : w2 < ys.length := by omega
          walk_at "fs_rd"
          refine in_ix (SqL.of (s06 _ _ tc)) (NV_at rfl (o := ys[w2]) (by simp [hw2])) ?_
          refine Nx.mk hil ⟨rfl, ⟨?_, hiw⟩, _, _, rfl⟩
          rw [etk, ← NV_snoc]
          have ep : pick xs ys (1, w2) = ys[w2] := by unfold pick; simp [hw2]
          rw [ep]
      · rintro zs σ H7 ⟨e7, ⟨rfl, hnl⟩, v, w, rfl⟩ l hl
        subst e7
        rw [List.length_map, List.take_of_length_le (by omega)]
        exact k l _ _ (s06.free hl) (s06.new hl) upd_same (Mgd.seg hsx hsy hfm hme hM)

theorem in_sortKR {P : Addr} {lpos : Pos} {qual : Str} {ix : List Nat} {te : TE} {t : TA} {σ : L2.St} {H : Hp} {Q : VK} (h : t σ H fun vs H1 => ∃ n : Nat, vs = [.int n] ∧ n < 1000 ∧ TabOk P lpos qual H1 ∧ ∀ H2, SameX P H1 H2 → TabOk P lpos qual H2 → keyed te ix (natsV 0 n) σ H2 Q) : tSortKR P lpos qual ix te t σ H Q := h
def RowsU (H : Hp) (ps : List Addr) (rss : List (List Nat)) : Prop := ps.length = rss.length ∧ ∀ (i : Nat) p r, ps[i]? = some p → rss[i]? = some r → H p = some (.lst (NV r)) ∨ H p = some (.tup (NV r))
theorem RowsU.same {H H1 : Hp} {ps : List Addr} {rss : List (List Nat)} (h : RowsU H ps rss) (e : Same H H1) : RowsU H1 ps rss := ⟨h.1, fun i p z a c => (h.2 i p z a c).elim (fun h => .inl (e _ _ h)) (fun h => .inr (e _ _ h))⟩
theorem RowsT.toU {H : Hp} {ps : List Addr} {rss : List (List Nat)} (h : RowsT H ps rss) : RowsU H ps rss := ⟨h.1, fun i p z a c => .inr (h.2 i p z a c)⟩
abbrev TabT (pt : Addr) (H : Hp) : Prop := TabOk pt ⟨3, 40, 3, 72⟩ ((("told_order" : Str) ++ ".<locals>.") ++ "<lambda>") H
theorem RowsU.sx {pt : Addr} {H H1 : Hp} {ps : List Addr} {rss : List (List Nat)} (h : RowsU H ps rss) (T : TabT pt H) (e : SameX pt H H1) : RowsU H1 ps rss := ⟨h.1, fun i p z a c => (h.2 i p z a c).elim (fun h => .inl (e _ _ (T.ne h) h)) (fun h => .inr (e _ _ (T.neT h) h))⟩
theorem RowsT.sx {pt : Addr} {H H1 : Hp} {ps : List Addr} {rss : List (List Nat)} (h : RowsT H ps rss) (T : TabT pt H) (e : SameX pt H H1) : RowsT H1 ps rss := ⟨h.1, fun i p z a c => e _ _ (T.neT (h.2 i p z a c)) (h.2 i p z a c)⟩
theorem ah_rk {rss : List (List Nat)} {p : List Nat} (h : p.Pairwise (Ah fun i j => HT.lexLt ((rss.map castL).getD i []) ((rss.map castL).getD j []))) : p.Pairwise (Rk rss 0) := by
  refine h.imp fun {i j} hij => ?_
  have e : ∀ i, (rss.map castL).getD i [] = castL (rss.getD i []) := fun i => by
    rw [List.getD_eq_getElem?_getD, List.getD_eq_getElem?_getD, List.getElem?_map]
    cases rss[i]? <;> rfl
  obtain ⟨h1, h2⟩ := hij
  dsimp only at h1 h2
  rw [e, e] at h1 h2
  unfold Rk
  rw [List.drop_zero, List.drop_zero]
  rcases lxt_tri (rss.getD i []) (rss.getD j []) with q | q | q
  · exact .inl q
  · exact .inr ⟨q, h2 (by rw [q]; exact lxt_irrefl _)⟩
  · have q' : HT.lexLt (castL (rss.getD j [])) (castL (rss.getD i [])) = true := q
    rw [q'] at h1; cases h1
theorem natsV_getD {n : Nat} {p : List Nat} (h : p.Perm (List.range n)) : (p.map fun i => (natsV 0 n).getD i .non) = NV p := by
  unfold NV
  apply List.map_congr_left
  intro i hi
  have : i < n := List.mem_range.mp (h.mem_iff.mp hi)
  unfold natsV
  rw [List.getD_eq_getElem?_getD, List.getElem?_map, List.getElem?_range this]
  simp
def spTold (K : PySem.W.Frag) (pt : Addr) : Sp := fun vs H Q _ => ∃ (a : Addr) (ps : List Addr) (rss : List (List Nat)) (w : Nat), vs = [.ref a] ∧ (H a = some (.lst (ps.map V.ref)) ∧ True) ∧ RowsU H ps rss ∧ (∀ r ∈ rss, r.length = w) ∧ rss.length < 1000 ∧ TabT pt H ∧
  ∀ (l : Addr) (os : List Nat) H', H l = none → SameX pt H H' → TabT pt H' → H' l = some (.lst (NV os)) → os.Perm (List.range rss.length) → os.Pairwise (Rk rss 0) → Q (.ref l) H'
theorem ok_told_order (T : Tx K mg t) : FnOk P w K mg t.bs CX0 1 t.f_told_order t.d_told_order ["rows"] (spTold K t.pt) := by
  refine T.F_told_order.okC T.c_cc sc_told_order (fun vs H Q E h => ?_) (fun A outer s H vs Q E hr h => ?_)
  · obtain ⟨a, ps, rss, w, rfl, _⟩ := h
    rfl
  · obtain ⟨a, ps, rss, w, rfl, hta, hR, hw, hn, hT, k⟩ := h
    have hpl : ps.length = rss.length := hR.1
    obtain ⟨ta, _⟩ := hta
    · refine ⟨_, (qb_one (qs_ret (qe_sortKR (N := ["place", "rows"]) (x := "place") (frs := ["rows"]) (ix := [0]) ⟨rfl, by decide +kernel, rfl, rfl, rfl, rfl, ⟨⟨rfl, rfl, _, rfl, rfl⟩, True.intro⟩, ⟨rfl, True.intro⟩, rfl, rfl, rfl⟩ rfl hr rfl T.z_sorted rfl T.z_range rfl T.c_hd T.c_ba (qa_c (qe_callB (qc_len (K := K)) (by rfl) T.z_len bt_len (qa_c (qv 0) qa_nil)) qa_nil) (fun _ _ _ _ _ _ => (qe_callTy (qc_tuple (K := K)) (by rfl) T.z_tuple bt_tuple (qa_c (qe_ix (q_ixL (K := K)) (qv 1) (qv 0)) qa_nil))) (fun _ _ _ _ => rfl)))), ?_⟩
      rw [show L2.start ["rows"] [V.ref a] = [some (V.ref a)] from rfl]
      walk_at "fs_rd"
      refine in_sortKR ?_
      walk_at "fs_rd"
      refine in_lenL (SqL.of ta) ?_
      rw [List.length_map, hpl]
      refine ⟨rss.length, rfl, hn, hT, fun H2 sx T2 => ⟨by simp [natsV]; exact hn, fun i ys H' => Same H2 H' ∧ ∃ rs : List Addr, ys = rs.map V.ref ∧ rs.length = i ∧ i ≤ rss.length ∧ RowsT H' rs (rss.take i), ⟨Same.refl _, [], rfl, rfl, Nat.zero_le _, rfl, fun i p r h => by simp at h⟩, ?_, ?_⟩⟩
      · rintro i ys H3 x hx ⟨s3, rs, rfl, hrl, _, hRs⟩
        have hi : i < rss.length := by have := get_lt hx; simpa [natsV] using this
        have hx' : x = V.int (i : Nat) := by
          unfold natsV at hx
          rw [List.getElem?_map, List.getElem?_range hi] at hx
          have := (Option.some.inj hx).symm
          rw [this]; simp
        subst hx'
        have hip : i < ps.length := by omega
        have ta3 : H3 a = some (.lst (ps.map V.ref)) := s3 _ _ (sx _ _ (hT.ne ta) ta)
        have er := ((hR.sx hT sx).same s3).2 i ps[i] rss[i] (by simp [hip]) (by simp [hi])
        have et : rss.take (i + 1) = rss.take i ++ [rss[i]] := by rw [List.take_add_one]; simp [hi]
        show tCB _ _ [some (V.int (i : Nat)), some (V.ref a)] H3 _
        walk_at "fs_rd"
        refine in_ix (SqL.of ta3) (v := V.ref ps[i]) (atI_nat (by rw [List.getElem?_map]; simp [hip])) ?_
        walk_at "fs_rd"
        generalize ps[i] = q at er
        generalize rss[i] = row at er et
        rcases er with er | er
        · refine in_tupleL (SqL.of er) fun l2 hl2 => ?_
          refine ⟨(Same.refl H3).new hl2, s3.new hl2, rs ++ [l2], by rw [List.map_append]; rfl, by simp [hrl], hi, ?_⟩
          rw [et]
          exact (hRs.same ((Same.refl H3).new hl2)).snoc upd_same
        · refine in_tupleT (SqT.of er) ?_
          refine ⟨Same.refl H3, s3, rs ++ [q], by rw [List.map_append]; rfl, by simp [hrl], hi, ?_⟩
          rw [et]
          exact hRs.snoc er
      · rintro ys H3 hyl ⟨s3, rs, rfl, hrl, _, hRs⟩
        have hnl : (natsV 0 rss.length).length = rss.length := by simp [natsV]
        rw [hnl] at hrl hRs
        rw [List.take_of_length_le (Nat.le_refl _)] at hRs
        refine ⟨_, .inr ⟨rs, rss.map castL, rfl, by rw [List.length_map]; exact hrl, fun i q r e1 e2 => ?_, ?_, rfl⟩, fun d p hd hp hs => ?_⟩
        · rw [List.getElem?_map] at e2
          obtain ⟨r0, e3, rfl⟩ := Option.map_eq_some_iff.mp e2
          have := hRs.2 i q r0 e1 e3
          rw [NV_castL] at this
          exact this
        · rcases Nat.eq_zero_or_pos w with h0 | h0
          · refine .inl fun r hr => ?_
            obtain ⟨r0, hr0, rfl⟩ := List.mem_map.mp hr
            have := hw r0 hr0
            rw [h0] at this
            rw [List.length_eq_zero_iff.mp this]; rfl
          · refine .inr fun r hr z => ?_
            obtain ⟨r0, hr0, rfl⟩ := List.mem_map.mp hr
            have := hw r0 hr0
            have h2 := congrArg List.length z
            unfold castL at h2
            rw [List.length_map] at h2
            simp at h2
            rw [h2] at this
            simp at this
            omega
        · rw [hnl] at hp
          rw [natsV_getD hp]
          have sx3 : SameX t.pt H (upd H3 d (.lst (NV p))) := fun b o hb e => by
            have e3 := s3 _ _ (sx b o hb e)
            rw [upd_ne (ne_of_none e3 hd)]; exact e3
          refine k d p _ ?_ sx3 ((T2.same s3).same ((Same.refl H3).new hd)) upd_same hp (ah_rk hs)
          cases q : H d with
          | none => rfl
          | some o =>
            by_cases hdp : d = t.pt
            · rcases T2.same s3 with z | ⟨c, z, _⟩ <;> rw [← hdp, hd] at z <;> cases z
            · rw [s3 _ _ (sx d o hdp q)] at hd; cases hd

theorem sx_free {pt : Addr} {H H' : Hp} (e : SameX pt H H') (T : TabT pt H') {l : Addr} (h : H' l = none) : H l = none := by
  cases q : H l with
  | none => rfl
  | some o =>
    by_cases hd : l = pt
    · rcases T with z | ⟨c, z, _⟩ <;> rw [← hd, h] at z <;> cases z
    · rw [e l o hd q] at h; cases h
theorem sx_new {pt : Addr} {H H1 : Hp} {p : Addr} {o : HO} (e : SameX pt H H1) (h : H1 p = none) : SameX pt H (upd H1 p o) := fun b u n q => by rw [upd_ne (ne_of_none (e b u n q) h)]; exact e b u n q
theorem sx_own {pt : Addr} {H H1 : Hp} {p : Addr} {o : HO} (e : SameX pt H H1) (h : H p = none) : SameX pt H (upd H1 p o) := fun b u n q => by rw [upd_ne (ne_of_none q h)]; exact e b u n q
theorem tab_own {pt : Addr} {H : Hp} {l : Addr} {xs ys : List V} (T : TabT pt H) (hl : H l = some (.lst xs)) : TabT pt (upd H l (.lst ys)) := by
  rcases T with z | ⟨c, z, u⟩
  · exact .inl (by rw [upd_ne (ne_of z hl (by intro c; cases c))]; exact z)
  · exact .inr ⟨c, by rw [upd_ne (ne_of z hl (by intro c; cases c))]; exact z, by rw [upd_ne (ne_of u hl (by intro c; cases c))]; exact u⟩
theorem tab_st {pt p : Addr} {H H1 : Hp} (T : TabT pt H) (t : Tp2 H p) (S : St2 p H H1) : TabT pt H1 := by
  obtain ⟨a1, a2, h9, _⟩ := t
  rcases T with z | ⟨c, z, u⟩
  · exact .inl (S.keep _ _ z (ne_of z h9 (by intro c; cases c)))
  · exact .inr ⟨c, S.keep _ _ z (ne_of z h9 (by intro c; cases c)), S.keep _ _ u (ne_of u h9 (by intro c; cases c))⟩
theorem seq_sx {pt : Addr} {K : PySem.W.Frag} {H H' : Hp} {a : Addr} {xs : List V} (T : TabT pt H) (e : SameX pt H H') (h : SqL K H a xs) : SqL K H' a xs := by
  rcases h with (h | ⟨o, h⟩) | h
  · exact .inl (.inl (e _ _ (T.ne h) h))
  · refine .inl (.inr ⟨o, e _ _ (fun z => ?_) h⟩)
    subst z
    rcases T with z | ⟨c, z, _⟩ <;> rw [h] at z <;> cases z
  · exact .inr h
theorem tp_sx {pt p : Addr} {H H' : Hp} (T : TabT pt H) (e : SameX pt H H') (t : Tp2 H p) : Tp2 H' p := by
  obtain ⟨a1, a2, h9, r⟩ := t
  exact ⟨a1, a2, e _ _ (T.ne h9) h9, r⟩

theorem ne_ch : ¬ (("came" : Str) = "heaped") := by decide +kernel
theorem ne_cm : ¬ (("came" : Str) = "moved") := by decide +kernel
theorem ne_hm : ¬ (("heaped" : Str) = "moved") := by decide +kernel
def pourF (c h : Addr) (m : Int) : List (Str × V) := [("came", V.ref c), ("heaped", V.ref h), ("moved", V.int m)]
theorem pourF_put (c h : Addr) : putF "moved" (.int 0) (putF "heaped" (.ref h) (putF "came" (.ref c) [])) = pourF c h 0 := by
  show putF "moved" (.int 0) (if ("came" : Str) = "heaped" then [(("came" : Str), V.ref h)] else (("came" : Str), V.ref c) :: [(("heaped" : Str), V.ref h)]) = _
  rw [if_neg ne_ch]
  show (if ("came" : Str) = "moved" then [(("came" : Str), V.int 0), (("heaped" : Str), V.ref h)] else (("came" : Str), V.ref c) :: (if ("heaped" : Str) = "moved" then [(("heaped" : Str), V.int 0)] else (("heaped" : Str), V.ref h) :: [(("moved" : Str), V.int 0)])) = _
  rw [if_neg ne_cm, if_neg ne_hm]
  rfl
theorem pourF_set (c h : Addr) (m y : Int) : putF "moved" (.int y) (pourF c h m) = pourF c h y := by
  show (if ("came" : Str) = "moved" then _ else (("came" : Str), V.ref c) :: (if ("heaped" : Str) = "moved" then _ else (("heaped" : Str), V.ref h) :: (if ("moved" : Str) = "moved" then [(("moved" : Str), V.int y)] else _))) = _
  rw [if_neg ne_cm, if_neg ne_hm, if_pos rfl]
  rfl
theorem look_hd {f : Str} {v : V} {r : List (Str × V)} : List.lookup f ((f, v) :: r) = some v := by simp [List.lookup]
theorem look_tl {f g : Str} {v : V} {r : List (Str × V)} (h : ¬ f = g) : List.lookup f ((g, v) :: r) = List.lookup f r := by
  have : (f == g) = false := by simpa using h
  simp [List.lookup, this]
theorem pourF_came (c h : Addr) (m : Int) : (pourF c h m).lookup ("came" : Str) = some (.ref c) := look_hd
theorem pourF_heaped (c h : Addr) (m : Int) : (pourF c h m).lookup ("heaped" : Str) = some (.ref h) := by
  unfold pourF
  rw [look_tl (fun e => ne_ch e.symm), look_hd]
theorem pourF_moved (c h : Addr) (m : Int) : (pourF c h m).lookup ("moved" : Str) = some (.int m) := by
  unfold pourF
  rw [look_tl (fun e => ne_cm e.symm), look_tl (fun e => ne_hm e.symm), look_hd]
theorem pourF_no (c h : Addr) (m : Int) {f : Str} (h1 : ¬ f = "came") (h2 : ¬ f = "heaped") (h3 : ¬ f = "moved") : (pourF c h m).lookup f = none := by
  unfold pourF
  rw [look_tl h1, look_tl h2, look_tl h3]; rfl
inductive Hps (rss : List (List Nat)) : List (List Nat) → Nat → Prop
  | nil : Hps rss [] 0
  | snoc {oss : List (List Nat)} {o : List Nat} {f l : Nat} (h : Hps rss oss f) (s : Seg rss f l o) (hl : f ≤ l) : Hps rss (oss ++ [o]) l
theorem Hps.last {rss oss : List (List Nat)} {o : List Nat} {l : Nat} (h : Hps rss (oss ++ [o]) l) : ∃ f, Hps rss oss f ∧ Seg rss f l o ∧ f ≤ l := by
  generalize e : oss ++ [o] = q at h
  cases h with
  | nil => simp at e
  | snoc h s hl =>
    obtain ⟨rfl, e2⟩ := List.append_inj' e rfl
    cases e2
    exact ⟨_, h, s, hl⟩
theorem seg_more {rss qss : List (List Nat)} {f l : Nat} {o : List Nat} (h : Seg rss f l o) (hl : l ≤ rss.length) : Seg (rss ++ qss) f l o := by
  refine ⟨h.perm, h.sort.imp_of_mem fun {i j} hi hj r => ?_⟩
  have h1 : i < rss.length := by have := h.mem hi; omega
  have h2 : j < rss.length := by have := h.mem hj; omega
  unfold Rk at r ⊢
  have e1 : (rss ++ qss).getD i [] = rss.getD i [] := by rw [List.getD_eq_getElem?_getD, List.getD_eq_getElem?_getD, List.getElem?_append_left h1]
  have e2 : (rss ++ qss).getD j [] = rss.getD j [] := by rw [List.getD_eq_getElem?_getD, List.getD_eq_getElem?_getD, List.getElem?_append_left h2]
  rw [e1, e2]; exact r
theorem Hps.more {rss qss oss : List (List Nat)} {l : Nat} (h : Hps rss oss l) (hl : l ≤ rss.length) : Hps (rss ++ qss) oss l := by
  induction h with
  | nil => exact .nil
  | snoc h s hl2 ih => exact .snoc (ih (by omega)) (seg_more s hl) hl2
theorem Hps.sum {rss oss : List (List Nat)} {l : Nat} (h : Hps rss oss l) : (oss.map List.length).sum = l := by
  induction h with
  | nil => rfl
  | snoc h s hl ih => rw [List.map_append, List.sum_append, ih]; simp [s.len]; omega
structure PoAt (C : Addr) (H : Hp) (p c h : Addr) (cs hs : List Addr) (rss oss : List (List Nat)) (m : Nat) : Prop where
  ob : ∃ dx, H p = some (.ins C dx (pourF c h (m : Nat)))
  cm : H c = some (.lst (cs.map V.ref))
  rw : RowsT H cs rss
  hp : H h = some (.lst (hs.map V.ref))
  ls : LsAt H hs oss
  sg : Hps rss oss rss.length
  ch : c ≠ h
  cn : c ∉ hs
  hn : h ∉ hs
theorem PoAt.pc {C : Addr} {H : Hp} {p c h : Addr} {cs hs : List Addr} {rss oss : List (List Nat)} {m : Nat} (P : PoAt C H p c h cs hs rss oss m) : p ≠ c := by
  obtain ⟨dx, e⟩ := P.ob
  exact ne_of e P.cm (by intro z; cases z)
theorem PoAt.ph {C : Addr} {H : Hp} {p c h : Addr} {cs hs : List Addr} {rss oss : List (List Nat)} {m : Nat} (P : PoAt C H p c h cs hs rss oss m) : p ≠ h := by
  obtain ⟨dx, e⟩ := P.ob
  exact ne_of e P.hp (by intro z; cases z)
theorem PoAt.same {C : Addr} {H H1 : Hp} {p c h : Addr} {cs hs : List Addr} {rss oss : List (List Nat)} {m : Nat} (P : PoAt C H p c h cs hs rss oss m) (s : Same H H1) : PoAt C H1 p c h cs hs rss oss m := by
  obtain ⟨dx, e⟩ := P.ob
  exact ⟨⟨dx, s _ _ e⟩, s _ _ P.cm, P.rw.same s, s _ _ P.hp, P.ls.same s, P.sg, P.ch, P.cn, P.hn⟩
theorem PoAt.sx {C pt : Addr} {H H1 : Hp} {p c h : Addr} {cs hs : List Addr} {rss oss : List (List Nat)} {m : Nat} (P : PoAt C H p c h cs hs rss oss m) (T : TabT pt H) (s : SameX pt H H1) : PoAt C H1 p c h cs hs rss oss m := by
  obtain ⟨dx, e⟩ := P.ob
  have hp : p ≠ pt := fun z => by
    subst z
    rcases T with q | ⟨c, q, _⟩ <;> rw [e] at q <;> cases q
  exact ⟨⟨dx, s _ _ hp e⟩, s _ _ (T.ne P.cm) P.cm, P.rw.sx T s, s _ _ (T.ne P.hp) P.hp, ⟨P.ls.1, fun i q ns a b => s _ _ (T.ne (P.ls.2 i q ns a b)) (P.ls.2 i q ns a b)⟩, P.sg, P.ch, P.cn, P.hn⟩
def spInitP (C : Addr) : Sp := fun vs H Q _ => ∃ (p dx : Addr), vs = [.ref p] ∧ H p = some (.ins C dx []) ∧ ∀ (c h : Addr) (H' : Hp), H c = none → H h = none → PoAt C H' p c h [] [] [] [] 0 → (∀ b o, H b = some o → b ≠ p → H' b = some o) → Q .non H'
theorem ok_Pour___init__ (T : Tx K mg t) : FnOk P w K mg t.bs CX0 1 t.f_Pour___init__ t.d_Pour___init__ ["self"] (spInitP t.c_Pour) := by
  refine T.F_Pour___init__.okQ sc_Pour___init__ (fun vs H Q E h => ?_) (fun cdv A outer s H vs Q E hr h => ?_)
  · obtain ⟨p, dx, rfl, _⟩ := h
    rfl
  · obtain ⟨p, dx, rfl, hp, k⟩ := h
    refine ⟨_, (qb_cons (qs_fld (K := K) (qv 0) (qe_lst qa_nil))
      (qb_cons (qs_fld (K := K) (qv 0) (qe_lst qa_nil))
      (qb_one (qs_fld (K := K) (qv 0) qe_int)))), ?_⟩
    rw [show L2.start ["self"] [V.ref p] = [some (V.ref p)] from rfl]
    walk_at "fs_rd"
    refine ⟨three (by simp), fun c hc => ?_⟩
    have hpc : p ≠ c := ne_of_none hp hc
    walk_at "fs_rd"
    refine ⟨p, t.c_Pour, dx, [], rfl, by rw [upd_ne hpc]; exact hp, T.cl_Pour, T.n_Pour_came, by show 0 < 1000; decide, ?_⟩
    walk_at "fs_rd"
    refine ⟨three (by simp), fun h hh => ?_⟩
    have hhp : h ≠ p := fun z => by rw [z, upd_same] at hh; cases hh
    have hhc : h ≠ c := fun z => by rw [z, upd_ne (fun z => hpc z.symm), upd_same] at hh; cases hh
    have hhn : H h = none := by rw [upd_ne hhp, upd_ne hhc] at hh; exact hh
    walk_at "fs_rd"
    refine ⟨p, t.c_Pour, dx, _, rfl, by rw [upd_ne (fun z => hhp z.symm), upd_same], T.cl_Pour, T.n_Pour_heaped, by show 1 < 1000; decide, ?_⟩
    walk_at "fs_rd"
    refine ⟨p, t.c_Pour, dx, _, rfl, upd_same, T.cl_Pour, T.n_Pour_moved, ?_, ?_⟩
    · show (if ("came" : Str) = "heaped" then [(("came" : Str), V.ref h)] else (("came" : Str), V.ref c) :: [(("heaped" : Str), V.ref h)]).length < 1000
      rw [if_neg ne_ch]; show 2 < 1000; decide
    have hcp : c ≠ p := fun z => hpc z.symm
    refine k c h _ hc hhn ⟨⟨dx, by rw [upd_same, pourF_put]; rfl⟩, by rw [upd_ne hcp, upd_ne hcp, upd_ne (fun z => hhc z.symm), upd_ne hcp, upd_same]; rfl, ⟨rfl, fun i p r a => by simp at a⟩, by rw [upd_ne hhp, upd_ne hhp, upd_same]; rfl, LsAt.nil, .nil, fun z => hhc z.symm, (fun z => nomatch z), (fun z => nomatch z)⟩ fun b o e hb => ?_
    rw [upd_ne hb, upd_ne hb, upd_ne (ne_of_none e hhn), upd_ne hb, upd_ne (ne_of_none e hc)]
    exact e
def spHeaps (C : Addr) : Sp := fun vs H Q _ => ∃ (p c h : Addr) (cs hs : List Addr) (rss oss : List (List Nat)) (m : Nat), vs = [.ref p] ∧ PoAt C H p c h cs hs rss oss m ∧ oss.length ≤ 200 ∧ ∀ (l : Addr) H', H l = none → Same H H' → H' l = some (.lst (NV (oss.map List.length))) → Q (.ref l) H'
theorem ok_Pour_heaps (T : Tx K mg t) : FnOk P w K mg t.bs CX0 1 t.f_Pour_heaps t.d_Pour_heaps ["self"] (spHeaps t.c_Pour) := by
  refine T.F_Pour_heaps.okQ sc_Pour_heaps (fun vs H Q E h => ?_) (fun cdv A outer s H vs Q E hr h => ?_)
  · obtain ⟨p, c, h, cs, hs, rss, oss, m, rfl, _⟩ := h
    rfl
  · obtain ⟨p, c, h, cs, hs, rss, oss, m, rfl, P, hn, k⟩ := h
    obtain ⟨dx, ob⟩ := P.ob
    have hl : hs.length = oss.length := P.ls.1
    refine ⟨_, (qb_one (qs_ret (qe_comp (N := ["places"]) (tgs := ["places"]) (frs := []) (ix := []) ⟨rfl, by decide +kernel, rfl, by decide +kernel, rfl, rfl, True.intro, True.intro, rfl⟩ rfl (qi_list (K := K) (qe_fld (K := K) (qv 0))) (fun _ _ _ _ => (qg_name (i := 0) (by show List.Nodup (["places"] : List Str); decide +kernel) rfl (Or.inl rfl))) (fun _ _ _ _ => (qe_callB (qc_len (K := K)) (by rfl) T.z_len bt_len (qa_c (qv 0) qa_nil)))))), ?_⟩
    rw [show L2.start ["self"] [V.ref p] = [some (V.ref p)] from rfl]
    walk_at "fs_rd"
    refine ⟨p, t.c_Pour, dx, _, _, rfl, ob, T.cl_Pour, T.n_Pour_heaped, pourF_heaped _ _ _, ?_⟩
    walk_at "fs_rd"
    refine ⟨h, rfl, ⟨_, SqL.of P.hp⟩, comp_lst (a := h) (vs := hs.map V.ref) (fun i ys σ H' => H' = H ∧ i ≤ hs.length ∧ ys = NV ((oss.map List.length).take i) ∧ ∃ v, σ = [v]) (by rw [List.length_map]; exact small1000 (by omega)) (fun i ys σ H' h => by rw [h.2.2.1, NV_len, List.length_take, List.length_map]; omega) (fun i ys σ H' h => by rw [h.1]; exact SqL.of P.hp) ⟨rfl, Nat.zero_le _, rfl, none, rfl⟩ ?_ ?_⟩
    · rintro i ys σ H' x hx ⟨rfl, _, rfl, v, rfl⟩
      obtain ⟨q, rfl, hq, _, hil⟩ := map_get hx
      have hio : i < oss.length := by omega
      have eo : oss[i]? = some oss[i] := by simp [hio]
      walk_at "fs_rd"
      refine in_lenL (SqL.of (P.ls.2 i q _ hq eo)) ?_
      rw [NV_len]
      refine Nx.mk (by rw [List.length_map]; exact hil) ⟨rfl, hil, ?_, _, rfl⟩
      rw [NV_snoc, List.take_add_one, List.getElem?_map, eo]; rfl
    · rintro ys σ H' ⟨rfl, _, rfl, v, rfl⟩ l hl
      rw [List.take_of_length_le (by rw [List.length_map, List.length_map]; omega)]
      exact k l _ hl ((Same.refl H').new hl) upd_same
def spMovesP (C : Addr) : Sp := fun vs H Q _ => ∃ (p c h : Addr) (cs hs : List Addr) (rss oss : List (List Nat)) (m : Nat), vs = [.ref p] ∧ PoAt C H p c h cs hs rss oss m ∧ Q (.int (m : Nat)) H
theorem ok_Pour_moves (T : Tx K mg t) : FnOk P w K mg t.bs CX0 1 t.f_Pour_moves t.d_Pour_moves ["self"] (spMovesP t.c_Pour) := by
  refine T.F_Pour_moves.okQ sc_Pour_moves (fun vs H Q E h => ?_) (fun cdv A outer s H vs Q E hr h => ?_)
  · obtain ⟨p, c, h, cs, hs, rss, oss, m, rfl, _⟩ := h
    rfl
  · obtain ⟨p, c, h, cs, hs, rss, oss, m, rfl, P, k⟩ := h
    obtain ⟨dx, ob⟩ := P.ob
    refine ⟨_, (qb_one (qs_ret (qe_fld (K := K) (qv 0)))), ?_⟩
    rw [show L2.start ["self"] [V.ref p] = [some (V.ref p)] from rfl]
    walk_at "fs_rd"
    exact ⟨p, t.c_Pour, dx, _, _, rfl, ob, T.cl_Pour, T.n_Pour_moved, pourF_moved _ _ _, k⟩
theorem two_last {α : Type} {xs : List α} {n : Nat} (h : xs.length = n + 2) : ∃ gs a b, xs = gs ++ [a, b] ∧ gs.length = n := by
  have e := (List.take_append_drop n xs).symm
  have hd : (xs.drop n).length = 2 := by rw [List.length_drop]; omega
  match hx : xs.drop n, hd with
  | [a, b], _ => exact ⟨xs.take n, a, b, by rw [← hx]; exact e, by rw [List.length_take]; omega⟩
theorem ixN_last (n : Nat) : ixN (n + 1) (-1) = some n := by
  unfold ixN
  rw [if_neg (by decide), if_pos (by omega)]
  congr 1; omega
theorem atI_two {α : Type} (xs : List α) (x y : α) : atI (xs ++ [x, y]) (-2) = some x := by
  have e : ixN (xs ++ [x, y]).length (-2) = some xs.length := by
    unfold ixN
    rw [if_neg (by decide), if_pos (by simp; omega)]
    congr 1; simp; omega
  unfold atI
  rw [e]; simp
theorem set_last {α : Type} (xs : List α) (x y : α) : (xs ++ [x]).set xs.length y = xs ++ [y] := by
  simp
def spMl2 (C : Addr) : Sp := fun vs H Q _ => ∃ (p c h : Addr) (cs hs : List Addr) (rss oss : List (List Nat)) (x y : List Nat) (m : Nat), vs = [.ref p] ∧ PoAt C H p c h cs hs rss (oss ++ [x, y]) m ∧ rss.length ≤ 200 ∧
  ∀ (hs' : List Addr) (z : List Nat) H', z.length = x.length + y.length → (∀ q ∈ hs', q ∈ hs ∨ H q = none) → PoAt C H' p c h cs hs' rss (oss ++ [z]) m → (∀ b o, H b = some o → b ≠ h → H' b = some o) → Q .non H'
theorem ok_Pour_merge_last_two (T : Tx K mg t) : FnOk P w K mg t.bs CX0 3 t.f_Pour_merge_last_two t.d_Pour_merge_last_two ["self"] (spMl2 t.c_Pour) := by
  refine T.F_Pour_merge_last_two.okQ sc_Pour_merge_last_two (fun vs H Q E h => ?_) (fun cdv A outer s H vs Q E hr h => ?_)
  · obtain ⟨p, c, h, cs, hs, rss, oss, x, y, m, rfl, _⟩ := h
    rfl
  · obtain ⟨p, c, h, cs, hs, rss, oss, x, y, m, rfl, P, hn, k⟩ := h
    obtain ⟨dx, ob⟩ := P.ob
    have hl : hs.length = oss.length + 2 := by have := P.ls.1; simpa using this
    obtain ⟨gs, a, b, rfl, hgl⟩ := two_last hl
    have txa : H a = some (.lst (NV x)) := P.ls.2 oss.length a x (by rw [← hgl]; simp) (by simp)
    have tyb : H b = some (.lst (NV y)) := P.ls.2 (oss.length + 1) b y (by rw [← hgl]; simp) (by simp)
    have hG : LsAt H gs oss := ⟨hgl, fun i q ns e1 e2 => P.ls.2 i q ns (by rw [List.getElem?_append_left (get_lt e1)]; exact e1) (by rw [List.getElem?_append_left (get_lt e2)]; exact e2)⟩
    have hsp : oss ++ [x, y] = (oss ++ [x]) ++ [y] := by simp
    have hsg := P.sg
    rw [hsp] at hsg
    obtain ⟨f1, g1, sy, l1⟩ := hsg.last
    obtain ⟨f0, g0, sx, l0⟩ := g1.last
    have hna : h ≠ a := fun e => P.hn (by rw [e]; simp)
    have hnb : h ≠ b := fun e => P.hn (by rw [e]; simp)
    have hph := P.ph
    have hch := P.ch
    refine ⟨_, (qb_cons (qs_set (i := 1) sc_Pour_merge_last_two.nd rfl (Or.inl rfl) (qe_popEnd (K := K) (qe_fld (K := K) (qv 0))))
      (qb_one (qs_sub (qe_call (ok_merged_places T) (hr.mono (by decide)) rfl T.m_merged_places T.F_merged_places.kp T.b_merged_places pass0 (qa_c (qe_fld (K := K) (qv 0)) (qa_c (qe_ix (q_ixL (K := K)) (qe_fld (K := K) (qv 0)) (qe_un q_neg qe_int)) (qa_c (qv 1) qa_nil)))) (qe_fld (K := K) (qv 0)) (qe_un q_neg qe_int)))), ?_⟩
    rw [show L2.start ["self", "last"] [V.ref p] = [some (V.ref p), none] from rfl]
    walk_at "fs_rd"
    refine ⟨p, t.c_Pour, dx, _, _, rfl, ob, T.cl_Pour, T.n_Pour_heaped, pourF_heaped _ _ _, ?_⟩
    have thp : H h = some (.lst ((gs ++ [a]).map V.ref ++ [V.ref b])) := by rw [P.hp]; simp
    refine ⟨ty_list thp, ?_⟩
    walk_at "fs_rd"
    refine in_popEnd thp ?_
    have kp1 : ∀ d o, H d = some o → d ≠ h → (upd H h (.lst ((gs ++ [a]).map V.ref))) d = some o := fun d o e hd => by rw [upd_ne hd]; exact e
    have th1 : (upd H h (.lst ((gs ++ [a]).map V.ref))) h = some (.lst ((gs ++ [a]).map V.ref)) := upd_same
    generalize upd H h (.lst ((gs ++ [a]).map V.ref)) = H1 at kp1 th1
    walk_at "fs_rd"
    refine ⟨p, t.c_Pour, dx, _, _, rfl, kp1 _ _ ob hph, T.cl_Pour, T.n_Pour_came, pourF_came _ _ _, ?_⟩
    walk_at "fs_rd"
    refine ⟨p, t.c_Pour, dx, _, _, rfl, kp1 _ _ ob hph, T.cl_Pour, T.n_Pour_heaped, pourF_heaped _ _ _, ?_⟩
    walk_at "fs_rd"
    refine in_ix (SqL.of th1) (v := V.ref a) (by rw [List.map_append]; exact atI_last _ _) ?_
    have R1 : RowsT H1 cs rss := ⟨P.rw.1, fun i q r e1 e2 => kp1 _ _ (P.rw.2 i q r e1 e2) (ne_of (P.rw.2 i q r e1 e2) P.hp (by intro z; cases z))⟩
    walk_at "fs_rd"
    refine ⟨c, a, b, cs, rss, x, y, f0, f1, rss.length, rfl, .inl (kp1 _ _ P.cm hch), R1.toS, kp1 _ _ txa (fun e => hna e.symm), kp1 _ _ tyb (fun e => hnb e.symm), sx, sy, l0, l1, Nat.le_refl _, hn, fun l z H2 hl2 s2 tl hz => ?_⟩
    have kp2 : ∀ d o, H d = some o → d ≠ h → H2 d = some o := fun d o e hd => s2 _ _ (kp1 d o e hd)
    have th2 := s2 _ _ th1
    have hlh : l ≠ h := fun e => by rw [e, th1] at hl2; cases hl2
    have hlc : l ≠ c := fun e => by rw [e, kp1 _ _ P.cm hch] at hl2; cases hl2
    walk_at "fs_rd"
    refine ⟨p, t.c_Pour, dx, _, _, rfl, kp2 _ _ ob hph, T.cl_Pour, T.n_Pour_heaped, pourF_heaped _ _ _, ?_⟩
    walk_at "fs_rd"
    refine in_set th2 (by rw [List.map_append, List.length_append]; exact ixN_last _) ?_
    rw [List.map_append, List.map_singleton, List.length_map]
    have es : (gs.map V.ref ++ [V.ref a]).set gs.length (V.ref l) = (gs ++ [l]).map V.ref := by
      rw [List.map_append, ← List.length_map (f := V.ref) (as := gs), set_last]; rfl
    rw [es]
    have hzl : z.length = x.length + y.length := by have := sx.len; have := sy.len; have := hz.len; omega
    have kp3 : ∀ d o, H d = some o → d ≠ h → (upd H2 h (.lst ((gs ++ [l]).map V.ref))) d = some o := fun d o e hd => by rw [upd_ne hd]; exact kp2 d o e hd
    have hln : H l = none := by
      cases q : H l with
      | none => rfl
      | some o => rw [kp1 _ _ q hlh] at hl2; cases hl2
    refine k (gs ++ [l]) z _ hzl (fun q hq => by
      rcases List.mem_append.mp hq with g | g
      · exact .inl (List.mem_append_left _ g)
      · rw [List.mem_singleton.mp g]; exact .inr hln) ⟨⟨dx, kp3 _ _ ob hph⟩, kp3 _ _ P.cm hch, ⟨P.rw.1, fun i q r e1 e2 => kp3 _ _ (P.rw.2 i q r e1 e2) (ne_of (P.rw.2 i q r e1 e2) P.hp (by intro z; cases z))⟩, upd_same, ?_, .snoc g0 hz (by omega), hch, ?_, ?_⟩ kp3
    · refine LsAt.snoc ⟨hgl, fun i q ns e1 e2 => kp3 _ _ (hG.2 i q ns e1 e2) (fun e => P.hn (by rw [← e]; exact List.mem_append_left _ (List.mem_of_getElem? e1)))⟩ ?_
      rw [upd_ne hlh]; exact tl
    · intro hm
      rcases List.mem_append.mp hm with g | g
      · exact P.cn (List.mem_append_left _ g)
      · exact hlc (List.mem_singleton.mp g).symm
    · intro hm
      rcases List.mem_append.mp hm with g | g
      · exact P.hn (List.mem_append_left _ g)
      · exact hlh (List.mem_singleton.mp g).symm

def rmrg : List Nat → Nat → List Nat × Nat
  | y :: x :: r, t => if x ≤ y then rmrg ((x + y) :: r) (t + (x + y)) else (y :: x :: r, t)
  | [y], t => ([y], t)
  | [], t => ([], t)
termination_by l => l.length
theorem rmrg_go {x y t : Nat} {r : List Nat} (h : x ≤ y) : rmrg (y :: x :: r) t = rmrg ((x + y) :: r) (t + (x + y)) := by rw [rmrg, if_pos h]
def dueB : List Nat → Bool
  | y :: x :: _ => decide (x ≤ y)
  | _ => false
theorem rmrg_stop {l : List Nat} {t : Nat} (h : dueB l = false) : rmrg l t = (l, t) := by
  match l, h with
  | [], _ => rw [rmrg]
  | [y], _ => rw [rmrg]
  | y :: x :: r, h => rw [rmrg, if_neg (of_decide_eq_false h)]
theorem rev_two {l : List Nat} (h : 1 < l.length) : ∃ (r : List Nat) (x y : Nat), l = r ++ [x, y] := by
  obtain ⟨r, x, y, e, _⟩ := two_last (xs := l) (n := l.length - 2) (by omega)
  exact ⟨r, x, y, e⟩
theorem due_rev (r : List Nat) (x y : Nat) : dueB (r ++ [x, y]).reverse = decide (x ≤ y) := by
  rw [List.reverse_append]; rfl
theorem due_short {l : List Nat} (h : ¬ 1 < l.length) : dueB l.reverse = false := by
  match l, h with
  | [], _ => rfl
  | [_], _ => rfl
  | _ :: _ :: _, h => simp at h
def spDueP : Sp := fun vs H Q _ => ∃ (a : Addr) (ls : List Nat), vs = [.ref a] ∧ H a = some (.lst (NV ls)) ∧ Q (.bl (dueB ls.reverse)) H
theorem ok_is_due (T : Tx K mg t) : FnOk P w K mg t.bs CX0 1 t.f_is_due t.d_is_due ["lengths"] spDueP := by
  refine T.F_is_due.okQ sc_is_due (fun vs H Q E h => ?_) (fun cdv A outer s H vs Q E hr h => ?_)
  · obtain ⟨a, ls, rfl, _⟩ := h
    rfl
  · obtain ⟨a, ls, rfl, ta, k⟩ := h
    refine ⟨_, (qb_one (qs_ret (qe_and (qe_cmpR q_gt (qe_callB (qc_len (K := K)) (by rfl) T.z_len bt_len (qa_c (qv 0) qa_nil)) qe_int (nomark _)) (qe_one (qe_cmpR q_ge (qe_ix (q_ixL (K := K)) (qv 0) (qe_un q_neg qe_int)) (qe_ix (q_ixL (K := K)) (qv 0) (qe_un q_neg qe_int)) (nomark _)))))), ?_⟩
    rw [show L2.start ["lengths"] [V.ref a] = [some (V.ref a)] from rfl]
    walk_at "fs_rd"
    refine in_lenL (SqL.of ta) ?_
    rw [NV_len]
    walk_at "fs_rd"
    refine in_split (fun g => ?_) (fun g => ?_)
    · obtain ⟨r, x, y, rfl⟩ := rev_two (l := ls) (by omega)
      rw [due_rev] at k
      have e1 : NV (r ++ [x, y]) = (NV r ++ [V.int (x : Nat)]) ++ [V.int (y : Nat)] := by simp [NV]
      have e2 : NV (r ++ [x, y]) = NV r ++ [V.int (x : Nat), V.int (y : Nat)] := by simp [NV]
      walk_at "fs_rd"
      refine in_ix (SqL.of ta) (v := V.int (y : Nat)) (by rw [e1]; exact atI_last _ _) ?_
      walk_at "fs_rd"
      refine in_ix (SqL.of ta) (v := V.int (x : Nat)) (by rw [e2]; exact atI_two _ _ _) ?_
      walk_at "fs_rd"
      have e3 : decide ((y : Int) ≥ (x : Int)) = decide (x ≤ y) := decide_eq_decide.mpr (by omega)
      rw [e3]
      exact k
    · rw [due_short (by omega)] at k
      walk_at "fs_rd"
      exact k
theorem tab_ins {pt : Addr} {H : Hp} {p C dx : Addr} {fs gs : List (Str × V)} (T : TabT pt H) (hl : H p = some (.ins C dx fs)) : TabT pt (upd H p (.ins C dx gs)) := by
  rcases T with z | ⟨c, z, u⟩
  · exact .inl (by rw [upd_ne (ne_of z hl (by intro c; cases c))]; exact z)
  · exact .inr ⟨c, by rw [upd_ne (ne_of z hl (by intro c; cases c))]; exact z, by rw [upd_ne (ne_of u hl (by intro c; cases c))]; exact u⟩
theorem tab_kp {pt : Addr} {H H' : Hp} {h : Addr} {xs : List V} (T : TabT pt H) (hl : H h = some (.lst xs)) (kp : ∀ b o, H b = some o → b ≠ h → H' b = some o) : TabT pt H' := by
  rcases T with z | ⟨c, z, u⟩
  · exact .inl (kp _ _ z (ne_of z hl (by intro c; cases c)))
  · exact .inr ⟨c, kp _ _ z (ne_of z hl (by intro c; cases c)), kp _ _ u (ne_of u hl (by intro c; cases c))⟩
theorem seg_shift {rss qss : List (List Nat)} {os : List Nat} (hp : os.Perm (List.range qss.length)) (hs : os.Pairwise (Rk qss 0)) : Seg (rss ++ qss) rss.length (rss ++ qss).length (os.map fun i => rss.length + i) := by
  refine ⟨?_, ?_⟩
  · rw [List.length_append, show rss.length + qss.length - rss.length = qss.length by omega]
    have := hp.map fun i => rss.length + i
    refine this.trans ?_
    rw [List.range_eq_range', List.map_add_range', Nat.add_zero]
  · rw [List.pairwise_map]
    refine hs.imp fun {i j} r => ?_
    unfold Rk at r ⊢
    have e : ∀ i, (rss ++ qss).getD (rss.length + i) [] = qss.getD i [] := fun i => by
      rw [List.getD_eq_getElem?_getD, List.getD_eq_getElem?_getD, List.getElem?_append_right (by omega), show rss.length + i - rss.length = i by omega]
    rw [e, e]
    rcases r with r | ⟨r1, r2⟩
    · exact .inl r
    · exact .inr ⟨r1, by omega⟩
def Kpp (p c h pt : Addr) (H H' : Hp) : Prop := ∀ b o, H b = some o → b ≠ p → b ≠ c → b ≠ h → b ≠ pt → H' b = some o
theorem Kpp.same {p c h pt : Addr} {H H1 H2 : Hp} (a : Kpp p c h pt H H1) (s : Same H1 H2) : Kpp p c h pt H H2 := fun b o e x1 x2 x3 x4 => s _ _ (a b o e x1 x2 x3 x4)
theorem Kpp.of {p c h pt : Addr} {H H1 : Hp} (s : Same H H1) : Kpp p c h pt H H1 := fun b o e _ _ _ _ => s _ _ e
theorem Kpp.free {C p c h pt : Addr} {H H1 : Hp} {cs hs : List Addr} {rss oss : List (List Nat)} {m : Nat} (K : Kpp p c h pt H H1) (P : PoAt C H1 p c h cs hs rss oss m) (T : TabT pt H1) {q : Addr} (e : H1 q = none) : H q = none := by
  cases z : H q with
  | none => rfl
  | some o =>
    obtain ⟨dx, ob⟩ := P.ob
    have := K q o z (fun y => by rw [y, ob] at e; cases e) (fun y => by rw [y, P.cm] at e; cases e) (fun y => by rw [y, P.hp] at e; cases e) (fun y => by rcases T with t | ⟨_, t, _⟩ <;> rw [← y, e] at t <;> cases t)
    rw [this] at e; cases e
def spPourP (C pt : Addr) : Sp := fun vs H Q _ => ∃ (p a c h : Addr) (cs hs ps : List Addr) (rss oss qss : List (List Nat)) (m w : Nat), vs = [.ref p, .ref a] ∧ PoAt C H p c h cs hs rss oss m ∧ (H a = some (.lst (ps.map V.ref)) ∧ True) ∧ RowsU H ps qss ∧ (∀ r ∈ qss, r.length = w) ∧
  rss.length + qss.length ≤ 200 ∧ oss.length ≤ 100 ∧ a ≠ c ∧ a ≠ h ∧ (∀ q ∈ ps, q ≠ c ∧ q ≠ h) ∧ TabT pt H ∧
  ∀ (cs' hs' : List Addr) (oss' : List (List Nat)) (H' : Hp), PoAt C H' p c h cs' hs' (rss ++ qss) oss' (m + (rmrg (oss.map List.length ++ [qss.length]).reverse 0).2) → (oss'.map List.length).reverse = (rmrg (oss.map List.length ++ [qss.length]).reverse 0).1 → (∀ q ∈ hs', q ∈ hs ∨ H q = none) → Kpp p c h pt H H' → TabT pt H' → Q (.int ((rmrg (oss.map List.length ++ [qss.length]).reverse 0).2 : Nat)) H'
theorem RowsU.kp {c : Addr} {H H1 : Hp} {ps : List Addr} {rss : List (List Nat)} (h : RowsU H ps rss) (hc : ∀ q ∈ ps, q ≠ c) (kp : ∀ b o, H b = some o → b ≠ c → H1 b = some o) : RowsU H1 ps rss := ⟨h.1, fun i p z a b => (h.2 i p z a b).elim (fun e => .inl (kp _ _ e (hc p (List.mem_of_getElem? a)))) (fun e => .inr (kp _ _ e (hc p (List.mem_of_getElem? a))))⟩
theorem rt_app {H : Hp} {ps qs : List Addr} {rss qss : List (List Nat)} (h : RowsT H ps rss) (g : RowsT H qs qss) : RowsT H (ps ++ qs) (rss ++ qss) := by
  refine ⟨by rw [List.length_append, List.length_append, h.1, g.1], fun i p r a b => ?_⟩
  by_cases l : i < ps.length
  · rw [List.getElem?_append_left l] at a
    rw [List.getElem?_append_left (by rw [← h.1]; exact l)] at b
    exact h.2 i p r a b
  · rw [List.getElem?_append_right (by omega)] at a
    rw [List.getElem?_append_right (by rw [← h.1]; omega), ← h.1] at b
    exact g.2 _ p r a b
theorem ok_Pour_pour (T : Tx K mg t) : FnOk P w K mg t.bs CX0 4 t.f_Pour_pour t.d_Pour_pour ["self", "rows"] (spPourP t.c_Pour t.pt) := by
  refine T.F_Pour_pour.okQ sc_Pour_pour (fun vs H Q E h => ?_) (fun cdv A outer s H vs Q E hr h => ?_)
  · obtain ⟨p, a, c, h, cs, hs, ps, rss, oss, qss, m, w, rfl, _⟩ := h
    rfl
  · obtain ⟨p, a, c, h, cs, hs, ps, rss, oss, qss, m, w, rfl, P, hta, hR, hw, hn, hon, hac, hah, hps, hTab, k⟩ := h
    obtain ⟨dx, ob⟩ := P.ob
    have hpl : ps.length = qss.length := hR.1
    have hcl : cs.length = rss.length := P.rw.1
    have hhl : hs.length = oss.length := P.ls.1
    have hpc := P.pc
    have hph := P.ph
    have hch := P.ch
    obtain ⟨ta, _⟩ := hta
    · refine ⟨_, (qb_cons (qs_set (i := 2) sc_Pour_pour.nd rfl (Or.inr rfl) (qe_callB (qc_len (K := K)) (by rfl) T.z_len bt_len (qa_c (qe_fld (K := K) (qv 0)) qa_nil)))
      (qb_cons (qs_expr (qe_extend (K := K) (qe_fld (K := K) (qv 0)) (qa_c (qe_comp (N := ["row"]) (tgs := ["row"]) (frs := []) (ix := []) ⟨rfl, by decide +kernel, rfl, by decide +kernel, rfl, rfl, True.intro, True.intro, rfl⟩ rfl (qi_list (K := K) (qv 1)) (fun _ _ _ _ => (qg_name (i := 0) (by show List.Nodup (["row"] : List Str); decide +kernel) rfl (Or.inl rfl))) (fun _ _ _ _ => (qe_callTy (qc_tuple (K := K)) (by rfl) T.z_tuple bt_tuple (qa_c (qv 0) qa_nil)))) qa_nil)))
      (qb_cons (qs_expr (qe_append (K := K) (qe_fld (K := K) (qv 0)) (qa_c (qe_comp (N := ["place", "ahead"]) (tgs := ["place"]) (frs := ["ahead"]) (ix := [2]) ⟨rfl, by decide +kernel, rfl, by decide +kernel, rfl, rfl, ⟨⟨rfl, rfl, _, rfl, rfl⟩, True.intro⟩, ⟨rfl, True.intro⟩, rfl⟩ rfl (qi_list (K := K) (qe_call (ok_told_order T) (hr.mono (by decide)) rfl T.m_told_order T.F_told_order.kp T.b_told_order pass0 (qa_c (qv 1) qa_nil))) (fun _ _ _ _ => (qg_name (i := 0) (by show List.Nodup (["place", "ahead"] : List Str); decide +kernel) rfl (Or.inl rfl))) (fun _ _ _ _ => (qe_op q_add (qv 1) (qv 0)))) qa_nil)))
      (qb_cons (qs_set (i := 3) sc_Pour_pour.nd rfl (Or.inl rfl) qe_int)
      (qb_cons (qs_while PassesOwn.never (qt_val (qe_call (ok_is_due T) (hr.mono (by decide)) rfl T.m_is_due T.F_is_due.kp T.b_is_due pass0 (qa_c (qe_meth0 (qv 0) T.cl_Pour T.M_Pour_heaps (ok_Pour_heaps T) (hr.mono (by decide)) T.b_Pour_heaps pass0 ) qa_nil))) (qb_cons (qs_expr (qe_meth0 (qv 0) T.cl_Pour T.M_Pour_merge_last_two (ok_Pour_merge_last_two T) (hr.mono (by decide)) T.b_Pour_merge_last_two pass0 ))
      (qb_one (qs_aug (i := 3) sc_Pour_pour.nd rfl (Or.inl rfl) (qe_callB (qc_len (K := K)) (by rfl) T.z_len bt_len (qa_c (qe_ix (q_ixL (K := K)) (qe_fld (K := K) (qv 0)) (qe_un q_neg qe_int)) qa_nil)) q_iadd))))
      (qb_cons (qs_fldaug (K := K) (qv 0) (qv 3) q_iadd)
      (qb_one (qs_ret (qv 3))))))))), ?_⟩
      rw [show L2.start ["self", "rows", "ahead", "moves"] [V.ref p, V.ref a] = [some (V.ref p), some (V.ref a), none, none] from rfl]
      walk_at "fs_rd"
      refine ⟨p, t.c_Pour, dx, _, _, rfl, ob, T.cl_Pour, T.n_Pour_came, pourF_came _ _ _, ?_⟩
      walk_at "fs_rd"
      refine in_lenL (SqL.of P.cm) ?_
      rw [List.length_map, hcl]
      walk_at "fs_rd"
      refine ⟨p, t.c_Pour, dx, _, _, rfl, ob, T.cl_Pour, T.n_Pour_came, pourF_came _ _ _, ?_⟩
      refine ⟨ty_list P.cm, ?_⟩
      walk_at "fs_rd"
      refine ⟨a, rfl, ⟨_, SqL.of ta⟩, comp_lst (a := a) (vs := ps.map V.ref) (fun i ys σ H' => Same H H' ∧ (∃ us : List Addr, ys = us.map V.ref ∧ us.length = i ∧ i ≤ ps.length ∧ RowsT H' us (qss.take i)) ∧ ∃ v, σ = [v]) (by rw [List.length_map]; exact small1000 (by omega)) (fun i ys σ H' h => by obtain ⟨_, ⟨us, rfl, e, _⟩, _⟩ := h; rw [List.length_map, e]) (fun i ys σ H' h => SqL.of (h.1 _ _ ta)) ⟨Same.refl _, ⟨[], rfl, rfl, Nat.zero_le _, rfl, fun i p r h => by simp at h⟩, none, rfl⟩ ?_ ?_⟩
      · rintro i ys σ H1 x hx ⟨s1, ⟨us, rfl, hul, _, hU⟩, v, rfl⟩
        obtain ⟨q, rfl, hq, _, hil⟩ := map_get hx
        have hiq : i < qss.length := by omega
        have eq' : qss[i]? = some qss[i] := by simp [hiq]
        walk_at "fs_rd"
        refine in_tupAny ((hR.same s1).2 i q _ hq eq') fun q2 H2 s2 t2 => ?_
        refine Nx.mk (by rw [List.length_map]; exact hil) ⟨s1.trans s2, ⟨us ++ [q2], by rw [List.map_append]; rfl, by simp [hul], hil, ?_⟩, _, rfl⟩
        rw [List.take_add_one, eq']
        exact (hU.same s2).snoc t2
      rintro ys σ H1 ⟨s1, ⟨us, rfl, hul, _, hU⟩, v, rfl⟩ z hz
      rw [List.length_map] at hul hU
      rw [List.take_of_length_le (by omega)] at hU
      have s2 := s1.new (o := .lst (us.map V.ref)) hz
      have U2 := hU.same ((Same.refl H1).new (o := .lst (us.map V.ref)) hz)
      have tz : (upd H1 z (.lst (us.map V.ref))) z = some (.lst (us.map V.ref)) := upd_same
      generalize upd H1 z (.lst (us.map V.ref)) = H2 at s2 U2 tz
      have P2 := P.same s2
      walk_at "fs_rd"
      refine in_extend P2.cm tz (Nat.le_of_lt (Nat.lt_of_le_of_lt (by rw [List.length_map, List.length_map]; omega) (by decide : 200 < sizeLine))) ?_
      rw [← List.map_append]
      have kp3 : ∀ b o, H2 b = some o → b ≠ c → (upd H2 c (.lst ((cs ++ us).map V.ref))) b = some o := fun b o e hb => by rw [upd_ne hb]; exact e
      have tc3 : (upd H2 c (.lst ((cs ++ us).map V.ref))) c = some (.lst ((cs ++ us).map V.ref)) := upd_same
      have T3 := tab_own (ys := (cs ++ us).map V.ref) (hTab.same s2) P2.cm
      have R3 : RowsT (upd H2 c (.lst ((cs ++ us).map V.ref))) (cs ++ us) (rss ++ qss) := (rt_app P2.rw U2).own P2.cm
      generalize upd H2 c (.lst ((cs ++ us).map V.ref)) = H3 at kp3 tc3 T3 R3
      have ob3 := kp3 _ _ (s2 _ _ ob) hpc
      have ta3 := kp3 _ _ (s2 _ _ ta) hac
      have th3 := kp3 _ _ P2.hp (fun e => hch e.symm)
      have L3 : LsAt H3 hs oss := ⟨P2.ls.1, fun i q ns e1 e2 => kp3 _ _ (P2.ls.2 i q ns e1 e2) (fun e => P.cn (by rw [← e]; exact List.mem_of_getElem? e1))⟩
      have U3 : RowsU H3 ps qss := (hR.same s2).kp (fun q hq => (hps q hq).1) kp3
      have K3 : Kpp p c h t.pt H H3 := fun b o e x1 x2 x3 x4 => kp3 _ _ (s2 _ _ e) x2
      walk_at "fs_rd"
      refine ⟨p, t.c_Pour, dx, _, _, rfl, ob3, T.cl_Pour, T.n_Pour_heaped, pourF_heaped _ _ _, ?_⟩
      refine ⟨ty_list th3, ?_⟩
      walk_at "fs_rd"
      refine ⟨a, ps, qss, w, rfl, ⟨ta3, trivial⟩, U3, hw, by omega, T3, fun l os H4 hl sx4 T4 tl hperm hsort => ?_⟩
      have hol : os.length = qss.length := by have := hperm.length_eq; rwa [List.length_range] at this
      walk_at "fs_rd"
      refine ⟨l, rfl, ⟨_, SqL.of tl⟩, comp_lst (a := l) (vs := NV os) (fun i ys σ H' => H' = H4 ∧ ys = NV ((os.map fun i => rss.length + i).take i) ∧ i ≤ os.length ∧ ∃ v, σ = [v, some (V.int (rss.length : Nat))]) (by rw [NV_len]; exact small1000 (by omega)) (fun i ys σ H' h => by rw [h.2.1, NV_len, List.length_take, List.length_map]; omega) (fun i ys σ H' h => by rw [h.1]; exact SqL.of tl) ⟨rfl, rfl, Nat.zero_le _, none, rfl⟩ ?_ ?_⟩
      · rintro i ys σ H' x hx ⟨rfl, rfl, _, v, rfl⟩
        have hil := get_lt hx
        obtain ⟨o, rfl, ho, _, hi⟩ := map_get hx
        have e1 : (rss.length : Int) + (o : Int) = ((rss.length + o : Nat) : Int) := by omega
        walk_at "fs_rd"
        rw [e1]
        refine Nx.mk hil ⟨rfl, ?_, hi, _, rfl⟩
        rw [NV_snoc, List.take_add_one, List.getElem?_map, ho]; rfl
      rintro ys σ H4' ⟨e4, rfl, _, v, rfl⟩ g hg
      subst e4
      rw [List.take_of_length_le (by rw [List.length_map, NV_len]; exact Nat.le_refl _)]
      have SG := seg_shift (rss := rss) hperm hsort
      have homl : (os.map fun i => rss.length + i).length = qss.length := by rw [List.length_map, hol]
      generalize (os.map fun i => rss.length + i) = om at SG homl
      have s5 := (Same.refl H4').new (o := .lst (NV om)) hg
      have tg : (upd H4' g (.lst (NV om))) g = some (.lst (NV om)) := upd_same
      have th4 := sx4 _ _ (T3.ne th3) th3
      have tc4 := sx4 _ _ (T3.ne tc3) tc3
      have hgh : g ≠ h := fun e => by rw [e, th4] at hg; cases hg
      have hgc : g ≠ c := fun e => by rw [e, tc4] at hg; cases hg
      generalize upd H4' g (.lst (NV om)) = H5 at s5 tg
      have hpt : p ≠ t.pt := fun z => by
        rw [z] at ob3
        rcases T3 with q | ⟨c, q, _⟩ <;> rw [ob3] at q <;> cases q
      have ob5 := s5 _ _ (sx4 _ _ hpt ob3)
      have th5 := s5 _ _ th4
      walk_at "fs_rd"
      refine in_append th5 (by rw [List.length_map]; exact small1000 (by omega)) ?_
      have P6 : PoAt t.c_Pour (upd H5 h (.lst (hs.map V.ref ++ [V.ref g]))) p c h (cs ++ us) (hs ++ [g]) (rss ++ qss) (oss ++ [om]) m := by
        refine ⟨⟨dx, by rw [upd_ne hph]; exact ob5⟩, by rw [upd_ne hch]; exact s5 _ _ tc4, ((R3.sx T3 sx4).same s5).own th5, by rw [upd_same, List.map_append]; rfl, ?_, .snoc (P.sg.more (Nat.le_refl _)) SG (by rw [List.length_append]; omega), hch, ?_, ?_⟩
        · refine LsAt.snoc ⟨hhl, fun i q ns e1 e2 => ?_⟩ (by rw [upd_ne hgh]; exact tg)
          rw [upd_ne (fun e => P.hn (by rw [← e]; exact List.mem_of_getElem? e1))]
          exact s5 _ _ (sx4 _ _ (T3.ne (L3.2 i q ns e1 e2)) (L3.2 i q ns e1 e2))
        · intro hm
          rcases List.mem_append.mp hm with g' | g'
          · exact P.cn g'
          · exact hgc (List.mem_singleton.mp g').symm
        · intro hm
          rcases List.mem_append.mp hm with g' | g'
          · exact P.hn g'
          · exact hgh (List.mem_singleton.mp g').symm
      have K6 : Kpp p c h t.pt H (upd H5 h (.lst (hs.map V.ref ++ [V.ref g]))) := fun b o e x1 x2 x3 x4 => by
        rw [upd_ne x3]
        exact s5 _ _ (sx4 _ _ x4 (K3 b o e x1 x2 x3 x4))
      have T6 := tab_own (ys := hs.map V.ref ++ [V.ref g]) (T4.same s5) th5
      generalize upd H5 h (.lst (hs.map V.ref ++ [V.ref g])) = H6 at P6 K6 T6
      have hgn : H g = none := by
        cases z9 : H g with
        | none => rfl
        | some o9 =>
          have k9 := sx4 _ _ (fun y => by rcases T4 with t9 | ⟨_, t9, _⟩ <;> rw [← y, hg] at t9 <;> cases t9) (K3 g o9 z9 (fun y => by rw [y, sx4 _ _ hpt ob3] at hg; cases hg) hgc hgh (fun y => by rcases T4 with t9 | ⟨_, t9, _⟩ <;> rw [← y, hg] at t9 <;> cases t9))
          rw [k9] at hg; cases hg
      have F6 : ∀ q ∈ hs ++ [g], q ∈ hs ∨ H q = none := fun q hq => by
        rcases List.mem_append.mp hq with g' | g'
        · exact .inl g'
        · rw [List.mem_singleton.mp g']; exact .inr hgn
      have e0 : rmrg ((oss ++ [om]).map List.length).reverse 0 = rmrg (oss.map List.length ++ [qss.length]).reverse 0 := by rw [List.map_append, List.map_singleton, homl]
      walk_at "fs_rd"
      refine ⟨fun mm σ H' => ∃ (gs : List Addr) (pss : List (List Nat)) (mv : Nat), mm = pss.length ∧ pss.length ≤ 101 ∧ PoAt t.c_Pour H' p c h (cs ++ us) gs (rss ++ qss) pss m ∧ (∀ q ∈ gs, q ∈ hs ∨ H q = none) ∧ Kpp p c h t.pt H H' ∧ TabT t.pt H' ∧ rmrg (pss.map List.length).reverse mv = rmrg (oss.map List.length ++ [qss.length]).reverse 0 ∧ σ = [some (V.ref p), some (V.ref a), some (V.int (rss.length : Nat)), some (V.int (mv : Nat))], ⟨_, hs ++ [g], oss ++ [om], 0, rfl, by rw [List.length_append, List.length_singleton]; omega, P6, F6, K6, T6, e0, rfl⟩, ?_⟩
      rintro mm σ H7 ⟨gs, pss, mv, rfl, hpn, P7, F7, K7, T7, e7, rfl⟩
      obtain ⟨dx7, ob7⟩ := P7.ob
      walk_at "fs_rd"
      refine ⟨p, dx7, _, rfl, ob7, pourF_no _ _ _ (by decide +kernel) (by decide +kernel) (by decide +kernel), ?_⟩
      refine ⟨p, c, h, _, gs, _, pss, m, rfl, P7, by omega, fun l1 H8 hl1 s8 tl1 => ?_⟩
      walk_at "fs_rd"
      refine ⟨l1, _, rfl, tl1, ?_⟩
      have P8 := P7.same s8
      have K8 := K7.same s8
      have T8 := T7.same s8
      clear P7 K7 T7 s8 tl1 hl1 ob7
      cases hd : dueB (pss.map List.length).reverse with
      | true =>
        have h1 : 1 < pss.length := by
          apply Classical.byContradiction
          intro z
          rw [due_short (by rw [List.length_map]; exact z)] at hd; cases hd
        obtain ⟨as, x, y, rfl, _⟩ := two_last (xs := pss) (n := pss.length - 2) (by omega)
        have em : (as ++ [x, y]).map List.length = as.map List.length ++ [x.length, y.length] := by simp
        rw [em, due_rev] at hd
        have hxy := of_decide_eq_true hd
        rw [em, List.reverse_append, show ([x.length, y.length] : List Nat).reverse ++ (as.map List.length).reverse = y.length :: x.length :: (as.map List.length).reverse from rfl, rmrg_go hxy] at e7
        obtain ⟨dx8, ob8⟩ := P8.ob
        walk_at "fs_rd"
        refine ⟨_, fun _ _ z => z, ?_⟩
        walk_at "fs_rd"
        refine ⟨p, dx8, _, rfl, ob8, pourF_no _ _ _ (by decide +kernel) (by decide +kernel) (by decide +kernel), ?_⟩
        refine ⟨p, c, h, _, gs, _, as, x, y, m, rfl, P8, by rw [List.length_append]; omega, fun gs' z H9 hzl F9 P9 kp9 => ?_⟩
        have K9 : Kpp p c h t.pt H H9 := fun b o e x1 x2 x3 x4 => kp9 _ _ (K8 b o e x1 x2 x3 x4) x3
        have T9 := tab_kp T8 P8.hp kp9
        obtain ⟨dx9, ob9⟩ := P9.ob
        have hgl9 : gs'.length = as.length + 1 := by have := P9.ls.1; simpa using this
        walk_at "fs_rd"
        refine ⟨p, t.c_Pour, dx9, _, _, rfl, ob9, T.cl_Pour, T.n_Pour_heaped, pourF_heaped _ _ _, ?_⟩
        obtain ⟨q9, hq9⟩ : ∃ q, gs'[as.length]? = some q := ⟨gs'[as.length]'(by omega), by simp [hgl9]⟩
        walk_at "fs_rd"
        refine in_ix (SqL.of P9.hp) (v := V.ref q9) (atI_end (by rw [List.length_map, List.getElem?_map, hgl9, Nat.add_sub_cancel, hq9]; rfl)) ?_
        have tq9 := P9.ls.2 as.length q9 z hq9 (by simp)
        walk_at "fs_rd"
        refine in_lenL (SqL.of tq9) ?_
        rw [NV_len]
        walk_at "fs_rd"
        have ez : (mv : Int) + (z.length : Int) = ((mv + (x.length + y.length) : Nat) : Int) := by rw [hzl]; omega
        refine ⟨(as ++ [z]).length, by simp, gs', as ++ [z], mv + (x.length + y.length), rfl, by have := hpn; simp at this ⊢; omega, P9, fun q hq => by
          rcases F9 q hq with g' | g'
          · exact F7 q g'
          · exact .inr (K8.free P8 T8 g'), K9, T9, ?_, by rw [← ez]; rfl⟩
        rw [← e7, List.map_append, List.map_singleton, List.reverse_append, hzl]; rfl
      | false =>
        rw [rmrg_stop hd] at e7
        rw [← e7] at k
        obtain ⟨dx8, ob8⟩ := P8.ob
        walk_at "fs_rd"
        refine ⟨p, t.c_Pour, dx8, _, _, rfl, ob8, T.cl_Pour, T.n_Pour_moved, pourF_moved _ _ _, ?_⟩
        walk_at "fs_rd"
        refine ⟨dx8, _, ob8, by show 3 < 1000; decide, ?_⟩
        have em : (m : Int) + (mv : Int) = ((m + mv : Nat) : Int) := by omega
        rw [em, pourF_set]
        walk_at "fs_rd"
        have hpq : ∀ b o, H8 b = some o → b ≠ p → (upd H8 p (.ins t.c_Pour dx8 (pourF c h ((m + mv : Nat) : Int)))) b = some o := fun b o e hb => by rw [upd_ne hb]; exact e
        refine k _ gs pss _ ⟨⟨dx8, upd_same⟩, hpq _ _ P8.cm (fun e => hpc e.symm), ⟨P8.rw.1, fun i q r e1 e2 => hpq _ _ (P8.rw.2 i q r e1 e2) (ne_of (P8.rw.2 i q r e1 e2) ob8 (by intro z; cases z))⟩, hpq _ _ P8.hp (fun e => hph e.symm), ⟨P8.ls.1, fun i q r e1 e2 => hpq _ _ (P8.ls.2 i q r e1 e2) (ne_of (P8.ls.2 i q r e1 e2) ob8 (by intro z; cases z))⟩, P8.sg, P8.ch, P8.cn, P8.hn⟩ rfl F7 (fun b o e x1 x2 x3 x4 => hpq _ _ (K8 b o e x1 x2 x3 x4) x1) (tab_ins T8 ob8)

def spOrderP (C : Addr) : Sp := fun vs H Q _ => ∃ (p c h : Addr) (cs hs : List Addr) (rss oss : List (List Nat)) (m : Nat), vs = [.ref p] ∧ PoAt C H p c h cs hs rss oss m ∧ rss.length ≤ 200 ∧ oss.length ≤ 200 ∧ ∀ (l : Addr) (os : List Nat) H', H l = none → Same H H' → H' l = some (.lst (NV os)) → os.Perm (List.range rss.length) → os.Pairwise (Rk rss 0) → Q (.ref l) H'
theorem Hps.zero {rss : List (List Nat)} {l : Nat} (h : Hps rss [] l) : l = 0 := by
  generalize e : ([] : List (List Nat)) = q at h
  cases h with
  | nil => rfl
  | snoc h s hl => simp at e
theorem Hps.le {rss oss : List (List Nat)} {l : Nat} (h : Hps rss oss l) (e : l = rss.length) : l ≤ rss.length := by omega
theorem ok_Pour_order (T : Tx K mg t) : FnOk P w K mg t.bs CX0 3 t.f_Pour_order t.d_Pour_order ["self"] (spOrderP t.c_Pour) := by
  refine T.F_Pour_order.okQ sc_Pour_order (fun vs H Q E h => ?_) (fun cdv A outer s H vs Q E hr h => ?_)
  · obtain ⟨p, c, h, cs, hs, rss, oss, m, rfl, _⟩ := h
    rfl
  · obtain ⟨p, c, h, cs, hs, rss, oss, m, rfl, P, hn, hon, k⟩ := h
    obtain ⟨dx, ob⟩ := P.ob
    have hhl : hs.length = oss.length := P.ls.1
    refine ⟨_, (qb_cons (qs_set (i := 1) sc_Pour_order.nd rfl (Or.inl rfl) (qe_lst qa_nil))
      (qb_cons (qs_for PassesOwn.never rfl (qi_list (K := K) (qe_rev (K := K) (qe_fld (K := K) (qv 0)))) (qg_name (i := 2) sc_Pour_order.nd rfl (Or.inl rfl)) (qb_one (qs_set (i := 1) sc_Pour_order.nd rfl (Or.inl rfl) (qe_call (ok_merged_places T) (hr.mono (by decide)) rfl T.m_merged_places T.F_merged_places.kp T.b_merged_places pass0 (qa_c (qe_fld (K := K) (qv 0)) (qa_c (qv 2) (qa_c (qv 1) qa_nil)))))))
      (qb_one (qs_ret (qv 1))))), ?_⟩
    rw [show L2.start ["self", "places", "heap"] [V.ref p] = [some (V.ref p), none, none] from rfl]
    walk_at "fs_rd"
    refine ⟨three (by simp), fun l0 hl0 => ?_⟩
    have s1 := (Same.refl H).new (o := .lst []) hl0
    have tl0 : (upd H l0 (.lst [])) l0 = some (.lst (NV [])) := upd_same
    generalize upd H l0 (.lst []) = H1 at s1 tl0
    walk_at "fs_rd"
    refine ⟨p, t.c_Pour, dx, _, _, rfl, s1 _ _ ob, T.cl_Pour, T.n_Pour_heaped, pourF_heaped _ _ _, ?_⟩
    walk_at "fs_rd"
    refine ⟨h, _, rfl, SqL.of (s1 _ _ P.hp), fun r hr => ?_⟩
    rw [← List.map_reverse]
    have s2 := s1.new (o := .lst (hs.reverse.map V.ref)) hr
    have s12 := (Same.refl H1).new (o := .lst (hs.reverse.map V.ref)) hr
    have tr : (upd H1 r (.lst (hs.reverse.map V.ref))) r = some (.lst (hs.reverse.map V.ref)) := upd_same
    generalize upd H1 r (.lst (hs.reverse.map V.ref)) = H2 at s2 s12 tr
    walk_at "fs_rd"
    refine ⟨r, rfl, ⟨_, SqL.of tr⟩, for_list (a := r) (xs := hs.reverse.map V.ref) (fun i σ H' => Same H H' ∧ H' r = some (.lst (hs.reverse.map V.ref)) ∧ (∃ (l : Addr) (os : List Nat) (f : Nat), H l = none ∧ H' l = some (.lst (NV os)) ∧ Hps rss (oss.take (oss.length - i)) f ∧ Seg rss f rss.length os ∧ f ≤ rss.length ∧ ∃ v2, σ = [some (V.ref p), some (V.ref l), v2])) ⟨s2, tr, l0, [], rss.length, hl0, s12 _ _ tl0, by rw [Nat.sub_zero, List.take_of_length_le (Nat.le_refl _)]; exact P.sg, ⟨by simp, List.Pairwise.nil⟩, Nat.le_refl _, _, rfl⟩ (fun i σ H' _ h => SqL.of h.2.1) ?_ ?_⟩
    · rintro i x σ H3 hx ⟨s3, tr3, l, os, f, hl, tl, hH, hS, hf, v2, rfl⟩
      obtain ⟨q, rfl, hq, _, hi⟩ := map_get hx
      rw [List.length_reverse] at hi
      rw [List.getElem?_reverse hi] at hq
      have hio : oss.length - 1 - i < oss.length := by omega
      have eo : oss[oss.length - 1 - i]? = some oss[oss.length - 1 - i] := by simp [hio]
      rw [hhl] at hq
      have tq := P.ls.2 _ q _ hq eo
      have et : oss.take (oss.length - i) = oss.take (oss.length - (i + 1)) ++ [oss[oss.length - 1 - i]] := by
        rw [show oss.length - i = (oss.length - 1 - i) + 1 by omega, show oss.length - (i + 1) = oss.length - 1 - i by omega, List.take_add_one, eo]; rfl
      rw [et] at hH
      obtain ⟨f0, h0, so, l0f⟩ := hH.last
      walk_at "fs_rd"
      refine ⟨p, t.c_Pour, dx, _, _, rfl, s3 _ _ ob, T.cl_Pour, T.n_Pour_came, pourF_came _ _ _, ?_⟩
      walk_at "fs_rd"
      refine ⟨c, q, l, cs, rss, _, os, f0, f, rss.length, rfl, .inl (s3 _ _ P.cm), (P.rw.same s3).toS, s3 _ _ tq, tl, so, hS, l0f, hf, Nat.le_refl _, hn, fun l' z H4 hl' s4 tl' hz => ?_⟩
      walk_at "fs_rd"
      exact ⟨s3.trans s4, s4 _ _ tr3, l', z, f0, s3.free hl', tl', h0, hz, by omega, _, rfl⟩
    · rintro σ H3 ⟨s3, tr3, l, os, f, hl, tl, hH, hS, hf, v2, rfl⟩
      rw [List.length_map, List.length_reverse, hhl, Nat.sub_self, List.take_zero] at hH
      have := hH.zero
      subst this
      walk_at "fs_rd"
      exact k l os H3 hl s3 tl (by have := hS.perm; rwa [Nat.sub_zero, ← List.range_eq_range'] at this) hS.sort
def spRowsP (C : Addr) : Sp := fun vs H Q _ => ∃ (p c h : Addr) (cs hs : List Addr) (rss oss : List (List Nat)) (m : Nat), vs = [.ref p] ∧ PoAt C H p c h cs hs rss oss m ∧ rss.length ≤ 200 ∧ oss.length ≤ 200 ∧ ∀ (l : Addr) (os : List Nat) H', H l = none → Same H H' → H' l = some (.lst ((os.map fun i => cs.getD i 0).map V.ref)) → os.Perm (List.range rss.length) → os.Pairwise (Rk rss 0) → Q (.ref l) H'
theorem ok_Pour_rows (T : Tx K mg t) : FnOk P w K mg t.bs CX0 4 t.f_Pour_rows t.d_Pour_rows ["self"] (spRowsP t.c_Pour) := by
  refine T.F_Pour_rows.okQ sc_Pour_rows (fun vs H Q E h => ?_) (fun cdv A outer s H vs Q E hr h => ?_)
  · obtain ⟨p, c, h, cs, hs, rss, oss, m, rfl, _⟩ := h
    rfl
  · obtain ⟨p, c, h, cs, hs, rss, oss, m, rfl, P, hn, hon, k⟩ := h
    obtain ⟨dx, ob⟩ := P.ob
    have hcl : cs.length = rss.length := P.rw.1
    refine ⟨_, (qb_one (qs_ret (qe_comp (N := ["place", "self"]) (tgs := ["place"]) (frs := ["self"]) (ix := [0]) ⟨rfl, by decide +kernel, rfl, by decide +kernel, rfl, rfl, ⟨⟨rfl, rfl, _, rfl, rfl⟩, True.intro⟩, ⟨rfl, True.intro⟩, rfl⟩ rfl (qi_list (K := K) (qe_meth0 (qv 0) T.cl_Pour T.M_Pour_order (ok_Pour_order T) (hr.mono (by decide)) T.b_Pour_order pass0 )) (fun _ _ _ _ => (qg_name (i := 0) (by show List.Nodup (["place", "self"] : List Str); decide +kernel) rfl (Or.inl rfl))) (fun _ _ _ _ => (qe_ix (q_ixL (K := K)) (qe_fld (K := K) (qv 1)) (qv 0)))))), ?_⟩
    rw [show L2.start ["self"] [V.ref p] = [some (V.ref p)] from rfl]
    walk_at "fs_rd"
    refine ⟨p, dx, _, rfl, ob, pourF_no _ _ _ (by decide +kernel) (by decide +kernel) (by decide +kernel), ?_⟩
    refine ⟨p, c, h, cs, hs, rss, oss, m, rfl, P, hn, hon, fun l os H1 hl s1 tl hp hs' => ?_⟩
    have hol : os.length = rss.length := by have := hp.length_eq; rwa [List.length_range] at this
    walk_at "fs_rd"
    refine ⟨l, rfl, ⟨_, SqL.of tl⟩, comp_lst (a := l) (vs := NV os) (fun i ys σ H' => H' = H1 ∧ i ≤ os.length ∧ ys = ((os.map fun i => cs.getD i 0).take i).map V.ref ∧ ∃ v, σ = [v, some (V.ref p)]) (by rw [NV_len]; exact small1000 (by omega)) (fun i ys σ H' h => by rw [h.2.2.1, List.length_map, List.length_take, List.length_map]; omega) (fun i ys σ H' h => by rw [h.1]; exact SqL.of tl) ⟨rfl, Nat.zero_le _, rfl, none, rfl⟩ ?_ ?_⟩
    · rintro i ys σ H' x hx ⟨rfl, _, rfl, v, rfl⟩
      have hil := get_lt hx
      obtain ⟨o, rfl, ho, hom, hi⟩ := map_get hx
      have hoc : o < cs.length := by rw [hcl]; exact List.mem_range.mp (hp.mem_iff.mp hom)
      walk_at "fs_rd"
      refine ⟨p, t.c_Pour, dx, _, _, rfl, s1 _ _ ob, T.cl_Pour, T.n_Pour_came, pourF_came _ _ _, ?_⟩
      walk_at "fs_rd"
      refine in_ix (SqL.of (s1 _ _ P.cm)) (v := V.ref (cs.getD o 0)) (atI_nat (by rw [List.getElem?_map, List.getD_eq_getElem?_getD, List.getElem?_eq_getElem hoc]; rfl)) ?_
      refine Nx.mk hil ⟨rfl, hi, ?_, _, rfl⟩
      rw [List.take_add_one, List.getElem?_map, ho, List.map_append]; rfl
    · rintro ys σ H' ⟨rfl, _, rfl, v, rfl⟩ l2 hl2
      rw [List.take_of_length_le (by rw [List.length_map, NV_len]; exact Nat.le_refl _)]
      exact k l2 os _ (s1.free hl2) (s1.new hl2) upd_same hp hs'

theorem cut_takeT (os : List Nat) (w : Nat) (h : w ≤ os.length) : cutV (NV os) none (some (w : Int)) = NV (os.take w) := cut_takeN os w h
def spRows39 : Sp := fun vs H Q _ => ∃ (p : Addr) (n b : Nat), vs = [.ref p, .int n, .int b] ∧ Tp2 H p ∧ n ≤ 200 ∧ 2 ≤ b ∧ b ≤ 64 ∧ ∀ (l : Addr) (ps : List Addr) (rss : List (List Nat)) (w : Nat) H', H l = none → H' l = some (.lst (ps.map V.ref)) → RowsT H' ps rss → rss.length = n → Good rss w b → w ≤ 120 → l ≠ p → St2 p H H' → Q (.ref l) H'
theorem ok_rows (T : Tx K mg t) : FnOk P w K mg t.bs CX0 2 t.f_rows t.d_rows ["_law_tape_here", "_law_many", "_law_base"] spRows39 := by
  refine T.F_rows.okQ sc_rows (fun vs H Q E h => ?_) (fun cdv A outer s H vs Q E hr h => ?_)
  · obtain ⟨p, n, b, rfl, _⟩ := h
    rfl
  · obtain ⟨p, n, b, rfl, hT, hn, hb, hb2, k⟩ := h
    refine ⟨_, (qb_cons (qs_set (i := 3) sc_rows.nd rfl (Or.inl rfl) (qe_call (ok_draw T) (hr.mono (by decide)) rfl T.m_draw T.F_draw.kp T.b_draw pass0 (qa_c (qv 0) (qa_c qe_int qa_nil))))
      (qb_cons (qs_if (qt_cmpR q_eq (qe_call (ok_draw T) (hr.mono (by decide)) rfl T.m_draw T.F_draw.kp T.b_draw pass0 (qa_c (qv 0) (qa_c qe_int qa_nil))) qe_int (nomark _)) (qb_one (qs_set (i := 3) sc_rows.nd rfl (Or.inl rfl) (qe_ix (q_ixL (K := K)) (qe_lst (qa_c qe_int (qa_c qe_int (qa_c qe_int (qa_c qe_int (qa_c qe_int qa_nil)))))) (qe_call (ok_draw T) (hr.mono (by decide)) rfl T.m_draw T.F_draw.kp T.b_draw pass0 (qa_c (qv 0) (qa_c qe_int qa_nil)))))) qb_nil)
      (qb_cons (qs_set (i := 4) sc_rows.nd rfl (Or.inr rfl) (qe_ix (q_ixL (K := K)) (qe_lst (qa_c (qv 2) (qa_c qe_int qa_nil))) (qe_call (ok_draw T) (hr.mono (by decide)) rfl T.m_draw T.F_draw.kp T.b_draw pass0 (qa_c (qv 0) (qa_c qe_int qa_nil)))))
      (qb_cons (qs_set (i := 5) sc_rows.nd rfl (Or.inl rfl) (qe_lst qa_nil))
      (qb_cons (qs_for PassesOwn.never rfl (qi_range1 rfl T.z_range (qa_c (qv 1) qa_nil)) (qg_name (i := 6) sc_rows.nd rfl (Or.inl rfl)) (qb_cons (qs_set (i := 7) sc_rows.nd rfl (Or.inl rfl) (qe_callTy (qc_tuple (K := K)) (by rfl) T.z_tuple bt_tuple (qa_c (qe_comp (N := ["_law_column", "_law_tape_here", "_law_top"]) (tgs := ["_law_column"]) (frs := ["_law_tape_here", "_law_top"]) (ix := [0, 4]) ⟨rfl, by decide +kernel, rfl, by decide +kernel, rfl, rfl, ⟨⟨rfl, rfl, _, rfl, rfl⟩, ⟨rfl, rfl, _, rfl, rfl⟩, True.intro⟩, ⟨rfl, rfl, True.intro⟩, rfl⟩ rfl (qi_range1 rfl T.z_range (qa_c (qv 3) qa_nil)) (fun _ _ _ _ => (qg_name (i := 0) (by show List.Nodup (["_law_column", "_law_tape_here", "_law_top"] : List Str); decide +kernel) rfl (Or.inl rfl))) (fun _ _ _ _ => (qe_call (ok_draw T) (hr.mono (by decide)) rfl T.m_draw T.F_draw.kp T.b_draw pass0 (qa_c (qv 1) (qa_c (qv 2) qa_nil))))) qa_nil)))
      (qb_cons (qs_set (i := 8) sc_rows.nd rfl (Or.inl rfl) (qe_call (ok_draw T) (hr.mono (by decide)) rfl T.m_draw T.F_draw.kp T.b_draw pass0 (qa_c (qv 0) (qa_c qe_int qa_nil))))
      (qb_cons (qs_if (QW.qt (qw_and (qt_cmpR (q_neNil (K := K) hr.units0) (qv 5) (qe_lst qa_nil) (nomark _)) (qw_and1 (qt_cmpR q_gt (qv 8) qe_int (nomark _))))) (qb_cons (qs_set (i := 9) sc_rows.nd rfl (Or.inl rfl) (qe_ix (q_ixL (K := K)) (qv 5) (qe_call (ok_draw T) (hr.mono (by decide)) rfl T.m_draw T.F_draw.kp T.b_draw pass0 (qa_c (qv 0) (qa_c (qe_callB (qc_len (K := K)) (by rfl) T.z_len bt_len (qa_c (qv 5) qa_nil)) qa_nil)))))
      (qb_cons (qs_set (i := 10) sc_rows.nd rfl (Or.inl rfl) (qe_call (ok_draw T) (hr.mono (by decide)) rfl T.m_draw T.F_draw.kp T.b_draw pass0 (qa_c (qv 0) (qa_c (qe_op q_add (qv 3) qe_int) qa_nil))))
      (qb_one (qs_set (i := 7) sc_rows.nd rfl (Or.inl rfl) (qe_ix (q_ixL (K := K)) (qe_lst (qa_c (qv 9) (qa_c (qe_op q_catTA (qe_slice q_slTA (qv 9) qo_none (qo_some (qv 10))) (qe_slice q_slTA (qv 7) (qo_some (qv 10)) qo_none)) qa_nil))) (qe_op q_sub (qv 8) qe_int)))))) qb_nil)
      (qb_one (qs_expr (qe_append (K := K) (qv 5) (qa_c (qv 7) qa_nil))))))))
      (qb_one (qs_ret (qv 5)))))))), ?_⟩
    rw [show L2.start ["_law_tape_here", "_law_many", "_law_base", "_law_columns", "_law_top", "_law_found", "_law_k", "_law_row", "_law_way", "_law_other", "_law_at"] [V.ref p, V.int n, V.int b] = [some (V.ref p), some (V.int n), some (V.int b), none, none, none, none, none, none, none, none] from rfl]
    walk_at "fs_rd"
    apply via2 (α := Nat) (S := fun w H1 => w ≤ 120 ∧ St2 p H H1)
    case hA =>
      intro key
      refine ⟨p, 7, rfl, hT, by decide, by decide, fun w0 H1 a1 S1 => ?_⟩
      walk_at "fs_rd"
      refine ⟨p, 8, rfl, S1.tape, by decide, by decide, fun r1 H2 b1 S2 => ?_⟩
      have S12 := S1.trans S2
      walk_at "fs_rd"
      refine in_split (fun h0 => ?_) (fun h0 => ?_)
      rotate_left
      · walk_at "fs_rd"
        exact key w0 H2 ⟨by omega, S12⟩
      walk_at "fs_rd"
      refine ⟨three (by simp), fun q hq => ?_⟩
      walk_at "fs_rd"
      refine ⟨p, 5, rfl, (S12.new hq).tape, by decide, by decide, fun r2 H3 c1 S3 => ?_⟩
      obtain ⟨u, e, hu⟩ := atI_mem (xs := [V.int 20, V.int 20, V.int 20, V.int 20, V.int 120]) (r := (r2 : Int)) (by omega) (by simpa using c1)
      refine in_ix (SqL.of (S3.keep q _ upd_same (S12.tape.ne hq))) e ?_
      have hu' : ∃ x : Nat, u = V.int x ∧ x ≤ 120 := by
        simp only [List.mem_cons, List.not_mem_nil, or_false] at hu
        rcases hu with rfl | rfl | rfl | rfl | rfl
        · exact ⟨20, rfl, by omega⟩
        · exact ⟨20, rfl, by omega⟩
        · exact ⟨20, rfl, by omega⟩
        · exact ⟨20, rfl, by omega⟩
        · exact ⟨120, rfl, by omega⟩
      obtain ⟨x, rfl, hx⟩ := hu'
      walk_at "fs_rd"
      exact key x H3 ⟨hx, (S12.new hq).trans S3⟩
    case hB =>
    rintro w H1 ⟨hw, S1⟩
    walk_at "fs_rd"
    refine ⟨three (by simp), fun q hq => ?_⟩
    walk_at "fs_rd"
    refine ⟨p, 2, rfl, (S1.new hq).tape, by decide, by decide, fun r2 H2 c1 S2 => ?_⟩
    obtain ⟨u, e, hu⟩ := atI_mem (xs := [V.int (b : Nat), V.int 2]) (r := (r2 : Int)) (by omega) (by simpa using c1)
    refine in_ix (SqL.of (S2.keep q _ upd_same (S1.tape.ne hq))) e ?_
    have hu' : ∃ x : Nat, u = V.int x ∧ 0 < x ∧ x ≤ b := by
      simp only [List.mem_cons, List.not_mem_nil, or_false] at hu
      rcases hu with rfl | rfl
      · exact ⟨b, rfl, by omega, Nat.le_refl _⟩
      · exact ⟨2, rfl, by omega, hb⟩
    obtain ⟨tp, rfl, htp, htp2⟩ := hu'
    clear hu e
    have S02 := (S1.new (o := .lst [V.int (b : Nat), V.int 2]) hq).trans S2
    walk_at "fs_rd"
    refine ⟨three (by simp), fun l hl => ?_⟩
    have n0 := S02.tape.ne hl
    have hl0 : H l = none := S02.free hl
    have S03 := S02.new (o := .lst []) hl
    have tl3 : (upd H2 l (.lst [])) l = some (.lst (([] : List Addr).map V.ref)) := upd_same
    generalize upd H2 l (.lst []) = H3 at S03 tl3
    clear S02 S1 S2
    walk_at "fs_rd"
    refine ⟨n, rfl, by omega, by omega, for_range (n := n) (fun i σ H' => St2 p H H' ∧ (∃ (ps : List Addr) (rss : List (List Nat)), H' l = some (.lst (ps.map V.ref)) ∧ RowsT H' ps rss ∧ Good rss w b ∧ ps.length = i) ∧ ∃ v6 v7 v8 v9 v10, σ = [some (V.ref p), some (V.int n), some (V.int b), some (V.int w), some (V.int tp), some (V.ref l), v6, v7, v8, v9, v10]) ⟨S03, ⟨[], [], tl3, ⟨rfl, fun i p r h => by simp at h⟩, (fun r h => nomatch h), rfl⟩, _, _, _, _, _, rfl⟩ ?_ ?_⟩
    · rintro i σ H4 hi ⟨S4, ⟨ps, rss, tl4, hR, hG, hpl⟩, v6, v7, v8, v9, v10, rfl⟩
      have hrl : ps.length = rss.length := hR.1
      walk_at "fs_rd"
      refine ⟨w, rfl, by omega, by omega, comp_rng (n := w) (fun i ys σ H5 => St2 p H4 H5 ∧ (∃ cs : List Nat, ys = NV cs ∧ cs.length = i ∧ ∀ x ∈ cs, x < b) ∧ ∃ v, σ = [v, some (V.ref p), some (V.int tp)]) (small1000 (by omega)) (fun i ys σ H5 h => by obtain ⟨_, ⟨cs, rfl, e, _⟩, _⟩ := h; rw [NV_len, e]) ⟨St2.refl S4.tape, ⟨[], rfl, rfl, fun x h => nomatch h⟩, none, rfl⟩ ?_ ?_⟩
      · rintro i' ys σ H5 hi' ⟨S5, ⟨cs, rfl, hcl, hcb⟩, v, rfl⟩
        walk_at "fs_rd"
        refine ⟨p, tp, rfl, S5.tape, by omega, by omega, fun r H6 c1 S6 => ?_⟩
        refine Nx.mk hi' ⟨S5.trans S6, ⟨cs ++ [r], NV_snoc _ _, by simp [hcl], fun y hy => ?_⟩, _, rfl⟩
        rcases List.mem_append.mp hy with h | h
        · exact hcb y h
        · rw [List.mem_singleton.mp h]; omega
      rintro ys σ H5 ⟨S5, ⟨cs, rfl, hcl, hcb⟩, v, rfl⟩ g1 hg1
      have S6 := S5.new (o := .lst (NV cs)) hg1
      have tg1 : (upd H5 g1 (.lst (NV cs))) g1 = some (.lst (NV cs)) := upd_same
      generalize upd H5 g1 (.lst (NV cs)) = H6 at S6 tg1
      walk_at "fs_rd"
      refine in_tupleL (SqL.of tg1) fun g hg => ?_
      have S7 := S6.new (o := .tup (NV cs)) hg
      have tg7 : (upd H6 g (.tup (NV cs))) g = some (.tup (NV cs)) := upd_same
      generalize upd H6 g (.tup (NV cs)) = H7 at S7 tg7
      walk_at "fs_rd"
      refine ⟨p, 4, rfl, S7.tape, by decide, by decide, fun way H8 d1 S8 => ?_⟩
      have gp : g ≠ p := tp_ne S7.tape tg7
      have S48 := S7.trans S8
      have S08 := S4.trans S48
      have tg8 := S8.keep _ _ tg7 gp
      have tl8 := S48.keep _ _ tl4 n0
      have R8 := hR.st2 S4.tape S48
      clear S5 S6 S7 S8 S48
      walk_at "fs_rd"
      refine ⟨three (by simp), fun em hem => ?_⟩
      have S9 := S08.new (o := .lst []) hem
      have s9 := (Same.refl H8).new (o := .lst []) hem
      have tem : (upd H8 em (.lst [])) em = some (.lst []) := upd_same
      generalize upd H8 em (.lst []) = H9 at S9 s9 tem
      have tl9 := s9 _ _ tl8
      have tg9 := s9 _ _ tg8
      have R9 := R8.same s9
      walk_at "fs_rd"
      refine ⟨l, em, ps.map V.ref, rfl, rfl, SqL.of tl9, SqL.of tem, ?_⟩
      walk_at "fs_rd"
      by_cases hne : ps.map V.ref = []
      · rw [decide_eq_true hne]
        walk_at "fs_rd"
        refine ⟨ty_list tl9, ?_⟩
        walk_at "fs_rd"
        refine in_append tl9 (by rw [List.length_map, hpl]; exact small1000 (by omega)) ?_
        exact ⟨(S9).own hl0 n0, ⟨ps ++ [g], rss ++ [cs], by rw [upd_same, List.map_append]; rfl, (RowsT.snoc R9 tg9).own tl9, hG.snoc hcl hcb, by simp [hpl]⟩, _, _, _, _, _, rfl⟩
      rw [decide_eq_false hne]
      have hp0 : 0 < ps.length := by
        rcases Nat.eq_zero_or_pos ps.length with z | z
        · exact absurd (by rw [List.length_eq_zero_iff.mp z]; rfl) hne
        · exact z
      walk_at "fs_rd"
      refine in_split (fun hway => ?_) (fun hway => ?_)
      rotate_left
      · skip
        walk_at "fs_rd"
        refine ⟨ty_list tl9, ?_⟩
        walk_at "fs_rd"
        refine in_append tl9 (by rw [List.length_map, hpl]; exact small1000 (by omega)) ?_
        exact ⟨(S9).own hl0 n0, ⟨ps ++ [g], rss ++ [cs], by rw [upd_same, List.map_append]; rfl, (RowsT.snoc R9 tg9).own tl9, hG.snoc hcl hcb, by simp [hpl]⟩, _, _, _, _, _, rfl⟩
      walk_at "fs_rd"
      refine in_lenL (SqL.of tl9) ?_
      rw [List.length_map]
      walk_at "fs_rd"
      refine ⟨p, _, rfl, S9.tape, by omega, by omega, fun j HA e1 SA => ?_⟩
      have hj : j < ps.length := by omega
      have S0A := S9.trans SA
      have tlA := SA.keep _ _ tl9 n0
      have RA := R9.st2 S9.tape SA
      have tgA := SA.keep _ _ tg9 gp
      obtain ⟨q, hq⟩ : ∃ q, ps[j]? = some q := ⟨ps[j], by simp [hj]⟩
      have hjr : j < rss.length := by omega
      have er : rss[j]? = some rss[j] := by simp [hjr]
      have hrm := hG _ (List.getElem_mem hjr)
      generalize rss[j] = row at er hrm
      have tqA := RA.2 j q row hq er
      have qp : q ≠ p := tp_ne S0A.tape tqA
      refine in_ix (SqL.of tlA) (v := V.ref q) (atI_nat (by rw [List.getElem?_map, hq]; rfl)) ?_
      walk_at "fs_rd"
      refine ⟨p, _, rfl, S0A.tape, by omega, by omega, fun at0 HB f1 SB => ?_⟩
      have hat : at0 ≤ w := by omega
      have S0B := S0A.trans SB
      have tlB := SB.keep _ _ tlA n0
      have RB := RA.st2 S0A.tape SB
      have tgB := SB.keep _ _ tgA gp
      have tqB := SB.keep _ _ tqA qp
      walk_at "fs_rd"
      refine ⟨_, rfl, ?_⟩
      refine in_slT0 tqB fun x1 HC sC tx1 => ?_
      rw [cut_takeN _ _ (by omega)] at tx1
      walk_at "fs_rd"
      refine ⟨_, rfl, ?_⟩
      walk_at "fs_rd"
      refine in_slT0 (sC _ _ tgB) fun x2 HD sD tx2 => ?_
      rw [cut_dropN _ _ (by omega)] at tx2
      walk_at "fs_rd"
      refine ⟨x1, x2, _, _, rfl, rfl, sD _ _ tx1, tx2, Nat.le_of_lt (Nat.lt_of_le_of_lt (by rw [NV_len, NV_len, List.length_take, List.length_drop]; omega) (by decide : 240 < sizeLine)), fun x3 HE sE tx3 => ?_⟩
      rw [NV_app] at tx3
      walk_at "fs_rd"
      refine ⟨three (by simp), fun z hz => ?_⟩
      have sF := (Same.refl HE).new (o := .lst [V.ref q, V.ref x3]) hz
      have tz : (upd HE z (.lst [V.ref q, V.ref x3])) z = some (.lst [V.ref q, V.ref x3]) := upd_same
      generalize upd HE z (.lst [V.ref q, V.ref x3]) = HF at sF tz
      have sBF := ((sC.trans sD).trans sE).trans sF
      have S0F : St2 p H HF := ⟨fun c u e1 e2 => sBF _ _ (S0B.keep c u e1 e2), S0B.tape.same sBF⟩
      have tlF := sBF _ _ tlB
      have RF := RB.same sBF
      walk_at "fs_rd"
      obtain ⟨u, e, hu⟩ := atI_mem (xs := [V.ref q, V.ref x3]) (r := (way : Int) - 2) (by omega) (by simp only [List.length_cons, List.length_nil]; omega)
      refine in_ix (SqL.of tz) e ?_
      have hu' : ∃ (y : Addr) (r : List Nat), u = V.ref y ∧ HF y = some (.tup (NV r)) ∧ r.length = w ∧ ∀ x ∈ r, x < b := by
        simp only [List.mem_cons, List.not_mem_nil, or_false] at hu
        rcases hu with rfl | rfl
        · exact ⟨q, row, rfl, sBF _ _ tqB, hrm.1, hrm.2⟩
        · refine ⟨x3, _, rfl, sF _ _ tx3, by rw [List.length_append, List.length_take, List.length_drop]; omega, fun x hx => ?_⟩
          rcases List.mem_append.mp hx with h | h
          · exact hrm.2 x (List.mem_of_mem_take h)
          · exact hcb x (List.mem_of_mem_drop h)
      obtain ⟨y, r, rfl, ty, hyl, hyb⟩ := hu'
      walk_at "fs_rd"
      refine ⟨ty_list tlF, ?_⟩
      walk_at "fs_rd"
      refine in_append tlF (by rw [List.length_map, hpl]; exact small1000 (by omega)) ?_
      exact ⟨(S0F).own hl0 n0, ⟨ps ++ [y], rss ++ [r], by rw [upd_same, List.map_append]; rfl, (RowsT.snoc RF ty).own tlF, hG.snoc hyl hyb, by simp [hpl]⟩, _, _, _, _, _, rfl⟩
    · rintro σ H4 ⟨S4, ⟨ps, rss, tl4, hR, hG, hpl⟩, v6, v7, v8, v9, v10, rfl⟩
      walk_at "fs_rd"
      exact k l ps rss w H4 hl0 tl4 hR (by rw [← hR.1]; exact hpl) hG hw n0 S4
def spLens39 : Sp := fun vs H Q _ => ∃ (p : Addr) (kk : Int), vs = [.ref p, .int kk] ∧ Tp2 H p ∧ ∀ (l : Addr) (ns : List Nat) H', H l = none → H' l = some (.lst (NV ns)) → ns.sum ≤ 200 → ns.length ≤ 12 → l ≠ p → St2 p H H' → Q (.ref l) H'
theorem sum_le {ns : List Nat} {m : Nat} (h : ∀ x ∈ ns, x ≤ m) : ns.sum ≤ m * ns.length := by
  induction ns with
  | nil => simp
  | cons x ns ih =>
    have h1 := h x (List.mem_cons_self ..)
    have h2 := ih fun y hy => h y (List.mem_cons_of_mem _ hy)
    rw [List.sum_cons, List.length_cons, Nat.mul_succ]; omega
theorem ok_pours (T : Tx K mg t) : FnOk P w K mg t.bs CX0 2 t.f_pours t.d_pours ["_law_tape_here", "_law_k"] spLens39 := by
  refine T.F_pours.okQ sc_pours (fun vs H Q E h => ?_) (fun cdv A outer s H vs Q E hr h => ?_)
  · obtain ⟨p, kk, rfl, _⟩ := h
    rfl
  · obtain ⟨p, kk, rfl, hT, k⟩ := h
    refine ⟨_, (qb_cons (qs_set (i := 2) sc_pours.nd rfl (Or.inl rfl) (qe_lst qa_nil))
      (qb_cons (qs_for PassesOwn.never rfl (qi_range1 rfl T.z_range (qa_c (qe_ix (q_ixL (K := K)) (qe_lst (qa_c (qe_call (ok_draw T) (hr.mono (by decide)) rfl T.m_draw T.F_draw.kp T.b_draw pass0 (qa_c (qv 0) (qa_c qe_int qa_nil))) (qa_c (qe_op q_add qe_int (qe_call (ok_draw T) (hr.mono (by decide)) rfl T.m_draw T.F_draw.kp T.b_draw pass0 (qa_c (qv 0) (qa_c qe_int qa_nil)))) qa_nil))) (qe_callTy qc_int (by rfl) T.z_int bt_int (qa_c (qe_cmpR q_eq (qe_call (ok_draw T) (hr.mono (by decide)) rfl T.m_draw T.F_draw.kp T.b_draw pass0 (qa_c (qv 0) (qa_c qe_int qa_nil))) qe_int (nomark _)) qa_nil))) qa_nil)) (qg_name (i := 3) sc_pours.nd rfl (Or.inl rfl)) (qb_one (qs_expr (qe_append (K := K) (qv 2) (qa_c (qe_ix (q_ixL (K := K)) (qe_lst (qa_c (qe_op q_add qe_int (qe_call (ok_draw T) (hr.mono (by decide)) rfl T.m_draw T.F_draw.kp T.b_draw pass0 (qa_c (qv 0) (qa_c qe_int qa_nil)))) (qa_c (qe_op q_add qe_int (qe_call (ok_draw T) (hr.mono (by decide)) rfl T.m_draw T.F_draw.kp T.b_draw pass0 (qa_c (qv 0) (qa_c qe_int qa_nil)))) qa_nil))) (qe_callTy qc_int (by rfl) T.z_int bt_int (qa_c (qe_cmpR q_eq (qe_call (ok_draw T) (hr.mono (by decide)) rfl T.m_draw T.F_draw.kp T.b_draw pass0 (qa_c (qv 0) (qa_c qe_int qa_nil))) qe_int (nomark _)) qa_nil))) qa_nil)))))
      (qb_cons (qs_if (QW.qt (qw_and (qt_cmpR q_eq (qv 1) qe_int (nomark _)) (qw_and1 (qt_cmpR q_eq (qe_call (ok_draw T) (hr.mono (by decide)) rfl T.m_draw T.F_draw.kp T.b_draw pass0 (qa_c (qv 0) (qa_c qe_int qa_nil))) qe_int (nomark _))))) (qb_one (qs_set (i := 2) sc_pours.nd rfl (Or.inl rfl) (qe_lst (qa_c qe_int (qa_c qe_int (qa_c qe_int qa_nil)))))) qb_nil)
      (qb_one (qs_ret (qv 2)))))), ?_⟩
    rw [show L2.start ["_law_tape_here", "_law_k", "_law_found", "_law_turn"] [V.ref p, V.int kk] = [some (V.ref p), some (V.int kk), none, none] from rfl]
    walk_at "fs_rd"
    refine ⟨three (by simp), fun l hl => ?_⟩
    have n0 := hT.ne hl
    have S1 := (St2.refl hT).new (o := .lst []) hl
    have tl1 : (upd H l (.lst [])) l = some (.lst (NV [])) := upd_same
    generalize upd H l (.lst []) = H1 at S1 tl1
    walk_at "fs_rd"
    refine ⟨p, 7, rfl, S1.tape, by decide, by decide, fun r1 H2 b1 S2 => ?_⟩
    walk_at "fs_rd"
    refine ⟨p, 6, rfl, S2.tape, by decide, by decide, fun r2 H3 b2 S3 => ?_⟩
    walk_at "fs_rd"
    have S13 := (S1.trans S2).trans S3
    have tl3 := S3.keep _ _ (S2.keep _ _ tl1 n0) n0
    refine ⟨three (by simp), fun q hq => ?_⟩
    walk_at "fs_rd"
    refine ⟨p, 8, rfl, (S13.new hq).tape, by decide, by decide, fun r3 H4 b3 S4 => ?_⟩
    have tl4 := S4.keep _ _ (by rw [upd_ne (ne_of_none tl3 hq)]; exact tl3 : (upd H3 q (.lst [V.int (r1 : Nat), V.int (7 + (r2 : Nat))])) l = _) n0
    walk_at "fs_rd"
    obtain ⟨u, e, hu⟩ := atI_mem (xs := [V.int (r1 : Nat), V.int (7 + (r2 : Int))]) (r := if decide (V.int (r3 : Nat) = V.int 0) = true then 1 else 0) (by split <;> omega) (by simp only [List.length_cons, List.length_nil]; split <;> omega)
    refine in_ix (SqL.of (S4.keep q _ upd_same (S13.tape.ne hq))) e ?_
    have hu' : ∃ x : Nat, u = V.int x ∧ x ≤ 12 := by
      simp only [List.mem_cons, List.not_mem_nil, or_false] at hu
      rcases hu with rfl | rfl
      · exact ⟨r1, rfl, by omega⟩
      · exact ⟨7 + r2, by congr 1, by omega⟩
    obtain ⟨n, rfl, hn⟩ := hu'
    have S04 := (S13.new (o := .lst [V.int (r1 : Nat), V.int (7 + (r2 : Nat))]) hq).trans S4
    clear S1 S2 S3 S13 e hu
    walk_at "fs_rd"
    refine ⟨n, rfl, by omega, by omega, for_range (n := n) (fun i σ H' => St2 p H H' ∧ (∃ ns : List Nat, H' l = some (.lst (NV ns)) ∧ ns.length = i ∧ ∀ x ∈ ns, x ≤ 12) ∧ ∃ v3, σ = [some (V.ref p), some (V.int kk), some (V.ref l), v3]) ⟨S04, ⟨[], tl4, rfl, fun x h => nomatch h⟩, _, rfl⟩ ?_ ?_⟩
    · rintro i σ H5 hi ⟨S5, ⟨ns, tl5, hnl, hnb⟩, v3, rfl⟩
      walk_at "fs_rd"
      refine ⟨ty_list tl5, ?_⟩
      walk_at "fs_rd"
      refine ⟨p, 5, rfl, S5.tape, by decide, by decide, fun a1 H6 c1 S6 => ?_⟩
      walk_at "fs_rd"
      refine ⟨p, 6, rfl, S6.tape, by decide, by decide, fun a2 H7 c2 S7 => ?_⟩
      walk_at "fs_rd"
      have S57 := S6.trans S7
      have tl7 := S57.keep _ _ tl5 n0
      refine ⟨three (by simp), fun q hq => ?_⟩
      have S8 := (S5.trans S57).new (o := .lst [V.int (1 + (a1 : Int)), V.int (7 + (a2 : Int))]) hq
      have tl8 : (upd H7 q (.lst [V.int (1 + (a1 : Int)), V.int (7 + (a2 : Int))])) l = some (.lst (NV ns)) := by rw [upd_ne (ne_of_none tl7 hq)]; exact tl7
      have tq8 : (upd H7 q (.lst [V.int (1 + (a1 : Int)), V.int (7 + (a2 : Int))])) q = some (.lst [V.int (1 + (a1 : Int)), V.int (7 + (a2 : Int))]) := upd_same
      have qp := S57.tape.ne hq
      generalize upd H7 q (.lst [V.int (1 + (a1 : Int)), V.int (7 + (a2 : Int))]) = H8 at S8 tl8 tq8
      walk_at "fs_rd"
      refine ⟨p, 8, rfl, S8.tape, by decide, by decide, fun a3 H9 c3 S9 => ?_⟩
      have tl9 := S9.keep _ _ tl8 n0
      walk_at "fs_rd"
      obtain ⟨u, e, hu⟩ := atI_mem (xs := [V.int (1 + (a1 : Int)), V.int (7 + (a2 : Int))]) (r := if decide (V.int (a3 : Nat) = V.int 0) = true then 1 else 0) (by split <;> omega) (by simp only [List.length_cons, List.length_nil]; split <;> omega)
      refine in_ix (SqL.of (S9.keep q _ tq8 qp)) e ?_
      have hu' : ∃ x : Nat, u = V.int x ∧ x ≤ 12 := by
        simp only [List.mem_cons, List.not_mem_nil, or_false] at hu
        rcases hu with rfl | rfl
        · exact ⟨1 + a1, by congr 1, by omega⟩
        · exact ⟨7 + a2, by congr 1, by omega⟩
      obtain ⟨x, rfl, hx⟩ := hu'
      walk_at "fs_rd"
      refine in_append tl9 (by rw [NV_len]; exact small1000 (by omega)) ?_
      refine ⟨(S8.trans S9).own hl n0, ⟨ns ++ [x], by rw [upd_same, NV_snoc], by simp [hnl], fun y hy => ?_⟩, _, rfl⟩
      rcases List.mem_append.mp hy with h | h
      · exact hnb y h
      · rw [List.mem_singleton.mp h]; exact hx
    · rintro σ H5 ⟨S5, ⟨ns, tl5, hnl, hnb⟩, v3, rfl⟩
      have hsum : ns.sum ≤ 200 := by have := sum_le hnb; omega
      walk_at "fs_rd"
      refine in_split (fun h0 => ?_) (fun h0 => ?_)
      rotate_left
      · walk_at "fs_rd"
        exact k l ns H5 hl tl5 hsum (by omega) n0 S5
      walk_at "fs_rd"
      refine ⟨p, 16, rfl, S5.tape, by decide, by decide, fun a3 H6 c3 S6 => ?_⟩
      have S06 := S5.trans S6
      walk_at "fs_rd"
      refine in_split (fun h1 => ?_) (fun h1 => ?_)
      rotate_left
      · walk_at "fs_rd"
        exact k l ns H6 hl (S6.keep _ _ tl5 n0) hsum (by omega) n0 S06
      walk_at "fs_rd"
      refine ⟨three (by simp), fun l2 hl2 => ?_⟩
      walk_at "fs_rd"
      exact k l2 [120, 30, 50] _ (S06.free hl2) upd_same (by simp) (by simp) (S06.tape.ne hl2) (S06.new hl2)

def rowD (r : List Nat) : List PyData := r.map fun x : Nat => PyData.int x
theorem dat_nat {H : Hp} (n : Nat) {x : Nat} (h : x < 1000) : DatAt n H (.int (x : Nat)) (.int (x : Nat)) := by
  have : ((x : Nat) : Int).natAbs < 10 ^ 12 := by rw [Int.natAbs_natCast]; omega
  cases n with
  | zero => exact ⟨_, rfl, rfl, this⟩
  | succ n => exact .inl ⟨_, rfl, rfl, this⟩
theorem rowD_at {H : Hp} {r : List Nat} (n : Nat) (h : ∀ x ∈ r, x < 1000) : ∀ (i : Nat) u e, (NV r)[i]? = some u → (rowD r)[i]? = some e → DatAt n H u e := by
  intro i u e e1 e2
  obtain ⟨o, rfl, ho, hm, _⟩ := map_get e1
  unfold rowD at e2
  rw [List.getElem?_map, ho] at e2
  cases e2
  exact dat_nat n (h o hm)
theorem rowD_w : ∀ {r : List Nat}, (∀ x ∈ r, x < 1000) → PyData.weightAll (rowD r) ≤ 12 * r.length
  | [], _ => Nat.le_refl _
  | x :: r, h => by
    have h1 := rowD_w fun y hy => h y (List.mem_cons_of_mem _ hy)
    have hx := h x (List.mem_cons_self ..)
    show PyData.weightAll (PyData.int x :: rowD r) ≤ _
    rw [PyData.weightAll, List.length_cons]
    have h2 : (PyData.int (x : Nat)).weight ≤ 10 := by
      rw [PyData.weight]
      split
      · omega
      · rename_i g
        rw [Int.natAbs_natCast]
        have h0 : x ≠ 0 := fun z => g (by rw [z]; rfl)
        have := (Nat.log2_lt h0).mpr (show x < 2 ^ 10 by omega)
        omega
    omega
theorem nats_dat {H : Hp} {a : Addr} {ls : List Nat} (h : H a = some (.lst (NV ls))) (hx : ∀ x ∈ ls, x < 1000) (hl : ls.length ≤ 1000) : DatAt 3 H (.ref a) (.list (rowD ls)) ∧ (PyData.list (rowD ls)).weight ≤ 2 ^ 20 := by
  refine ⟨.inr (.inl ⟨a, _, _, rfl, rfl, h, by rw [NV_len]; unfold rowD; rw [List.length_map], rowD_at 2 hx⟩), ?_⟩
  have := rowD_w hx
  rw [PyData.weight]
  have h5 : (2 : Nat) ^ 20 = 1048576 := by decide
  omega
def rowsD (rss : List (List Nat)) : List PyData := rss.map fun r => PyData.tuple (rowD r)
theorem rowsD_w : ∀ {rss : List (List Nat)}, (∀ r ∈ rss, r.length ≤ 120 ∧ ∀ x ∈ r, x < 1000) → PyData.weightAll (rowsD rss) ≤ 1500 * rss.length
  | [], _ => Nat.le_refl _
  | r :: rss, h => by
    have h1 := rowsD_w fun y hy => h y (List.mem_cons_of_mem _ hy)
    obtain ⟨g1, g2⟩ := h r (List.mem_cons_self ..)
    have h2 := rowD_w g2
    show PyData.weightAll (PyData.tuple (rowD r) :: rowsD rss) ≤ _
    rw [PyData.weightAll, List.length_cons, PyData.weight]
    omega
theorem rowsD_at {H : Hp} {ps : List Addr} {rss : List (List Nat)} (h : RowsT H ps rss) (hr : ∀ r ∈ rss, ∀ x ∈ r, x < 1000) : (ps.map V.ref).length = (rowsD rss).length ∧ ∀ (i : Nat) u e, (ps.map V.ref)[i]? = some u → (rowsD rss)[i]? = some e → DatAt 2 H u e := by
  refine ⟨by unfold rowsD; rw [List.length_map, List.length_map, h.1], fun i u e e1 e2 => ?_⟩
  obtain ⟨q, rfl, hq, _, hi⟩ := map_get e1
  have hir : i < rss.length := by rw [← h.1]; exact hi
  have er : rss[i]? = some rss[i] := by simp [hir]
  unfold rowsD at e2
  rw [List.getElem?_map, er] at e2
  cases e2
  exact .inr (.inr ⟨q, _, _, rfl, rfl, h.2 i q _ hq er, by rw [NV_len]; unfold rowD; rw [List.length_map], rowD_at 1 (hr _ (List.getElem_mem hir))⟩)
def datS (b : Bool) (rss : List (List Nat)) : PyData := if b = true then .tuple (rowsD rss) else .list (rowsD rss)
theorem some_dat {H : Hp} {a : Addr} {b : Bool} {ps : List Addr} {rss : List (List Nat)} (ha : H a = some (if b = true then .tup (ps.map V.ref) else .lst (ps.map V.ref))) (h : RowsT H ps rss) (hr : ∀ r ∈ rss, r.length ≤ 120 ∧ ∀ x ∈ r, x < 1000) (hl : rss.length ≤ 200) : DatAt 3 H (.ref a) (datS b rss) ∧ (datS b rss).weight ≤ 2 ^ 20 := by
  obtain ⟨h1, h2⟩ := rowsD_at h fun r hr' => (hr r hr').2
  have hw := rowsD_w hr
  have h5 : (2 : Nat) ^ 20 = 1048576 := by decide
  unfold datS
  cases b with
  | true => exact ⟨.inr (.inr ⟨a, _, _, rfl, rfl, ha, h1, h2⟩), by simp only [if_true]; rw [PyData.weight]; omega⟩
  | false => exact ⟨.inr (.inl ⟨a, _, _, rfl, rfl, ha, h1, h2⟩), by simp only [Bool.false_eq_true, if_false]; rw [PyData.weight]; omega⟩
theorem in_neS {x y : Str} {H : Hp} {Q : VK} (h : Q (.bl (!decide (V.str x = V.str y))) H) : rNe (.str x) (.str y) H Q := ⟨rfl, h⟩
theorem cut_takeV (xs : List V) (w : Nat) (h : w ≤ xs.length) : cutV xs none (some (w : Int)) = xs.take w := by
  unfold cutV
  rw [HT.sIx_nat, HT.sIx_none, Nat.min_eq_left h, List.drop_zero, Nat.sub_zero]
theorem cut_dropV (xs : List V) (w : Nat) (h : w ≤ xs.length) : cutV xs (some (w : Int)) none = xs.drop w := by
  unfold cutV
  rw [HT.sIx_nat, HT.sIx_none, Nat.min_eq_left h, List.take_of_length_le (by rw [List.length_drop]; exact Nat.le_refl _)]
theorem rt_take {H : Hp} {ps : List Addr} {rss : List (List Nat)} (h : RowsT H ps rss) (n : Nat) : RowsT H (ps.take n) (rss.take n) := ⟨by rw [List.length_take, List.length_take, h.1], fun i p r a b => by
  rw [List.getElem?_take] at a b
  split at a
  · rename_i g; rw [if_pos g] at b; exact h.2 i p r a b
  · cases a⟩
theorem rt_drop {H : Hp} {ps : List Addr} {rss : List (List Nat)} (h : RowsT H ps rss) (n : Nat) : RowsT H (ps.drop n) (rss.drop n) := ⟨by rw [List.length_drop, List.length_drop, h.1], fun i p r a b => by
  rw [List.getElem?_drop] at a b
  exact h.2 _ p r a b⟩
theorem Kpp.trans {p c h pt : Addr} {H H1 H2 : Hp} (a : Kpp p c h pt H H1) (b : Kpp p c h pt H1 H2) : Kpp p c h pt H H2 := fun d o e x1 x2 x3 x4 => b d o (a d o e x1 x2 x3 x4) x1 x2 x3 x4
theorem Kpp.lst {C p c h pt : Addr} {H H1 : Hp} {cs hs : List Addr} {rss oss : List (List Nat)} {m : Nat} (K : Kpp p c h pt H H1) (P : PoAt C H p c h cs hs rss oss m) (T : TabT pt H) {a : Addr} {xs : List V} (e : H a = some (.lst xs)) (x2 : a ≠ c) (x3 : a ≠ h) : H1 a = some (.lst xs) := by
  obtain ⟨dx, ob⟩ := P.ob
  exact K a _ e (ne_of e ob (by intro z; cases z)) x2 x3 (T.ne e)
theorem Kpp.tup {C p c h pt : Addr} {H H1 : Hp} {cs hs : List Addr} {rss oss : List (List Nat)} {m : Nat} (K : Kpp p c h pt H H1) (P : PoAt C H p c h cs hs rss oss m) (T : TabT pt H) {a : Addr} {xs : List V} (e : H a = some (.tup xs)) : H1 a = some (.tup xs) := by
  obtain ⟨dx, ob⟩ := P.ob
  exact K a _ e (ne_of e ob (by intro z; cases z)) (ne_of e P.cm (by intro z; cases z)) (ne_of e P.hp (by intro z; cases z)) (T.neT e)
theorem Kpp.rows {C p c h pt : Addr} {H H1 : Hp} {cs hs : List Addr} {rss oss : List (List Nat)} {m : Nat} (K : Kpp p c h pt H H1) (P : PoAt C H p c h cs hs rss oss m) (T : TabT pt H) {ps : List Addr} {qss : List (List Nat)} (R : RowsT H ps qss) : RowsT H1 ps qss := ⟨R.1, fun i q r a b => K.tup P T (R.2 i q r a b)⟩
theorem Kpp.seq {C p c h pt : Addr} {H H1 : Hp} {cs hs : List Addr} {rss oss : List (List Nat)} {m : Nat} (K : Kpp p c h pt H H1) (P : PoAt C H p c h cs hs rss oss m) (T : TabT pt H) {a : Addr} {xs : List V} {b : Bool} (e : H a = some (if b = true then .tup xs else .lst xs)) (x2 : a ≠ c) (x3 : a ≠ h) : H1 a = some (if b = true then .tup xs else .lst xs) := by
  cases b with
  | true => exact K.tup P T e
  | false => exact K.lst P T e x2 x3
theorem sum_take_succ {ns : List Nat} {i n : Nat} (h : ns[i]? = some n) : (ns.take (i + 1)).sum = (ns.take i).sum + n := by
  rw [List.take_add_one, h, List.sum_append]; simp
theorem sum_take_le (ns : List Nat) (i : Nat) : (ns.take i).sum ≤ ns.sum := by
  have := congrArg List.sum (List.take_append_drop i ns)
  rw [List.sum_append] at this; omega
theorem le_sum {ns : List Nat} {x : Nat} (h : x ∈ ns) : x ≤ ns.sum := by
  induction ns with
  | nil => cases h
  | cons y ns ih =>
    rw [List.sum_cons]
    rcases List.mem_cons.mp h with rfl | h
    · omega
    · have := ih h; omega
theorem rmrg_len : ∀ (n : Nat) (l : List Nat) (t : Nat), l.length = n → (rmrg l t).1.length ≤ n
  | 0, l, t, h => by rw [List.length_eq_zero_iff.mp h, rmrg]; simp
  | 1, l, t, h => by
    match l, h with
    | [y], _ => rw [rmrg]; simp
  | n + 2, l, t, h => by
    match l, h with
    | y :: x :: r, h =>
      rw [rmrg]
      split
      · have := rmrg_len (n + 1) ((x + y) :: r) (t + (x + y)) (by simp at h ⊢; omega)
        omega
      · simp at h ⊢; omega
theorem rows_cmp {H : Hp} {cs : List Addr} {rss : List (List Nat)} {ds : List Nat} (h : RowsT H cs rss) (hd : ∀ i ∈ ds, i < rss.length) : RowsT H (ds.map fun i => cs.getD i 0) (ds.map fun i => rss.getD i []) := by
  refine ⟨by rw [List.length_map, List.length_map], fun i q r a b => ?_⟩
  rw [List.getElem?_map] at a b
  cases e : ds[i]? with
  | none => rw [e] at a; cases a
  | some j =>
    rw [e] at a b
    have hj := hd j (List.mem_of_getElem? e)
    have hjc : j < cs.length := by rw [h.1]; exact hj
    obtain rfl := Option.some.inj a
    obtain rfl := Option.some.inj b
    refine h.2 j _ _ ?_ ?_
    · show cs[j]? = some (cs.getD j 0)
      rw [List.getD_eq_getElem?_getD, List.getElem?_eq_getElem hjc]; rfl
    · show rss[j]? = some (rss.getD j [])
      rw [List.getD_eq_getElem?_getD, List.getElem?_eq_getElem hj]; rfl

--CUT
theorem int_w {x : Nat} (h : x < 10 ^ 9) : (PyData.int (x : Nat)).weight ≤ 40 := by
  rw [PyData.weight]
  split
  · omega
  · rename_i g
    rw [Int.natAbs_natCast]
    have h0 : x ≠ 0 := fun z => g (by rw [z]; rfl)
    have := (Nat.log2_lt h0).mpr (Nat.lt_of_lt_of_le h (by decide : 10 ^ 9 ≤ 2 ^ 30))
    omega
theorem nats_datN {H : Hp} {a : Addr} {ls : List Nat} (n : Nat) (h : H a = some (.lst (NV ls))) (hx : ∀ x ∈ ls, x < 1000) : DatAt (n + 1) H (.ref a) (.list (rowD ls)) :=
  .inr (.inl ⟨a, _, _, rfl, rfl, h, by rw [NV_len]; unfold rowD; rw [List.length_map], rowD_at n hx⟩)
theorem rows_dat2 {H : Hp} {a : Addr} {ps : List Addr} {rss : List (List Nat)} (ha : H a = some (.lst (ps.map V.ref))) (h : RowsT H ps rss) (hr : ∀ r ∈ rss, ∀ x ∈ r, x < 1000) : DatAt 2 H (.ref a) (.list (rowsD rss)) := by
  refine .inr (.inl ⟨a, _, _, rfl, rfl, ha, by unfold rowsD; rw [List.length_map, List.length_map, h.1], fun i u e e1 e2 => ?_⟩)
  obtain ⟨q, rfl, hq, _, hi⟩ := map_get e1
  have hir : i < rss.length := by rw [← h.1]; exact hi
  have er : rss[i]? = some rss[i] := by simp [hir]
  unfold rowsD at e2
  rw [List.getElem?_map, er] at e2
  cases e2
  exact .inr (.inr ⟨q, _, _, rfl, rfl, h.2 i q _ hq er, by rw [NV_len]; unfold rowD; rw [List.length_map], rowD_at 0 (hr _ (List.getElem_mem hir))⟩)
def seenD (lens os : List Nat) (rss : List (List Nat)) (m : Nat) : PyData := .list [.list (rowD lens), .list (rowD os), .list (rowsD rss), .int (m : Nat)]
theorem seen_w {lens os : List Nat} {rss : List (List Nat)} {m : Nat} (h1 : ∀ x ∈ lens, x < 1000) (h2 : ∀ x ∈ os, x < 1000) (h3 : ∀ r ∈ rss, r.length ≤ 120 ∧ ∀ x ∈ r, x < 1000) (h4 : m < 10 ^ 9) (l1 : lens.length ≤ 200) (l2 : os.length ≤ 200) (l3 : rss.length ≤ 200) : (seenD lens os rss m).weight ≤ 2 ^ 20 := by
  have g1 := rowD_w h1
  have g2 := rowD_w h2
  have g3 := rowsD_w h3
  have g4 := int_w h4
  unfold seenD
  rw [PyData.weight, PyData.weightAll, PyData.weightAll, PyData.weightAll, PyData.weightAll, PyData.weightAll, PyData.weight, PyData.weight, PyData.weight]
  have h5 : (2 : Nat) ^ 20 = 1048576 := by decide
  omega
def cmpR (rss : List (List Nat)) (os : List Nat) : List (List Nat) := os.map fun i => rss.getD i []
theorem cmpR_b {rss : List (List Nat)} {os : List Nat} (hb : ∀ r ∈ rss, r.length ≤ 120 ∧ ∀ x ∈ r, x < 1000) (hd : ∀ i ∈ os, i < rss.length) : ∀ r ∈ cmpR rss os, r.length ≤ 120 ∧ ∀ x ∈ r, x < 1000 := fun r hr => by
  obtain ⟨i, hi, rfl⟩ := List.mem_map.mp hr
  have hil := hd i hi
  rw [List.getD_eq_getElem?_getD, List.getElem?_eq_getElem hil]
  exact hb _ (List.getElem_mem hil)
def Ok42 (rss oss : List (List Nat)) (m : Nat) : Prop := (∀ r ∈ rss, r.length ≤ 120 ∧ ∀ x ∈ r, x < 1000) ∧ rss.length ≤ 200 ∧ oss.length ≤ 200 ∧ m < 10 ^ 9
def spSeen (C : Addr) : Sp := fun vs H Q _ => ∃ (p c h : Addr) (cs hs : List Addr) (rss oss : List (List Nat)) (m : Nat), vs = [.ref p] ∧ PoAt C H p c h cs hs rss oss m ∧ Ok42 rss oss m ∧ ∀ (os : List Nat) H', os.Perm (List.range rss.length) → os.Pairwise (Rk rss 0) → Same H H' → Q (.str (seenD (oss.map List.length) os (cmpR rss os) m).shown) H'
theorem ok_seen (T : Tx K mg t) : FnOk P w K mg t.bs CX0 5 t.f_seen t.d_seen ["_law_pour"] (spSeen t.c_Pour) := by
  refine T.F_seen.okQ sc_seen (fun vs H Q E h => ?_) (fun cdv A outer s H vs Q E hr h => ?_)
  · obtain ⟨p, c, h, cs, hs, rss, oss, m, rfl, _⟩ := h
    rfl
  · obtain ⟨p, c, h, cs, hs, rss, oss, m, rfl, P, ⟨hb, hn, hon, hm⟩, k⟩ := h
    obtain ⟨dx, ob⟩ := P.ob
    refine ⟨_, (qb_one (qs_ret (qe_callTy (qc_strD hr.gd hr.units) (by rfl) T.z_str bt_str (qa_c (qe_lst (qa_c (qe_meth0 (qv 0) T.cl_Pour T.M_Pour_heaps (ok_Pour_heaps T) (hr.mono (by decide)) T.b_Pour_heaps pass0 ) (qa_c (qe_meth0 (qv 0) T.cl_Pour T.M_Pour_order (ok_Pour_order T) (hr.mono (by decide)) T.b_Pour_order pass0 ) (qa_c (qe_meth0 (qv 0) T.cl_Pour T.M_Pour_rows (ok_Pour_rows T) (hr.mono (by decide)) T.b_Pour_rows pass0 ) (qa_c (qe_meth0 (qv 0) T.cl_Pour T.M_Pour_moves (ok_Pour_moves T) (hr.mono (by decide)) T.b_Pour_moves pass0 ) qa_nil))))) qa_nil)))), ?_⟩
    rw [show L2.start ["_law_pour"] [V.ref p] = [some (V.ref p)] from rfl]
    walk_at "fs_rd"
    refine ⟨p, dx, _, rfl, ob, pourF_no _ _ _ (by decide +kernel) (by decide +kernel) (by decide +kernel), ?_⟩
    refine ⟨p, c, h, cs, hs, rss, oss, m, rfl, P, hon, fun l1 H1 hl1 s1 t1 => ?_⟩
    walk_at "fs_rd"
    refine ⟨p, dx, _, rfl, s1 _ _ ob, pourF_no _ _ _ (by decide +kernel) (by decide +kernel) (by decide +kernel), ?_⟩
    refine ⟨p, c, h, cs, hs, rss, oss, m, rfl, P.same s1, hn, hon, fun l2 os H2 hl2 s2 t2 hp hs2 => ?_⟩
    have s12 := s1.trans s2
    walk_at "fs_rd"
    refine ⟨p, dx, _, rfl, s12 _ _ ob, pourF_no _ _ _ (by decide +kernel) (by decide +kernel) (by decide +kernel), ?_⟩
    refine ⟨p, c, h, cs, hs, rss, oss, m, rfl, P.same s12, hn, hon, fun l3 os3 H3 hl3 s3 t3 hp3 hs3 => ?_⟩
    have e3 : os3 = os := sorted_one (fun i j a b => Rk.asymm a b) (hp3.trans hp.symm) hs3 hs2
    subst e3
    have s13 := s12.trans s3
    walk_at "fs_rd"
    refine ⟨p, dx, _, rfl, s13 _ _ ob, pourF_no _ _ _ (by decide +kernel) (by decide +kernel) (by decide +kernel), ?_⟩
    refine ⟨p, c, h, cs, hs, rss, oss, m, rfl, P.same s13, ?_⟩
    walk_at "fs_rd"
    refine ⟨three (by simp), fun z hz => ?_⟩
    have s4 := (Same.refl H3).new (o := .lst [V.ref l1, V.ref l2, V.ref l3, V.int (m : Nat)]) hz
    have tz : (upd H3 z (.lst [V.ref l1, V.ref l2, V.ref l3, V.int (m : Nat)])) z = some (.lst [V.ref l1, V.ref l2, V.ref l3, V.int (m : Nat)]) := upd_same
    generalize upd H3 z (.lst [V.ref l1, V.ref l2, V.ref l3, V.int (m : Nat)]) = H4 at s4 tz
    have hd : ∀ i ∈ os3, i < rss.length := fun i hi => List.mem_range.mp (hp.mem_iff.mp hi)
    have hol : os3.length = rss.length := by have := hp.length_eq; rwa [List.length_range] at this
    have hx1 : ∀ x ∈ oss.map List.length, x < 1000 := fun x hx => by have := le_sum hx; have := P.sg.sum; omega
    have hx2 : ∀ x ∈ os3, x < 1000 := fun x hx => by have := hd x hx; omega
    have hcr := cmpR_b hb hd
    have t14 := s4 _ _ (s3 _ _ (s2 _ _ t1))
    have t24 := s4 _ _ (s3 _ _ t2)
    have t34 := s4 _ _ t3
    have R4 := rows_cmp ((P.rw.same s13).same s4) hd
    have hD : DatAt 3 H4 (.ref z) (seenD (oss.map List.length) os3 (cmpR rss os3) m) := by
      refine .inr (.inl ⟨z, _, _, rfl, rfl, tz, rfl, fun i u e e1 e2 => ?_⟩)
      match i, e1, e2 with
      | 0, e1, e2 => cases e1; cases e2; exact nats_datN 1 t14 hx1
      | 1, e1, e2 => cases e1; cases e2; exact nats_datN 1 t24 hx2
      | 2, e1, e2 => cases e1; cases e2; exact rows_dat2 t34 R4 fun r hr => (hcr r hr).2
      | 3, e1, e2 => cases e1; cases e2; exact .inl ⟨_, rfl, rfl, by rw [Int.natAbs_natCast]; omega⟩
      | (n + 4), e1, e2 => simp at e1
    walk_at "fs_rd"
    refine in_strD hD (seen_w hx1 hx2 hcr hm (by rw [List.length_map]; exact hon) (by omega) (by unfold cmpR; rw [List.length_map]; omega)) ?_
    exact k os3 H4 hp hs2 (s13.trans s4)
def spSpoilt (C : Addr) : Sp := fun vs H Q _ => ∃ (p c h : Addr) (cs hs : List Addr) (rss oss : List (List Nat)) (m : Nat), vs = [.ref p] ∧ PoAt C H p c h cs hs rss oss m ∧ Ok42 rss oss m ∧ ∀ H', Same H H' → Q .non H'
theorem ok_spoilt (T : Tx K mg t) : FnOk P w K mg t.bs CX0 5 t.f_spoilt t.d_spoilt ["_law_pour"] (spSpoilt t.c_Pour) := by
  refine T.F_spoilt.okQ sc_spoilt (fun vs H Q E h => ?_) (fun cdv A outer s H vs Q E hr h => ?_)
  · obtain ⟨p, c, h, cs, hs, rss, oss, m, rfl, _⟩ := h
    rfl
  · obtain ⟨p, c, h, cs, hs, rss, oss, m, rfl, P, ⟨hb, hn, hon, hm⟩, k⟩ := h
    obtain ⟨dx, ob⟩ := P.ob
    refine ⟨_, (qb_one (qs_for PassesOwn.never rfl (qi_tup (K := K) (qe_tup (qa_c (qe_meth0 (qv 0) T.cl_Pour T.M_Pour_heaps (ok_Pour_heaps T) (hr.mono (by decide)) T.b_Pour_heaps pass0 ) (qa_c (qe_meth0 (qv 0) T.cl_Pour T.M_Pour_order (ok_Pour_order T) (hr.mono (by decide)) T.b_Pour_order pass0 ) (qa_c (qe_meth0 (qv 0) T.cl_Pour T.M_Pour_rows (ok_Pour_rows T) (hr.mono (by decide)) T.b_Pour_rows pass0 ) qa_nil))))) (qg_name (i := 1) sc_spoilt.nd rfl (Or.inl rfl)) (qb_cons (qs_expr (qe_append (K := K) (qv 1) (qa_c qe_str qa_nil)))
      (qb_one (qs_expr (qe_reverse (K := K) (qv 1))))))), ?_⟩
    rw [show L2.start ["_law_pour", "_law_told"] [V.ref p] = [some (V.ref p), none] from rfl]
    walk_at "fs_rd"
    refine ⟨p, dx, _, rfl, ob, pourF_no _ _ _ (by decide +kernel) (by decide +kernel) (by decide +kernel), ?_⟩
    refine ⟨p, c, h, cs, hs, rss, oss, m, rfl, P, hon, fun l1 H1 hl1 s1 t1 => ?_⟩
    walk_at "fs_rd"
    refine ⟨p, dx, _, rfl, s1 _ _ ob, pourF_no _ _ _ (by decide +kernel) (by decide +kernel) (by decide +kernel), ?_⟩
    refine ⟨p, c, h, cs, hs, rss, oss, m, rfl, P.same s1, hn, hon, fun l2 os H2 hl2 s2 t2 hp hs2 => ?_⟩
    have s12 := s1.trans s2
    walk_at "fs_rd"
    refine ⟨p, dx, _, rfl, s12 _ _ ob, pourF_no _ _ _ (by decide +kernel) (by decide +kernel) (by decide +kernel), ?_⟩
    refine ⟨p, c, h, cs, hs, rss, oss, m, rfl, P.same s12, hn, hon, fun l3 os3 H3 hl3 s3 t3 hp3 hs3 => ?_⟩
    have s13 := s12.trans s3
    walk_at "fs_rd"
    refine ⟨three (by simp), fun z hz => ?_⟩
    have s4 := (Same.refl H3).new (o := .tup [V.ref l1, V.ref l2, V.ref l3]) hz
    have tz : (upd H3 z (.tup [V.ref l1, V.ref l2, V.ref l3])) z = some (.tup [V.ref l1, V.ref l2, V.ref l3]) := upd_same
    generalize upd H3 z (.tup [V.ref l1, V.ref l2, V.ref l3]) = H4 at s4 tz
    have n1 : H l1 = none := hl1
    have n2 : H l2 = none := s1.free hl2
    have n3 : H l3 = none := s12.free hl3
    have ol : os.length = rss.length := by have := hp.length_eq; rwa [List.length_range] at this
    have ol3 : os3.length = rss.length := by have := hp3.length_eq; rwa [List.length_range] at this
    walk_at "fs_rd"
    refine ⟨z, rfl, ⟨_, SqT.of tz⟩, for_tup (a := z) (xs := [V.ref l1, V.ref l2, V.ref l3]) (fun i σ H' => Same H H' ∧ H' z = some (.tup [V.ref l1, V.ref l2, V.ref l3]) ∧ (∀ l ∈ [l1, l2, l3], ∃ zs, H' l = some (.lst zs) ∧ zs.length ≤ 200 + i) ∧ ∃ v1, σ = [some (V.ref p), v1]) ⟨s13.trans s4, tz, fun l hl => ?_, _, rfl⟩ (fun i σ H' _ h => SqT.of h.2.1) ?_ ?_⟩
    · simp only [List.mem_cons, List.not_mem_nil, or_false] at hl
      rcases hl with rfl | rfl | rfl
      · exact ⟨_, s4 _ _ (s3 _ _ (s2 _ _ t1)), by rw [NV_len, List.length_map]; omega⟩
      · exact ⟨_, s4 _ _ (s3 _ _ t2), by rw [NV_len]; omega⟩
      · exact ⟨_, s4 _ _ t3, by rw [List.length_map, List.length_map]; omega⟩
    · rintro i x σ H5 hx ⟨s5, tz5, hL, v1, rfl⟩
      have hi3 : i < 3 := by have := get_lt hx; simpa using this
      obtain ⟨l, hlm, rfl⟩ : ∃ l ∈ [l1, l2, l3], x = V.ref l := by
        have hm' := List.mem_of_getElem? hx
        simp only [List.mem_cons, List.not_mem_nil, or_false] at hm'
        rcases hm' with rfl | rfl | rfl
        · exact ⟨l1, by simp, rfl⟩
        · exact ⟨l2, by simp, rfl⟩
        · exact ⟨l3, by simp, rfl⟩
      have hln : H l = none := by
        simp only [List.mem_cons, List.not_mem_nil, or_false] at hlm
        rcases hlm with rfl | rfl | rfl <;> assumption
      obtain ⟨zs, tl, hzl⟩ := hL l hlm
      walk_at "fs_rd"
      refine ⟨ty_list tl, ?_⟩
      walk_at "fs_rd"
      refine in_append tl (small1000 (by omega)) ?_
      have s6 := s5.own (o := .lst (zs ++ [V.str (Str.ofString "spoilt")])) hln
      have tl6 : (upd H5 l (.lst (zs ++ [V.str (Str.ofString "spoilt")]))) l = some (.lst (zs ++ [V.str (Str.ofString "spoilt")])) := upd_same
      have tz6 : (upd H5 l (.lst (zs ++ [V.str (Str.ofString "spoilt")]))) z = some (.tup [V.ref l1, V.ref l2, V.ref l3]) := by rw [upd_ne (ne_of tz5 tl (by intro y; cases y))]; exact tz5
      have hL6 : ∀ l' ∈ [l1, l2, l3], l' ≠ l → ∃ zs, (upd H5 l (.lst (zs ++ [V.str (Str.ofString "spoilt")]))) l' = some (.lst zs) ∧ zs.length ≤ 200 + i := fun l' h1 h2 => by
        obtain ⟨zs', e1, e2⟩ := hL l' h1
        exact ⟨zs', by rw [upd_ne h2]; exact e1, e2⟩
      have hL6' : ∀ l' ∈ [l1, l2, l3], l' ≠ l → ∃ ys, (upd H5 l (.lst (zs ++ [V.str (Str.ofString "spoilt")]))) l' = some (.lst ys) ∧ ys.length ≤ 200 + i := fun l' h1 h2 => by
        obtain ⟨zs', e1, e2⟩ := hL l' h1
        exact ⟨zs', by rw [upd_ne h2]; exact e1, e2⟩
      clear hL6
      generalize upd H5 l (.lst (zs ++ [V.str (Str.ofString "spoilt")])) = H6 at s6 tl6 tz6 hL6'
      walk_at "fs_rd"
      refine ⟨ty_list tl6, ?_⟩
      refine ⟨l, _, rfl, rfl, tl6, ?_⟩
      refine ⟨s6.own hln, by rw [upd_ne (ne_of tz6 tl6 (by intro y; cases y))]; exact tz6, fun l' h1 => ?_, _, rfl⟩
      by_cases e : l' = l
      · rw [e]
        exact ⟨_, upd_same, by rw [List.length_reverse, List.length_append, List.length_singleton]; omega⟩
      · obtain ⟨ys, e1, e2⟩ := hL6' l' h1 e
        exact ⟨ys, by rw [upd_ne e]; exact e1, by omega⟩
    · rintro σ H5 ⟨s5, tz5, hL, v1, rfl⟩
      exact k _ s5
theorem str_notIn (os : List Nat) (w : Str) : inV (.str w) (NV os) = false := by
  unfold inV NV
  rw [List.any_map, List.any_eq_false]
  intro x _
  simp [eqV]
theorem NV_flat (os : List Nat) : (NV os).all flatV = true := by
  unfold NV
  rw [List.all_map, List.all_eq_true]
  intro x _
  rfl
def spAlone (C : Addr) : Sp := fun vs H Q _ => ∃ (p c h : Addr) (cs hs : List Addr) (rss oss : List (List Nat)) (m : Nat), vs = [.ref p] ∧ PoAt C H p c h cs hs rss oss m ∧ Ok42 rss oss m ∧ ∀ H', Same H H' → Q (.bl true) H'
theorem ok_alone (T : Tx K mg t) : FnOk P w K mg t.bs CX0 5 t.f_alone t.d_alone ["_law_pour"] (spAlone t.c_Pour) := by
  refine T.F_alone.okQ sc_alone (fun vs H Q E h => ?_) (fun cdv A outer s H vs Q E hr h => ?_)
  · obtain ⟨p, c, h, cs, hs, rss, oss, m, rfl, _⟩ := h
    rfl
  · obtain ⟨p, c, h, cs, hs, rss, oss, m, rfl, P, ⟨hb, hn, hon, hm⟩, k⟩ := h
    obtain ⟨dx, ob⟩ := P.ob
    refine ⟨_, (qb_cons (qs_set (i := 1) sc_alone.nd rfl (Or.inl rfl) (qe_meth0 (qv 0) T.cl_Pour T.M_Pour_order (ok_Pour_order T) (hr.mono (by decide)) T.b_Pour_order pass0 ))
      (qb_cons (qs_expr (qe_append (K := K) (qv 1) (qa_c qe_str qa_nil)))
      (qb_one (qs_ret (qe_and (qe_cmpR (q_notInS (K := K)) qe_str (qe_meth0 (qv 0) T.cl_Pour T.M_Pour_order (ok_Pour_order T) (hr.mono (by decide)) T.b_Pour_order pass0 ) rfl) (qe_one (qe_cmpR q_eq (qe_callB (qc_len (K := K)) (by rfl) T.z_len bt_len (qa_c (qe_meth0 (qv 0) T.cl_Pour T.M_Pour_rows (ok_Pour_rows T) (hr.mono (by decide)) T.b_Pour_rows pass0 ) qa_nil)) (qe_callB (qc_len (K := K)) (by rfl) T.z_len bt_len (qa_c (qe_meth0 (qv 0) T.cl_Pour T.M_Pour_order (ok_Pour_order T) (hr.mono (by decide)) T.b_Pour_order pass0 ) qa_nil)) (nomark _)))))))), ?_⟩
    rw [show L2.start ["_law_pour", "_law_one"] [V.ref p] = [some (V.ref p), none] from rfl]
    walk_at "fs_rd"
    refine ⟨p, dx, _, rfl, ob, pourF_no _ _ _ (by decide +kernel) (by decide +kernel) (by decide +kernel), ?_⟩
    refine ⟨p, c, h, cs, hs, rss, oss, m, rfl, P, hn, hon, fun l1 os1 H1 hl1 s1 t1 hp1 hs1 => ?_⟩
    have ol1 : os1.length = rss.length := by have := hp1.length_eq; rwa [List.length_range] at this
    walk_at "fs_rd"
    refine ⟨ty_list t1, ?_⟩
    walk_at "fs_rd"
    refine in_append t1 (by rw [NV_len]; exact small1000 (by omega)) ?_
    have s2 := s1.own (o := .lst (NV os1 ++ [V.str (Str.ofString "spoilt")])) hl1
    generalize upd H1 l1 (.lst (NV os1 ++ [V.str (Str.ofString "spoilt")])) = H2 at s2
    walk_at "fs_rd"
    refine ⟨p, dx, _, rfl, s2 _ _ ob, pourF_no _ _ _ (by decide +kernel) (by decide +kernel) (by decide +kernel), ?_⟩
    refine ⟨p, c, h, cs, hs, rss, oss, m, rfl, P.same s2, hn, hon, fun l2 os2 H3 hl2 s3 t2 hp2 hs2 => ?_⟩
    have s03 := s2.trans s3
    walk_at "fs_rd"
    refine in_notInS t2 rfl (NV_flat _) ?_
    rw [str_notIn]
    walk_at "fs_rd"
    refine ⟨p, dx, _, rfl, s03 _ _ ob, pourF_no _ _ _ (by decide +kernel) (by decide +kernel) (by decide +kernel), ?_⟩
    refine ⟨p, c, h, cs, hs, rss, oss, m, rfl, P.same s03, hn, hon, fun l3 os3 H4 hl3 s4 t3 hp3 hs3 => ?_⟩
    have s04 := s03.trans s4
    have ol3 : os3.length = rss.length := by have := hp3.length_eq; rwa [List.length_range] at this
    walk_at "fs_rd"
    refine in_lenL (SqL.of t3) ?_
    rw [List.length_map, List.length_map, ol3]
    walk_at "fs_rd"
    refine ⟨p, dx, _, rfl, s04 _ _ ob, pourF_no _ _ _ (by decide +kernel) (by decide +kernel) (by decide +kernel), ?_⟩
    refine ⟨p, c, h, cs, hs, rss, oss, m, rfl, P.same s04, hn, hon, fun l4 os4 H5 hl4 s5 t4 hp4 hs4 => ?_⟩
    have ol4 : os4.length = rss.length := by have := hp4.length_eq; rwa [List.length_range] at this
    walk_at "fs_rd"
    refine in_lenL (SqL.of t4) ?_
    rw [NV_len, ol4]
    walk_at "fs_rd"
    rw [decide_eq_true rfl]
    exact k _ (s04.trans s5)

theorem PoAt.upd {C : Addr} {H : Hp} {p c h x : Addr} {xs ys : List V} {cs hs : List Addr} {rss oss : List (List Nat)} {m : Nat} (P : PoAt C H p c h cs hs rss oss m) (hx : H x = some (.lst xs)) (h1 : x ≠ c) (h2 : x ≠ h) (h3 : x ∉ hs) : PoAt C (L2.upd H x (.lst ys)) p c h cs hs rss oss m := by
  obtain ⟨dx, ob⟩ := P.ob
  exact ⟨⟨dx, by rw [upd_ne (ne_of ob hx (by intro z; cases z))]; exact ob⟩, by rw [upd_ne (fun e => h1 e.symm)]; exact P.cm, P.rw.own hx, by rw [upd_ne (fun e => h2 e.symm)]; exact P.hp, ⟨P.ls.1, fun i q ns a b => by rw [upd_ne (fun e => h3 (by rw [← e]; exact List.mem_of_getElem? a))]; exact P.ls.2 i q ns a b⟩, P.sg, P.ch, P.cn, P.hn⟩
theorem nodup_snocA {qs : List Addr} {q : Addr} (h : qs.Nodup) (n : q ∉ qs) : (qs ++ [q]).Nodup := by
  rw [List.nodup_append]
  exact ⟨h, by simp, fun a ha b hb e => by rw [List.mem_singleton.mp hb] at e; rw [e] at ha; exact n ha⟩
theorem nodup_injA {xs : List Addr} (hn : xs.Nodup) {i j : Nat} (hi : i < xs.length) (hj : j < xs.length) (e : xs[i] = xs[j]) : i = j := by
  rcases Nat.lt_trichotomy i j with h | h | h
  · exact absurd e (List.pairwise_iff_getElem.mp hn i j hi hj h)
  · exact h
  · exact absurd e.symm (List.pairwise_iff_getElem.mp hn j i hj hi h)
def spPSp (C pt : Addr) : Sp := fun vs H Q _ => ∃ (p a c h : Addr) (cs hs ps : List Addr) (rss oss qss : List (List Nat)) (m w : Nat), vs = [.ref p, .ref a] ∧ PoAt C H p c h cs hs rss oss m ∧ H a = some (.lst (ps.map V.ref)) ∧ RowsT H ps qss ∧ (∀ r ∈ qss, r.length = w) ∧ w ≤ 120 ∧
  rss.length + qss.length ≤ 200 ∧ oss.length ≤ 100 ∧ TabT pt H ∧
  ∀ (cs' hs' : List Addr) (oss' : List (List Nat)) (H' : Hp), PoAt C H' p c h cs' hs' (rss ++ qss) oss' (m + (rmrg (oss.map List.length ++ [qss.length]).reverse 0).2) → (oss'.map List.length).reverse = (rmrg (oss.map List.length ++ [qss.length]).reverse 0).1 → (∀ q ∈ hs', q ∈ hs ∨ H q = none) → Kpp p c h pt H H' → TabT pt H' → Q (.int ((rmrg (oss.map List.length ++ [qss.length]).reverse 0).2 : Nat)) H'
theorem ok_pour_spoilt (T : Tx K mg t) : FnOk P w K mg t.bs CX0 5 t.f_pour_spoilt t.d_pour_spoilt ["_law_pour", "_law_rows_here"] (spPSp t.c_Pour t.pt) := by
  refine T.F_pour_spoilt.okQ sc_pour_spoilt (fun vs H Q E h => ?_) (fun cdv A outer s H vs Q E hr h => ?_)
  · obtain ⟨p, a, c, h, cs, hs, ps, rss, oss, qss, m, w, rfl, _⟩ := h
    rfl
  · obtain ⟨p, a, c, h, cs, hs, ps, rss, oss, qss, m, w, rfl, P, ta, hR, hqw, hw, hn, hon, hTab, k⟩ := h
    have hpl : ps.length = qss.length := hR.1
    refine ⟨_, (qb_cons (qs_setC (i := 2) (N := ["_law_row"]) (tgs := ["_law_row"]) (frs := []) (ix := [])  sc_pour_spoilt.nd rfl (Or.inl rfl) ⟨rfl, by decide +kernel, rfl, by decide +kernel, rfl, rfl, True.intro, True.intro, rfl⟩ rfl (qi_list (K := K) (qv 1)) (fun _ _ _ _ => (qg_name (i := 0) (by show List.Nodup (["_law_row"] : List Str); decide +kernel) rfl (Or.inl rfl))) (fun _ _ _ _ => (qe_callTy (qc_list (K := K)) (by rfl) T.z_list bt_list (qa_c (qv 0) qa_nil))))
      (qb_cons (qs_set (i := 3) sc_pour_spoilt.nd rfl (Or.inl rfl) (qe_meth (qv 0) T.cl_Pour T.M_Pour_pour (ok_Pour_pour T) (hr.mono (by decide)) T.b_Pour_pour pass0 (qa_c (qv 2) qa_nil)))
      (qb_cons (qs_for PassesOwn.never rfl (qi_list (K := K) (qv 2)) (qg_name (i := 4) sc_pour_spoilt.nd rfl (Or.inl rfl)) (qb_one (qs_expr (qe_append (K := K) (qv 4) (qa_c qe_str qa_nil)))))
      (qb_cons (qs_expr (qe_reverse (K := K) (qv 2)))
      (qb_cons (qs_expr (qe_append (K := K) (qv 2) (qa_c (qe_lst qa_nil) qa_nil)))
      (qb_one (qs_ret (qv 3)))))))), ?_⟩
    rw [show L2.start ["_law_pour", "_law_rows_here", "_law_handed", "_law_found", "_law_row"] [V.ref p, V.ref a] = [some (V.ref p), some (V.ref a), none, none, none] from rfl]
    walk_at "fs_rd"
    refine ⟨a, rfl, ⟨_, SqL.of ta⟩, comp_lst (a := a) (vs := ps.map V.ref) (fun i ys σ H' => Same H H' ∧ (∃ us : List Addr, ys = us.map V.ref ∧ us.length = i ∧ LsAt H' us (qss.take i) ∧ us.Nodup ∧ ∀ q ∈ us, H q = none) ∧ ∃ v, σ = [v]) (by rw [List.length_map]; exact small1000 (by omega)) (fun i ys σ H' h => by obtain ⟨_, ⟨us, rfl, e, _⟩, _⟩ := h; rw [List.length_map, e]) (fun i ys σ H' h => SqL.of (h.1 _ _ ta)) ⟨Same.refl _, ⟨[], rfl, rfl, LsAt.nil, List.nodup_nil, fun q h => nomatch h⟩, none, rfl⟩ ?_ ?_⟩
    · rintro i ys σ H1 x hx ⟨s1, ⟨us, rfl, hul, hU, hun, huf⟩, v, rfl⟩
      have hil := get_lt hx
      obtain ⟨q, rfl, hq, _, hi⟩ := map_get hx
      have hiq : i < qss.length := by omega
      have eq' : qss[i]? = some qss[i] := by simp [hiq]
      walk_at "fs_rd"
      refine in_listOf (.inr (SqT.of (s1 _ _ (hR.2 i q _ hq eq')))) fun l2 hl2 => ?_
      have hl2u : l2 ∉ us := fun hm => by
        obtain ⟨ns, _, e⟩ := hU.some hm
        rw [hl2] at e; cases e
      refine Nx.mk hil ⟨s1.new hl2, ⟨us ++ [l2], by rw [List.map_append]; rfl, by simp [hul], ?_, nodup_snocA hun hl2u, fun q' hq' => ?_⟩, _, rfl⟩
      · rw [List.take_add_one, eq']
        exact (hU.same ((Same.refl _).new hl2)).snoc upd_same
      · rcases List.mem_append.mp hq' with g | g
        · exact huf q' g
        · rw [List.mem_singleton.mp g]; exact s1.free hl2
    rintro ys σ H1 ⟨s1, ⟨us, rfl, hul, hU, hun, huf⟩, v, rfl⟩ hd hhd
    rw [List.length_map] at hul hU
    rw [List.take_of_length_le (by omega)] at hU
    have hdu : hd ∉ us := fun hm => by
      obtain ⟨ns, _, e⟩ := hU.some hm
      rw [hhd] at e; cases e
    have hdf : H hd = none := s1.free hhd
    have s2 := s1.new (o := .lst (us.map V.ref)) hhd
    have U2 := hU.same ((Same.refl H1).new (o := .lst (us.map V.ref)) hhd)
    have thd : (upd H1 hd (.lst (us.map V.ref))) hd = some (.lst (us.map V.ref)) := upd_same
    generalize upd H1 hd (.lst (us.map V.ref)) = H2 at s2 U2 thd
    have P2 := P.same s2
    have T2 := hTab.same s2
    have nf : ∀ q, H q = none → q ≠ c ∧ q ≠ h ∧ q ∉ hs := fun q hq => ⟨fun e => by rw [e, P.cm] at hq; (exact nomatch hq), fun e => by rw [e, P.hp] at hq; (exact nomatch hq), fun hm => by
      obtain ⟨ns, _, e⟩ := P.ls.some hm
      rw [hq] at e; cases e⟩
    obtain ⟨dx2, ob2⟩ := P2.ob
    walk_at "fs_rd"
    refine ⟨p, dx2, _, rfl, ob2, pourF_no _ _ _ (by decide +kernel) (by decide +kernel) (by decide +kernel), ?_⟩
    walk_at "fs_rd"
    refine ⟨p, hd, c, h, cs, hs, us, rss, oss, qss, m, w, rfl, P2, ⟨thd, trivial⟩, ⟨U2.1, fun i q z a b => .inl (U2.2 i q z a b)⟩, hqw, hn, hon, (nf hd hdf).1, (nf hd hdf).2.1, fun q hq => ⟨(nf q (huf q hq)).1, (nf q (huf q hq)).2.1⟩, T2, fun cs' hs' oss' H3 P3 e3 F3 K3 T3 => ?_⟩
    have nh : ∀ q xs, H2 q = some (.lst xs) → H q = none → q ∉ hs' := fun q xs e e0 hm => by
      rcases F3 q hm with g | g
      · exact (nf q e0).2.2 g
      · rw [e] at g; cases g
    have thd3 := K3.lst P2 T2 thd (nf hd hdf).1 (nf hd hdf).2.1
    have U3 : LsAt H3 us qss := ⟨U2.1, fun i q ns a b => K3.lst P2 T2 (U2.2 i q ns a b) (nf q (huf q (List.mem_of_getElem? a))).1 (nf q (huf q (List.mem_of_getElem? a))).2.1⟩
    have hul' : us.length = qss.length := U2.1
    walk_at "fs_rd"
    refine ⟨hd, rfl, ⟨_, SqL.of thd3⟩, for_list (a := hd) (xs := us.map V.ref) (fun i σ H' => PoAt t.c_Pour H' p c h cs' hs' (rss ++ qss) oss' (m + (rmrg (oss.map List.length ++ [qss.length]).reverse 0).2) ∧ TabT t.pt H' ∧ H' hd = some (.lst (us.map V.ref)) ∧ (∀ b u, H3 b = some u → b ∉ us → H' b = some u) ∧ (∀ (j : Nat) q ns, i ≤ j → us[j]? = some q → qss[j]? = some ns → H' q = some (.lst (NV ns))) ∧ ∃ v4, σ = [some (V.ref p), some (V.ref a), some (V.ref hd), some (V.int ((rmrg (oss.map List.length ++ [qss.length]).reverse 0).2 : Nat)), v4]) ⟨P3, T3, thd3, fun b u e _ => e, fun j q ns _ e1 e2 => U3.2 j q ns e1 e2, _, rfl⟩ (fun i σ H' _ h => SqL.of h.2.2.1) ?_ ?_⟩
    · rintro i x σ H4 hx ⟨P4, T4, thd4, kp4, hL4, v4, rfl⟩
      obtain ⟨q, rfl, hq, hqm, hi⟩ := map_get hx
      have hiq : i < qss.length := by omega
      have eq' : qss[i]? = some qss[i] := by simp [hiq]
      have hqlen := hqw _ (List.getElem_mem hiq)
      generalize qss[i] = ns at eq' hqlen
      have tq := hL4 i q ns (Nat.le_refl _) hq eq'
      obtain ⟨n1, n2, _⟩ := nf q (huf q hqm)
      have n3 := nh q _ (U2.2 i q ns hq eq') (huf q hqm)
      walk_at "fs_rd"
      refine ⟨ty_list tq, ?_⟩
      walk_at "fs_rd"
      refine in_append tq (by rw [NV_len]; exact small1000 (by omega)) ?_
      refine ⟨P4.upd tq n1 n2 n3, tab_own T4 tq, by rw [upd_ne (fun e => hdu (by rw [e]; exact hqm))]; exact thd4, fun b u e hb => by rw [upd_ne (fun z => hb (by rw [z]; exact hqm))]; exact kp4 b u e hb, fun j q' ns' hj e1 e2 => ?_, _, rfl⟩
      have hne : q' ≠ q := fun z => by
        have g1 := get_lt e1
        have g2 := get_lt hq
        rw [List.getElem?_eq_getElem g1] at e1
        rw [List.getElem?_eq_getElem g2] at hq
        have := nodup_injA hun g1 g2 (by rw [Option.some.inj e1, Option.some.inj hq, z])
        omega
      rw [upd_ne hne]
      exact hL4 j q' ns' (by omega) e1 e2
    · rintro σ H4 ⟨P4, T4, thd4, kp4, hL4, v4, rfl⟩
      have hdn3 := nh hd _ thd hdf
      walk_at "fs_rd"
      refine ⟨ty_list thd4, ?_⟩
      refine ⟨hd, _, rfl, rfl, thd4, ?_⟩
      have P5 := P4.upd (ys := (us.map V.ref).reverse) thd4 (nf hd hdf).1 (nf hd hdf).2.1 hdn3
      have T5 := tab_own (ys := (us.map V.ref).reverse) T4 thd4
      have thd5 : (upd H4 hd (.lst (us.map V.ref).reverse)) hd = some (.lst (us.map V.ref).reverse) := upd_same
      have kp5 : ∀ b u, H4 b = some u → b ≠ hd → (upd H4 hd (.lst (us.map V.ref).reverse)) b = some u := fun b u e hb => by rw [upd_ne hb]; exact e
      generalize upd H4 hd (.lst (us.map V.ref).reverse) = H5 at P5 T5 thd5 kp5
      walk_at "fs_rd"
      refine ⟨ty_list thd5, ?_⟩
      walk_at "fs_rd"
      refine ⟨three (by simp), fun e he => ?_⟩
      have s6 := (Same.refl H5).new (o := .lst []) he
      generalize upd H5 e (.lst []) = H6 at s6
      have thd6 := s6 _ _ thd5
      walk_at "fs_rd"
      refine in_append thd6 (by rw [List.length_reverse, List.length_map]; exact small1000 (by omega)) ?_
      walk_at "fs_rd"
      refine k cs' hs' oss' _ ((P5.same s6).upd thd6 (nf hd hdf).1 (nf hd hdf).2.1 hdn3) e3 (fun q hq => ?_) (fun b u z x1 x2 x3 x4 => ?_) (tab_own (T5.same s6) thd6)
      · rcases F3 q hq with g | g
        · exact .inl g
        · exact .inr (s2.free g)
      · have hbu : b ∉ us := fun hm => by rw [huf b hm] at z; cases z
        have hbh : b ≠ hd := fun hm => by rw [hm, hdf] at z; cases z
        rw [upd_ne hbh]
        exact s6 _ _ (kp5 _ _ (kp4 _ _ (K3 _ _ (s2 _ _ z) x1 x2 x3 x4) hbu) hbh)

theorem rmrg_le : ∀ (n : Nat) (l : List Nat) (t : Nat), l.length = n → (rmrg l t).2 ≤ t + n * l.sum
  | 0, l, t, h => by
    rw [List.length_eq_zero_iff.mp h, rmrg]; omega
  | 1, l, t, h => by
    match l, h with
    | [y], _ => rw [rmrg]; exact Nat.le_add_right _ _
  | n + 2, l, t, h => by
    match l, h with
    | y :: x :: r, h =>
      rw [rmrg]
      split
      · have := rmrg_le (n + 1) ((x + y) :: r) (t + (x + y)) (by simp at h ⊢; omega)
        have e : ((x + y) :: r).sum = (y :: x :: r).sum := by simp; omega
        rw [e] at this
        have h2 : x + y ≤ (y :: x :: r).sum := by simp; omega
        have h3 : (n + 2) * (y :: x :: r).sum = (n + 1) * (y :: x :: r).sum + (y :: x :: r).sum := Nat.succ_mul _ _
        omega
      · exact Nat.le_add_right _ _
theorem rm_bound {oss : List (List Nat)} {n : Nat} (h1 : oss.length ≤ 12) (h2 : (oss.map List.length).sum + n ≤ 200) : (rmrg (oss.map List.length ++ [n]).reverse 0).2 ≤ 30000 := by
  have := rmrg_le _ (oss.map List.length ++ [n]).reverse 0 rfl
  rw [List.sum_reverse, List.sum_append, List.length_reverse, List.length_append, List.length_map] at this
  simp only [List.sum_singleton, List.length_singleton] at this
  have h3 : (oss.length + 1) * ((oss.map List.length).sum + n) ≤ 13 * 200 := Nat.mul_le_mul (by omega) h2
  omega
theorem rm_length {oss oss' : List (List Nat)} {n : Nat} (e : (oss'.map List.length).reverse = (rmrg (oss.map List.length ++ [n]).reverse 0).1) : oss'.length ≤ oss.length + 1 := by
  have h1 : (oss'.map List.length).reverse.length ≤ (oss.map List.length ++ [n]).reverse.length := by rw [e]; exact rmrg_len _ _ _ rfl
  simpa using h1
theorem tup_ne {C p c h : Addr} {H : Hp} {cs hs ps : List Addr} {rss oss qss : List (List Nat)} {m : Nat} (P : PoAt C H p c h cs hs rss oss m) (R : RowsT H ps qss) : ∀ q ∈ ps, q ≠ c ∧ q ≠ h := fun q hq => by
  obtain ⟨j, hj, rfl⟩ := List.getElem_of_mem hq
  have hjr : j < qss.length := by rw [← R.1]; exact hj
  have hz := R.2 j _ _ (List.getElem?_eq_getElem hj) (List.getElem?_eq_getElem hjr)
  exact ⟨ne_of hz P.cm (by intro z; cases z), ne_of hz P.hp (by intro z; cases z)⟩
theorem PoAt.other {C p c h p' c' h' pt : Addr} {H H1 : Hp} {cs hs cs' hs' : List Addr} {rss oss rss' oss' : List (List Nat)} {m m' : Nat} (K : Kpp p c h pt H H1) (P : PoAt C H p c h cs hs rss oss m) (T : TabT pt H) (P' : PoAt C H p' c' h' cs' hs' rss' oss' m') (hp : p' ≠ p) (cc : c' ≠ c) (ch : c' ≠ h) (hc : h' ≠ c) (hh : h' ≠ h) (hq : ∀ q ∈ hs', q ≠ c ∧ q ≠ h) : PoAt C H1 p' c' h' cs' hs' rss' oss' m' := by
  obtain ⟨dx, ob⟩ := P'.ob
  have hpt : p' ≠ pt := fun z => by
    subst z
    rcases T with q | ⟨c, q, _⟩ <;> rw [ob] at q <;> cases q
  exact ⟨⟨dx, K _ _ ob hp (ne_of ob P.cm (by intro z; cases z)) (ne_of ob P.hp (by intro z; cases z)) hpt⟩, K.lst P T P'.cm cc ch, K.rows P T P'.rw, K.lst P T P'.hp hc hh, ⟨P'.ls.1, fun i q ns a b => K.lst P T (P'.ls.2 i q ns a b) (hq q (List.mem_of_getElem? a)).1 (hq q (List.mem_of_getElem? a)).2⟩, P'.sg, P'.ch, P'.cn, P'.hn⟩
def KB (B : List Addr) (H H' : Hp) : Prop := ∀ b u, H b = some u → b ∉ B → H' b = some u
theorem KB.same {B : List Addr} {H H1 H2 : Hp} (a : KB B H H1) (s : Same H1 H2) : KB B H H2 := fun b u e n => s _ _ (a b u e n)
theorem KB.kpp {B : List Addr} {p c h pt : Addr} {H H1 H2 : Hp} (a : KB B H H1) (K : Kpp p c h pt H1 H2) (hp : p ∈ B) (hc : c ∈ B) (hh : h ∈ B) (ht : pt ∈ B) : KB B H H2 := fun b u e n => K b u (a b u e n) (fun z => n (by rw [z]; exact hp)) (fun z => n (by rw [z]; exact hc)) (fun z => n (by rw [z]; exact hh)) (fun z => n (by rw [z]; exact ht))
def spLaw (K : PySem.W.Frag) (pt : Addr) : Sp := fun vs H Q _ => ∃ (a : Addr) (ns : List Int), vs = [.ref a] ∧ SqL K H a (ns.map V.int) ∧ ns.length ≤ 63 ∧ TabT pt H ∧ ∀ H', Q (.bl true) H'
theorem sum_ints (ns : List Nat) : (ns.map fun x : Nat => (x : Int)).sum = ((ns.sum : Nat) : Int) := sum_castN ns
theorem ok_law (T : Tx K mg t) : FnOk P w K mg t.bs CX0 6 t.f_law t.d_law ["_law_script"] (spLaw K t.pt) := by
  refine T.F_law.okQ sc_law (fun vs H Q E h => ?_) (fun cdv A outer s H vs Q E hr h => ?_)
  · obtain ⟨a, ns, rfl, _⟩ := h
    rfl
  · obtain ⟨a, ns, rfl, hS, hlen, hT, k⟩ := h
    refine ⟨_, (qb_cons (qs_for PassesOwn.never rfl (qi_range1 rfl T.z_range (qa_c (qe_op q_add qe_int (qe_callB (qc_min rfl) (by rfl) T.z_min bt_min (qa_c qe_int (qa_c (qe_callB (qc_len (K := K)) (by rfl) T.z_len bt_len (qa_c (qv 0) qa_nil)) qa_nil)))) qa_nil)) (qg_name (i := 1) sc_law.nd rfl (Or.inl rfl)) (qb_cons (qs_set (i := 2) sc_law.nd rfl (Or.inl rfl) (qe_call (ok_tape T) (hr.mono (by decide)) rfl T.m_tape T.F_tape.kp T.b_tape pass0 (qa_c (qv 0) (qa_c (qv 1) qa_nil))))
      (qb_cons (qs_set (i := 3) sc_law.nd rfl (Or.inl rfl) (qe_call (ok_pours T) (hr.mono (by decide)) rfl T.m_pours T.F_pours.kp T.b_pours pass0 (qa_c (qv 2) (qa_c qe_int qa_nil))))
      (qb_cons (qs_set (i := 4) sc_law.nd rfl (Or.inl rfl) (qe_call (ok_pours T) (hr.mono (by decide)) rfl T.m_pours T.F_pours.kp T.b_pours pass0 (qa_c (qv 2) (qa_c qe_int qa_nil))))
      (qb_cons (qs_set (i := 5) sc_law.nd rfl (Or.inl rfl) (qe_call (ok_rows T) (hr.mono (by decide)) rfl T.m_rows T.F_rows.kp T.b_rows pass0 (qa_c (qv 2) (qa_c (qe_callB (qc_sum (K := K) rfl) (by rfl) T.z_sum bt_sum (qa_c (qv 3) qa_nil)) (qa_c qe_int qa_nil)))))
      (qb_cons (qs_set (i := 6) sc_law.nd rfl (Or.inl rfl) (qe_call (ok_rows T) (hr.mono (by decide)) rfl T.m_rows T.F_rows.kp T.b_rows pass0 (qa_c (qv 2) (qa_c (qe_callB (qc_sum (K := K) rfl) (by rfl) T.z_sum bt_sum (qa_c (qv 4) qa_nil)) (qa_c qe_int qa_nil)))))
      (qb_cons (qs_par3 rfl sc_law.nd (i := 7) (j := 8) (k := 9) rfl rfl rfl rfl rfl rfl (qa_c (qe_make0 T.M_Pour___init__ (ok_Pour___init__ T) (hr.mono (by decide)) rfl T.mc_Pour T.b_Pour___init__ pass0 ) (qa_c (qe_make0 T.M_Pour___init__ (ok_Pour___init__ T) (hr.mono (by decide)) rfl T.mc_Pour T.b_Pour___init__ pass0 ) (qa_c (qe_make0 T.M_Pour___init__ (ok_Pour___init__ T) (hr.mono (by decide)) rfl T.mc_Pour T.b_Pour___init__ pass0 ) qa_nil))))
      (qb_one (qs_for PassesOwn.never rfl (qi_list (K := K) (qv 3)) (qg_name (i := 10) sc_law.nd rfl (Or.inl rfl)) (qb_cons (qs_if (qt_cmpR (q_neNil (K := K) hr.units0) (qv 4) (qe_lst qa_nil) (nomark _)) (qb_cons (qs_expr (qe_meth (qv 8) T.cl_Pour T.M_Pour_pour (ok_Pour_pour T) (hr.mono (by decide)) T.b_Pour_pour pass0 (qa_c (qe_slice (q_slL (K := K)) (qv 6) qo_none (qo_some (qe_ix (q_ixL (K := K)) (qv 4) qe_int))) qa_nil)))
      (qb_cons (qs_set (i := 6) sc_law.nd rfl (Or.inl rfl) (qe_slice (q_slL (K := K)) (qv 6) (qo_some (qe_ix (q_ixL (K := K)) (qv 4) qe_int)) qo_none))
      (qb_one (qs_set (i := 4) sc_law.nd rfl (Or.inl rfl) (qe_slice (q_slL (K := K)) (qv 4) (qo_some qe_int) qo_none))))) qb_nil)
      (qb_cons (qs_if (qt_cmpR q_ne (qe_call (ok_pour_spoilt T) (hr.mono (by decide)) rfl T.m_pour_spoilt T.F_pour_spoilt.kp T.b_pour_spoilt pass0 (qa_c (qv 7) (qa_c (qe_slice (q_slL (K := K)) (qv 5) qo_none (qo_some (qv 10))) qa_nil))) (qe_meth (qv 9) T.cl_Pour T.M_Pour_pour (ok_Pour_pour T) (hr.mono (by decide)) T.b_Pour_pour pass0 (qa_c (qe_slice (q_slL (K := K)) (qv 5) qo_none (qo_some (qv 10))) qa_nil)) (nomark _)) (qb_one (qs_ret qe_bl)) qb_nil)
      (qb_cons (qs_set (i := 5) sc_law.nd rfl (Or.inl rfl) (qe_slice (q_slL (K := K)) (qv 5) (qo_some (qv 10)) qo_none))
      (qb_cons (qs_expr (qe_call (ok_spoilt T) (hr.mono (by decide)) rfl T.m_spoilt T.F_spoilt.kp T.b_spoilt pass0 (qa_c (qv 7) qa_nil)))
      (qb_cons (qs_if (QW.qt (qw_or (qt_cmpR q_ne (qe_call (ok_seen T) (hr.mono (by decide)) rfl T.m_seen T.F_seen.kp T.b_seen pass0 (qa_c (qv 7) qa_nil)) (qe_call (ok_seen T) (hr.mono (by decide)) rfl T.m_seen T.F_seen.kp T.b_seen pass0 (qa_c (qv 9) qa_nil)) (nomark _)) (qw_or1 (qt_cmpR q_ne (qe_call (ok_seen T) (hr.mono (by decide)) rfl T.m_seen T.F_seen.kp T.b_seen pass0 (qa_c (qv 7) qa_nil)) (qe_call (ok_seen T) (hr.mono (by decide)) rfl T.m_seen T.F_seen.kp T.b_seen pass0 (qa_c (qv 7) qa_nil)) (nomark _))))) (qb_one (qs_ret qe_bl)) qb_nil)
      (qb_one (qs_if (QW.qt (qw_or (qt_not (qt_val (qe_call (ok_alone T) (hr.mono (by decide)) rfl T.m_alone T.F_alone.kp T.b_alone pass0 (qa_c (qv 7) qa_nil)))) (qw_or1 (qt_not (qt_val (qe_call (ok_alone T) (hr.mono (by decide)) rfl T.m_alone T.F_alone.kp T.b_alone pass0 (qa_c (qv 8) qa_nil))))))) (qb_one (qs_ret qe_bl)) qb_nil))))))))))))))))
      (qb_one (qs_ret qe_bl))), ?_⟩
    rw [show L2.start ["_law_script", "_law_k", "_law_tape_here", "_law_lengths", "_law_others", "_law_rows_here", "_law_other_rows", "_law_first", "_law_second", "_law_third", "_law_length"] [V.ref a] = [some (V.ref a), none, none, none, none, none, none, none, none, none, none] from rfl]
    walk_at "fs_rd"
    refine in_lenL hS ?_
    walk_at "fs_rd"
    have hml : (List.map V.int ns).length = ns.length := List.length_map ..
    refine ⟨_, rfl, by (repeat' split) <;> omega, by (repeat' split) <;> omega, for_range (fun i σ H' => SameX t.pt H H' ∧ TabT t.pt H' ∧ ∃ v1 v2 v3 v4 v5 v6 v7 v8 v9 v10, σ = [some (V.ref a), v1, v2, v3, v4, v5, v6, v7, v8, v9, v10]) ⟨SameX.refl _ _, hT, _, _, _, _, _, _, _, _, _, _, rfl⟩ ?_ ?_⟩
    · rintro i σ H' hi ⟨sm, T0, v1, v2, v3, v4, v5, v6, v7, v8, v9, v10, rfl⟩
      walk_at "fs_rd"
      refine ⟨a, ns, _, rfl, seq_sx hT sm hS, by omega, fun p H1 hp0 same T1 => ?_⟩
      have hpn : H p = none := sx_free sm T0 hp0
      walk_at "fs_rd"
      refine ⟨p, _, rfl, T1, fun l ls H2 hl tl hsum hll hlp S2 => ?_⟩
      walk_at "fs_rd"
      refine ⟨p, _, rfl, S2.tape, fun l2 ls2 H3 hl2 tl2 hsum2 hll2 hl2p S3 => ?_⟩
      have tl3 := S3.keep _ _ tl hlp
      walk_at "fs_rd"
      refine ⟨l, ls.map (fun x : Nat => (x : Int)), rfl, by rw [← NV_int]; exact SqL.of tl3, ?_⟩
      rw [sum_ints]
      walk_at "fs_rd"
      refine ⟨p, ls.sum, 10, rfl, S3.tape, hsum, by decide, by decide, fun rw ps rss w H4 hrw trw hR hrl hG hw hrp S4 => ?_⟩
      have tl4 := S4.keep _ _ tl3 hlp
      have tl24 := S4.keep _ _ tl2 hl2p
      walk_at "fs_rd"
      refine ⟨l2, ls2.map (fun x : Nat => (x : Int)), rfl, by rw [← NV_int]; exact SqL.of tl24, ?_⟩
      rw [sum_ints]
      walk_at "fs_rd"
      refine ⟨p, ls2.sum, 10, rfl, S4.tape, hsum2, by decide, by decide, fun rw2 ps2 rss2 w2 H5 hrw2 trw2 hR2 hrl2 hG2 hw2 hrp2 S5 => ?_⟩
      have S15 := ((S2.trans S3).trans S4).trans S5
      have tl5 := S5.keep _ _ tl4 hlp
      have tl25 := S5.keep _ _ tl24 hl2p
      have trw5 := S5.keep _ _ trw hrp
      have R5 := hR.st2 S4.tape S5
      have M5 : SameX t.pt H H5 := fun c u n e => S15.keep c u (same c u (sm c u n e)) (ne_of_none e hpn)
      have T5 := tab_st (T0.same same) T1 S15
      have hGd : ∀ r ∈ rss, r.length ≤ 120 ∧ ∀ x ∈ r, x < 1000 := fun r hr => ⟨by have := (hG r hr).1; omega, fun x hx => by have := (hG r hr).2 x hx; omega⟩
      have hGd2 : ∀ r ∈ rss2, r.length ≤ 120 ∧ ∀ x ∈ r, x < 1000 := fun r hr => ⟨by have := (hG2 r hr).1; omega, fun x hx => by have := (hG2 r hr).2 x hx; omega⟩
      have hpl : ps.length = rss.length := hR.1
      have hpl2 : ps2.length = rss2.length := hR2.1
      clear S2 S3 S4 S5 tl tl2 tl3 tl4 tl24 trw hR
      walk_at "fs_rd"
      intro o1 dx1 ho1 hdx1 hne1
      have sN1 : Same H5 (upd (upd H5 dx1 (.own o1)) o1 (.ins t.c_Pour dx1 [])) := fun b u e => by
        rw [upd_ne (ne_of_none e ho1), upd_ne (ne_of_none e hdx1)]; exact e
      refine ⟨o1, dx1, rfl, upd_same, fun c1 h1 H6 hc1 hh1 Q1 kp1 => ⟨rfl, ?_⟩⟩
      have m1 : Same H5 H6 := fun b u e => kp1 _ _ (sN1 _ _ e) (ne_of_none e ho1)
      have fc1 : H5 c1 = none := sN1.free hc1
      have fh1 : H5 h1 = none := sN1.free hh1
      obtain ⟨dy1, oq1⟩ := Q1.ob
      walk_at "fs_rd"
      intro o2 dx2 ho2 hdx2 hne2
      have sN2 : Same H6 (upd (upd H6 dx2 (.own o2)) o2 (.ins t.c_Pour dx2 [])) := fun b u e => by
        rw [upd_ne (ne_of_none e ho2), upd_ne (ne_of_none e hdx2)]; exact e
      refine ⟨o2, dx2, rfl, upd_same, fun c2 h2 H7 hc2 hh2 Q2 kp2 => ⟨rfl, ?_⟩⟩
      have m2 : Same H6 H7 := fun b u e => kp2 _ _ (sN2 _ _ e) (ne_of_none e ho2)
      have fc2 : H6 c2 = none := sN2.free hc2
      have fh2 : H6 h2 = none := sN2.free hh2
      obtain ⟨dy2, oq2⟩ := Q2.ob
      walk_at "fs_rd"
      intro o3 dx3 ho3 hdx3 hne3
      have sN3 : Same H7 (upd (upd H7 dx3 (.own o3)) o3 (.ins t.c_Pour dx3 [])) := fun b u e => by
        rw [upd_ne (ne_of_none e ho3), upd_ne (ne_of_none e hdx3)]; exact e
      refine ⟨o3, dx3, rfl, upd_same, fun c3 h3 H8 hc3 hh3 Q3 kp3 => ⟨rfl, ?_⟩⟩
      have m3 : Same H7 H8 := fun b u e => kp3 _ _ (sN3 _ _ e) (ne_of_none e ho3)
      have fc3 : H7 c3 = none := sN3.free hc3
      have fh3 : H7 h3 = none := sN3.free hh3
      obtain ⟨dy3, oq3⟩ := Q3.ob
      walk_at "fs_rd"
      refine ⟨_, _, _, rfl, ?_⟩
      have s58 := (m1.trans m2).trans m3
      have s68 := m2.trans m3
      have P1 := Q1.same s68
      have P2 := Q2.same m3
      have P3 := Q3
      have T8 := T5.same s58
      have d12 : o2 ≠ o1 := fun e => by rw [e, oq1] at ho2; cases ho2
      have d13 : o3 ≠ o1 := fun e => by rw [e, m2 _ _ oq1] at ho3; cases ho3
      have d23 : o3 ≠ o2 := fun e => by rw [e, oq2] at ho3; cases ho3
      have a1 : c2 ≠ c1 := fun e => by rw [e, Q1.cm] at fc2; cases fc2
      have a2 : c2 ≠ h1 := fun e => by rw [e, Q1.hp] at fc2; cases fc2
      have a3 : h2 ≠ c1 := fun e => by rw [e, Q1.cm] at fh2; cases fh2
      have a4 : h2 ≠ h1 := fun e => by rw [e, Q1.hp] at fh2; cases fh2
      have b1 : c3 ≠ c1 := fun e => by rw [e, m2 _ _ Q1.cm] at fc3; cases fc3
      have b2 : c3 ≠ h1 := fun e => by rw [e, m2 _ _ Q1.hp] at fc3; cases fc3
      have b3 : h3 ≠ c1 := fun e => by rw [e, m2 _ _ Q1.cm] at fh3; cases fh3
      have b4 : h3 ≠ h1 := fun e => by rw [e, m2 _ _ Q1.hp] at fh3; cases fh3
      have e1 : c3 ≠ c2 := fun e => by rw [e, Q2.cm] at fc3; cases fc3
      have e2 : c3 ≠ h2 := fun e => by rw [e, Q2.hp] at fc3; cases fc3
      have e3 : h3 ≠ c2 := fun e => by rw [e, Q2.cm] at fh3; cases fh3
      have e4 : h3 ≠ h2 := fun e => by rw [e, Q2.hp] at fh3; cases fh3
      obtain ⟨B, hB⟩ : ∃ B : List Addr, B = [o1, c1, h1, o2, c2, h2, o3, c3, h3, t.pt] := ⟨_, rfl⟩
      have old : ∀ {x : Addr} {xs : List V}, H5 x = some (.lst xs) → x ∉ B := fun {x xs} e hm => by
        have e6 := m1 _ _ e
        have e7 := m2 _ _ e6
        rw [hB] at hm
        simp only [List.mem_cons, List.not_mem_nil, or_false] at hm
        rcases hm with z | z | z | z | z | z | z | z | z | z
        · rw [z, ho1] at e; cases e
        · rw [z, fc1] at e; cases e
        · rw [z, fh1] at e; cases e
        · rw [z, ho2] at e6; cases e6
        · rw [z, fc2] at e6; cases e6
        · rw [z, fh2] at e6; cases e6
        · rw [z, ho3] at e7; cases e7
        · rw [z, fc3] at e7; cases e7
        · rw [z, fh3] at e7; cases e7
        · exact T5.ne e z
      have i1 : o1 ∈ B ∧ c1 ∈ B ∧ h1 ∈ B := by rw [hB]; simp
      have i2 : o2 ∈ B ∧ c2 ∈ B ∧ h2 ∈ B := by rw [hB]; simp
      have i3 : o3 ∈ B ∧ c3 ∈ B ∧ h3 ∈ B := by rw [hB]; simp
      have it : t.pt ∈ B := by rw [hB]; simp
      have fresh : ∀ {HX : Hp} {ca ha cb hb cc hc : List Addr} {ra oa rb ob rc oc : List (List Nat)} {ma mb mc : Nat}, PoAt t.c_Pour HX o1 c1 h1 ca ha ra oa ma → PoAt t.c_Pour HX o2 c2 h2 cb hb rb ob mb → PoAt t.c_Pour HX o3 c3 h3 cc hc rc oc mc → TabT t.pt HX → ∀ {x : Addr}, HX x = none → x ∉ B := fun {HX ca ha cb hb cc hc ra oa rb ob rc oc ma mb mc} X1 X2 X3 TX {x} e hm => by
        obtain ⟨_, y1⟩ := X1.ob
        obtain ⟨_, y2⟩ := X2.ob
        obtain ⟨_, y3⟩ := X3.ob
        rw [hB] at hm
        simp only [List.mem_cons, List.not_mem_nil, or_false] at hm
        rcases hm with z | z | z | z | z | z | z | z | z | z
        · rw [z, y1] at e; cases e
        · rw [z, X1.cm] at e; cases e
        · rw [z, X1.hp] at e; cases e
        · rw [z, y2] at e; cases e
        · rw [z, X2.cm] at e; cases e
        · rw [z, X2.hp] at e; cases e
        · rw [z, y3] at e; cases e
        · rw [z, X3.cm] at e; cases e
        · rw [z, X3.hp] at e; cases e
        · rcases TX with q | ⟨_, q, _⟩ <;> rw [← z, e] at q <;> cases q
      have ne : ∀ {x : Addr}, x ∉ B → (x ≠ c1 ∧ x ≠ h1) ∧ (x ≠ c2 ∧ x ≠ h2) ∧ (x ≠ c3 ∧ x ≠ h3) := fun {x} hx => ⟨⟨fun e => hx (by rw [e]; exact i1.2.1), fun e => hx (by rw [e]; exact i1.2.2)⟩, ⟨fun e => hx (by rw [e]; exact i2.2.1), fun e => hx (by rw [e]; exact i2.2.2)⟩, ⟨fun e => hx (by rw [e]; exact i3.2.1), fun e => hx (by rw [e]; exact i3.2.2)⟩⟩
      have rowsB : ∀ {HX : Hp} {qs : List Addr} {qss : List (List Nat)}, KB B H8 HX → RowsT H8 qs qss → RowsT HX qs qss := fun {HX qs qss} kb R => ⟨R.1, fun j q r x1 x2 => kb _ _ (R.2 j q r x1 x2) (fun hm => by
        have z := R.2 j q r x1 x2
        obtain ⟨_, y1⟩ := P1.ob
        obtain ⟨_, y2⟩ := P2.ob
        obtain ⟨_, y3⟩ := P3.ob
        rw [hB] at hm
        simp only [List.mem_cons, List.not_mem_nil, or_false] at hm
        rcases hm with y | y | y | y | y | y | y | y | y | y
        · exact ne_of z y1 (by intro v; cases v) y
        · exact ne_of z P1.cm (by intro v; cases v) y
        · exact ne_of z P1.hp (by intro v; cases v) y
        · exact ne_of z y2 (by intro v; cases v) y
        · exact ne_of z P2.cm (by intro v; cases v) y
        · exact ne_of z P2.hp (by intro v; cases v) y
        · exact ne_of z y3 (by intro v; cases v) y
        · exact ne_of z P3.cm (by intro v; cases v) y
        · exact ne_of z P3.hp (by intro v; cases v) y
        · exact T8.neT z y)⟩
      have R8 := R5.same s58
      have R28 := hR2.same s58
      have tl8 := s58 _ _ tl5
      have lB := old tl5
      have l2B := old tl25
      have rwB := old trw5
      have rw2B := old trw2
      clear Q1 Q2 Q3 kp1 kp2 kp3 sN1 sN2 sN3
      walk_at "fs_rd"
      refine ⟨l, rfl, ⟨_, SqL.of tl8⟩, for_list (a := l) (xs := NV ls) (fun j σ H' => KB B H8 H' ∧ TabT t.pt H' ∧ (∃ (cs1 hs1 cs2 hs2 cs3 hs3 : List Addr) (oss1 oss2 oss3 : List (List Nat)) (mv mv2 : Nat) (ot orr rh : Addr), PoAt t.c_Pour H' o1 c1 h1 cs1 hs1 (rss.take (ls.take j).sum) oss1 mv ∧ PoAt t.c_Pour H' o2 c2 h2 cs2 hs2 (rss2.take (ls2.take j).sum) oss2 mv2 ∧ PoAt t.c_Pour H' o3 c3 h3 cs3 hs3 (rss.take (ls.take j).sum) oss3 mv ∧
          oss1.map List.length = oss3.map List.length ∧ oss1.length ≤ j ∧ oss2.length ≤ j ∧ mv ≤ j * 30000 ∧ mv2 ≤ j * 30000 ∧ (∀ q ∈ hs1, q ∉ [c2, h2, c3, h3]) ∧ (∀ q ∈ hs2, q ∉ [c1, h1, c3, h3]) ∧ (∀ q ∈ hs3, q ∉ [c1, h1, c2, h2]) ∧
          H' ot = some (.lst (NV (ls2.drop j))) ∧ ot ∉ B ∧ H' orr = some (.lst ((ps2.drop (ls2.take j).sum).map V.ref)) ∧ orr ∉ B ∧ H' rh = some (.lst ((ps.drop (ls.take j).sum).map V.ref)) ∧ rh ∉ B ∧
          ∃ v10, σ = [some (V.ref a), some (V.int (0 + (i : Int))), some (V.ref p), some (V.ref l), some (V.ref ot), some (V.ref rh), some (V.ref orr), some (V.ref o1), some (V.ref o2), some (V.ref o3), v10])) ⟨fun b u e _ => e, T8, [], [], [], [], [], [], [], [], [], 0, 0, l2, rw2, rw, P1, P2, P3, rfl, Nat.le_refl _, Nat.le_refl _, Nat.le_refl _, Nat.le_refl _, (fun q h => nomatch h), (fun q h => nomatch h), (fun q h => nomatch h), s58 _ _ tl25, l2B, s58 _ _ trw2, rw2B, s58 _ _ trw5, rwB, _, rfl⟩ (fun j σ H' _ h => SqL.of (h.1 _ _ tl8 lB)) ?_ ?_⟩
      · rintro j x σ H9 hx ⟨K9, T9, cs1, hs1, cs2, hs2, cs3, hs3, oss1, oss2, oss3, mv, mv2, ot, orr, rh, P1, P2, P3, hlen, hol1, hol2, hmv, hmv2, z1, z2, z3, tot, otB, torr, orB, trh, rhB, v10, rfl⟩
        obtain ⟨n, rfl, hn, _, hj⟩ := map_get hx
        have hsn := sum_take_succ hn
        have hsl := sum_take_le ls (j + 1)
        have hj12 : j < 12 := by omega
        generalize hs0 : (ls.take j).sum = s at *
        rw [hsn] at hsl
        walk_at "fs_rd"
        apply via3 (α := Addr) (β := Addr) (S := fun ot' orr' H' => KB B H8 H' ∧ TabT t.pt H' ∧ PoAt t.c_Pour H' o1 c1 h1 cs1 hs1 (rss.take s) oss1 mv ∧ PoAt t.c_Pour H' o3 c3 h3 cs3 hs3 (rss.take s) oss3 mv ∧ (∃ (cs2' hs2' : List Addr) (oss2' : List (List Nat)) (mv2' : Nat), PoAt t.c_Pour H' o2 c2 h2 cs2' hs2' (rss2.take (ls2.take (j + 1)).sum) oss2' mv2' ∧ oss2'.length ≤ j + 1 ∧ mv2' ≤ (j + 1) * 30000 ∧ ∀ q ∈ hs2', q ∉ [c1, h1, c3, h3]) ∧ H' ot' = some (.lst (NV (ls2.drop (j + 1)))) ∧ ot' ∉ B ∧ H' orr' = some (.lst ((ps2.drop (ls2.take (j + 1)).sum).map V.ref)) ∧ orr' ∉ B ∧ H' rh = some (.lst ((ps.drop s).map V.ref)))
        case hA =>
          intro key
          refine ⟨three (by simp), fun em hem => ?_⟩
          have s10 := (Same.refl H9).new (o := .lst []) hem
          have tem : (upd H9 em (.lst [])) em = some (.lst []) := upd_same
          generalize upd H9 em (.lst []) = H10 at s10 tem
          have P1a := P1.same s10
          have P2a := P2.same s10
          have P3a := P3.same s10
          have Ta := T9.same s10
          have Ka := K9.same s10
          have tota := s10 _ _ tot
          have torra := s10 _ _ torr
          have trha := s10 _ _ trh
          walk_at "fs_rd"
          refine ⟨ot, em, NV (ls2.drop j), rfl, rfl, SqL.of tota, SqL.of tem, ?_⟩
          walk_at "fs_rd"
          by_cases hne : NV (ls2.drop j) = []
          rotate_left
          · rw [decide_eq_false hne]
            have hj2 : j < ls2.length := by
              apply Classical.byContradiction
              intro z
              exact hne (by rw [List.drop_eq_nil_of_le (by omega)]; rfl)
            have hn2 : ls2[j]? = some ls2[j] := by simp [hj2]
            have hdr : ls2.drop j = ls2[j] :: ls2.drop (j + 1) := List.drop_eq_getElem_cons hj2
            generalize ls2[j] = n2 at hn2 hdr
            have hs2n := sum_take_succ hn2
            have hsl2 := sum_take_le ls2 (j + 1)
            have P2a' := P2a
            have torra' := torra
            clear P2a torra
            obtain ⟨q2, hs20⟩ : ∃ q, q = (ls2.take j).sum := ⟨_, rfl⟩
            rw [← hs20] at P2a' torra' hs2n
            have P2a := P2a'
            have torra := torra'
            clear P2a' torra'
            rw [hs2n] at hsl2
            have e0 : (NV (ls2.drop j))[0]? = some (V.int (n2 : Nat)) := by rw [hdr]; rfl
            obtain ⟨dx2, ob2⟩ := P2a.ob
            walk_at "fs_rd"
            refine ⟨o2, dx2, _, rfl, ob2, pourF_no _ _ _ (by decide +kernel) (by decide +kernel) (by decide +kernel), ?_⟩
            walk_at "fs_rd"
            refine in_ix (SqL.of tota) (v := V.int (n2 : Nat)) (atI_nat (j := 0) e0) ?_
            refine ⟨_, rfl, ?_⟩
            refine in_slLA torra fun x1 H11 hx1 s11 tx1 => ?_
            rw [cut_takeV _ _ (by rw [List.length_map, List.length_drop]; omega), ← List.map_take] at tx1
            have x1B := fresh P1a P2a P3a Ta hx1
            have P2b := P2a.same s11
            have Tb := Ta.same s11
            have Rb := rt_take (rt_drop (rowsB (Ka.same s11) R28) q2) n2
            have hqr : ((rss2.drop q2).take n2).length = n2 := by rw [List.length_take, List.length_drop]; omega
            have hsum2' := P2b.sg.sum
            rw [List.length_take] at hsum2'
            have hrm : (rmrg (oss2.map List.length ++ [((rss2.drop q2).take n2).length]).reverse 0).2 ≤ 30000 := rm_bound (by omega) (by rw [hqr]; omega)
            walk_at "fs_rd"
            refine ⟨o2, x1, c2, h2, cs2, hs2, (ps2.drop q2).take n2, rss2.take q2, oss2, (rss2.drop q2).take n2, mv2, w2, rfl, P2b, ⟨tx1, trivial⟩, Rb.toU, fun r hr => (hG2 r (List.mem_of_mem_drop (List.mem_of_mem_take hr))).1, by rw [hqr, List.length_take]; omega, by omega, (ne x1B).2.1.1, (ne x1B).2.1.2, tup_ne P2b Rb, Tb, fun cs' hs' oss' H12 P12 e12 F12 K12 T12 => ?_⟩
            have erss : rss2.take q2 ++ (rss2.drop q2).take n2 = rss2.take (q2 + n2) := by rw [List.take_add]
            rw [erss] at P12
            have hl12 := rm_length e12
            have P1c := PoAt.other K12 P2b Tb (P1a.same s11) (fun e => d12 e.symm) (fun e => a1 e.symm) (fun e => a3 e.symm) (fun e => a2 e.symm) (fun e => a4 e.symm) (fun q hq => by have := z1 q hq; simp at this; exact ⟨this.1, this.2.1⟩)
            have P3c := PoAt.other K12 P2b Tb (P3a.same s11) d23 e1 e2 e3 e4 (fun q hq => by have := z3 q hq; simp at this; exact ⟨this.2.2.1, this.2.2.2⟩)
            have K12' := (Ka.same s11).kpp K12 i2.1 i2.2.1 i2.2.2 it
            have tot12 := K12.lst P2b Tb (s11 _ _ tota) (ne otB).2.1.1 (ne otB).2.1.2
            have torr12 := K12.lst P2b Tb (s11 _ _ torra) (ne orB).2.1.1 (ne orB).2.1.2
            have trh12 := K12.lst P2b Tb (s11 _ _ trha) (ne rhB).2.1.1 (ne rhB).2.1.2
            have z12 : ∀ q ∈ hs', q ∉ [c1, h1, c3, h3] := fun q hq => by
              rcases F12 q hq with g | g
              · exact z2 q g
              · have f := ne (fresh (P1a.same s11) P2b (P3a.same s11) Tb g)
                simp
                exact ⟨f.1.1, f.1.2, f.2.2.1, f.2.2.2⟩
            walk_at "fs_rd"
            refine in_ix (SqL.of tot12) (v := V.int (n2 : Nat)) (atI_nat (j := 0) e0) ?_
            refine ⟨_, rfl, ?_⟩
            walk_at "fs_rd"
            refine in_slLA torr12 fun or2 H13 hor2 s13 tor2 => ?_
            rw [cut_dropV _ _ (by rw [List.length_map, List.length_drop]; omega), ← List.map_drop, List.drop_drop] at tor2
            have or2B := fresh P1c P12 P3c T12 hor2
            walk_at "fs_rd"
            refine ⟨_, rfl, ?_⟩
            walk_at "fs_rd"
            refine in_slLA (s13 _ _ tot12) fun ot2 H14 hot2 s14 tot2 => ?_
            rw [cut_drop1 _ (by rw [hdr]; simp), List.drop_drop] at tot2
            have ot2B := fresh (P1c.same s13) (P12.same s13) (P3c.same s13) (T12.same s13) hot2
            have s134 := s13.trans s14
            walk_at "fs_rd"
            exact key ot2 or2 H14 ⟨K12'.same s134, T12.same s134, P1c.same s134, P3c.same s134, ⟨cs', hs', oss', _, by rw [hs2n]; exact P12.same s134, by omega, by omega, z12⟩, tot2, ot2B, by rw [hs2n]; exact s14 _ _ tor2, or2B, s134 _ _ trh12⟩
          · rw [decide_eq_true hne]
            have hnil : ls2.drop j = [] := by
              have := congrArg List.length hne
              rw [NV_len] at this
              exact List.length_eq_zero_iff.mp this
            have hj2 : ls2.length ≤ j := by have := congrArg List.length hnil; rw [List.length_drop] at this; simp at this; omega
            have et : ls2.take (j + 1) = ls2.take j := by rw [List.take_of_length_le (by omega), List.take_of_length_le hj2]
            have ed : ls2.drop (j + 1) = ls2.drop j := by rw [hnil, List.drop_eq_nil_of_le (by omega)]
            walk_at "fs_rd"
            exact key ot orr H10 ⟨Ka, Ta, P1a, P3a, ⟨cs2, hs2, oss2, mv2, by rw [et]; exact P2a, by omega, by omega, z2⟩, by rw [ed]; exact tota, otB, by rw [et]; exact torra, orB, trha⟩
        case hB =>
          rintro ot' orr' HA ⟨KA, TA, P1, P3, ⟨cs2', hs2', oss2', mv2', P2, hol2', hmv2', z2'⟩, tot', ot'B, torr', orr'B, trhA⟩
          have hqr : ((rss.drop s).take n).length = n := by rw [List.length_take, List.length_drop]; omega
          have erss : rss.take s ++ (rss.drop s).take n = rss.take (s + n) := by rw [List.take_add]
          have hwid : ∀ r ∈ (rss.drop s).take n, r.length = w := fun r hr => (hG r (List.mem_of_mem_drop (List.mem_of_mem_take hr))).1
          walk_at "fs_rd"
          refine ⟨_, rfl, ?_⟩
          refine in_slLA trhA fun x1 HB hx1 sB tx1 => ?_
          rw [cut_takeV _ _ (by rw [List.length_map, List.length_drop]; omega), ← List.map_take] at tx1
          have P1B := P1.same sB
          have P2B := P2.same sB
          have P3B := P3.same sB
          have TB := TA.same sB
          have KB' := KA.same sB
          have RB := rt_take (rt_drop (rowsB KB' R8) s) n
          have hsum1 := P1B.sg.sum
          rw [List.length_take] at hsum1
          have hrm : (rmrg (oss1.map List.length ++ [((rss.drop s).take n).length]).reverse 0).2 ≤ 30000 := rm_bound (by omega) (by rw [hqr]; omega)
          walk_at "fs_rd"
          refine ⟨o1, x1, c1, h1, cs1, hs1, (ps.drop s).take n, rss.take s, oss1, (rss.drop s).take n, mv, w, rfl, P1B, tx1, RB, hwid, hw, by rw [hqr, List.length_take]; omega, by omega, TB, fun cs1' hs1' oss1' HC P1C eC FC KC TC => ?_⟩
          rw [erss] at P1C
          have hl1 := rm_length eC
          have P2C := PoAt.other KC P1B TB P2B d12 a1 a2 a3 a4 (fun q hq => by have := z2' q hq; simp at this; exact ⟨this.1, this.2.1⟩)
          have P3C := PoAt.other KC P1B TB P3B d13 b1 b2 b3 b4 (fun q hq => by have := z3 q hq; simp at this; exact ⟨this.1, this.2.1⟩)
          have KC' := KB'.kpp KC i1.1 i1.2.1 i1.2.2 it
          have z1C : ∀ q ∈ hs1', q ∉ [c2, h2, c3, h3] := fun q hq => by
            rcases FC q hq with g | g
            · exact z1 q g
            · have f := ne (fresh P1B P2B P3B TB g)
              simp
              exact ⟨f.2.1.1, f.2.1.2, f.2.2.1, f.2.2.2⟩
          have totC := KC.lst P1B TB (sB _ _ tot') (ne ot'B).1.1 (ne ot'B).1.2
          have torrC := KC.lst P1B TB (sB _ _ torr') (ne orr'B).1.1 (ne orr'B).1.2
          have trhC := KC.lst P1B TB (sB _ _ trhA) (ne rhB).1.1 (ne rhB).1.2
          obtain ⟨dx3, ob3⟩ := P3C.ob
          walk_at "fs_rd"
          refine ⟨o3, dx3, _, rfl, ob3, pourF_no _ _ _ (by decide +kernel) (by decide +kernel) (by decide +kernel), ?_⟩
          walk_at "fs_rd"
          refine ⟨_, rfl, ?_⟩
          refine in_slLA trhC fun x2 HD hx2 sD tx2 => ?_
          rw [cut_takeV _ _ (by rw [List.length_map, List.length_drop]; omega), ← List.map_take] at tx2
          have x2B := fresh P1C P2C P3C TC hx2
          have P3D := P3C.same sD
          have TD := TC.same sD
          have RD' := rt_take (rt_drop (rowsB (KC'.same sD) R8) s) n
          have hol3 : oss3.length ≤ j := by have := congrArg List.length hlen; simp at this; omega
          walk_at "fs_rd"
          refine ⟨o3, x2, c3, h3, cs3, hs3, (ps.drop s).take n, rss.take s, oss3, (rss.drop s).take n, mv, w, rfl, P3D, ⟨tx2, trivial⟩, RD'.toU, hwid, by rw [hqr, List.length_take]; omega, by omega, (ne x2B).2.2.1, (ne x2B).2.2.2, tup_ne P3D RD', TD, fun cs3' hs3' oss3' HE P3E eE FE KE TE => ?_⟩
          rw [erss, ← hlen] at P3E
          rw [← hlen] at eE
          rw [← hlen]
          generalize hmr : rmrg (oss1.map List.length ++ [((rss.drop s).take n).length]).reverse 0 = mr at P1C eC P3E eE hrm ⊢
          have P1E := PoAt.other KE P3D TD (P1C.same sD) (fun e => d13 e.symm) (fun e => b1 e.symm) (fun e => b3 e.symm) (fun e => b2 e.symm) (fun e => b4 e.symm) (fun q hq => by have := z1C q hq; simp at this; exact ⟨this.2.2.1, this.2.2.2⟩)
          have P2E := PoAt.other KE P3D TD (P2C.same sD) (fun e => d23 e.symm) (fun e => e1 e.symm) (fun e => e3 e.symm) (fun e => e2 e.symm) (fun e => e4 e.symm) (fun q hq => by have := z2' q hq; simp at this; exact ⟨this.2.2.1, this.2.2.2⟩)
          have KE' := (KC'.same sD).kpp KE i3.1 i3.2.1 i3.2.2 it
          have z3E : ∀ q ∈ hs3', q ∉ [c1, h1, c2, h2] := fun q hq => by
            rcases FE q hq with g | g
            · exact z3 q g
            · have f := ne (fresh (P1C.same sD) (P2C.same sD) P3D TD g)
              simp
              exact ⟨f.1.1, f.1.2, f.2.1.1, f.2.1.2⟩
          have totE := KE.lst P3D TD (sD _ _ totC) (ne ot'B).2.2.1 (ne ot'B).2.2.2
          have torrE := KE.lst P3D TD (sD _ _ torrC) (ne orr'B).2.2.1 (ne orr'B).2.2.2
          have trhE := KE.lst P3D TD (sD _ _ trhC) (ne rhB).2.2.1 (ne rhB).2.2.2
          have hl3 : oss3'.length ≤ oss1'.length := by
            have := congrArg List.length (eC.trans eE.symm)
            simp at this; omega
          have hlens : oss1'.map List.length = oss3'.map List.length := List.reverse_inj.mp (eC.trans eE.symm)
          have hsnl : (rss.take (s + n)).length ≤ 200 := by rw [List.length_take]; omega
          have ok1 : Ok42 (rss.take (s + n)) oss1' (mv + mr.2) := ⟨fun r hr => hGd r (List.mem_of_mem_take hr), hsnl, by omega, by omega⟩
          have ok3 : Ok42 (rss.take (s + n)) oss3' (mv + mr.2) := ⟨fun r hr => hGd r (List.mem_of_mem_take hr), hsnl, by omega, by omega⟩
          have ok2 : Ok42 (rss2.take (ls2.take (j + 1)).sum) oss2' mv2' := ⟨fun r hr => hGd2 r (List.mem_of_mem_take hr), by rw [List.length_take]; omega, by omega, by omega⟩
          walk_at "fs_rd"
          rw [decide_eq_true rfl]
          walk_at "fs_rd"
          refine ⟨_, rfl, ?_⟩
          walk_at "fs_rd"
          refine in_slLA trhE fun rh2 HF hrh2 sF trh2 => ?_
          rw [cut_dropV _ _ (by rw [List.length_map, List.length_drop]; omega), ← List.map_drop, List.drop_drop] at trh2
          have rh2B := fresh P1E P2E P3E TE hrh2
          walk_at "fs_rd"
          refine ⟨o1, c1, h1, _, _, _, _, _, rfl, P1E.same sF, ok1, fun HG sG => ?_⟩
          have sEG := sF.trans sG
          walk_at "fs_rd"
          refine ⟨o1, c1, h1, _, _, _, _, _, rfl, P1E.same sEG, ok1, fun osA HH hpA hsA sH => ?_⟩
          have sEH := sEG.trans sH
          walk_at "fs_rd"
          refine ⟨o3, c3, h3, _, _, _, _, _, rfl, P3E.same sEH, ok3, fun osB HI hpB hsB sI => ?_⟩
          have eAB : osB = osA := sorted_one (fun i j a b => Rk.asymm a b) (hpB.trans hpA.symm) hsB hsA
          subst eAB
          have sEI := sEH.trans sI
          rw [← hlens]
          walk_at "fs_rd"
          refine in_neS ?_
          walk_at "fs_rd"
          rw [decide_eq_true rfl]
          walk_at "fs_rd"
          refine ⟨o1, c1, h1, _, _, _, _, _, rfl, P1E.same sEI, ok1, fun osC HJ hpC hsC sJ => ?_⟩
          have sEJ := sEI.trans sJ
          walk_at "fs_rd"
          refine ⟨o1, c1, h1, _, _, _, _, _, rfl, P1E.same sEJ, ok1, fun osD HK hpD hsD sK => ?_⟩
          have eCD : osD = osC := sorted_one (fun i j a b => Rk.asymm a b) (hpD.trans hpC.symm) hsD hsC
          subst eCD
          have sEK := sEJ.trans sK
          walk_at "fs_rd"
          refine in_neS ?_
          walk_at "fs_rd"
          rw [decide_eq_true rfl]
          walk_at "fs_rd"
          refine ⟨o1, c1, h1, _, _, _, _, _, rfl, P1E.same sEK, ok1, fun HL sL => ?_⟩
          have sEL := sEK.trans sL
          walk_at "fs_rd"
          refine ⟨o2, c2, h2, _, _, _, _, _, rfl, P2E.same sEL, ok2, fun HM sM => ?_⟩
          have sEM := sEL.trans sM
          walk_at "fs_rd"
          refine ⟨KE'.same sEM, TE.same sEM, cs1', hs1', cs2', hs2', cs3', hs3', oss1', oss2', oss3', mv + mr.2, mv2', ot', orr', rh2, by rw [hsn]; exact P1E.same sEM, P2E.same sEM, by rw [hsn]; exact P3E.same sEM, hlens, by omega, hol2', by omega, hmv2', z1C, z2', z3E, sEM _ _ totE, ot'B, sEM _ _ torrE, orr'B, by rw [hsn]; exact (((((sG.trans sH).trans sI).trans sJ).trans sK).trans (sL.trans sM)) _ _ trh2, rh2B, _, rfl⟩
      · rintro σ H9 ⟨K9, T9, cs1, hs1, cs2, hs2, cs3, hs3, oss1, oss2, oss3, mv, mv2, ot, orr, rh, P1, P2, P3, hlen, hol1, hol2, hmv, hmv2, z1, z2, z3, tot, otB, torr, orB, trh, rhB, v10, rfl⟩
        walk_at "fs_rd"
        refine ⟨fun b u n e => K9 b u (s58 _ _ (M5 b u n e)) (fun hm => ?_), T9, _, _, _, _, _, _, _, _, _, _, rfl⟩
        have g5 := M5 b u n e
        have g6 := m1 _ _ g5
        have g7 := m2 _ _ g6
        rw [hB] at hm
        simp only [List.mem_cons, List.not_mem_nil, or_false] at hm
        rcases hm with z | z | z | z | z | z | z | z | z | z
        · rw [z, ho1] at g5; cases g5
        · rw [z, fc1] at g5; cases g5
        · rw [z, fh1] at g5; cases g5
        · rw [z, ho2] at g6; cases g6
        · rw [z, fc2] at g6; cases g6
        · rw [z, fh2] at g6; cases g6
        · rw [z, ho3] at g7; cases g7
        · rw [z, fc3] at g7; cases g7
        · rw [z, fh3] at g7; cases g7
        · exact n z
    · rintro σ H' ⟨sm, T0, v1, v2, v3, v4, v5, v6, v7, v8, v9, v10, rfl⟩
      walk_at "fs_rd"
      exact k _

end
theorem all_mk {l : PySem.W.OpenLaw} {w : World} {K : PySem.W.Frag} {h : Heap} {mg : Str → Option Value} {fa f0 f1 f2 f3 f4 f5 f6 f7 f8 f9 f10 f11 f12 f13 f14 f15 f16 f17 f18 f19 c_Pour : Addr} (X : K.In h) (G : h.Ns mainGlobals mg) (hfa : mg "law" = some (.ref fa))
    {oc0 kV0 dc0 pm0 cd0 ct0 : Value} {od0 an0 : Option Addr} {sl0 : Array (Option Value)}
    (a0 : PySem.W.nsIn K mainGlobals "told_order" = some (some (.ref f0)))
    (l0 : K.lookup f0 = some ⟨oc0, od0, .func (PySem.W.fnOf "told_order" "told_order" (defArgs s_told_order) (defBody s_told_order) (defScope s_told_order) .none kV0 dc0 pm0 an0 cd0 ct0), sl0⟩) (c0 : PySem.W.codeIn K cd0 "told_order" = true) (k0 : PySem.W.keepIn K (.ref f0) = true)
    {oc1 kV1 dc1 pm1 cd1 ct1 : Value} {od1 an1 : Option Addr} {sl1 : Array (Option Value)}
    (a1 : PySem.W.nsIn K mainGlobals "merged" = some (some (.ref f1)))
    (l1 : K.lookup f1 = some ⟨oc1, od1, .func (PySem.W.fnOf "merged" "merged" (defArgs s_merged) (defBody s_merged) (defScope s_merged) .none kV1 dc1 pm1 an1 cd1 ct1), sl1⟩) (c1 : PySem.W.codeIn K cd1 "merged" = true) (k1 : PySem.W.keepIn K (.ref f1) = true)
    {oc2 kV2 dc2 pm2 cd2 ct2 : Value} {od2 an2 : Option Addr} {sl2 : Array (Option Value)}
    (a2 : PySem.W.nsIn K mainGlobals "merged_places" = some (some (.ref f2)))
    (l2 : K.lookup f2 = some ⟨oc2, od2, .func (PySem.W.fnOf "merged_places" "merged_places" (defArgs s_merged_places) (defBody s_merged_places) (defScope s_merged_places) .none kV2 dc2 pm2 an2 cd2 ct2), sl2⟩) (c2 : PySem.W.codeIn K cd2 "merged_places" = true) (k2 : PySem.W.keepIn K (.ref f2) = true)
    {oc3 kV3 dc3 pm3 cd3 ct3 : Value} {od3 an3 : Option Addr} {sl3 : Array (Option Value)}
    (a3 : PySem.W.nsIn K mainGlobals "is_due" = some (some (.ref f3)))
    (l3 : K.lookup f3 = some ⟨oc3, od3, .func (PySem.W.fnOf "is_due" "is_due" (defArgs s_is_due) (defBody s_is_due) (defScope s_is_due) .none kV3 dc3 pm3 an3 cd3 ct3), sl3⟩) (c3 : PySem.W.codeIn K cd3 "is_due" = true) (k3 : PySem.W.keepIn K (.ref f3) = true)
    {oc4 kV4 dc4 pm4 cd4 ct4 : Value} {od4 an4 : Option Addr} {sl4 : Array (Option Value)}
    (a4 : PySem.W.findIn K (.ref c_Pour) "__init__" = some (some (.ref f4))) (i4 : PySem.W.isFn K (.ref f4) = true)
    (l4 : K.lookup f4 = some ⟨oc4, od4, .func (PySem.W.fnOf "__init__" "Pour.__init__" (defArgs s_Pour___init__) (defBody s_Pour___init__) (defScope s_Pour___init__) .none kV4 dc4 pm4 an4 cd4 ct4), sl4⟩) (c4 : PySem.W.codeIn K cd4 "Pour.__init__" = true) (k4 : PySem.W.keepIn K (.ref f4) = true)
    {oc5 kV5 dc5 pm5 cd5 ct5 : Value} {od5 an5 : Option Addr} {sl5 : Array (Option Value)}
    (a5 : PySem.W.findIn K (.ref c_Pour) "pour" = some (some (.ref f5))) (i5 : PySem.W.isFn K (.ref f5) = true)
    (l5 : K.lookup f5 = some ⟨oc5, od5, .func (PySem.W.fnOf "pour" "Pour.pour" (defArgs s_Pour_pour) (defBody s_Pour_pour) (defScope s_Pour_pour) .none kV5 dc5 pm5 an5 cd5 ct5), sl5⟩) (c5 : PySem.W.codeIn K cd5 "Pour.pour" = true) (k5 : PySem.W.keepIn K (.ref f5) = true)
    {oc6 kV6 dc6 pm6 cd6 ct6 : Value} {od6 an6 : Option Addr} {sl6 : Array (Option Value)}
    (a6 : PySem.W.findIn K (.ref c_Pour) "merge_last_two" = some (some (.ref f6))) (i6 : PySem.W.isFn K (.ref f6) = true)
    (l6 : K.lookup f6 = some ⟨oc6, od6, .func (PySem.W.fnOf "merge_last_two" "Pour.merge_last_two" (defArgs s_Pour_merge_last_two) (defBody s_Pour_merge_last_two) (defScope s_Pour_merge_last_two) .none kV6 dc6 pm6 an6 cd6 ct6), sl6⟩) (c6 : PySem.W.codeIn K cd6 "Pour.merge_last_two" = true) (k6 : PySem.W.keepIn K (.ref f6) = true)
    {oc7 kV7 dc7 pm7 cd7 ct7 : Value} {od7 an7 : Option Addr} {sl7 : Array (Option Value)}
    (a7 : PySem.W.findIn K (.ref c_Pour) "heaps" = some (some (.ref f7))) (i7 : PySem.W.isFn K (.ref f7) = true)
    (l7 : K.lookup f7 = some ⟨oc7, od7, .func (PySem.W.fnOf "heaps" "Pour.heaps" (defArgs s_Pour_heaps) (defBody s_Pour_heaps) (defScope s_Pour_heaps) .none kV7 dc7 pm7 an7 cd7 ct7), sl7⟩) (c7 : PySem.W.codeIn K cd7 "Pour.heaps" = true) (k7 : PySem.W.keepIn K (.ref f7) = true)
    {oc8 kV8 dc8 pm8 cd8 ct8 : Value} {od8 an8 : Option Addr} {sl8 : Array (Option Value)}
    (a8 : PySem.W.findIn K (.ref c_Pour) "order" = some (some (.ref f8))) (i8 : PySem.W.isFn K (.ref f8) = true)
    (l8 : K.lookup f8 = some ⟨oc8, od8, .func (PySem.W.fnOf "order" "Pour.order" (defArgs s_Pour_order) (defBody s_Pour_order) (defScope s_Pour_order) .none kV8 dc8 pm8 an8 cd8 ct8), sl8⟩) (c8 : PySem.W.codeIn K cd8 "Pour.order" = true) (k8 : PySem.W.keepIn K (.ref f8) = true)
    {oc9 kV9 dc9 pm9 cd9 ct9 : Value} {od9 an9 : Option Addr} {sl9 : Array (Option Value)}
    (a9 : PySem.W.findIn K (.ref c_Pour) "rows" = some (some (.ref f9))) (i9 : PySem.W.isFn K (.ref f9) = true)
    (l9 : K.lookup f9 = some ⟨oc9, od9, .func (PySem.W.fnOf "rows" "Pour.rows" (defArgs s_Pour_rows) (defBody s_Pour_rows) (defScope s_Pour_rows) .none kV9 dc9 pm9 an9 cd9 ct9), sl9⟩) (c9 : PySem.W.codeIn K cd9 "Pour.rows" = true) (k9 : PySem.W.keepIn K (.ref f9) = true)
    {oc10 kV10 dc10 pm10 cd10 ct10 : Value} {od10 an10 : Option Addr} {sl10 : Array (Option Value)}
    (a10 : PySem.W.findIn K (.ref c_Pour) "moves" = some (some (.ref f10))) (i10 : PySem.W.isFn K (.ref f10) = true)
    (l10 : K.lookup f10 = some ⟨oc10, od10, .func (PySem.W.fnOf "moves" "Pour.moves" (defArgs s_Pour_moves) (defBody s_Pour_moves) (defScope s_Pour_moves) .none kV10 dc10 pm10 an10 cd10 ct10), sl10⟩) (c10 : PySem.W.codeIn K cd10 "Pour.moves" = true) (k10 : PySem.W.keepIn K (.ref f10) = true)
    {oc11 kV11 dc11 pm11 cd11 ct11 : Value} {od11 an11 : Option Addr} {sl11 : Array (Option Value)}
    (a11 : PySem.W.nsIn K mainGlobals "_law_tape" = some (some (.ref f11)))
    (l11 : K.lookup f11 = some ⟨oc11, od11, .func (PySem.W.fnOf "_law_tape" "_law_tape" (defArgs s_tape) (defBody s_tape) (defScope s_tape) .none kV11 dc11 pm11 an11 cd11 ct11), sl11⟩) (c11 : PySem.W.codeIn K cd11 "_law_tape" = true) (k11 : PySem.W.keepIn K (.ref f11) = true)
    {oc12 kV12 dc12 pm12 cd12 ct12 : Value} {od12 an12 : Option Addr} {sl12 : Array (Option Value)}
    (a12 : PySem.W.nsIn K mainGlobals "_law_draw" = some (some (.ref f12)))
    (l12 : K.lookup f12 = some ⟨oc12, od12, .func (PySem.W.fnOf "_law_draw" "_law_draw" (defArgs s_draw) (defBody s_draw) (defScope s_draw) .none kV12 dc12 pm12 an12 cd12 ct12), sl12⟩) (c12 : PySem.W.codeIn K cd12 "_law_draw" = true) (k12 : PySem.W.keepIn K (.ref f12) = true)
    {oc13 kV13 dc13 pm13 cd13 ct13 : Value} {od13 an13 : Option Addr} {sl13 : Array (Option Value)}
    (a13 : PySem.W.nsIn K mainGlobals "_law_rows" = some (some (.ref f13)))
    (l13 : K.lookup f13 = some ⟨oc13, od13, .func (PySem.W.fnOf "_law_rows" "_law_rows" (defArgs s_rows) (defBody s_rows) (defScope s_rows) .none kV13 dc13 pm13 an13 cd13 ct13), sl13⟩) (c13 : PySem.W.codeIn K cd13 "_law_rows" = true) (k13 : PySem.W.keepIn K (.ref f13) = true)
    {oc14 kV14 dc14 pm14 cd14 ct14 : Value} {od14 an14 : Option Addr} {sl14 : Array (Option Value)}
    (a14 : PySem.W.nsIn K mainGlobals "_law_pours" = some (some (.ref f14)))
    (l14 : K.lookup f14 = some ⟨oc14, od14, .func (PySem.W.fnOf "_law_pours" "_law_pours" (defArgs s_pours) (defBody s_pours) (defScope s_pours) .none kV14 dc14 pm14 an14 cd14 ct14), sl14⟩) (c14 : PySem.W.codeIn K cd14 "_law_pours" = true) (k14 : PySem.W.keepIn K (.ref f14) = true)
    {oc15 kV15 dc15 pm15 cd15 ct15 : Value} {od15 an15 : Option Addr} {sl15 : Array (Option Value)}
    (a15 : PySem.W.nsIn K mainGlobals "_law_seen" = some (some (.ref f15)))
    (l15 : K.lookup f15 = some ⟨oc15, od15, .func (PySem.W.fnOf "_law_seen" "_law_seen" (defArgs s_seen) (defBody s_seen) (defScope s_seen) .none kV15 dc15 pm15 an15 cd15 ct15), sl15⟩) (c15 : PySem.W.codeIn K cd15 "_law_seen" = true) (k15 : PySem.W.keepIn K (.ref f15) = true)
    {oc16 kV16 dc16 pm16 cd16 ct16 : Value} {od16 an16 : Option Addr} {sl16 : Array (Option Value)}
    (a16 : PySem.W.nsIn K mainGlobals "_law_spoilt" = some (some (.ref f16)))
    (l16 : K.lookup f16 = some ⟨oc16, od16, .func (PySem.W.fnOf "_law_spoilt" "_law_spoilt" (defArgs s_spoilt) (defBody s_spoilt) (defScope s_spoilt) .none kV16 dc16 pm16 an16 cd16 ct16), sl16⟩) (c16 : PySem.W.codeIn K cd16 "_law_spoilt" = true) (k16 : PySem.W.keepIn K (.ref f16) = true)
    {oc17 kV17 dc17 pm17 cd17 ct17 : Value} {od17 an17 : Option Addr} {sl17 : Array (Option Value)}
    (a17 : PySem.W.nsIn K mainGlobals "_law_pour_spoilt" = some (some (.ref f17)))
    (l17 : K.lookup f17 = some ⟨oc17, od17, .func (PySem.W.fnOf "_law_pour_spoilt" "_law_pour_spoilt" (defArgs s_pour_spoilt) (defBody s_pour_spoilt) (defScope s_pour_spoilt) .none kV17 dc17 pm17 an17 cd17 ct17), sl17⟩) (c17 : PySem.W.codeIn K cd17 "_law_pour_spoilt" = true) (k17 : PySem.W.keepIn K (.ref f17) = true)
    {oc18 kV18 dc18 pm18 cd18 ct18 : Value} {od18 an18 : Option Addr} {sl18 : Array (Option Value)}
    (a18 : PySem.W.nsIn K mainGlobals "_law_alone" = some (some (.ref f18)))
    (l18 : K.lookup f18 = some ⟨oc18, od18, .func (PySem.W.fnOf "_law_alone" "_law_alone" (defArgs s_alone) (defBody s_alone) (defScope s_alone) .none kV18 dc18 pm18 an18 cd18 ct18), sl18⟩) (c18 : PySem.W.codeIn K cd18 "_law_alone" = true) (k18 : PySem.W.keepIn K (.ref f18) = true)
    {oc19 kV19 dc19 pm19 cd19 ct19 : Value} {od19 an19 : Option Addr} {sl19 : Array (Option Value)}
    (a19 : PySem.W.nsIn K mainGlobals "law" = some (some (.ref f19)))
    (l19 : K.lookup f19 = some ⟨oc19, od19, .func (PySem.W.fnOf "law" "law" (defArgs s_law) (defBody s_law) (defScope s_law) .none kV19 dc19 pm19 an19 cd19 ct19), sl19⟩) (c19 : PySem.W.codeIn K cd19 "law" = true) (k19 : PySem.W.keepIn K (.ref f19) = true)
    (z_abs : PySem.W.nsIn K mainGlobals "abs" = some none)
    (z_int : PySem.W.nsIn K mainGlobals "int" = some none)
    (z_len : PySem.W.nsIn K mainGlobals "len" = some none)
    (z_list : PySem.W.nsIn K mainGlobals "list" = some none)
    (z_min : PySem.W.nsIn K mainGlobals "min" = some none)
    (z_range : PySem.W.nsIn K mainGlobals "range" = some none)
    (z_sorted : PySem.W.nsIn K mainGlobals "sorted" = some none)
    (z_str : PySem.W.nsIn K mainGlobals "str" = some none)
    (z_sum : PySem.W.nsIn K mainGlobals "sum" = some none)
    (z_tuple : PySem.W.nsIn K mainGlobals "tuple" = some none)
    {cc pt : Addr} (hcc : cd0 = .ref cc) (hchd : PySem.W.codeHdIn K cc pt = true)
    (ac_Pour : PySem.W.nsIn K mainGlobals "Pour" = some (some (.ref c_Pour)))
    (pg_Pour : PySem.W.plainGet K c_Pour Str.empty = true)
    (hd_Pour : PySem.W.hasDictIn K c_Pour = true)
    (po_Pour : PySem.W.plainOver K c_Pour = true)
    (sa_Pour : PySem.W.findIn K (.ref c_Pour) "__setattr__" = some (some (.builtin "object.__setattr__")))
    (mk_Pour : PySem.W.makesIn K c_Pour = true)
    (kc_Pour : PySem.W.keepIn K (.ref c_Pour) = true)
    (n_Pour_came : PySem.W.findIn K (.ref c_Pour) "came" = some none)
    (n_Pour_heaped : PySem.W.findIn K (.ref c_Pour) "heaped" = some none)
    (n_Pour_moved : PySem.W.findIn K (.ref c_Pour) "moved" = some none) :
    ∃ fd : FuncData, (∃ c, PySem.W.codeHdIn K c pt = true) ∧ (∀ (s : Shared) (v : Value), BindsTo s fd ⟨[v], []⟩ [("_law_script", v)]) ∧ ∀ base : Heap, K.In base → base.Ns mainGlobals mg → base.BuiltinsAt mg pt → FnOk l.prog w K mg base CX0 6 fa fd ["_law_script"] (spLaw K pt) := by
  have e := hfa.symm.trans (PySem.W.mg_of X G a19)
  cases e
  have F0 := fun_mk (st := s_told_order) l0 c0 k0
  have b0 := F0.binds (ps := ["rows"]) fun _ _ _ _ _ _ us hl => match us, hl with | [_], _ => rfl
  have F1 := fun_mk (st := s_merged) l1 c1 k1
  have b1 := F1.binds (ps := ["one", "other"]) fun _ _ _ _ _ _ us hl => match us, hl with | [_, _], _ => rfl
  have F2 := fun_mk (st := s_merged_places) l2 c2 k2
  have b2 := F2.binds (ps := ["rows", "one", "other"]) fun _ _ _ _ _ _ us hl => match us, hl with | [_, _, _], _ => rfl
  have F3 := fun_mk (st := s_is_due) l3 c3 k3
  have b3 := F3.binds (ps := ["lengths"]) fun _ _ _ _ _ _ us hl => match us, hl with | [_], _ => rfl
  have F4 := fun_mk (st := s_Pour___init__) l4 c4 k4
  have b4 := F4.binds (ps := ["self"]) fun _ _ _ _ _ _ us hl => match us, hl with | [_], _ => rfl
  have F5 := fun_mk (st := s_Pour_pour) l5 c5 k5
  have b5 := F5.binds (ps := ["self", "rows"]) fun _ _ _ _ _ _ us hl => match us, hl with | [_, _], _ => rfl
  have F6 := fun_mk (st := s_Pour_merge_last_two) l6 c6 k6
  have b6 := F6.binds (ps := ["self"]) fun _ _ _ _ _ _ us hl => match us, hl with | [_], _ => rfl
  have F7 := fun_mk (st := s_Pour_heaps) l7 c7 k7
  have b7 := F7.binds (ps := ["self"]) fun _ _ _ _ _ _ us hl => match us, hl with | [_], _ => rfl
  have F8 := fun_mk (st := s_Pour_order) l8 c8 k8
  have b8 := F8.binds (ps := ["self"]) fun _ _ _ _ _ _ us hl => match us, hl with | [_], _ => rfl
  have F9 := fun_mk (st := s_Pour_rows) l9 c9 k9
  have b9 := F9.binds (ps := ["self"]) fun _ _ _ _ _ _ us hl => match us, hl with | [_], _ => rfl
  have F10 := fun_mk (st := s_Pour_moves) l10 c10 k10
  have b10 := F10.binds (ps := ["self"]) fun _ _ _ _ _ _ us hl => match us, hl with | [_], _ => rfl
  have F11 := fun_mk (st := s_tape) l11 c11 k11
  have b11 := F11.binds (ps := ["_law_script", "_law_k"]) fun _ _ _ _ _ _ us hl => match us, hl with | [_, _], _ => rfl
  have F12 := fun_mk (st := s_draw) l12 c12 k12
  have b12 := F12.binds (ps := ["_law_tape_here", "_law_many"]) fun _ _ _ _ _ _ us hl => match us, hl with | [_, _], _ => rfl
  have F13 := fun_mk (st := s_rows) l13 c13 k13
  have b13 := F13.binds (ps := ["_law_tape_here", "_law_many", "_law_base"]) fun _ _ _ _ _ _ us hl => match us, hl with | [_, _, _], _ => rfl
  have F14 := fun_mk (st := s_pours) l14 c14 k14
  have b14 := F14.binds (ps := ["_law_tape_here", "_law_k"]) fun _ _ _ _ _ _ us hl => match us, hl with | [_, _], _ => rfl
  have F15 := fun_mk (st := s_seen) l15 c15 k15
  have b15 := F15.binds (ps := ["_law_pour"]) fun _ _ _ _ _ _ us hl => match us, hl with | [_], _ => rfl
  have F16 := fun_mk (st := s_spoilt) l16 c16 k16
  have b16 := F16.binds (ps := ["_law_pour"]) fun _ _ _ _ _ _ us hl => match us, hl with | [_], _ => rfl
  have F17 := fun_mk (st := s_pour_spoilt) l17 c17 k17
  have b17 := F17.binds (ps := ["_law_pour", "_law_rows_here"]) fun _ _ _ _ _ _ us hl => match us, hl with | [_, _], _ => rfl
  have F18 := fun_mk (st := s_alone) l18 c18 k18
  have b18 := F18.binds (ps := ["_law_pour"]) fun _ _ _ _ _ _ us hl => match us, hl with | [_], _ => rfl
  have F19 := fun_mk (st := s_law) l19 c19 k19
  have b19 := F19.binds (ps := ["_law_script"]) fun _ _ _ _ _ _ us hl => match us, hl with | [_], _ => rfl
  have TT : ∀ base : Heap, base.BuiltinsAt mg pt → Tx K mg ⟨_, _, _, _, _, _, _, _, _, _, _, _, _, _, _, _, _, _, _, _, _, _, _, _, _, _, _, _, _, _, _, _, _, _, _, _, _, _, _, _, cc, pt, base, _⟩ := fun base hba => ⟨PySem.W.mg_of X G a0, F0, b0, PySem.W.mg_of X G a1, F1, b1, PySem.W.mg_of X G a2, F2, b2, PySem.W.mg_of X G a3, F3, b3, ⟨mk_Pour, a4, i4, kc_Pour⟩, F4, b4, ⟨a5, i5, k5⟩, F5, b5, ⟨a6, i6, k6⟩, F6, b6, ⟨a7, i7, k7⟩, F7, b7, ⟨a8, i8, k8⟩, F8, b8, ⟨a9, i9, k9⟩, F9, b9, ⟨a10, i10, k10⟩, F10, b10, PySem.W.mg_of X G a11, F11, b11, PySem.W.mg_of X G a12, F12, b12, PySem.W.mg_of X G a13, F13, b13, PySem.W.mg_of X G a14, F14, b14, PySem.W.mg_of X G a15, F15, b15, PySem.W.mg_of X G a16, F16, b16, PySem.W.mg_of X G a17, F17, b17, PySem.W.mg_of X G a18, F18, b18, PySem.W.mg_of X G a19, F19, b19, PySem.W.mg_none_of X G z_abs, PySem.W.mg_none_of X G z_int, PySem.W.mg_none_of X G z_len, PySem.W.mg_none_of X G z_list, PySem.W.mg_none_of X G z_min, PySem.W.mg_none_of X G z_range, PySem.W.mg_none_of X G z_sorted, PySem.W.mg_none_of X G z_str, PySem.W.mg_none_of X G z_sum, PySem.W.mg_none_of X G z_tuple, hcc, hchd, hba, PySem.W.mg_of X G ac_Pour, ⟨pg_Pour, hd_Pour, po_Pour, sa_Pour⟩, n_Pour_came, n_Pour_heaped, n_Pour_moved⟩
  exact ⟨_, ⟨_, hchd⟩, fun s v => .of_eq rfl, fun base _ _ hba => ok_law (TT base hba)⟩
theorem walk {l : PySem.W.OpenLaw} {q : Program} {loose : List Str} {XP : (Str → Option Value) → Heap → Prop} {YP : World → Heap → Prop} {d : DefRec} {K : Params → PySem.W.Frag} {pt : Addr} (hn : l.most = some 63) (hdf : d.params.defaults = [])
    (hY : ∀ (w : World) (h : Heap), YP w h → (K w.params).In h)
    (hYT : ∀ (w : World) (h : Heap), YP w h → h.get? pt = some (PySem.W.tabObj #[])) (hnt : ∀ w : World, PySem.W.noTabs (K w.params) = true)
    (F : ∀ (w : World) (mg : Str → Option Value) (fa : Addr) (h : Heap), (K w.params).In h → h.Ns mainGlobals mg → mg d.name = some (.ref fa) →
      ∃ fd : FuncData, (∃ c, PySem.W.codeHdIn (K w.params) c pt = true) ∧ (∀ (s : Shared) (u : Value), BindsTo s fd ⟨[u], []⟩ [("_law_script", u)]) ∧ ∀ base : Heap, (K w.params).In base → base.Ns mainGlobals mg → base.BuiltinsAt mg pt → FnOk l.prog w (K w.params) mg base CX0 6 fa fd ["_law_script"] (spLaw (K w.params) pt)) :
    PySem.W.WalkO q loose XP YP l.row.toRowW d [] (fun f vs => PySem.call f vs) :=
  L2.walk_ofT (n := 63) (k := 6) (x := "_law_script") (CX := fun _ => CX0) (sp := fun w pt => spLaw (K w.params) pt) hn (by decide) hdf ⟨rfl, by decide, by decide, rfl⟩ hY hYT hnt F (fun _ _ a ns hl hP hS => ⟨a, ns, rfl, hS, hl, .inl hP, fun _ => rfl⟩) fun _ _ _ _ _ z => z
end Fs
open PySem PySem.W PyProof.Rows
set_option maxRecDepth 100000 in
set_option maxHeartbeats 0 in
theorem PySem.Challenge.cw_figuresort_k42_pours_apart_holds : PySem.Challenge.rw_figuresort_k42_pours_apart.Holds := by
  w_on; o_law; k_head; (case hw => w_witness2)
  k_fill
  refine' Fs.walk (l := PySem.Challenge.rw_figuresort_k42_pours_apart) (pt := ?pt) rfl rfl (fun w h Y => PySem.W.km_in_of Y) (fun w h Y => PySem.W.km_tabs_of Y _ (List.Mem.head _)) ?nt ?F
  case F =>
    intro w mg fa h KX G hmg
    refine' Fs.all_mk KX G hmg ?a0 ?l0 ?c0 ?k0 ?a1 ?l1 ?c1 ?k1 ?a2 ?l2 ?c2 ?k2 ?a3 ?l3 ?c3 ?k3 ?a4 ?i4 ?l4 ?c4 ?k4 ?a5 ?i5 ?l5 ?c5 ?k5 ?a6 ?i6 ?l6 ?c6 ?k6 ?a7 ?i7 ?l7 ?c7 ?k7 ?a8 ?i8 ?l8 ?c8 ?k8 ?a9 ?i9 ?l9 ?c9 ?k9 ?a10 ?i10 ?l10 ?c10 ?k10 ?a11 ?l11 ?c11 ?k11 ?a12 ?l12 ?c12 ?k12 ?a13 ?l13 ?c13 ?k13 ?a14 ?l14 ?c14 ?k14 ?a15 ?l15 ?c15 ?k15 ?a16 ?l16 ?c16 ?k16 ?a17 ?l17 ?c17 ?k17 ?a18 ?l18 ?c18 ?k18 ?a19 ?l19 ?c19 ?k19 ?z_abs ?z_int ?z_len ?z_list ?z_min ?z_range ?z_sorted ?z_str ?z_sum ?z_tuple ?hcc ?hchd ?ac_Pour ?pg_Pour ?hd_Pour ?po_Pour ?sa_Pour ?mk_Pour ?kc_Pour ?n_Pour_came ?n_Pour_heaped ?n_Pour_moved
    (case ac_Pour => k_is)
    (case a0 => k_is)
    (case l0 => k_is)
    (case c0 => k_is)
    (case k0 => k_is)
    (case a1 => k_is)
    (case l1 => k_is)
    (case c1 => k_is)
    (case k1 => k_is)
    (case a2 => k_is)
    (case l2 => k_is)
    (case c2 => k_is)
    (case k2 => k_is)
    (case a3 => k_is)
    (case l3 => k_is)
    (case c3 => k_is)
    (case k3 => k_is)
    (case a4 => k_is)
    (case i4 => k_is)
    (case l4 => k_is)
    (case c4 => k_is)
    (case k4 => k_is)
    (case a5 => k_is)
    (case i5 => k_is)
    (case l5 => k_is)
    (case c5 => k_is)
    (case k5 => k_is)
    (case a6 => k_is)
    (case i6 => k_is)
    (case l6 => k_is)
    (case c6 => k_is)
    (case k6 => k_is)
    (case a7 => k_is)
    (case i7 => k_is)
    (case l7 => k_is)
    (case c7 => k_is)
    (case k7 => k_is)
    (case a8 => k_is)
    (case i8 => k_is)
    (case l8 => k_is)
    (case c8 => k_is)
    (case k8 => k_is)
    (case a9 => k_is)
    (case i9 => k_is)
    (case l9 => k_is)
    (case c9 => k_is)
    (case k9 => k_is)
    (case a10 => k_is)
    (case i10 => k_is)
    (case l10 => k_is)
    (case c10 => k_is)
    (case k10 => k_is)
    (case a11 => k_is)
    (case l11 => k_is)
    (case c11 => k_is)
    (case k11 => k_is)
    (case a12 => k_is)
    (case l12 => k_is)
    (case c12 => k_is)
    (case k12 => k_is)
    (case a13 => k_is)
    (case l13 => k_is)
    (case c13 => k_is)
    (case k13 => k_is)
    (case a14 => k_is)
    (case l14 => k_is)
    (case c14 => k_is)
    (case k14 => k_is)
    (case a15 => k_is)
    (case l15 => k_is)
    (case c15 => k_is)
    (case k15 => k_is)
    (case a16 => k_is)
    (case l16 => k_is)
    (case c16 => k_is)
    (case k16 => k_is)
    (case a17 => k_is)
    (case l17 => k_is)
    (case c17 => k_is)
    (case k17 => k_is)
    (case a18 => k_is)
    (case l18 => k_is)
    (case c18 => k_is)
    (case k18 => k_is)
    (case a19 => k_is)
    (case l19 => k_is)
    (case c19 => k_is)
    (case k19 => k_is)
    (case z_abs => k_is)
    (case z_int => k_is)
    (case z_len => k_is)
    (case z_list => k_is)
    (case z_min => k_is)
    (case z_range => k_is)
    (case z_sorted => k_is)
    (case z_str => k_is)
    (case z_sum => k_is)
    (case z_tuple => k_is)
    (case pg_Pour => k_is)
    (case hd_Pour => k_is)
    (case po_Pour => k_is)
    (case sa_Pour => k_is)
    (case mk_Pour => k_is)
    (case kc_Pour => k_is)
    (case n_Pour_came => k_is)
    (case n_Pour_heaped => k_is)
    (case n_Pour_moved => k_is)
    (case hcc => exact rfl)
    (case hchd => kernel_rfl)
  case nt =>
    intro w
    kernel_rfl

