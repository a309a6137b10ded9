import PyProof.Rows.All
import Wide.All
import OpenK.AllK
import Wide.FinOn
import PyProof.EqAt
import PyProof.EqKinds
import PyProof.TupleCall
import KE.BitLaws
import PyVbrgak
import Open.SpecLaws
import KE.OsHead
import KE.OsGo
import PySem.Challenge.RW_hungerhouse_s01_answers
section
set_option Elab.async false
set_option linter.all false
set_option maxRecDepth 100000
/-! THE HAND LAYER, for ints, bools, texts, own classes, lists, tuples, dicts, comprehensions, walks over dicts, enumerate, zip, reversed, texts, calls, loops. Paste it whole ahead of your own text; what your proof does not reach may be deleted. -/
namespace L2
open PySem PySem.Spec PyProof.Rows

/-- a key: an int or a str -/
abbrev Key := Sum Int Str
def keyIs : Key → Value → Bool
  | .inl k, v => Value.isInt k v
  | .inr x, v => Value.isStrOf x v
def keyH (w : World) : Key → Int
  | .inl k => hashInt k
  | .inr x => hashStr w x
theorem keyIs_shape : ∀ {k : Key} {v : Value}, keyIs k v = true → (∃ i t, k = Sum.inl i ∧ v = Value.int i t) ∨ (∃ x t, k = Sum.inr x ∧ v = Value.str x t)
  | .inl i, v, h => by
    obtain ⟨t, e⟩ := Value.isInt_shape (k := i) (v := v) h
    exact .inl ⟨i, t, rfl, e⟩
  | .inr x, v, h => by
    obtain ⟨t, e⟩ := Value.isStrOf_shape (x := x) (v := v) h
    exact .inr ⟨x, t, rfl, e⟩
theorem keyIs_int (i : Int) (t : Tok) : keyIs (.inl i) (.int i t) = true := by simp [keyIs, Value.isInt]
theorem keyIs_str (x : Str) (t : Tok) : keyIs (.inr x) (.str x t) = true := by simp [keyIs, Value.isStrOf]
theorem key_ll (a b : Int) : decide ((Sum.inl a : Key) = Sum.inl b) = (a == b) := by
  by_cases e : a = b
  · subst e; simp
  · have h : ¬ (Sum.inl a : Key) = Sum.inl b := fun q => e (Sum.inl.inj q)
    rw [decide_eq_false h]
    exact (beq_eq_false_iff_ne.mpr e).symm
theorem key_rr (a b : Str) : decide ((Sum.inr a : Key) = Sum.inr b) = decide (a = b) := by
  by_cases e : a = b
  · subst e; simp
  · have h : ¬ (Sum.inr a : Key) = Sum.inr b := fun q => e (Sum.inr.inj q)
    rw [decide_eq_false h, decide_eq_false e]
theorem key_lr (a : Int) (b : Str) : decide ((Sum.inl a : Key) = Sum.inr b) = false := decide_eq_false (fun q => nomatch q)
theorem key_rl (a : Str) (b : Int) : decide ((Sum.inr a : Key) = Sum.inl b) = false := decide_eq_false (fun q => nomatch q)

def mixKind (prog : Program) (w : World) : PySem.KeyKind prog w Key where
  is := keyIs
  hash := keyH w
  inj := fun v a b ha hb => by
    rcases keyIs_shape ha with ⟨i, t, rfl, rfl⟩ | ⟨x, t, rfl, rfl⟩
    · rcases keyIs_shape hb with ⟨j, u, rfl, e⟩ | ⟨y, u, rfl, e⟩
      · injection e with e1 _; rw [e1]
      · exact nomatch e
    · rcases keyIs_shape hb with ⟨j, u, rfl, e⟩ | ⟨y, u, rfl, e⟩
      · exact nomatch e
      · injection e with e1 _; rw [e1]
  byValue := fun k v h => by
    rcases keyIs_shape h with ⟨i, t, rfl, rfl⟩ | ⟨x, t, rfl, rfl⟩ <;> rfl
  pyHash := fun hv h => by
    rcases keyIs_shape hv with ⟨i, t, rfl, rfl⟩ | ⟨x, t, rfl, rfl⟩
    · exact wpAny_pyHash_int h
    · exact wpAny_pyHash_str h
  eqBool := fun hu hv h => by
    rcases keyIs_shape hu with ⟨i, t, rfl, rfl⟩ | ⟨x, t, rfl, rfl⟩
    · rcases keyIs_shape hv with ⟨j, u, rfl, rfl⟩ | ⟨y, u, rfl, rfl⟩
      · rw [key_ll] at h; exact wpAny_eqBool_int h
      · rw [key_lr] at h; exact SeqAt.EqAt.int_str i t y u _ _ _ _ h
    · rcases keyIs_shape hv with ⟨j, u, rfl, rfl⟩ | ⟨y, u, rfl, rfl⟩
      · rw [key_rl] at h; exact SeqAt.EqAt.str_int x t j u _ _ _ _ h
      · rw [key_rr] at h; exact wpAny_eqBool_str h
  «strs» := fun k x t v h => by
    rcases keyIs_shape h with ⟨i, u, rfl, e⟩ | ⟨y, u, rfl, e⟩
    · exact nomatch e
    · injection e with e1 _
      subst e1
      cases v <;> rfl

theorem mixKind_int (prog : Program) (w : World) (i : Int) (t : Tok) : (mixKind prog w).is (.inl i) (.int i t) = true := keyIs_int i t
theorem mixKind_str (prog : Program) (w : World) (x : Str) (t : Tok) : (mixKind prog w).is (.inr x) (.str x t) = true := keyIs_str x t
end L2

namespace L2
open PySem PySem.Spec PyProof.Rows

/-- a value, without the heap -/
inductive V where
  | non | bl (b : Bool) | int (i : Int) | str (x : Str) | byt (b : Array UInt8) | flt (b : UInt64) | ref (a : Addr) | ty (n : String)
  deriving DecidableEq

def RelV : V → Value → Prop
  | .non, u => u = Value.none
  | .bl b, u => u = Value.bool b
  | .int i, u => ∃ t, u = Value.int i t
  | .str x, u => ∃ t, u = Value.str x t
  | .byt b, u => ∃ t, u = Value.bytes b t
  | .flt b, u => ∃ t, u = Value.float b t
  | .ref a, u => u = Value.ref a
  | .ty n, u => u = Value.type n

abbrev Vals : List V → List Value → Prop := Paired RelV
theorem Vals.length {xs : List V} {us : List Value} (r : Vals xs us) : xs.length = us.length := Paired.length r
theorem Vals.get : ∀ {xs : List V} {us : List Value} {i : Nat} {x : V}, Vals xs us → xs[i]? = some x → ∃ u, us[i]? = some u ∧ RelV x u
  | _, _, _, _, .nil, e => by simp at e
  | _, _, 0, _, .cons r _, e => by simp at e; subst e; exact ⟨_, rfl, r⟩
  | _, _, i + 1, x, .cons _ t, e => by
    obtain ⟨u, h1, h2⟩ := Vals.get (i := i) (x := x) t (by simpa using e)
    exact ⟨u, by simpa using h1, h2⟩
theorem Vals.set {x : V} {u : Value} (r : RelV x u) : ∀ {xs : List V} {us : List Value} (i : Nat), Vals xs us → Vals (xs.set i x) (us.set i u)
  | _, _, _, .nil => .nil
  | _, _, 0, .cons _ t => .cons r t
  | _, _, i + 1, .cons q t => .cons q (Vals.set r i t)
theorem Vals.append : ∀ {xs ys : List V} {us ws : List Value}, Vals xs us → Vals ys ws → Vals (xs ++ ys) (us ++ ws)
  | _, _, _, _, .nil, s => s
  | _, _, _, _, .cons r t, s => .cons r (Vals.append t s)
theorem Vals.take : ∀ {xs : List V} {us : List Value} (n : Nat), Vals xs us → Vals (xs.take n) (us.take n)
  | _, _, 0, _ => .nil
  | _, _, _ + 1, .nil => .nil
  | _, _, n + 1, .cons r t => .cons r (Vals.take n t)
theorem Vals.drop : ∀ {xs : List V} {us : List Value} (n : Nat), Vals xs us → Vals (xs.drop n) (us.drop n)
  | _, _, 0, r => r
  | _, _, _ + 1, .nil => .nil
  | _, _, n + 1, .cons _ t => Vals.drop n t

def RelO : Option V → Option Value → Prop
  | some v, some u => RelV v u
  | none, none => True
  | _, _ => False
def KV {κ : Type} : List (κ × V) → List (κ × Value) → Prop := Paired fun (p : κ × V) (q : κ × Value) => p.1 = q.1 ∧ RelV p.2 q.2

/-- a key of a dict (00_mix): an int or a text -/
def kV : Key → V
  | .inl i => .int i
  | .inr x => .str x

/-- what stands at a tracked address -/
inductive HO where
  /-- a list -/
  | lst (xs : List V)
  /-- a tuple (never changes) -/
  | tup (xs : List V)
  /-- a dict whose keys are ints and texts; one whose keys are tuples of ints and texts (the empty one is both) -/
  | dK (kvs : List (Key × V)) | dT (kvs : List (List Key × V))
  /-- a set of ints: its members, its size -/
  | set (S : Int → Bool) (n : Nat)
  /-- an instance of the class at C, its dict at dx, its attributes -/
  | ins (C dx : Addr) (fs : List (Str × V))
  /-- the dict of the instance at x -/
  | own (x : Addr)
  /-- the dict of an exception -/
  | xd (fs : List (Str × V))
  /-- a bound method, f of x -/
  | met (f x : Addr)
  /-- a range object lo, lo + 1, .. below hi -/
  | rng (lo hi : Int)
  /-- a thing that is known to the object (the script; a dict while a loop walks it): read, never written while it is so -/
  | frz (o : Obj) (u : HO)
  /-- a code object's table -/
  | tbl (ps : Array Value)
  /-- any other thing, by what is true of its one object (a def of one's own: SetO a S n := HO.ext fun h => ..) -/
  | ext (φ : Heap → Prop)

abbrev Hp := Addr → Option HO
def upd (H : Hp) (a : Addr) (o : HO) : Hp := fun b => if b = a then some o else H b
theorem upd_same {H : Hp} {a : Addr} {o : HO} : upd H a o a = some o := by unfold upd; rw [if_pos rfl]
theorem upd_ne {H : Hp} {a b : Addr} {o : HO} (h : b ≠ a) : upd H a o b = H b := by unfold upd; rw [if_neg h]
/-- two objects of different content stand apart -/
theorem ne_of {H : Hp} {a b : Addr} {o u : HO} (h : H a = some o) (h' : H b = some u) (d : o ≠ u) : a ≠ b := by
  intro e; subst e; rw [h] at h'; exact d (Option.some.inj h')
theorem ne_of_none {H : Hp} {a b : Addr} {o : HO} (h : H a = some o) (h' : H b = none) : a ≠ b := by
  intro e; subst e; rw [h] at h'; cases h'

section
variable (P : Program) (w : World)
def ObjOk (H : Hp) (h : Heap) (a : Addr) : HO → Prop
  | .lst xs => xs.length ≤ sizeLine ∧ ∃ (its : List Value) (n : Nat), Vals xs its ∧ h.get? a = some { cls := .type "list", data := .seq its.toArray n }
  | .tup xs => xs.length ≤ sizeLine ∧ ∃ its : List Value, Vals xs its ∧ IsTup h a its.toArray
  | .dK kvs => kvs.length ≤ sizeLine ∧ (a == sysModules) = false ∧ ∃ vs, KV kvs vs ∧ h.DictOf (mixKind P w) a vs
  | .dT kvs => kvs.length ≤ sizeLine ∧ (a == sysModules) = false ∧ ∃ xs : List (List Key × Addr × Value),
      Paired (fun (p : List Key × V) (q : List Key × Addr × Value) => p.1 = q.1 ∧ H q.2.1 = some (.tup (p.1.map kV)) ∧ RelV p.2 q.2.2) kvs xs ∧
      ∃ o es ep, h.get? a = some o ∧ o.ExactDict ∧ o.data = .dict es ep ∧ es.toList = xs.map (entryOfKey (tupleKind (mixKind P w))) ∧ (xs.map (·.1)).Nodup
  | .set S n => h.SetOf (intKind P w) a S n
  | .ins C dx fs => H dx = some (.own a) ∧ fs.length ≤ 1000 ∧ dx ≠ a ∧ h.get? a = some (PySem.W.instObj C dx) ∧
      ∃ mA, h.Ns1 dx mA ∧ (∀ f, RelO (fs.lookup f) (mA f)) ∧ PySem.Within mA (fs.map (·.1))
  | .own _ => ∃ o, h.get? a = some o
  | .xd fs => ∃ mA, h.Ns1 a mA ∧ ∀ f, RelO (fs.lookup f) (mA f)
  | .rng lo hi => ∃ t u v, h.get? a = some { cls := .type "range", data := .fields #[.int lo t, .int hi u, .int 1 v] }
  | .frz o u => h.get? a = some o ∧ ObjOk H h a u
  | .tbl ps => h.get? a = some { cls := .none, data := .fields ps }
  | .met f x => h.get? a = some (PySem.W.methodObj (.ref f) (.ref x))
  | .ext φ => φ h ∧ (∃ o, h.get? a = some o) ∧ ∀ h1 h2 : Heap, φ h1 → (∀ o, h1.get? a = some o → h2.get? a = some o) → φ h2
/-- the abstract heap is held -/
def HOk (H : Hp) (h : Heap) : Prop := ∀ a o, H a = some o → ObjOk P w H h a o
end

section
variable {P : Program} {w : World} {H H' : Hp} {h h' : Heap} {a : Addr} {o : HO}
theorem ObjOk.lt (x : ObjOk P w H h a o) : a < h.objs.size := by
  cases o with
  | lst xs => obtain ⟨_, _, _, _, e⟩ := x; exact Heap.lt_size e
  | tup xs => obtain ⟨_, _, _, p⟩ := x; exact p.lt
  | dK kvs => obtain ⟨_, _, _, _, o, _, _, e, _⟩ := x; exact Heap.lt_size e
  | dT kvs => obtain ⟨_, _, _, _, o, _, _, e, _⟩ := x; exact Heap.lt_size e
  | set S n => obtain ⟨o, _, _, _, e, _⟩ := x; exact Heap.lt_size e
  | ins C dx fs => obtain ⟨_, _, _, e, _⟩ := x; exact Heap.lt_size e
  | own y => obtain ⟨_, e⟩ := x; exact Heap.lt_size e
  | xd fs => obtain ⟨_, ⟨_, _, _, e, _⟩, _⟩ := x; exact Heap.lt_size e
  | rng lo hi => obtain ⟨_, _, _, e⟩ := x; exact Heap.lt_size e
  | frz ob u => obtain ⟨e, _⟩ := x; exact Heap.lt_size e
  | tbl ps => exact Heap.lt_size (show h.get? a = some _ from x)
  | met f y => exact Heap.lt_size (show h.get? a = some _ from x)
  | ext φ => obtain ⟨_, ⟨_, e⟩, _⟩ := x; exact Heap.lt_size e
theorem Paired.mapP {α β : Type} {F G : α → β → Prop} : ∀ {l₁ : List α} {l₂ : List β}, Paired F l₁ l₂ → (∀ a b, F a b → G a b) → Paired G l₁ l₂
  | _, _, .nil, _ => .nil
  | _, _, .cons r t, f => .cons (f _ _ r) (Paired.mapP t f)
/-- what an object's description leans on: its own object, its own dict, the tuples -/
theorem ObjOk.stay (x : ObjOk P w H h a o) (k : ∀ b u, (b = a ∨ H b = some (.own a)) → h.get? b = some u → h'.get? b = some u)
    (ho : ∀ b, H b = some (.own a) → H' b = some (.own a)) (ht : ∀ b xs, H b = some (.tup xs) → H' b = some (.tup xs)) : ObjOk P w H' h' a o := by
  induction o with
  | lst xs => obtain ⟨z, its, n, r, e⟩ := x; exact ⟨z, its, n, r, k _ _ (.inl rfl) e⟩
  | tup xs => obtain ⟨z, its, r, ob, e, c⟩ := x; exact ⟨z, its, r, ob, k _ _ (.inl rfl) e, c⟩
  | dK kvs => obtain ⟨z, y, vs, r, ob, es, ep, e, c⟩ := x; exact ⟨z, y, vs, r, ob, es, ep, k _ _ (.inl rfl) e, c⟩
  | dT kvs =>
    obtain ⟨z, y, xs, r, ob, es, ep, e, c⟩ := x
    exact ⟨z, y, xs, Paired.mapP r fun p q z => ⟨z.1, ht _ _ z.2.1, z.2.2⟩, ob, es, ep, k _ _ (.inl rfl) e, c⟩
  | set S n => obtain ⟨ob, es, ep, t, e, c⟩ := x; exact ⟨ob, es, ep, t, k _ _ (.inl rfl) e, c⟩
  | ins C dx fs =>
    obtain ⟨d, z, ne, e, mA, ⟨od, es, ep, e2, c⟩, r⟩ := x
    exact ⟨ho _ d, z, ne, k _ _ (.inl rfl) e, mA, ⟨od, es, ep, k _ _ (.inr d) e2, c⟩, r⟩
  | own y => obtain ⟨ob, e⟩ := x; exact ⟨ob, k _ _ (.inl rfl) e⟩
  | xd fs => obtain ⟨mA, ⟨od, es, ep, e, c⟩, r⟩ := x; exact ⟨mA, ⟨od, es, ep, k _ _ (.inl rfl) e, c⟩, r⟩
  | rng lo hi => obtain ⟨t, u, v, e⟩ := x; exact ⟨t, u, v, k _ _ (.inl rfl) e⟩
  | frz ob u ih => obtain ⟨e, q⟩ := x; exact ⟨k _ _ (.inl rfl) e, ih q⟩
  | tbl ps =>
    have e : h.get? a = some { cls := .none, data := .fields ps } := x
    show h'.get? a = some { cls := .none, data := .fields ps }
    exact k a _ (.inl rfl) e
  | met f y =>
    have e : h.get? a = some (PySem.W.methodObj (.ref f) (.ref y)) := x
    show h'.get? a = some (PySem.W.methodObj (.ref f) (.ref y))
    exact k a _ (.inl rfl) e
  | ext φ => obtain ⟨p, ⟨o, e⟩, st⟩ := x; exact ⟨st _ _ p fun o q => k _ _ (.inl rfl) q, ⟨o, k _ _ (.inl rfl) e⟩, st⟩
theorem HOk.lt (x : HOk P w H h) (e : H a = some o) : a < h.objs.size := (x a o e).lt
theorem HOk.fresh (x : HOk P w H h) (e : h.objs.size ≤ a) : H a = none := by
  cases q : H a with
  | none => rfl
  | some u => exact absurd (Nat.lt_of_lt_of_le (x.lt q) e) (Nat.lt_irrefl _)
/-- every object of the heap is kept -/
theorem HOk.kept (x : HOk P w H h) (k : ∀ b u, h.get? b = some u → h'.get? b = some u) : HOk P w H h' := fun a o e =>
  (x a o e).stay (fun b u _ q => k b u q) (fun _ q => q) fun _ _ q => q
/-- a new object is laid and tracked -/
theorem HOk.laid (x : HOk P w H h) (k : ∀ b u, h.get? b = some u → h'.get? b = some u) (hp : h.objs.size ≤ a) (new : ObjOk P w (upd H a o) h' a o) : HOk P w (upd H a o) h' := fun b u e => by
  have hn := x.fresh hp
  by_cases hb : b = a
  · subst hb; rw [upd_same] at e; cases e; exact new
  · rw [upd_ne hb] at e
    exact (x b u e).stay (fun c v _ q => k c v q) (fun c q => by rw [upd_ne (ne_of_none q hn)]; exact q) fun c xs q => by rw [upd_ne (ne_of_none q hn)]; exact q
end

/-- what may be read as u: it is u, or a known u -/
def Rd (H : Hp) (a : Addr) (u : HO) : Prop := H a = some u ∨ ∃ o, H a = some (.frz o u)
theorem Rd.ok {P : Program} {w : World} {H : Hp} {h : Heap} {a : Addr} {u : HO} (r : Rd H a u) (x : HOk P w H h) : ObjOk P w H h a u := by
  rcases r with r | ⟨o, r⟩
  · exact x a u r
  · obtain ⟨_, q⟩ := x a _ r
    exact q
/-- what may be written -/
def Mut : Option HO → Prop
  | some (.lst _) => True
  | some (.dK _) => True
  | some (.dT _) => True
  | some (.set _ _) => True
  | some (.ins _ _ _) => True
  | some (.ext _) => True
  | _ => False
section
variable {P : Program} {w : World} {H : Hp} {h h' : Heap} {x e : Addr} {o' : HO}
/-- the object at e is changed: x itself, or the dict of the instance x -/
theorem HOk.write (ok : HOk P w H h) (mu : Mut (H x)) (he : e = x ∨ H e = some (.own x)) (k : ∀ b u, b ≠ e → h.get? b = some u → h'.get? b = some u) (heo : ∃ u, h'.get? e = some u)
    (new : ObjOk P w (upd H x o') h' x o') : HOk P w (upd H x o') h' := fun b u q => by
  have nown : ∀ c y, H c = some (.own y) → c ≠ x := fun c y r z => by subst z; rw [r] at mu; exact mu
  have ntup : ∀ c xs, H c = some (.tup xs) → c ≠ x := fun c xs r z => by subst z; rw [r] at mu; exact mu
  by_cases hb : b = x
  · subst hb; rw [upd_same] at q; cases q; exact new
  · rw [upd_ne hb] at q
    by_cases hbe : b = e
    · have q' : H b = some (.own x) := by
        rcases he with z | z
        · exact absurd (hbe.trans z) hb
        · rw [hbe]; exact z
      rw [q] at q'; cases q'
      obtain ⟨v, hv⟩ := heo
      exact ⟨v, by rw [hbe]; exact hv⟩
    · refine (ok b u q).stay (fun c v hc r => k c v ?_ r) (fun c r => by rw [upd_ne (nown c b r)]; exact r) fun c xs r => by rw [upd_ne (ntup c xs r)]; exact r
      rcases hc with rfl | hc
      · exact hbe
      · rintro rfl
        rcases he with z | z
        · exact nown c b hc z
        · rw [hc] at z; cases z; exact hb rfl
end

/-! ### kept unless tracked; of the frames at fs (the callers') the slots may change (an exception that passes writes there); of the records at ex (iterators) nothing is said -/
structure Un (fs ex : List Addr) (H H' : Hp) (h h' : Heap) : Prop where
  keep : ∀ b o, h.get? b = some o → H b = none → b ∉ fs → b ∉ ex → h'.get? b = some o
  slot : ∀ b o, h.get? b = some o → H b = none → b ∈ fs → b ∉ ex → ∃ sl, h'.get? b = some { o with slots := sl }
  free : ∀ b o, h.get? b = some o → H b = none → b ∉ ex → H' b = none
  there : ∀ b o, h.get? b = some o → b ∉ ex → ∃ o', h'.get? b = some o'
  tups : ∀ b xs, H b = some (.tup xs) → H' b = some (.tup xs)
  frzs : ∀ b o u, H b = some (.frz o u) → H' b = some (.frz o u)
  tbls : ∀ b ps, H b = some (.tbl ps) → ∃ more, H' b = some (.tbl (ps ++ more))
section
variable {fs fs' ex ex' : List Addr} {H H1 H2 : Hp} {h h1 h2 h' : Heap} {a x e : Addr} {o : HO}
theorem Un.any (u : Un fs ex H H1 h h1) {b : Addr} {ob : Obj} (q : h.get? b = some ob) (n : H b = none) (hx : b ∉ ex) : ∃ sl, h1.get? b = some { ob with slots := sl } := by
  by_cases hb : b ∈ fs
  · exact u.slot b ob q n hb hx
  · exact ⟨ob.slots, u.keep b ob q n hb hx⟩
theorem Un.kept (k : ∀ b u, h.get? b = some u → h'.get? b = some u) : Un fs ex H H h h' :=
  ⟨fun b ob q _ _ _ => k b ob q, fun b ob q _ _ _ => ⟨ob.slots, k b ob q⟩, fun _ _ _ n _ => n, fun b ob q _ => ⟨ob, k b ob q⟩, fun _ _ q => q, fun _ _ _ q => q, fun _ ps q => ⟨#[], by rw [q]; simp⟩⟩
theorem Un.refl : Un fs ex H H h h := Un.kept fun _ _ q => q
theorem Un.laid (k : ∀ b u, h.get? b = some u → h'.get? b = some u) (hp : h.objs.size ≤ a) (hn : H a = none) : Un fs ex H (upd H a o) h h' where
  keep := fun b u q _ _ _ => k b u q
  slot := fun b u q _ _ _ => ⟨u.slots, k b u q⟩
  free := fun b u q n _ => by rw [upd_ne (Nat.ne_of_lt (Nat.lt_of_lt_of_le (Heap.lt_size q) hp))]; exact n
  there := fun b u q _ => ⟨u, k b u q⟩
  tups := fun b xs q => by rw [upd_ne (ne_of_none q hn)]; exact q
  frzs := fun b u xs q => by rw [upd_ne (ne_of_none q hn)]; exact q
  tbls := fun b ps q => ⟨#[], by rw [upd_ne (ne_of_none q hn), q]; simp⟩
theorem Un.write (mu : Mut (H x)) (he : e = x ∨ H e = some (.own x)) (k : ∀ b u, b ≠ e → h.get? b = some u → h'.get? b = some u) (heo : ∃ u, h'.get? e = some u) : Un fs ex H (upd H x o) h h' := by
  have hx : ∀ b, H b = none → b ≠ x := fun b n z => by subst z; rw [n] at mu; exact mu
  have hb : ∀ b, H b = none → b ≠ e := fun b n z => by
    subst z
    rcases he with r | r
    · exact hx b n r
    · rw [n] at r; cases r
  have hm : ∀ b u, H b = some u → ¬ Mut (some u) → b ≠ x := fun b u q nm z => by subst z; rw [q] at mu; exact nm mu
  refine ⟨fun b u q n _ _ => k b u (hb b n) q, fun b u q n _ _ => ⟨u.slots, k b u (hb b n) q⟩, fun b u q n _ => by rw [upd_ne (hx b n)]; exact n, fun b u q _ => ?_,
    fun b xs q => by rw [upd_ne (hm b _ q fun z => z)]; exact q, fun b u xs q => by rw [upd_ne (hm b _ q fun z => z)]; exact q, fun b ps q => ⟨#[], by rw [upd_ne (hm b _ q fun z => z), q]; simp⟩⟩
  by_cases hbe : b = e
  · subst hbe; exact heo
  · exact ⟨u, k b u hbe q⟩
end

/-! ### the heap without what is tracked -/
def trk (h : Heap) (H : Hp) : List Addr := (List.range h.objs.size).filter fun a => (H a).isSome
def hidT (h : Heap) (H : Hp) : Heap := PySem.W.hideAll h (trk h H)
theorem hidT_size (h : Heap) (H : Hp) : (hidT h H).objs.size = h.objs.size := PySem.W.hideAll_size _ _
theorem hidT_get {h : Heap} {H : Hp} {b : Addr} {o : Obj} (e : h.get? b = some o) (n : H b = none) : (hidT h H).get? b = some o :=
  PySem.W.hideAll_get _ e fun hm => by
    have q : (H b).isSome = true := (List.mem_filter.mp hm).2
    rw [n] at q; simp at q
theorem of_hidT {h : Heap} {H : Hp} {b : Addr} {o : Obj} (e : (hidT h H).get? b = some o) : h.get? b = some o ∧ H b = none := by
  have e' : h.get? b = some o := PySem.W.of_hideAll (trk h H) e
  refine ⟨e', ?_⟩
  cases q : H b with
  | none => rfl
  | some x =>
    have hm : b ∈ trk h H := List.mem_filter.mpr ⟨List.mem_range.mpr (Heap.lt_size e'), by simp [q]⟩
    have z : (hidT h H).get? b = none := PySem.W.hideAll_none (trk h H) hm
    rw [z] at e; cases e

/-! ### OpenK's ledger, filled with every new object but one -/
end L2

namespace L2
open PySem PySem.Spec PyProof.Rows

/-- the module's facts, over the base: the heap at the law's entry without what is tracked there -/
structure Mod (K : PySem.W.Frag) (mg : Str → Option Value) (base : Heap) : Prop where
  kin : K.In base
  glob : base.Ns mainGlobals mg
  blt : ∃ mb, base.Ns builtinsNs mb ∧ ∀ x : Str, x ≠ "__name__" → mb x = bootBuiltins x
  nolimit : base.NoLimit

/-- the context: a def's body (or a comprehension's block) running. base: fixed through the whole law; s₀, H₀: the entry; outer: the frames whose slots others may change (a def's callers); stack: all frames that run;
   ex: iterators that were made ahead of the entry and are walked here (a comprehension's); fn: the names whose cells were made at the entry (a def: all; a comprehension's block: its own); calm: not within an except suite; pn: pins that every state bears; xe: what is wanted of an exception that leaves the code -/
structure Cx where
  prog : Program
  w : World
  K : PySem.W.Frag
  mg : Str → Option Value
  base : Heap
  A : Around
  N : List Str
  s_0 : Shared
  H_0 : Hp
  env : Env
  outer : List Env
  stack : List Env
  ex : List Addr
  fn : Str → Bool
  calm : Bool
  pn : List (Addr × Obj)
  xe : Value → Shared → Prop
/-- the callers' frames -/
def frs (l : List Env) : List Addr := l.filterMap (·.frame)
abbrev Cx.fs (X : Cx) : List Addr := frs X.outer

def Vis (sc : Scope) (x : Str) : Prop := sc.names.lookup x = some .local ∨ sc.names.lookup x = some .cell ∨ sc.names.lookup x = some .free
def Loc (sc : Scope) (x : Str) : Prop := sc.names.lookup x = some .local ∨ sc.names.lookup x = some .cell
def Look (env : Env) (h : Heap) (m : Str → Option Value) (x : Str) (u : Value) : Prop :=
  (env.kindOf x = some .local ∧ m x = some u) ∨ ((env.kindOf x = some .cell ∨ env.kindOf x = some .free) ∧ ∃ c, env.cells.lookup x = some c ∧ h.IsCell c (some u))

structure Cx.Ok (X : Cx) : Prop where
  mod : Mod X.K X.mg X.base
  kind : X.env.scope.kind = .function
  glob : X.env.globals = mainGlobals
  blt : X.env.builtins = builtinsNs
  above : X.s_0.heap.objs.size ≤ X.env.locals
  inj : ∀ x y c, X.env.cells.lookup x = some c → X.env.cells.lookup y = some c → x = y
  has : ∀ x, (X.env.kindOf x = some .cell ∨ X.env.kindOf x = some .free) → ∃ c, X.env.cells.lookup x = some c
  cab : ∀ x c, X.fn x = true → X.env.cells.lookup x = some c → X.s_0.heap.objs.size ≤ c
  hd : X.calm = true → X.A.handled = none
  frames : X.A.frames = some X.stack
  stk : X.stack = X.outer ∨ (X.stack = X.env :: X.outer ∧ X.env.frame = some X.env.locals)
  exf : ∀ b ∈ X.ex, b ≠ X.env.locals ∧ ∀ x c, X.env.cells.lookup x = some c → c ≠ b
  bs : ∀ b o, X.base.get? b = some o → X.s_0.heap.get? b = some o ∧ X.H_0 b = none
  bsz : X.base.objs.size ≤ X.s_0.heap.objs.size
  noex : ∀ b o, X.base.get? b = some o → b ∉ X.ex
  exfs : ∀ b ∈ X.ex, b ∉ X.fs
  funs : X.s_0.heap.FunFrames X.base X.outer
  frf : ∀ b ∈ X.fs, X.H_0 b = none

structure Inv (X : Cx) (pins : List (Addr × Obj)) (σ : List (Option V)) (H : Hp) (s : Shared) : Prop where
  ok : X.Ok
  os : s.os = X.s_0.os
  bare : AllBare s.gens
  base : Un X.fs X.ex X.H_0 H X.s_0.heap s.heap
  loc : ∃ m, s.heap.Ns X.env.locals m ∧ ∀ (i : Nat) (x : Str) (v : V), X.N[i]? = some x → σ[i]? = some (some v) → Vis X.env.scope x → ∃ u, RelV v u ∧ Look X.env s.heap m x u
  cell : ∀ x c, X.env.cells.lookup x = some c → ∃ v, s.heap.IsCell c v
  free : H X.env.locals = none
  freeC : ∀ x c, X.env.cells.lookup x = some c → H c = none
  pin : ∀ p ∈ X.pn ++ pins, s.heap.get? p.1 = some p.2 ∧ H p.1 = none ∧ p.1 ≠ X.env.locals ∧ p.1 ∉ X.fs ∧ ∀ v, p.2.data ≠ .cell v
  hok : HOk X.prog X.w H s.heap
  len : σ.length = X.N.length

section
variable {X : Cx} {pins : List (Addr × Obj)} {σ : List (Option V)} {H H' : Hp} {s : Shared} {h' : Heap}

theorem Cx.Ok.nofr (ok : X.Ok) {b : Addr} {o : Obj} (e : X.base.get? b = some o) : b ∉ X.fs := fun hb => by
  have := (ok.funs.mem hb).1
  rw [e] at this; cases this
theorem Inv.bs (I : Inv X pins σ H s) : ∀ b o, X.base.get? b = some o → s.heap.get? b = some o ∧ H b = none := fun b o e =>
  ⟨I.base.keep b o (I.ok.bs b o e).1 (I.ok.bs b o e).2 (I.ok.nofr e) (I.ok.noex b o e), I.base.free b o (I.ok.bs b o e).1 (I.ok.bs b o e).2 (I.ok.noex b o e)⟩
theorem Inv.bk (I : Inv X pins σ H s) : ∀ b o, X.base.get? b = some o → s.heap.get? b = some o := fun b o e => (I.bs b o e).1
theorem Inv.mod (I : Inv X pins σ H s) : Mod X.K X.mg X.base := I.ok.mod
theorem Inv.kIn (I : Inv X pins σ H s) : X.K.In s.heap := I.ok.mod.kin.keeps I.bk
theorem Inv.lt (I : Inv X pins σ H s) : X.env.locals < s.heap.objs.size := let ⟨_, hn, _⟩ := I.loc; hn.lt
theorem Inv.sz (I : Inv X pins σ H s) : X.s_0.heap.objs.size ≤ s.heap.objs.size := Nat.le_trans I.ok.above (Nat.le_of_lt I.lt)
theorem Inv.nofs (I : Inv X pins σ H s) {a : Addr} (h : s.heap.objs.size ≤ a) : a ∉ X.fs := fun hb => by
  obtain ⟨_, o, ho, _⟩ := I.ok.funs.mem hb
  exact absurd (Nat.lt_of_lt_of_le (Heap.lt_size ho) (Nat.le_trans I.sz h)) (Nat.lt_irrefl _)
theorem Inv.cne (I : Inv X pins σ H s) : ∀ x c, X.env.cells.lookup x = some c → c ≠ X.env.locals := fun x c e z => by
  obtain ⟨v, o, ho, hd⟩ := I.cell x c e
  obtain ⟨m, ⟨o', es, ep, ho', hd', _⟩, _⟩ := I.loc
  rw [z, ho'] at ho; cases ho; rw [hd'] at hd; cases hd
theorem Inv.funs (I : Inv X pins σ H s) : s.heap.FunFrames X.base X.outer := by
  have all : ∀ (l : List Env), (∀ b ∈ frs l, b ∈ X.fs) → X.s_0.heap.FunFrames X.base l → s.heap.FunFrames X.base l := by
    intro l
    induction l with
    | nil => intro _ _; trivial
    | cons env r ih =>
      intro hs hl
      obtain ⟨hk, ⟨L, o, hf, hn, ho, hd⟩, hr⟩ := hl
      have hL : L ∈ X.fs := hs L (by unfold frs; rw [List.filterMap_cons, hf]; exact List.mem_cons_self)
      obtain ⟨sl, e⟩ := I.base.slot L o ho (I.ok.frf L hL) hL fun z => I.ok.exfs L z hL
      exact ⟨hk, ⟨L, _, hf, hn, e, hd⟩, ih (fun b hb => hs b (by unfold frs; rw [List.filterMap_cons, hf]; exact List.mem_cons_of_mem _ hb)) hr⟩
  exact all X.outer (fun _ hb => hb) I.ok.funs

/-- the frames that run, for a call -/
theorem Inv.stack (I : Inv X pins σ H s) : s.heap.FunFrames X.base X.stack := by
  rcases I.ok.stk with e | ⟨e, hf⟩
  · rw [e]; exact I.funs
  · rw [e]
    obtain ⟨m, hn, _⟩ := I.loc
    refine .cons (by rw [I.ok.kind]; decide) hf hn ?_ I.funs
    exact Heap.get?_none_of_le (Nat.le_trans I.ok.bsz I.ok.above)
theorem Inv.stkSub (I : Inv X pins σ H s) : ∀ b ∈ frs X.stack, b ∈ X.env.locals :: X.fs := fun b hb => by
  rcases I.ok.stk with e | ⟨e, hf⟩
  · rw [e] at hb; exact List.mem_cons_of_mem _ hb
  · rw [e] at hb
    unfold frs at hb
    rw [List.filterMap_cons, hf] at hb
    exact hb
theorem Inv.stkFree (I : Inv X pins σ H s) : ∀ b ∈ frs X.stack, H b = none := fun b hb => by
  rcases List.mem_cons.mp (I.stkSub b hb) with e | hb
  · rw [e]; exact I.free
  · obtain ⟨_, o, ho, _⟩ := I.ok.funs.mem hb
    exact I.base.free b o ho (I.ok.frf b hb) fun z => I.ok.exfs b z hb

/-- THE STEP: the untracked objects but the frame and the records at ch are kept (the callers' frames up to slots), the frame's map is kept, the new abstract heap is held -/
theorem Inv.step {g' : Array GenState} {t' : Nat} {d' : Drawn} {ch : List Addr} (I : Inv X pins σ H s)
    (hch : ∀ b ∈ ch, (b ∈ X.ex ∨ X.s_0.heap.objs.size ≤ b) ∧ b ≠ X.env.locals ∧ (∀ x c, X.env.cells.lookup x = some c → c ≠ b) ∧ ∀ p ∈ X.pn ++ pins, p.1 ≠ b)
    (keep : ∀ b o, b ≠ X.env.locals → b ∉ X.fs → b ∉ ch → s.heap.get? b = some o → H b = none → h'.get? b = some o)
    (slot : ∀ b o, b ≠ X.env.locals → b ∈ X.fs → b ∉ ch → s.heap.get? b = some o → H b = none → ∃ sl, h'.get? b = some { o with slots := sl }) (free : ∀ b o, b ∉ ch → s.heap.get? b = some o → H b = none → H' b = none)
    (there : ∀ b o, b ∉ ch → s.heap.get? b = some o → ∃ o', h'.get? b = some o')
    (tups : ∀ b xs, H b = some (.tup xs) → H' b = some (.tup xs)) (frzs : ∀ b o u, H b = some (.frz o u) → H' b = some (.frz o u)) (tbls : ∀ b ps, H b = some (.tbl ps) → ∃ more, H' b = some (.tbl (ps ++ more)))
    (ns : ∀ m, s.heap.Ns X.env.locals m → h'.Ns X.env.locals m) (hok : HOk X.prog X.w H' h') (hg : AllBare g') :
    Inv X pins σ H' { s with heap := h', gens := g', drawn := d', toks := t' } := by
  have neL : ∀ b o, X.s_0.heap.get? b = some o → b ≠ X.env.locals := fun b o e => Nat.ne_of_lt (Nat.lt_of_lt_of_le (Heap.lt_size e) I.ok.above)
  have neC : ∀ b o, X.s_0.heap.get? b = some o → b ∉ X.ex → b ∉ ch := fun b o e hx hb => by
    rcases (hch b hb).1 with z | z
    · exact hx z
    · exact absurd (Nat.lt_of_lt_of_le (Heap.lt_size e) z) (Nat.lt_irrefl _)
  have cellK : ∀ x c, X.env.cells.lookup x = some c → ∀ v, s.heap.IsCell c v → h'.IsCell c v := fun x c e v ⟨o, ho, hd⟩ => by
    have nch : c ∉ ch := fun z => (hch c z).2.2.1 x c e rfl
    by_cases hc : c ∈ X.fs
    · obtain ⟨sl, q⟩ := slot c o (I.cne x c e) hc nch ho (I.freeC x c e)
      exact ⟨_, q, hd⟩
    · exact ⟨o, keep c o (I.cne x c e) hc nch ho (I.freeC x c e), hd⟩
  refine ⟨I.ok, I.os, hg, ⟨fun b o e n hb hx => ?_, fun b o e n hb hx => ?_, fun b o e n hx => ?_, fun b o e hx => ?_, fun b xs e => tups b xs (I.base.tups b xs e), fun b o xs e => frzs b o xs (I.base.frzs b o xs e), fun b ps e => ?_⟩, ?_, fun x c e => ?_, ?_, fun x c e => ?_, fun p hp => ?_, hok, I.len⟩
  · exact keep b o (neL b o e) hb (neC b o e hx) (I.base.keep b o e n hb hx) (I.base.free b o e n hx)
  · obtain ⟨sl, e1⟩ := I.base.slot b o e n hb hx
    obtain ⟨sl', e2⟩ := slot b _ (neL b o e) hb (neC b o e hx) e1 (I.base.free b o e n hx)
    exact ⟨sl', e2⟩
  · obtain ⟨o', e1⟩ := I.base.there b o e hx
    exact free b o' (neC b o e hx) e1 (I.base.free b o e n hx)
  · obtain ⟨o', e1⟩ := I.base.there b o e hx
    exact there b o' (neC b o e hx) e1
  · obtain ⟨m1, e1⟩ := I.base.tbls b ps e
    obtain ⟨m2, e2⟩ := tbls b _ e1
    exact ⟨m1 ++ m2, by rw [e2, Array.append_assoc]⟩
  · obtain ⟨m, hn, hl⟩ := I.loc
    refine ⟨m, ns m hn, fun i x v e1 e2 e3 => ?_⟩
    obtain ⟨u, r, l⟩ := hl i x v e1 e2 e3
    refine ⟨u, r, ?_⟩
    rcases l with l | ⟨k, c, e, z⟩
    · exact .inl l
    · exact .inr ⟨k, c, e, cellK x c e _ z⟩
  · obtain ⟨v, z⟩ := I.cell x c e
    exact ⟨v, cellK x c e v z⟩
  · obtain ⟨m, ⟨o, _, _, ho, _⟩, _⟩ := I.loc
    exact free _ o (fun z => (hch _ z).2.1 rfl) ho I.free
  · obtain ⟨v, o, ho, hd⟩ := I.cell x c e
    exact free c o (fun z => (hch c z).2.2.1 x c e rfl) ho (I.freeC x c e)
  · obtain ⟨e, n, ne, nf, d⟩ := I.pin p hp
    have nch : p.1 ∉ ch := fun z => (hch p.1 z).2.2.2 p hp rfl
    exact ⟨keep p.1 p.2 ne nf nch e n, free p.1 p.2 nch e n, ne, nf, d⟩
/-- .. where the frame's own object is kept too -/
theorem Inv.un {t' : Nat} (I : Inv X pins σ H s) (u : Un X.fs [] H H' s.heap h') (hok : HOk X.prog X.w H' h') : Inv X pins σ H' { s with heap := h', toks := t' } := by
  obtain ⟨m, ⟨o, es, ep, ho, r⟩, _⟩ := id I.loc
  obtain ⟨sl, hL⟩ := u.any ho I.free (by simp)
  exact I.step (g' := s.gens) (d' := s.drawn) (ch := []) (fun _ z => nomatch z) (fun b o _ hb _ e n => u.keep b o e n hb (by simp)) (fun b o _ hb _ e n => u.slot b o e n hb (by simp)) (fun b o _ e n => u.free b o e n (by simp)) (fun b o _ e => u.there b o e (by simp)) u.tups u.frzs u.tbls (fun m' hm => by
    obtain ⟨o', es', ep', ho', r'⟩ := hm
    rw [ho] at ho'; cases ho'
    exact ⟨_, es', ep', hL, r'⟩) hok I.bare
/-- behind a call (or a comprehension's block): the slots of this frame may have changed too, the records at ch may have turned -/
theorem Inv.call {g' : Array GenState} {t' : Nat} {d' : Drawn} {ch : List Addr} (I : Inv X pins σ H s) (u : Un (frs X.stack) ch H H' s.heap h') (hok : HOk X.prog X.w H' h') (hg : AllBare g')
    (hch : ∀ b ∈ ch, (b ∈ X.ex ∨ X.s_0.heap.objs.size ≤ b) ∧ b ≠ X.env.locals ∧ (∀ x c, X.env.cells.lookup x = some c → c ≠ b) ∧ ∀ p ∈ X.pn ++ pins, p.1 ≠ b) :
    Inv X pins σ H' { s with heap := h', gens := g', drawn := d', toks := t' } := by
  obtain ⟨m, ⟨o, es, ep, ho, r⟩, _⟩ := id I.loc
  obtain ⟨sl, hL⟩ := u.any ho I.free fun z => (hch _ z).2.1 rfl
  exact I.step (ch := ch) hch (fun b o hL hb hc e n => u.keep b o e n (fun z => (List.mem_cons.mp (I.stkSub b z)).elim hL hb) hc) (fun b o _ _ hc e n => u.any e n hc) (fun b o hc e n => u.free b o e n hc) (fun b o hc e => u.there b o e hc) u.tups u.frzs u.tbls (fun m' hm => by
    obtain ⟨o', es', ep', ho', r'⟩ := hm
    rw [ho] at ho'; cases ho'
    exact ⟨_, es', ep', hL, r'⟩) hok hg
/-- an untracked record of ours (an iterator) has turned -/
theorem Inv.turned {t' : Nat} {it : Addr} (I : Inv X pins σ H s) (k : ∀ b o, b ≠ it → s.heap.get? b = some o → h'.get? b = some o) (hn : H it = none) (hL : it ≠ X.env.locals)
    (h1 : it ∈ X.ex ∨ X.s_0.heap.objs.size ≤ it) (h2 : ∀ x c, X.env.cells.lookup x = some c → c ≠ it) (h3 : ∀ p ∈ X.pn ++ pins, p.1 ≠ it) : Inv X pins σ H { s with heap := h', toks := t' } := by
  have nit : ∀ b u, H b = some u → b ≠ it := fun b u e z => by rw [z, hn] at e; cases e
  refine I.step (g' := s.gens) (d' := s.drawn) (ch := [it]) (fun b hb => ?_) (fun b o _ _ hc e _ => k b o (fun z => hc (by simp [z])) e) (fun b o _ _ hc e _ => ⟨o.slots, k b o (fun z => hc (by simp [z])) e⟩) (fun _ _ _ _ n => n)
    (fun b o hc e => ⟨o, k b o (fun z => hc (by simp [z])) e⟩) (fun _ _ e => e) (fun _ _ _ e => e) (fun b ps e => ⟨#[], by rw [e]; simp⟩) (fun m hm => ?_) (fun b u e => ?_) I.bare
  · have e : b = it := by simpa using hb
    subst e
    exact ⟨h1, hL, h2, h3⟩
  · obtain ⟨o, es, ep, ho, r⟩ := hm
    exact ⟨o, es, ep, k _ o (Ne.symm hL) ho, r⟩
  · refine (I.hok b u e).stay (fun c v hc q => k c v ?_ q) (fun _ q => q) fun _ _ q => q
    rcases hc with z | z
    · rw [z]; exact nit b u e
    · exact nit c _ z
theorem Inv.tok (I : Inv X pins σ H s) (t : Nat) : Inv X pins σ H { s with toks := t } := I.un (h' := s.heap) (t' := t) Un.refl I.hok
/-- all objects kept -/
theorem Inv.kept {t' : Nat} (I : Inv X pins σ H s) (k : ∀ b u, s.heap.get? b = some u → h'.get? b = some u) : Inv X pins σ H { s with heap := h', toks := t' } := I.un (Un.kept k) (I.hok.kept k)
/-- a new object laid and tracked -/
theorem Inv.laid {a : Addr} {o : HO} {t' : Nat} (I : Inv X pins σ H s) (k : ∀ b u, s.heap.get? b = some u → h'.get? b = some u) (hp : s.heap.objs.size ≤ a) (new : ObjOk X.prog X.w (upd H a o) h' a o) :
    Inv X pins σ (upd H a o) { s with heap := h', toks := t' } := I.un (Un.laid k hp (I.hok.fresh hp)) (I.hok.laid k hp new)
/-- an object written -/
theorem Inv.write {x e : Addr} {o : HO} {t' : Nat} (I : Inv X pins σ H s) (mu : Mut (H x)) (he : e = x ∨ H e = some (.own x)) (k : ∀ b u, b ≠ e → s.heap.get? b = some u → h'.get? b = some u) (heo : ∃ u, h'.get? e = some u)
    (new : ObjOk X.prog X.w (upd H x o) h' x o) : Inv X pins σ (upd H x o) { s with heap := h', toks := t' } := I.un (Un.write mu he k heo) (I.hok.write mu he k heo new)
theorem Inv.pins_of {pins' : List (Addr × Obj)} (I : Inv X pins σ H s) (h : ∀ p ∈ pins', s.heap.get? p.1 = some p.2 ∧ H p.1 = none ∧ p.1 ≠ X.env.locals ∧ p.1 ∉ X.fs ∧ ∀ v, p.2.data ≠ .cell v) : Inv X pins' σ H s :=
  ⟨I.ok, I.os, I.bare, I.base, I.loc, I.cell, I.free, I.freeC, fun p hp => (List.mem_append.mp hp).elim (fun z => I.pin p (List.mem_append_left _ z)) (h p), I.hok, I.len⟩

theorem nodup_ix {N : List Str} (hN : N.Nodup) {i j : Nat} {x : Str} (a : N[i]? = some x) (b : N[j]? = some x) : i = j := by
  obtain ⟨h1, e1⟩ := List.getElem?_eq_some_iff.mp a
  obtain ⟨h2, e2⟩ := List.getElem?_eq_some_iff.mp b
  exact (List.getElem_inj hN).mp (e1.trans e2.symm)

/-- a name is stored; what changed -/
theorem store_ok2 {M : Model} {A : Around} {E : Value → Shared → Prop} {i : Nat} {x : Str} {v : V} {u : Value} {Q : Unit → Shared → Prop} (I : Inv X pins σ H s) (hN : X.N.Nodup) (hi : X.N[i]? = some x) (hx : Loc X.env.scope x) (r : RelV v u)
    (h : ∀ s', Inv X pins (σ.set i (some v)) H s' → (∃ a, Heap.SameBut a s.heap s'.heap ∧ (a = X.env.locals ∨ X.env.cells.lookup x = some a)) → Q () s') (hf : X.fn x = true ∨ X.env.scope.names.lookup x = some .local := by first | exact .inl rfl | exact .inr rfl | assumption) : wpAny M A (storeName X.env x u) Q E s := by
  obtain ⟨m, hn, hl⟩ := id I.loc
  have hcls : (X.env.scope.kind == .class || (X.env.scope.kind == .module && X.env.locals != X.env.globals)) = false := by rw [I.ok.kind]; rfl
  have hiσ : i < σ.length := by rw [I.len]; exact (List.getElem?_eq_some_iff.mp hi).1
  have cne := I.cne
  have tracked : ∀ {a : Addr} {h' : Heap}, (∃ o, s.heap.get? a = some o ∧ H a = none) → Heap.SameBut a s.heap h' → HOk X.prog X.w H h' := fun {a h'} ha hs b ob e => by
    obtain ⟨_, _, hfree⟩ := ha
    refine (I.hok b ob e).stay (fun c w' hc q => (hs.2 c ?_).trans q) (fun _ q => q) fun _ _ q => q
    rintro rfl
    rcases hc with rfl | hc
    · rw [hfree] at e; cases e
    · rw [hfree] at hc; cases hc
  rcases hx with hk | hk
  · refine wpAny_storeName_local hk hn (fun h' hn' hs => ?_) hcls
    obtain ⟨oL, _, _, hoL, _⟩ := id hn
    refine h _ ⟨I.ok, I.os, I.bare, ⟨fun b o e n hb hx => ?_, fun b o e n hb hx => ?_, I.base.free, fun b o e hx => ?_, I.base.tups, I.base.frzs, I.base.tbls⟩, ⟨_, hn', fun j y v' e1 e2 e3 => ?_⟩, fun y c e => ?_, I.free, I.freeC, fun p hp => ?_, tracked ⟨oL, hoL, I.free⟩ hs, by simpa using I.len⟩ ⟨_, hs, .inl rfl⟩
    · exact (hs.2 b (Nat.ne_of_lt (Nat.lt_of_lt_of_le (Heap.lt_size e) I.ok.above))).trans (I.base.keep b o e n hb hx)
    · obtain ⟨sl, e1⟩ := I.base.slot b o e n hb hx
      exact ⟨sl, (hs.2 b (Nat.ne_of_lt (Nat.lt_of_lt_of_le (Heap.lt_size e) I.ok.above))).trans e1⟩
    · obtain ⟨o', e1⟩ := I.base.there b o e hx
      exact ⟨o', (hs.2 b (Nat.ne_of_lt (Nat.lt_of_lt_of_le (Heap.lt_size e) I.ok.above))).trans e1⟩
    · by_cases hj : j = i
      · subst hj
        rw [hi] at e1; cases e1
        rw [List.getElem?_set_self hiσ] at e2
        cases e2
        exact ⟨u, r, .inl ⟨hk, by simp⟩⟩
      · rw [List.getElem?_set_ne (Ne.symm hj)] at e2
        obtain ⟨u', r', q⟩ := hl j y v' e1 e2 e3
        refine ⟨u', r', ?_⟩
        rcases q with ⟨k, e⟩ | ⟨k, c, e, z⟩
        · refine .inl ⟨k, ?_⟩
          have : y ≠ x := fun e => hj (nodup_ix hN e1 (e ▸ hi))
          simp [this, e]
        · exact .inr ⟨k, c, e, z.sameBut hs (cne y c e)⟩
    · obtain ⟨w', z⟩ := I.cell y c e
      exact ⟨w', z.sameBut hs (cne y c e)⟩
    · obtain ⟨e, n, ne, nf, d⟩ := I.pin p hp
      exact ⟨(hs.2 p.1 ne).trans e, n, ne, nf, d⟩
  · have hfn : X.fn x = true := by
      rcases hf with z | z
      · exact z
      · rw [z] at hk; cases hk
    obtain ⟨c, hc⟩ := I.ok.has x (.inl hk)
    obtain ⟨w', z⟩ := I.cell x c hc
    refine wpAny_storeName_cell I.ok.kind hk hc z (fun h' hc' hs => ?_)
    obtain ⟨oc, hoc, hocd⟩ := id z
    refine h { s with heap := h' } ⟨I.ok, I.os, I.bare, ⟨fun b o e n hb hx => ?_, fun b o e n hb hx => ?_, I.base.free, fun b o e hx => ?_, I.base.tups, I.base.frzs, I.base.tbls⟩, ⟨m, hn.sameBut hs (Ne.symm (cne x c hc)), fun j y v' e1 e2 e3 => ?_⟩, fun y c' e => ?_, I.free, I.freeC, fun p hp => ?_, tracked ⟨oc, hoc, I.freeC x c hc⟩ hs, by simpa using I.len⟩ ⟨c, hs, .inr hc⟩
    · exact (hs.2 b (Nat.ne_of_lt (Nat.lt_of_lt_of_le (Heap.lt_size e) (I.ok.cab x c hfn hc)))).trans (I.base.keep b o e n hb hx)
    · obtain ⟨sl, e1⟩ := I.base.slot b o e n hb hx
      exact ⟨sl, (hs.2 b (Nat.ne_of_lt (Nat.lt_of_lt_of_le (Heap.lt_size e) (I.ok.cab x c hfn hc)))).trans e1⟩
    · obtain ⟨o', e1⟩ := I.base.there b o e hx
      exact ⟨o', (hs.2 b (Nat.ne_of_lt (Nat.lt_of_lt_of_le (Heap.lt_size e) (I.ok.cab x c hfn hc)))).trans e1⟩
    · by_cases hj : j = i
      · subst hj
        rw [hi] at e1; cases e1
        rw [List.getElem?_set_self hiσ] at e2
        cases e2
        exact ⟨u, r, .inr ⟨.inl hk, c, hc, hc'⟩⟩
      · rw [List.getElem?_set_ne (Ne.symm hj)] at e2
        obtain ⟨u', r', q⟩ := hl j y v' e1 e2 e3
        refine ⟨u', r', ?_⟩
        rcases q with q | ⟨k, c', e, z'⟩
        · exact .inl q
        · refine .inr ⟨k, c', e, z'.sameBut hs ?_⟩
          rintro rfl
          exact hj (nodup_ix hN e1 (I.ok.inj _ _ _ e hc ▸ hi))
    · by_cases hcc : c' = c
      · subst hcc; exact ⟨_, hc'⟩
      · obtain ⟨w2, z2⟩ := I.cell y c' e
        exact ⟨w2, z2.sameBut hs hcc⟩
    · obtain ⟨e, n, ne, nf, d⟩ := I.pin p hp
      refine ⟨(hs.2 p.1 ?_).trans e, n, ne, nf, d⟩
      intro q
      rw [q, hoc] at e
      have q' : oc = p.2 := Option.some.inj e
      exact d w' (by rw [← q']; exact hocd)
theorem store_ok {M : Model} {A : Around} {E : Value → Shared → Prop} {i : Nat} {x : Str} {v : V} {u : Value} {Q : Unit → Shared → Prop} (I : Inv X pins σ H s) (hN : X.N.Nodup) (hi : X.N[i]? = some x) (hx : Loc X.env.scope x) (r : RelV v u)
    (h : ∀ s', Inv X pins (σ.set i (some v)) H s' → Q () s') (hf : X.fn x = true ∨ X.env.scope.names.lookup x = some .local := by first | exact .inl rfl | exact .inr rfl | assumption) : wpAny M A (storeName X.env x u) Q E s :=
  store_ok2 I hN hi hx r (fun s' I' _ => h s' I') hf
end

/-! ### the judgements -/
/-- an exception: its class, its own dict's address (where it has one), the abstract heap behind it -/
abbrev XK := Value → Option Addr → Hp → Prop
abbrev St := List (Option V)
abbrev VK := V → Hp → Prop
/-- an expression's reading; a test's; an argument list's -/
abbrev TE := St → Hp → VK → Prop
abbrev TT := St → Hp → (Bool → Hp → Prop) → Prop
abbrev TA := St → Hp → (List V → Hp → Prop) → Prop
/-- what is wanted behind a statement -/
structure Ends where
  nx : St → Hp → Prop
  rt : VK
  bk : St → Hp → Prop := fun _ _ => False
  ct : St → Hp → Prop := fun _ _ => False
abbrev TS := Ends → St → Hp → Prop

def EP (X : Cx) (pins : List (Addr × Obj)) (σ : St) (Q : VK) (u : Value) (s' : Shared) : Prop := ∃ v H', Inv X pins σ H' s' ∧ RelV v u ∧ Q v H'
def TP (X : Cx) (pins : List (Addr × Obj)) (σ : St) (Q : Bool → Hp → Prop) (b : Bool) (s' : Shared) : Prop := ∃ H', Inv X pins σ H' s' ∧ Q b H'
def AP (X : Cx) (pins : List (Addr × Obj)) (σ : St) (Q : List V → Hp → Prop) (us : List Value) (s' : Shared) : Prop := ∃ vs H', Inv X pins σ H' s' ∧ Vals vs us ∧ Q vs H'
def SP (X : Cx) (pins : List (Addr × Obj)) (D : Ends) (f : Flow) (s' : Shared) : Prop :=
  match f with
  | .next => ∃ σ' H', Inv X pins σ' H' s' ∧ D.nx σ' H'
  | .brk => ∃ σ' H', Inv X pins σ' H' s' ∧ D.bk σ' H'
  | .cont => ∃ σ' H', Inv X pins σ' H' s' ∧ D.ct σ' H'
  | .ret u => ∃ v σ' H', Inv X pins σ' H' s' ∧ RelV v u ∧ D.rt v H'

def PE (X : Cx) (e : Expr) (t : TE) : Prop :=
  ∀ (pins : List (Addr × Obj)) (s : Shared) (σ : St) (H : Hp) (Q : VK), Inv X pins σ H s → t σ H Q → wpAny (model X.prog X.w) X.A (eval e X.env) (EP X pins σ Q) X.xe s
def PT (X : Cx) (e : Expr) (t : TT) : Prop :=
  ∀ (pins : List (Addr × Obj)) (s : Shared) (σ : St) (H : Hp) (Q : Bool → Hp → Prop), Inv X pins σ H s → t σ H Q → wpAny (model X.prog X.w) X.A (isTrue e X.env (eval e X.env)) (TP X pins σ Q) X.xe s
/-- a test whatever its 'whole' is (and, or) -/
def PW (X : Cx) (e : Expr) (t : TT) : Prop :=
  ∀ (whole : Sem Value) (pins : List (Addr × Obj)) (s : Shared) (σ : St) (H : Hp) (Q : Bool → Hp → Prop), Inv X pins σ H s → t σ H Q → wpAny (model X.prog X.w) X.A (isTrue e X.env whole) (TP X pins σ Q) X.xe s
theorem PW.pt {X : Cx} {e : Expr} {t : TT} (h : PW X e t) : PT X e t := h _
/-- an argument list (no star), from the left -/
def PA (X : Cx) (es : List Expr) (t : TA) : Prop :=
  ∀ (pos : Pos) (pins : List (Addr × Obj)) (s : Shared) (σ : St) (H : Hp) (Q : List V → Hp → Prop), Inv X pins σ H s → t σ H Q → wpAny (model X.prog X.w) X.A (spliced (backTo pos (starEach es X.env))) (AP X pins σ Q) X.xe s
def PS (X : Cx) (st : Stmt) (t : TS) : Prop :=
  ∀ (pins : List (Addr × Obj)) (s : Shared) (σ : St) (H : Hp) (D : Ends), Inv X pins σ H s → t D σ H → wpAny (model X.prog X.w) X.A (exec st X.env) (SP X pins D) X.xe s
def PSs (X : Cx) (st : List Stmt) (t : TS) : Prop :=
  ∀ (pins : List (Addr × Obj)) (s : Shared) (σ : St) (H : Hp) (D : Ends), Inv X pins σ H s → t D σ H → wpAny (model X.prog X.w) X.A (execs st X.env) (SP X pins D) X.xe s
/-- weaken the end -/
theorem thn {α : Type} {t : Sem α} {Q Q' : α → Shared → Prop} {M : Model} {A : Around} {E : Value → Shared → Prop} {s : Shared} (h : wpAny M A t Q E s) (hQ : ∀ a s, Q a s → Q' a s) : wpAny M A t Q' E s := wpAny_mono h hQ fun _ _ x => x
end L2

namespace L2
open PySem PySem.Spec PyProof.Rows
section
variable {X : Cx}


/-! ### names and constants -/
def tVar (i : Nat) : TE := fun σ H Q => ∃ v, σ[i]? = some (some v) ∧ Q v H
def tC (v : V) : TE := fun _ H Q => Q v H
theorem pe_var {i : Nat} {x : Str} {pos : Pos} (hN : X.N[i]? = some x) (hv : Vis X.env.scope x) (hd : (x == ("__debug__" : Str)) = false := by decide) (hcd : (x == ("__classdict__" : Str)) = false := by decide) : PE X (.Name x pos) (tVar i) := by
  intro pins s σ H Q I h
  obtain ⟨v, e, h⟩ := h
  obtain ⟨m, hn, hl⟩ := I.loc
  obtain ⟨u, r, l⟩ := hl i x v hN e hv
  have fin : EP X pins σ Q u s := ⟨v, H, I, r, h⟩
  rcases l with ⟨hk, hm⟩ | ⟨hk, c, hc, hcell⟩
  · exact wpAny_Name (wpAny_loadName_local I.ok.kind hk hn hm fin) hd
  · rcases hk with hk | hk
    · exact wpAny_Name (wpAny_loadName_cell I.ok.kind hk hc hcell fin) hd
    · exact wpAny_Name (wpAny_loadName_free I.ok.kind hk hc hcell fin hcd) hd
theorem pe_int {i j pos} : PE X (.Constant (.int i) j pos) (tC (.int i)) := fun _ _ _ H _ I h => wpAny_Constant_int ⟨.int i, H, I.tok _, ⟨_, rfl⟩, h⟩
theorem pe_bl {b j pos} : PE X (.Constant (.bool b) j pos) (tC (.bl b)) := fun _ _ _ H _ I h => Constant_bool ⟨.bl b, H, I, rfl, h⟩

/-- a global name of the def -/
def Gl (X : Cx) (x : Str) : Prop := X.env.kindOf x = some .globalImplicit
theorem ld_glob {E : Value → Shared → Prop} {pins : List (Addr × Obj)} {s : Shared} {σ : St} {H : Hp} {x : Str} {u : Value} {pos : Pos} {Q : Value → Shared → Prop} (I : Inv X pins σ H s) (hg : Gl X x) (hm : X.mg x = some u) (h : Q u s)
    (hd : (x == ("__debug__" : Str)) = false := by decide) : wpAny (model X.prog X.w) X.A (eval (.Name x pos) X.env) Q E s :=
  Calls.Name_function_global I.ok.kind hg (Calls.loadGlobal_global (by rw [I.ok.glob]; exact I.mod.glob.keeps I.bk) hm h) hd
theorem ld_blt {E : Value → Shared → Prop} {pins : List (Addr × Obj)} {s : Shared} {σ : St} {H : Hp} {x : Str} {u : Value} {pos : Pos} {Q : Value → Shared → Prop} (I : Inv X pins σ H s) (hg : Gl X x) (hm : X.mg x = none) (hv : bootBuiltins x = some u) (h : Q u s)
    (hn : x ≠ "__name__" := by decide) (hd : (x == ("__debug__" : Str)) = false := by decide) : wpAny (model X.prog X.w) X.A (eval (.Name x pos) X.env) Q E s := by
  obtain ⟨mb, h1, h2⟩ := I.mod.blt
  exact Calls.Name_function_global I.ok.kind hg (Calls.loadGlobal_builtin (by rw [I.ok.glob]; exact I.mod.glob.keeps I.bk) hm (by rw [I.ok.blt]; exact h1.keeps I.bk) ((h2 x hn).trans hv) h) hd
/-- a module's constant, a class, a function, as a value -/
theorem pe_glob {x : Str} {v : V} {u : Value} {pos : Pos} (hg : Gl X x) (hm : X.mg x = some u) (r : RelV v u) (hd : (x == ("__debug__" : Str)) = false := by decide) : PE X (.Name x pos) (tC v) :=
  fun _ _ _ H _ I h => ld_glob I hg hm ⟨v, H, I, r, h⟩ hd

/-! ### arithmetic -/
variable {a b : Expr} {ta tb : TE} {pos : Pos}

/-! ### comparisons -/
/-- a comparison as a value, as a test -/
def tB (t : TE) : TT := fun σ H Q => t σ H fun x H1 => ∃ c, x = .bl c ∧ Q c H1
/-- an expression whose value is a bool, as a test -/
theorem pt_val {e : Expr} {t : TE} (h : PE X e t) (he : ∀ whole, isTrue e X.env whole = (do let v ← whole; standAt e.pos; holding [v] (truthy v)) := by intro _; rfl) : PT X e (tB t) := by
  intro pins s σ H Q I hw
  refine isTrue_plain (thn (h pins s σ H _ I hw) fun v s1 ⟨x, H1, I1, r1, q1⟩ => ?_) (he _)
  obtain ⟨d, rfl, q⟩ := q1
  cases r1
  exact wpAny_truthy_bool ⟨H1, I1, q⟩

/-! ### and, or, not -/
variable {tA tB' : TT} {rest : List Expr}
def tAnd (t u : TT) : TT := fun σ H Q => t σ H fun c H1 => if c = true then u σ H1 Q else Q false H1
def tOr (t u : TT) : TT := fun σ H Q => t σ H fun c H1 => if c = true then Q true H1 else u σ H1 Q
def tNot (t : TT) : TT := fun σ H Q => t σ H fun c H1 => Q (!c) H1
theorem pw_and1 (ha : PT X a tA) : PW X (.BoolOp .And [a] pos) tA := by
  intro wh pins s σ H Q I h
  refine isTrue_and (thn (ha pins s σ H Q I h) fun c s1 e => ?_)
  cases c with
  | true => exact isTrue_and_nil e
  | false => exact e
theorem pw_or1 (ha : PT X a tA) : PW X (.BoolOp .Or [a] pos) tA := by
  intro wh pins s σ H Q I h
  refine isTrue_or (thn (ha pins s σ H Q I h) fun c s1 e => ?_)
  cases c with
  | false => exact isTrue_or_nil e
  | true => exact e
theorem pw_and (ha : PT X a tA) (hb : PW X (.BoolOp .And (b :: rest) pos) tB') : PW X (.BoolOp .And (a :: b :: rest) pos) (tAnd tA tB') := by
  intro wh pins s σ H Q I h
  refine isTrue_and (thn (ha pins s σ H _ I h) fun c s1 ⟨H1, I1, q1⟩ => ?_)
  cases c with
  | true => exact hb wh pins s1 σ H1 Q I1 q1
  | false => exact ⟨H1, I1, q1⟩
theorem pw_or (ha : PT X a tA) (hb : PW X (.BoolOp .Or (b :: rest) pos) tB') : PW X (.BoolOp .Or (a :: b :: rest) pos) (tOr tA tB') := by
  intro wh pins s σ H Q I h
  refine isTrue_or (thn (ha pins s σ H _ I h) fun c s1 ⟨H1, I1, q1⟩ => ?_)
  cases c with
  | true => exact ⟨H1, I1, q1⟩
  | false => exact hb wh pins s1 σ H1 Q I1 q1
theorem pt_not (ha : PT X a tA) : PT X (.UnaryOp .Not a pos) (tNot tA) := by
  intro pins s σ H Q I h
  exact isTrue_not (ha pins s σ H (fun c H1 => Q (!c) H1) I h)
def tOrV (ta tb : TE) : TE := fun σ H Q => ta σ H fun x H1 => ∃ c, x = .bl c ∧ if c = true then Q (.bl true) H1 else tb σ H1 Q
theorem pe_one {op} {t : TE} (h : PE X a t) : PE X (.BoolOp op [a] pos) t := fun pins s σ H Q I hw => BoolOp_one (h pins s σ H Q I hw)
theorem pe_or (ha : PE X a ta) (hb : PE X (.BoolOp .Or (b :: rest) pos) tb) : PE X (.BoolOp .Or (a :: b :: rest) pos) (tOrV ta tb) := by
  intro pins s σ H Q I h
  refine BoolOp_or (thn (ha pins s σ H _ I h) fun v s1 ⟨x, H1, I1, r1, q1⟩ => ?_)
  obtain ⟨c, rfl, q1⟩ := q1
  cases r1
  refine wpAny_truthy_bool ?_
  cases c with
  | false => exact hb pins s1 σ H1 Q I1 q1
  | true => exact ⟨.bl true, H1, I1, rfl, q1⟩
/-- a if t else b -/
def tIf (t : TT) (ta tb : TE) : TE := fun σ H Q => t σ H fun c H1 => if c = true then ta σ H1 Q else tb σ H1 Q
theorem pe_ifExp {c : Expr} (hc : PT X c tA) (ha : PE X a ta) (hb : PE X b tb) : PE X (.IfExp c a b pos) (tIf tA ta tb) := by
  intro pins s σ H Q I h
  refine wpAny_IfExp (thn (hc pins s σ H _ I h) fun d s1 ⟨H1, I1, q1⟩ => ?_)
  cases d with
  | true => exact ha pins s1 σ H1 Q I1 q1
  | false => exact hb pins s1 σ H1 Q I1 q1
end
end L2

namespace L2
open PySem PySem.Spec PyProof.Rows

/-! ### a list, a tuple that is read: tracked, frozen, or an object of the module -/
def SqL (K : PySem.W.Frag) (H : Hp) (a : Addr) (xs : List V) : Prop :=
  Rd H a (.lst xs) ∨
    ∃ (o : Obj) (its : Array Value) (n : Nat), K.lookup a = some o ∧ o.cls = .type "list" ∧ o.dict = none ∧ o.data = .seq its n ∧ its.size ≤ sizeLine ∧ Vals xs its.toList
def SqT (K : PySem.W.Frag) (H : Hp) (a : Addr) (xs : List V) : Prop :=
  Rd H a (.tup xs) ∨
    ∃ (o : Obj) (its : Array Value) (n : Nat), K.lookup a = some o ∧ o.cls = .type "tuple" ∧ o.data = .seq its n ∧ its.size ≤ sizeLine ∧ Vals xs its.toList
def absV : Value → Option V
  | .none => some .non
  | .bool b => some (.bl b)
  | .int i _ => some (.int i)
  | .str x _ => some (.str x)
  | .bytes b _ => some (.byt b)
  | .float b _ => some (.flt b)
  | .ref a => some (.ref a)
  | .type n => some (.ty n)
  | _ => none
theorem RelV.abs {x : V} {u : Value} (r : RelV x u) : absV u = some x := by
  cases x with
  | non => cases r; rfl
  | bl _ => cases r; rfl
  | int _ => obtain ⟨t, rfl⟩ := r; rfl
  | str _ => obtain ⟨t, rfl⟩ := r; rfl
  | byt _ => obtain ⟨t, rfl⟩ := r; rfl
  | flt _ => obtain ⟨t, rfl⟩ := r; rfl
  | ref _ => cases r; rfl
  | ty _ => cases r; rfl
theorem RelV.inj {x y : V} {u : Value} (r : RelV x u) (q : RelV y u) : x = y := Option.some.inj (r.abs.symm.trans q.abs)
theorem Vals.inj : ∀ {xs ys : List V} {us : List Value}, Vals xs us → Vals ys us → xs = ys
  | _, _, _, .nil, .nil => rfl
  | _, _, _, .cons r t, .cons r' t' => by rw [r.inj r', Vals.inj t t']
section
variable {X : Cx} {pins : List (Addr × Obj)} {σ : St} {H : Hp} {s : Shared} {a : Addr} {xs ys : List V}
theorem SqL.of {K : PySem.W.Frag} (h : H a = some (.lst xs)) : SqL K H a xs := .inl (.inl h)
theorem SqT.of {K : PySem.W.Frag} (h : H a = some (.tup xs)) : SqT K H a xs := .inl (.inl h)
theorem Inv.list (I : Inv X pins σ H s) (h : SqL X.K H a xs) : ∃ its : List Value, Vals xs its ∧ PlainL s.heap a its.toArray ∧ xs.length ≤ sizeLine := by
  rcases h with h | ⟨o, its, n, hk, hc, hd, hs, hz, r⟩
  · obtain ⟨z, its, n, r, e⟩ := h.ok I.hok
    exact ⟨its, r, ⟨_, n, e, rfl, rfl, rfl⟩, z⟩
  · refine ⟨its.toList, r, ⟨o, n, I.kIn a o hk, hc, hd, by simpa using hs⟩, ?_⟩
    have e := r.length
    simp only [Array.length_toList] at e
    omega
theorem Inv.tuple (I : Inv X pins σ H s) (h : SqT X.K H a xs) : ∃ its : List Value, Vals xs its ∧ IsTup s.heap a its.toArray ∧ xs.length ≤ sizeLine := by
  rcases h with h | ⟨o, its, n, hk, hc, hs, hz, r⟩
  · obtain ⟨z, its, r, p⟩ := h.ok I.hok
    exact ⟨its, r, p, z⟩
  · refine ⟨its.toList, r, ⟨o, I.kIn a o hk, hc, n, by simpa using hs⟩, ?_⟩
    have e := r.length
    simp only [Array.length_toList] at e
    omega
theorem Inv.list_inj (I : Inv X pins σ H s) (h : SqL X.K H a xs) (h' : SqL X.K H a ys) : xs = ys := by
  obtain ⟨its, r, ⟨o, n, e, _, _, d⟩, _⟩ := I.list h
  obtain ⟨its', r', ⟨o', n', e', _, _, d'⟩, _⟩ := I.list h'
  rw [e] at e'; cases e'
  rw [d] at d'
  injection d' with d1 _
  have : its = its' := by simpa using congrArg Array.toList d1
  subst this
  exact r.inj r'
theorem Inv.tuple_inj (I : Inv X pins σ H s) (h : SqT X.K H a xs) (h' : SqT X.K H a ys) : xs = ys := by
  obtain ⟨its, r, ⟨o, e, _, n, d⟩, _⟩ := I.tuple h
  obtain ⟨its', r', ⟨o', e', _, n', d'⟩, _⟩ := I.tuple h'
  rw [e] at e'; cases e'
  rw [d] at d'
  injection d' with d1 _
  have : its = its' := by simpa using congrArg Array.toList d1
  subst this
  exact r.inj r'
end

/-! ### another wish about exceptions -/
abbrev Cx.wish (X : Cx) (E : Value → Shared → Prop) : Cx := { X with xe := E }
/-- no exception leaves -/
abbrev Cx.nox (X : Cx) : Cx := X.wish fun _ _ => False
theorem Cx.Ok.wish {X : Cx} (ok : X.Ok) (E : Value → Shared → Prop) : (X.wish E).Ok :=
  ⟨ok.mod, ok.kind, ok.glob, ok.blt, ok.above, ok.inj, ok.has, ok.cab, ok.hd, ok.frames, ok.stk, ok.exf, ok.bs, ok.bsz, ok.noex, ok.exfs, ok.funs, ok.frf⟩
theorem Cx.Ok.unwish {X : Cx} {E : Value → Shared → Prop} (ok : (X.wish E).Ok) : X.Ok :=
  ⟨ok.mod, ok.kind, ok.glob, ok.blt, ok.above, ok.inj, ok.has, ok.cab, ok.hd, ok.frames, ok.stk, ok.exf, ok.bs, ok.bsz, ok.noex, ok.exfs, ok.funs, ok.frf⟩
section
variable {X : Cx} {pins : List (Addr × Obj)} {σ : St} {H : Hp} {s : Shared} {E : Value → Shared → Prop}
theorem Inv.wish (I : Inv X pins σ H s) (E : Value → Shared → Prop) : Inv (X.wish E) pins σ H s := ⟨I.ok.wish E, I.os, I.bare, I.base, I.loc, I.cell, I.free, I.freeC, I.pin, I.hok, I.len⟩
theorem Inv.unwish (I : Inv (X.wish E) pins σ H s) : Inv X pins σ H s := ⟨I.ok.unwish, I.os, I.bare, I.base, I.loc, I.cell, I.free, I.freeC, I.pin, I.hok, I.len⟩
theorem SP.unwish {D : Ends} {f : Flow} {s' : Shared} (h : SP (X.wish E) pins D f s') : SP X pins D f s' := by
  cases f with
  | next => obtain ⟨σ', H', I, q⟩ := h; exact ⟨σ', H', I.unwish, q⟩
  | brk => obtain ⟨σ', H', I, q⟩ := h; exact ⟨σ', H', I.unwish, q⟩
  | cont => obtain ⟨σ', H', I, q⟩ := h; exact ⟨σ', H', I.unwish, q⟩
  | ret u => obtain ⟨v, σ', H', I, r, q⟩ := h; exact ⟨v, σ', H', I.unwish, r, q⟩
theorem PSs.nox {st : List Stmt} {t : TS} (h : PSs X.nox st t) : PSs X st t := fun pins s σ H D I hw =>
  wpAny_mono (h pins s σ H D (I.wish _) hw) (fun _ _ q => q.unwish) fun _ _ z => False.elim z
end

/-! ### blocks and small statements -/
section
variable {X : Cx} {st : Stmt} {rest : List Stmt} {t u : TS} {e : Expr} {te : TE} {pos : Pos}
def tNext : TS := fun D σ H => D.nx σ H
def tSeq (t u : TS) : TS := fun D σ H => t { D with nx := u D } σ H
theorem pss_nil : PSs X [] tNext := fun _ _ σ H _ I h => wpAny_execs_nil ⟨σ, H, I, h⟩
theorem pss_cons (h1 : PS X st t) (h2 : PSs X rest u) : PSs X (st :: rest) (tSeq t u) := by
  intro pins s σ H D I h
  refine wpAny_execs_cons (thn (h1 pins s σ H { D with nx := u D } I h) fun f s1 q => ?_)
  cases f with
  | next =>
    obtain ⟨σ', H', I', q⟩ := q
    exact h2 pins s1 σ' H' D I' q
  | ret v => exact q
  | brk => exact q
  | cont => exact q
theorem pss_one (h1 : PS X st t) : PSs X [st] t := by
  intro pins s σ H D I h
  refine wpAny_execs_cons (thn (h1 pins s σ H D I h) fun f s1 q => ?_)
  cases f with
  | next => exact wpAny_execs_nil q
  | ret v => exact q
  | brk => exact q
  | cont => exact q
/-- in a def's body nothing is shown -/
theorem Inv.quiet {pins : List (Addr × Obj)} {σ : St} {H : Hp} {s : Shared} (I : Inv X pins σ H s) : interactive X.env = false := by simp [interactive, I.ok.kind]
/-- an expression whose value is dropped -/
def tDrop (te : TE) : TS := fun D σ H => te σ H fun _ H1 => D.nx σ H1
theorem ps_expr (he : PE X e te) (hs : swapsWith e none pos.line X.env = pure false := by rfl) : PS X (.Expr e pos) (tDrop te) := by
  intro pins s σ H D I h
  exact wpAny_Expr_any (thn (he pins s σ H _ I h) fun v s1 ⟨x, H1, I1, r1, q1⟩ => ⟨σ, H1, I1, q1⟩) I.quiet hs
def tRet (te : TE) : TS := fun D σ H => te σ H D.rt
theorem ps_ret (he : PE X e te) : PS X (.Return (some e) pos) (tRet te) := by
  intro pins s σ H D I h
  exact wpAny_Return_some (thn (he pins s σ H _ I h) fun v s1 ⟨x, H1, I1, r1, q1⟩ => ⟨x, σ, H1, I1, r1, q1⟩)
def tRetN : TS := fun D _ H => D.rt .non H
theorem ps_retN : PS X (.Return none pos) tRetN := fun _ _ σ H _ I h => wpAny_Return_none ⟨.non, σ, H, I, rfl, h⟩
def tIfS (c : TT) (t u : TS) : TS := fun D σ H => c σ H fun b H1 => if b = true then t D σ H1 else u D σ H1
theorem ps_if {c : Expr} {a b : List Stmt} {tc : TT} (hc : PT X c tc) (ha : PSs X a t) (hb : PSs X b u) : PS X (.If c a b pos) (tIfS tc t u) := by
  intro pins s σ H D I h
  refine wpAny_If (thn (hc pins s σ H _ I h) fun d s1 ⟨H1, I1, q1⟩ => ?_)
  cases d with
  | true => exact ha pins s1 σ H1 D I1 q1
  | false => exact hb pins s1 σ H1 D I1 q1
end

/-! ### targets -/
abbrev TG := V → St → Hp → (St → Hp → Prop) → Prop
abbrev TGs := List V → St → Hp → (St → Hp → Prop) → Prop
def PG (X : Cx) (target : Expr) (t : TG) : Prop :=
  ∀ (pins : List (Addr × Obj)) (s : Shared) (σ : St) (H : Hp) (v : V) (u : Value) (Q : St → Hp → Prop), Inv X pins σ H s → RelV v u → t v σ H Q →
    wpAny (model X.prog X.w) X.A (assign target X.env u) (fun _ s' => ∃ σ' H', Inv X pins σ' H' s' ∧ Q σ' H') X.xe s
/-- several targets, one after another -/
def PGs (X : Cx) (ts : List Expr) (t : TGs) : Prop :=
  ∀ (pins : List (Addr × Obj)) (s : Shared) (σ : St) (H : Hp) (vs : List V) (us : List Value) (Q : St → Hp → Prop), Inv X pins σ H s → Vals vs us → t vs σ H Q →
    wpAny (model X.prog X.w) X.A (assignInOrder ((assignEach ts X.env).map (·.2)) us) (fun _ s' => ∃ σ' H', Inv X pins σ' H' s' ∧ Q σ' H') X.xe s
/-- o[i] = v, by values -/
abbrev TSet := V → V → V → Hp → (Hp → Prop) → Prop
def PSet (X : Cx) (t : TSet) : Prop :=
  ∀ (pins : List (Addr × Obj)) (s : Shared) (σ : St) (H : Hp) (o i v : V) (ov iv u : Value) (Q : Hp → Prop), Inv X pins σ H s → RelV o ov → RelV i iv → RelV v u → t o i v H Q →
    wpAny (model X.prog X.w) X.A (setItem ov iv u) (fun _ s' => ∃ H', Inv X pins σ H' s' ∧ Q H') X.xe s
/-- a op= b, by values -/
abbrev TIp := V → V → Hp → VK → Prop
def PIp (X : Cx) (op : Operator) (t : TIp) : Prop :=
  ∀ (pins : List (Addr × Obj)) (s : Shared) (σ : St) (H : Hp) (x y : V) (v u : Value) (Q : VK), Inv X pins σ H s → RelV x v → RelV y u → t x y H Q →
    wpAny (model X.prog X.w) X.A (inplaceOp op v u) (EP X pins σ Q) X.xe s
section
variable {X : Cx} {pos : Pos}
def gName (i : Nat) : TG := fun v σ H Q => Q (σ.set i (some v)) H
theorem pg_name {i : Nat} {x : Str} (hN : X.N.Nodup) (hi : X.N[i]? = some x) (hx : Loc X.env.scope x) (hf : X.fn x = true ∨ X.env.scope.names.lookup x = some .local := by first | exact .inl rfl | exact .inr rfl | assumption) : PG X (.Name x pos) (gName i) := by
  intro pins s σ H v u Q I r h
  exact wpAny_assign_Name (store_ok I hN hi hx r (fun s' I' => ⟨_, H, I', h⟩) hf)
def gNil : TGs := fun vs σ H Q => vs = [] ∧ Q σ H
def gCons (t : TG) (u : TGs) : TGs := fun vs σ H Q => ∃ v r, vs = v :: r ∧ t v σ H fun σ' H' => u r σ' H' Q
theorem pgs_nil : PGs X [] gNil := by
  intro pins s σ H vs us Q I r h
  obtain ⟨e, h⟩ := h
  subst e
  cases r
  exact assignInOrder_nil ⟨σ, H, I, h⟩
theorem pgs_cons {e : Expr} {es : List Expr} {t : TG} {u : TGs} (h1 : PG X e t) (h2 : PGs X es u)
    (hs : (assignEach (e :: es) X.env).map (·.2) = assign e X.env :: (assignEach es X.env).map (·.2) := by rfl) : PGs X (e :: es) (gCons t u) := by
  intro pins s σ H vs us Q I r h
  obtain ⟨v, vr, e1, h⟩ := h
  subst e1
  cases r with
  | cons r rr =>
    rw [hs]
    refine assignInOrder_cons (thn (h1 pins s σ H _ _ _ I r h) fun _ s1 ⟨σ1, H1, I1, q1⟩ => ?_)
    exact h2 pins s1 σ1 H1 _ _ Q I1 rr q1
/-- (a, b, ..) = a tuple of that length -/
def gTup (K : PySem.W.Frag) (n : Nat) (t : TGs) : TG := fun v σ H Q => ∃ a xs, v = .ref a ∧ SqT K H a xs ∧ xs.length = n ∧ t xs σ H Q
theorem pg_tup {es : List Expr} {k : Nat} {t : TGs} {n : Nat} (hc : X.calm = true) (h : PGs X es t)
    (hn : (assignEach es X.env).length = n := by rfl) (hst : (assignEach es X.env).findIdx? (·.1) = none := by rfl) : PG X (.Tuple es k pos) (gTup X.K n t) := by
  intro pins s σ H v u Q I r hw
  obtain ⟨a, xs, e1, hq, hl, hw⟩ := hw
  subst e1
  cases r
  obtain ⟨its, rv, ht, hz⟩ := I.tuple hq
  refine assign_Tuple_tuple (I.ok.hd hc) ht (by simp [hn, ← hl, rv.length]) hst fun h' hx => ?_
  have I1 : Inv X pins σ H { s with heap := h' } := I.kept (t' := s.toks) fun b o e => hx b o (Nat.ne_of_lt (Heap.lt_size e)) e
  exact h pins _ σ H xs _ Q I1 (by simpa using rv) hw
/-- target = value -/
def tAsg (te : TE) (g : TG) : TS := fun D σ H => te σ H fun x H1 => g x σ H1 D.nx
/-- name = value -/
theorem ps_set {i : Nat} {x : Str} {e : Expr} {te : TE} {pos' : Pos} (hN : X.N.Nodup) (hi : X.N[i]? = some x) (hx : Loc X.env.scope x) (he : PE X e te) (hs : swapsWith e (some (.Name x pos')) pos.line X.env = pure false := by rfl) (hf : X.fn x = true ∨ X.env.scope.names.lookup x = some .local := by first | exact .inl rfl | exact .inr rfl | assumption) :
    PS X (.Assign [.Name x pos'] e pos) (tAsg te (gName i)) := by
  intro pins s σ H D I h
  refine wpAny_Assign_Name (thn (he pins s σ H _ I h) fun v s1 ⟨y, H1, I1, r1, q1⟩ => ?_) hs
  exact store_ok I1 hN hi hx r1 (fun s2 I2 => ⟨_, H1, I2, q1⟩) hf
/-- name op= e -/
def tAug (i : Nat) (te : TE) (ti : TIp) : TS := fun D σ H => ∃ x, σ[i]? = some (some x) ∧ te σ H fun y H1 => ti x y H1 fun z H2 => D.nx (σ.set i (some z)) H2
theorem ps_aug {i : Nat} {x : Str} {e : Expr} {te : TE} {op : Operator} {ti : TIp} {pos' : Pos} (hN : X.N.Nodup) (hi : X.N[i]? = some x) (hx : Loc X.env.scope x) (he : PE X e te) (ho : PIp X op ti) (hf : X.fn x = true ∨ X.env.scope.names.lookup x = some .local := by first | exact .inl rfl | exact .inr rfl | assumption) :
    PS X (.AugAssign (.Name x pos') op e pos) (tAug i te ti) := by
  intro pins s σ H D I h
  obtain ⟨v, e1, h⟩ := h
  obtain ⟨m, hn, hl⟩ := I.loc
  have vis : Vis X.env.scope x := by rcases hx with k | k; exact .inl k; exact .inr (.inl k)
  obtain ⟨u, r, l⟩ := hl i x v hi e1 vis
  refine wpAny_AugAssign_Name ?_
  have go : wpAny (model X.prog X.w) X.A (eval e X.env) (fun w s₂ => wpAny (model X.prog X.w) X.A (inplaceOp op u w) (fun r s₃ => wpAny (model X.prog X.w) X.A (storeName X.env x r) (fun _ => SP X pins D .next) X.xe s₃) X.xe s₂) X.xe s := by
    refine thn (he pins s σ H _ I h) fun w s1 ⟨y, H1, I1, r1, q1⟩ => ?_
    refine thn (ho pins s1 σ H1 v y u w _ I1 r r1 q1) fun z s2 ⟨zv, H2, I2, r2, q2⟩ => ?_
    exact store_ok I2 hN hi hx r2 (fun s3 I3 => ⟨_, H2, I3, q2⟩) hf
  rcases l with ⟨hk, hm⟩ | ⟨hk, c, hc, hcell⟩
  · exact wpAny_loadName_local I.ok.kind hk hn hm go
  · rcases hk with hk | hk
    · exact wpAny_loadName_cell I.ok.kind hk hc hcell go
    · rcases hx with k | k
      · have : X.env.scope.names.lookup x = some .free := hk
        rw [k] at this; cases this
      · have : X.env.scope.names.lookup x = some .free := hk
        rw [k] at this; cases this
/-- o[i] op= e -/
def tAugS (to ti te : TE) (tget : V → V → Hp → VK → Prop) (tip : TIp) (tset : TSet) : TS := fun D σ H => to σ H fun o H1 => ti σ H1 fun i H2 => tget o i H2 fun x H3 => te σ H3 fun y H4 => tip x y H4 fun z H5 => tset o i z H5 fun H6 => D.nx σ H6
/-- o[i], by values -/
def PGet (X : Cx) (t : V → V → Hp → VK → Prop) : Prop :=
  ∀ (pins : List (Addr × Obj)) (s : Shared) (σ : St) (H : Hp) (o i : V) (ov iv : Value) (Q : VK), Inv X pins σ H s → RelV o ov → RelV i iv → t o i H Q →
    wpAny (model X.prog X.w) X.A (getItem ov iv) (EP X pins σ Q) X.xe s
theorem ps_augS {o i e : Expr} {to ti te : TE} {tget : V → V → Hp → VK → Prop} {tip : TIp} {tset : TSet} {op : Operator} {tpos : Pos} (ho : PE X o to) (hi : PE X i ti) (hg : PGet X tget) (he : PE X e te) (hp : PIp X op tip) (hs : PSet X tset)
    (ha : ∀ ov iv new, augStore i ov iv new = (do holding [new, ov, iv] (setItem ov iv new); release [new, ov, iv] []; pure .next) := by intros; rfl) : PS X (.AugAssign (.Subscript o i tpos) op e pos) (tAugS to ti te tget tip tset) := by
  intro pins s σ H D I h
  refine wpAny_AugAssign_SubscriptAny (thn (ho pins s σ H _ I h) fun ov s1 ⟨x1, H1, I1, r1, q1⟩ => ?_) ha
  refine thn (hi pins s1 σ H1 _ I1 q1) fun iv s2 ⟨x2, H2, I2, r2, q2⟩ => ?_
  refine thn (hg pins s2 σ H2 x1 x2 ov iv _ I2 r1 r2 q2) fun old s3 ⟨x3, H3, I3, r3, q3⟩ => ?_
  refine thn (he pins s3 σ H3 _ I3 q3) fun v s4 ⟨x4, H4, I4, r4, q4⟩ => ?_
  refine thn (hp pins s4 σ H4 x3 x4 old v _ I4 r3 r4 q4) fun new s5 ⟨x5, H5, I5, r5, q5⟩ => ?_
  exact thn (hs pins s5 σ H5 x1 x2 x5 ov iv new _ I5 r1 r2 r5 q5) fun _ s6 ⟨H6, I6, q6⟩ => ⟨σ, H6, I6, q6⟩
/-- ints -/
def ipI (f : Int → Int → Int) : TIp := fun x y H Q => ∃ i j, x = .int i ∧ y = .int j ∧ Q (.int (f i j)) H
theorem ip_add : PIp X .Add (ipI fun i j => i + j) := by
  intro pins s σ H x y v u Q I r1 r2 h
  obtain ⟨i, j, e1, e2, q⟩ := h
  subst e1; subst e2
  obtain ⟨t, rfl⟩ := r1
  obtain ⟨t', rfl⟩ := r2
  exact iadd_int ⟨.int _, H, I.tok _, ⟨_, rfl⟩, q⟩
theorem ip_sub : PIp X .Sub (ipI fun i j => i - j) := by
  intro pins s σ H x y v u Q I r1 r2 h
  obtain ⟨i, j, e1, e2, q⟩ := h
  subst e1; subst e2
  obtain ⟨t, rfl⟩ := r1
  obtain ⟨t', rfl⟩ := r2
  exact isub_int ⟨.int _, H, I.tok _, ⟨_, rfl⟩, q⟩
end

/-! ### while -/
section
variable {X : Cx} {pos : Pos}
/-- the invariant W with its measure -/
def tWhile (c : TT) (tb : TS) : TS := fun D σ H => ∃ W : Nat → St → Hp → Prop, (∃ m, W m σ H) ∧ ∀ m σ H, W m σ H →
  c σ H fun b H1 => if b = true then ∃ N : St → Hp → Prop, (∀ σ' H', N σ' H' → ∃ m', m' < m ∧ W m' σ' H') ∧ tb { D with nx := N, ct := N, bk := D.nx } σ H1 else D.nx σ H1
theorem ps_while {c : Expr} {body : List Stmt} {tc : TT} {tb : TS} (hp : PassesOwn (model X.prog X.w) X.A X.env X.xe) (hc : PT X c tc) (hb : PSs X body tb) : PS X (.While c body [] pos) (tWhile tc tb) := by
  intro pins s σ H D I h
  obtain ⟨W, ⟨m0, w0⟩, turn⟩ := h
  refine wpAny_While (codeAny_whileLoop (fun n s' => ∃ σ' H', Inv X pins σ' H' s' ∧ W n σ' H') ?_ m0 ⟨σ, H, I, w0⟩)
  rintro n s1 ⟨σ1, H1, I1, w1⟩
  refine wpAny_passesOwn hp (thn (hc pins s1 σ1 H1 _ I1 (turn n σ1 H1 w1)) fun b s2 ⟨H2, I2, q2⟩ => ?_)
  cases b with
  | true =>
    obtain ⟨N, hN, q2⟩ := q2
    rw [if_pos rfl]
    refine wpAny_passesOwn hp (thn (hb pins s2 σ1 H2 _ I2 q2) fun f s3 q3 => ?_)
    cases f with
    | next =>
      obtain ⟨σ3, H3, I3, n3⟩ := q3
      obtain ⟨m', hm, w3⟩ := hN σ3 H3 n3
      exact ⟨m', hm, σ3, H3, I3, w3⟩
    | cont =>
      obtain ⟨σ3, H3, I3, n3⟩ := q3
      obtain ⟨m', hm, w3⟩ := hN σ3 H3 n3
      exact ⟨m', hm, σ3, H3, I3, w3⟩
    | brk => exact q3
    | ret v => exact q3
  | false =>
    rw [if_neg Bool.false_ne_true]
    exact wpAny_execs_nil ⟨σ1, H2, I2, q2⟩
end

/-! ### what a loop or a comprehension walks -/
/-- at turn i: it yields x (the heap may grow), or it stops -/
structure It where
  go : Nat → Hp → Prop
  yld : Nat → Hp → V → Hp → Prop
  stop : Nat → Hp → Prop
/-- the iterator's own objects may turn: they are not the frame's, not pinned, younger than the entry (or a comprehension's own) -/
def FpOk (X : Cx) (pins : List (Addr × Obj)) (H : Hp) (b : Addr) : Prop :=
  H b = none ∧ b ≠ X.env.locals ∧ b ∉ X.fs ∧ (b ∈ X.ex ∨ X.s_0.heap.objs.size ≤ b) ∧ (∀ x c, X.env.cells.lookup x = some c → c ≠ b) ∧ ∀ p ∈ X.pn ++ pins, p.1 ≠ b
theorem Inv.fpOk {X : Cx} {pins : List (Addr × Obj)} {σ : St} {H H' : Hp} {s : Shared} {b : Addr} (I : Inv X pins σ H s) (hb : s.heap.objs.size ≤ b) (hn : H' b = none) : FpOk X pins H' b := by
  refine ⟨hn, Nat.ne_of_gt (Nat.lt_of_lt_of_le I.lt hb), I.nofs hb, .inr (Nat.le_trans I.sz hb), fun x c e z => ?_, fun p hp z => ?_⟩
  · obtain ⟨v, q⟩ := I.cell x c e
    exact absurd (Nat.lt_of_lt_of_le q.lt (by rw [z]; exact hb)) (Nat.lt_irrefl _)
  · exact absurd (Nat.lt_of_lt_of_le (Heap.lt_size (I.pin p hp).1) (by rw [z]; exact hb)) (Nat.lt_irrefl _)
structure Turn (P : Program) (w : World) (K : PySem.W.Frag) (tg : Expr) (J : It) (fp : List Addr) (it : Addr) (tn : Nat → Heap → Prop) : Prop where
  mem : it ∈ fp
  obj : ∀ i h, tn i h → ∀ b ∈ fp, ∃ o, h.get? b = some o ∧ ∀ v, o.data ≠ .cell v
  keep : ∀ i h h', tn i h → (∀ b ∈ fp, ∀ o, h.get? b = some o → h'.get? b = some o) → tn i h'
  item : ∀ (X : Cx), X.prog = P → X.w = w → X.K = K → X.calm = true → ∀ (i : Nat) (pins : List (Addr × Obj)) (s : Shared) (σ : St) (H : Hp) (E : Value → Shared → Prop), Inv X pins σ H s → (∀ b ∈ fp, FpOk X pins H b) → tn i s.heap → J.go i H →
    wpAny (model P w) X.A (pyNext (.ref it)) (fun r s1 => ∃ u, r = some u ∧
      wpAny (model P w) X.A (letOwnedTupleGo tg (.ref it) u) (fun _ s2 => ∃ x H', Inv X pins σ H' s2 ∧ RelV x u ∧ J.yld i H x H' ∧ tn (i + 1) s2.heap ∧ ∀ b ∈ fp, H' b = none) E s1) E s
  done : ∀ (X : Cx), X.prog = P → X.w = w → X.K = K → X.calm = true → ∀ (i : Nat) (pins : List (Addr × Obj)) (s : Shared) (σ : St) (H : Hp) (E : Value → Shared → Prop), Inv X pins σ H s → (∀ b ∈ fp, FpOk X pins H b) → tn i s.heap → J.stop i H →
    wpAny (model P w) X.A (pyNext (.ref it)) (fun r s1 => r = none ∧ Inv X pins σ H s1) E s
  self : ∀ (A : Around) (i : Nat) (s : Shared) (Q : Value → Shared → Prop) (E : Value → Shared → Prop), tn i s.heap → Q (.ref it) s → wpAny (model P w) A (pyIter (.ref it)) Q E s
abbrev TI := St → Hp → (It → Hp → Prop) → Prop
/-- an iterator has come -/
def PIE (X : Cx) (pins : List (Addr × Obj)) (σ : St) (tg : Expr) (R : It → Hp → Prop) (itv : Value) (s2 : Shared) : Prop :=
  ∃ (it : Addr) (fp : List Addr) (tn : Nat → Heap → Prop) (J : It) (H' : Hp), itv = .ref it ∧ Inv X pins σ H' s2 ∧ Turn X.prog X.w X.K tg J fp it tn ∧ tn 0 s2.heap ∧ (∀ b ∈ fp, FpOk X pins H' b) ∧ R J H'
def PI (X : Cx) (tg iter : Expr) (wi : TI) : Prop :=
  ∀ (pins : List (Addr × Obj)) (s : Shared) (σ : St) (H : Hp) (R : It → Hp → Prop), Inv X pins σ H s → wi σ H R →
    wpAny (model X.prog X.w) X.A (eval iter X.env) (fun v s1 => wpAny (model X.prog X.w) X.A (pyIter v) (PIE X pins σ tg R) X.xe s1) X.xe s

/-- the step ahead of the store is nothing for an iterator that keeps no tuple -/
theorem go_of {M : Model} {A : Around} {E : Value → Shared → Prop} {s : Shared} {tg : Expr} {it : Addr} {u : Value} {o : Obj} {n : String} {vs : Array Value} {Q : Unit → Shared → Prop} (ho : s.heap.get? it = some o) (hc : o.cls = .type n) (hd : o.data = .fields vs)
    (hn : ["enumerate", "zip", "dict_itemiterator", "dict_reverseitemiterator", "odict_iterator", "itertools.zip_longest", "itertools.pairwise"].contains n = false) (hQ : Q () s) : wpAny M A (letOwnedTupleGo tg (.ref it) u) Q E s := by
  unfold letOwnedTupleGo
  cases tg <;> first
    | exact wpAny_pure hQ
    | (cases u <;> first
        | exact wpAny_pure hQ
        | (refine wpAny_bind (wpAny_load ho ?_)
           rw [hc, hd]
           show wpAny M A (if (["enumerate", "zip", "dict_itemiterator", "dict_reverseitemiterator", "odict_iterator", "itertools.zip_longest", "itertools.pairwise"].contains n && vs[0]? == some (rawInt _)) = true then _ else _) Q E s
           rw [if_neg (by intro h; rw [hn, Bool.false_and] at h; cases h)]
           exact wpAny_pure hQ))

/-- the list at a, as it stands at each turn (a loop may append to it) -/
def Itl (K : PySem.W.Frag) (a : Addr) : It :=
  ⟨fun i H => ∃ xs x, SqL K H a xs ∧ xs[i]? = some x, fun i H x H' => H' = H ∧ ∀ xs, SqL K H a xs → xs[i]? = some x, fun i H => ∃ xs, SqL K H a xs ∧ xs.length ≤ i⟩
def Itt (K : PySem.W.Frag) (a : Addr) : It :=
  ⟨fun i H => ∃ xs x, SqT K H a xs ∧ xs[i]? = some x, fun i H x H' => H' = H ∧ ∀ xs, SqT K H a xs → xs[i]? = some x, fun i H => ∃ xs, SqT K H a xs ∧ xs.length ≤ i⟩
theorem turn_list {P : Program} {w : World} {K : PySem.W.Frag} {tg : Expr} (a it : Addr) : Turn P w K tg (Itl K a) [it] it (fun i h => h.IsListIter it a i) where
  mem := by simp
  obj := fun i h st b hb => by
    have e : b = it := by simpa using hb
    subst e
    obtain ⟨o, e, c, d⟩ := st
    exact ⟨o, e, fun v z => by rw [d] at z; cases z⟩
  keep := fun i h h' st k => st.at fun o e => k it (by simp) o e
  item := by
    intro X hP hw hK hc i pins s σ H E I hf st hg
    subst hP hw hK
    obtain ⟨xs, x, hq, hx⟩ := hg
    obtain ⟨its, rv, p, hz⟩ := I.list hq
    obtain ⟨u, hu, ru⟩ := rv.get hx
    obtain ⟨f0, f1, f2, f3, f4, f5⟩ := hf it (by simp)
    refine wpAny_pyNext_list_item st p.isList (x := u) (by simpa using hu) fun h' st' sb => ?_
    have I1 : Inv X pins σ H { s with heap := h' } := I.turned (t' := s.toks) (fun b o hb e => (sb.2 b hb).trans e) f0 f1 f3 f4 f5
    obtain ⟨o, e, c, d⟩ := id st'
    exact ⟨u, rfl, go_of (s := { s with heap := h' }) e c d (by decide) ⟨x, H, I1, ru, ⟨rfl, fun ys hy => by rw [I.list_inj hy hq]; exact hx⟩, st', fun b hb => (hf b hb).1⟩⟩
  done := by
    intro X hP hw hK hc i pins s σ H E I hf st hg
    subst hP hw hK
    obtain ⟨xs, hq, hx⟩ := hg
    obtain ⟨its, rv, p, hz⟩ := I.list hq
    obtain ⟨f0, f1, f2, f3, f4, f5⟩ := hf it (by simp)
    have hl := rv.length
    exact wpAny_pyNext_list_end (I.ok.hd hc) st p.isList (by simp; omega) fun h' eb => ⟨rfl, I.turned (t' := s.toks) (fun b o hb e => eb b o hb e) f0 f1 f3 f4 f5⟩
  self := fun _ _ _ _ _ st h => wpAny_pyIter_listiter st h
theorem turn_tuple {P : Program} {w : World} {K : PySem.W.Frag} {tg : Expr} (a it : Addr) : Turn P w K tg (Itt K a) [it] it (fun i h => h.IsTupleIter it a i) where
  mem := by simp
  obj := fun i h st b hb => by
    have e : b = it := by simpa using hb
    subst e
    obtain ⟨o, e, c, d⟩ := st
    exact ⟨o, e, fun v z => by rw [d] at z; cases z⟩
  keep := fun i h h' st k => st.at fun o e => k it (by simp) o e
  item := by
    intro X hP hw hK hc i pins s σ H E I hf st hg
    subst hP hw hK
    obtain ⟨xs, x, hq, hx⟩ := hg
    obtain ⟨its, rv, p, hz⟩ := I.tuple hq
    obtain ⟨u, hu, ru⟩ := rv.get hx
    obtain ⟨f0, f1, f2, f3, f4, f5⟩ := hf it (by simp)
    refine wpAny_pyNext_tuple_item st (show s.heap.IsTuple a its.toArray from p) (x := u) (by simpa using hu) fun h' st' sb => ?_
    have I1 : Inv X pins σ H { s with heap := h' } := I.turned (t' := s.toks) (fun b o hb e => (sb.2 b hb).trans e) f0 f1 f3 f4 f5
    obtain ⟨o, e, c, d⟩ := id st'
    exact ⟨u, rfl, go_of (s := { s with heap := h' }) e c d (by decide) ⟨x, H, I1, ru, ⟨rfl, fun ys hy => by rw [I.tuple_inj hy hq]; exact hx⟩, st', fun b hb => (hf b hb).1⟩⟩
  done := by
    intro X hP hw hK hc i pins s σ H E I hf st hg
    subst hP hw hK
    obtain ⟨xs, hq, hx⟩ := hg
    obtain ⟨its, rv, p, hz⟩ := I.tuple hq
    obtain ⟨f0, f1, f2, f3, f4, f5⟩ := hf it (by simp)
    have hl := rv.length
    exact wpAny_pyNext_tuple_end (I.ok.hd hc) st (show s.heap.IsTuple a its.toArray from p) (by simp; omega) fun h' eb => ⟨rfl, I.turned (t' := s.toks) (fun b o hb e => eb b o hb e) f0 f1 f3 f4 f5⟩
  self := fun _ _ _ _ _ st h => wpAny_pyIter_tupleiter st h
end L2

namespace L2
open PySem PySem.Spec PyProof.Rows
section
variable {X : Cx} {tg : Expr}
def iList (K : PySem.W.Frag) (tl : TE) : TI := fun σ H R => tl σ H fun x H1 => ∃ a, x = .ref a ∧ (∃ xs, SqL K H1 a xs) ∧ R (Itl K a) H1
def iTup (K : PySem.W.Frag) (tl : TE) : TI := fun σ H R => tl σ H fun x H1 => ∃ a, x = .ref a ∧ (∃ xs, SqT K H1 a xs) ∧ R (Itt K a) H1
theorem pi_list {l : Expr} {tl : TE} (hl : PE X l tl) : PI X tg l (iList X.K tl) := by
  intro pins s σ H R I h
  refine thn (hl pins s σ H _ I h) fun v s1 ⟨x, H1, I1, r1, q1⟩ => ?_
  obtain ⟨a, e, ⟨xs, hq⟩, q⟩ := q1
  subst e
  cases r1
  obtain ⟨its, rv, p, hz⟩ := I1.list hq
  refine wpAny_pyIter_list p.isList ?_
  refine ⟨s1.heap.objs.size, [s1.heap.objs.size], _, _, H1, rfl, I1.kept (t' := s1.toks) fun b o e => Heap.get?_push_of_some _ e, turn_list a _, ⟨_, Heap.get?_push_size _ rfl, rfl, rfl⟩, fun b hb => ?_, q⟩
  have e : b = s1.heap.objs.size := by simpa using hb
  subst e
  exact I1.fpOk (Nat.le_refl _) (I1.hok.fresh (Nat.le_refl _))
theorem pi_tup {l : Expr} {tl : TE} (hl : PE X l tl) : PI X tg l (iTup X.K tl) := by
  intro pins s σ H R I h
  refine thn (hl pins s σ H _ I h) fun v s1 ⟨x, H1, I1, r1, q1⟩ => ?_
  obtain ⟨a, e, ⟨xs, hq⟩, q⟩ := q1
  subst e
  cases r1
  obtain ⟨its, rv, p, hz⟩ := I1.tuple hq
  refine wpAny_pyIter_tuple (show s1.heap.IsTuple a its.toArray from p) ?_
  refine ⟨s1.heap.objs.size, [s1.heap.objs.size], _, _, H1, rfl, I1.kept (t' := s1.toks) fun b o e => Heap.get?_push_of_some _ e, turn_tuple a _, ⟨_, Heap.get?_push_size _ rfl, rfl, rfl⟩, fun b hb => ?_, q⟩
  have e : b = s1.heap.objs.size := by simpa using hb
  subst e
  exact I1.fpOk (Nat.le_refl _) (I1.hok.fresh (Nat.le_refl _))

/-! ### for -/
/-- W: the invariant by the turn and a measure; N: what the body is to reach -/
def tFor (wi : TI) (g : TG) (tb : TS) : TS := fun D σ H => wi σ H fun J H1 => ∃ W : Nat → Nat → St → Hp → Prop, (∃ m, W 0 m σ H1) ∧ ∀ i m σ H, W i m σ H →
  (J.stop i H ∧ D.nx σ H) ∨ (J.go i H ∧ ∃ N : St → Hp → Prop, (∀ σ' H', N σ' H' → ∃ m', m' < m ∧ W (i + 1) m' σ' H') ∧ ∀ x H', J.yld i H x H' → g x σ H' fun σ2 H2 => tb { D with nx := N, ct := N, bk := D.nx } σ2 H2)
/-- the records at fp as they stand -/
def pinsAt (fp : List Addr) (h : Heap) : List (Addr × Obj) := fp.filterMap fun b => (h.get? b).map fun o => (b, o)
theorem mem_pinsAt {fp : List Addr} {h : Heap} {b : Addr} {o : Obj} (hb : b ∈ fp) (e : h.get? b = some o) : (b, o) ∈ pinsAt fp h := List.mem_filterMap.mpr ⟨b, hb, by rw [e]; rfl⟩
theorem of_pinsAt {fp : List Addr} {h : Heap} {p : Addr × Obj} (hp : p ∈ pinsAt fp h) : p.1 ∈ fp ∧ h.get? p.1 = some p.2 := by
  obtain ⟨b, hb, e⟩ := List.mem_filterMap.mp hp
  cases q : h.get? b with
  | none => rw [q] at e; cases e
  | some o =>
    rw [q] at e
    have e' : (b, o) = p := Option.some.inj e
    subst e'
    exact ⟨hb, q⟩
theorem Inv.pinned {pins : List (Addr × Obj)} {σ : St} {H : Hp} {s : Shared} {fp : List Addr} (I : Inv X pins σ H s) (hf : ∀ b ∈ fp, FpOk X pins H b) (ho : ∀ b ∈ fp, ∃ o, s.heap.get? b = some o ∧ ∀ v, o.data ≠ .cell v) : Inv X (pins ++ pinsAt fp s.heap) σ H s :=
  I.pins_of fun p hp => (List.mem_append.mp hp).elim (fun z => I.pin p (List.mem_append_right _ z)) fun z => by
    obtain ⟨hb, e⟩ := of_pinsAt z
    obtain ⟨f0, f1, f2, _⟩ := hf p.1 hb
    obtain ⟨o, e', d⟩ := ho p.1 hb
    rw [e] at e'; cases e'
    exact ⟨e, f0, f1, f2, d⟩
theorem Inv.unpinned {pins pl : List (Addr × Obj)} {σ : St} {H : Hp} {s : Shared} (I : Inv X (pins ++ pl) σ H s) : Inv X pins σ H s := I.pins_of fun p hp => I.pin p (List.mem_append_right _ (List.mem_append_left _ hp))
theorem ps_for {iter : Expr} {body : List Stmt} {wi : TI} {g : TG} {tb : TS} {pos : Pos} (hp : PassesOwn (model X.prog X.w) X.A X.env X.xe) (hc : X.calm = true) (hi : PI X tg iter wi) (hg : PG X tg g) (hb : PSs X body tb)
    (hs : ∀ x, foldedSetIterable iter X.env x = pure x := by intro _; rfl) : PS X (.For tg iter body [] pos) (tFor wi g tb) := by
  intro pins s σ H D I h
  refine wpAny_For (thn (hi pins s σ H _ I h) fun v s1 h1 => thn h1 fun itv s2 h2 => ?_) hs
  obtain ⟨it, fp, tn, J, H2, e, I2, T, st2, f2, W, ⟨m0, w0⟩, turn⟩ := h2
  subst e
  -- what stays true of the iterator's objects through the loop
  have stat : ∀ {H' : Hp}, (∀ b ∈ fp, H' b = none) → ∀ b ∈ fp, FpOk X pins H' b := fun hn b hb => ⟨hn b hb, (f2 b hb).2⟩
  refine codeAny_forLoop_any (fun n s' => ∃ i σ' H', Inv X pins σ' H' s' ∧ tn i s'.heap ∧ (∀ b ∈ fp, H' b = none) ∧ W i n σ' H') ?_ m0 ⟨0, σ, H2, I2, st2, fun b hb => (f2 b hb).1, w0⟩
  rintro n s3 ⟨i, σ3, H3, I3, st3, fr3, w3⟩
  rcases turn i n σ3 H3 w3 with ⟨stop, qn⟩ | ⟨go, N, hN, step⟩
  · refine wpAny_passesOwn hp (thn (T.done X rfl rfl rfl hc i pins s3 σ3 H3 X.xe I3 (stat fr3) st3 stop) fun r s4 ⟨hr, I4⟩ => ?_)
    subst hr
    exact wpAny_execs_nil ⟨σ3, H3, I4, qn⟩
  · refine wpAny_passesOwn hp (thn (T.item X rfl rfl rfl hc i pins s3 σ3 H3 X.xe I3 (stat fr3) st3 go) fun r s4 ⟨u, hr, h4⟩ => ?_)
    subst hr
    refine wpAny_passesOwn hp (thn h4 fun _ s5 ⟨x, H5, I5, r5, y5, st5, fr5⟩ => ?_)
    have I5' := I5.pinned (stat fr5) (T.obj _ _ st5)
    refine wpAny_passesOwn hp (thn (hg _ s5 σ3 H5 x u _ I5' r5 (step x H5 y5)) fun _ s6 ⟨σ6, H6, I6, q6⟩ => ?_)
    refine wpAny_passesOwn hp (thn (hb _ s6 σ6 H6 _ I6 q6) fun f s7 q7 => ?_)
    have again : ∀ {σ7 : St} {H7 : Hp}, Inv X (pins ++ pinsAt fp s5.heap) σ7 H7 s7 → N σ7 H7 → ∃ m, m < n ∧ ∃ i σ' H', Inv X pins σ' H' s7 ∧ tn i s7.heap ∧ (∀ b ∈ fp, H' b = none) ∧ W i m σ' H' := fun {σ7 H7} I7 n7 => by
      obtain ⟨m', hm, w7⟩ := hN σ7 H7 n7
      refine ⟨m', hm, i + 1, σ7, H7, I7.unpinned, T.keep _ _ _ st5 fun b hb o e => (I7.pin (b, o) (List.mem_append_right _ (List.mem_append_right _ (mem_pinsAt hb e)))).1, fun b hb => ?_, w7⟩
      obtain ⟨o, e, d⟩ := T.obj _ _ st5 b hb
      exact (I7.pin (b, o) (List.mem_append_right _ (List.mem_append_right _ (mem_pinsAt hb e)))).2.1
    cases f with
    | next => obtain ⟨σ7, H7, I7, n7⟩ := q7; exact again I7 n7
    | cont => obtain ⟨σ7, H7, I7, n7⟩ := q7; exact again I7 n7
    | brk => obtain ⟨σ7, H7, I7, q7⟩ := q7; exact ⟨σ7, H7, I7.unpinned, q7⟩
    | ret v => obtain ⟨x7, σ7, H7, I7, r7, q7⟩ := q7; exact ⟨x7, σ7, H7, I7.unpinned, r7, q7⟩
end

/-! ### the forms one uses -/
/-- over a list that the body leaves as it is -/
theorem for_list {K : PySem.W.Frag} {a : Addr} {xs : List V} {g : TG} {tb : TS} {D : Ends} {σ : St} {H : Hp} (Pv : Nat → St → Hp → Prop) (h0 : Pv 0 σ H) (hl : ∀ i σ H, i ≤ xs.length → Pv i σ H → SqL K H a xs)
    (hs : ∀ i x σ H, xs[i]? = some x → Pv i σ H → g x σ H fun σ2 H2 => tb { D with nx := Pv (i + 1), ct := Pv (i + 1), bk := D.nx } σ2 H2) (hd : ∀ σ H, Pv xs.length σ H → D.nx σ H) :
    ∃ W : Nat → Nat → St → Hp → Prop, (∃ m, W 0 m σ H) ∧ ∀ i m σ H, W i m σ H →
      ((Itl K a).stop i H ∧ D.nx σ H) ∨ ((Itl K a).go i H ∧ ∃ N : St → Hp → Prop, (∀ σ' H', N σ' H' → ∃ m', m' < m ∧ W (i + 1) m' σ' H') ∧ ∀ x H', (Itl K a).yld i H x H' → g x σ H' fun σ2 H2 => tb { D with nx := N, ct := N, bk := D.nx } σ2 H2) := by
  refine ⟨fun i m σ H => m = xs.length - i ∧ i ≤ xs.length ∧ Pv i σ H, ⟨xs.length, by simp, Nat.zero_le _, h0⟩, ?_⟩
  rintro i m σ H ⟨rfl, hi, p⟩
  have q := hl i σ H hi p
  by_cases hlt : i < xs.length
  · refine .inr ⟨⟨xs, xs[i], q, by simp [hlt]⟩, Pv (i + 1), fun σ' H' p' => ⟨xs.length - (i + 1), by omega, rfl, hlt, p'⟩, fun x H' y => ?_⟩
    obtain ⟨e, y⟩ := y
    subst e
    exact hs i x σ _ (y xs q) p
  · have e : i = xs.length := by omega
    subst e
    exact .inl ⟨⟨xs, q, Nat.le_refl _⟩, hd σ H p⟩
theorem for_tup {K : PySem.W.Frag} {a : Addr} {xs : List V} {g : TG} {tb : TS} {D : Ends} {σ : St} {H : Hp} (Pv : Nat → St → Hp → Prop) (h0 : Pv 0 σ H) (hl : ∀ i σ H, i ≤ xs.length → Pv i σ H → SqT K H a xs)
    (hs : ∀ i x σ H, xs[i]? = some x → Pv i σ H → g x σ H fun σ2 H2 => tb { D with nx := Pv (i + 1), ct := Pv (i + 1), bk := D.nx } σ2 H2) (hd : ∀ σ H, Pv xs.length σ H → D.nx σ H) :
    ∃ W : Nat → Nat → St → Hp → Prop, (∃ m, W 0 m σ H) ∧ ∀ i m σ H, W i m σ H →
      ((Itt K a).stop i H ∧ D.nx σ H) ∨ ((Itt K a).go i H ∧ ∃ N : St → Hp → Prop, (∀ σ' H', N σ' H' → ∃ m', m' < m ∧ W (i + 1) m' σ' H') ∧ ∀ x H', (Itt K a).yld i H x H' → g x σ H' fun σ2 H2 => tb { D with nx := N, ct := N, bk := D.nx } σ2 H2) := by
  refine ⟨fun i m σ H => m = xs.length - i ∧ i ≤ xs.length ∧ Pv i σ H, ⟨xs.length, by simp, Nat.zero_le _, h0⟩, ?_⟩
  rintro i m σ H ⟨rfl, hi, p⟩
  have q := hl i σ H hi p
  by_cases hlt : i < xs.length
  · refine .inr ⟨⟨xs, xs[i], q, by simp [hlt]⟩, Pv (i + 1), fun σ' H' p' => ⟨xs.length - (i + 1), by omega, rfl, hlt, p'⟩, fun x H' y => ?_⟩
    obtain ⟨e, y⟩ := y
    subst e
    exact hs i x σ _ (y xs q) p
  · have e : i = xs.length := by omega
    subst e
    exact .inl ⟨⟨xs, q, Nat.le_refl _⟩, hd σ H p⟩
end L2

namespace L2
open PySem PySem.Spec PyProof.Rows

abbrev R2 := V → V → Hp → VK → Prop
/-- a two-place operation on values: f is binaryOp op, inplaceOp op or compareOp op -/
def OpR (X : Cx) (f : Value → Value → Sem Value) (r : R2) : Prop :=
  ∀ (pins : List (Addr × Obj)) (s : Shared) (σ : St) (H : Hp) (x y : V) (v u : Value) (Q : VK), Inv X pins σ H s → RelV x v → RelV y u → r x y H Q →
    wpAny (model X.prog X.w) X.A (f v u) (EP X pins σ Q) X.xe s
/-- a one-place operation -/
def UnR (X : Cx) (f : Value → Sem Value) (r : V → Hp → VK → Prop) : Prop :=
  ∀ (pins : List (Addr × Obj)) (s : Shared) (σ : St) (H : Hp) (x : V) (v : Value) (Q : VK), Inv X pins σ H s → RelV x v → r x H Q →
    wpAny (model X.prog X.w) X.A (f v) (EP X pins σ Q) X.xe s
/-- a call of a value that is known (a builtin, a type) with values -/
def CallR (X : Cx) (f : Value) (r : List V → Hp → VK → Prop) : Prop :=
  ∀ (pins : List (Addr × Obj)) (s : Shared) (σ : St) (H : Hp) (xs : List V) (us : List Value) (Q : VK), Inv X pins σ H s → Vals xs us → r xs H Q →
    wpAny (model X.prog X.w) X.A (call f us) (EP X pins σ Q) X.xe s

def tOp (r : R2) (ta tb : TE) : TE := fun σ H Q => ta σ H fun x H1 => tb σ H1 fun y H2 => r x y H2 Q
def tUn (r : V → Hp → VK → Prop) (ta : TE) : TE := fun σ H Q => ta σ H fun x H1 => r x H1 Q
/-- ints in, under C, and a value out -/
def rI (C : Int → Int → Prop) (g : Int → Int → V) : R2 := fun x y H Q => ∃ i j, x = .int i ∧ y = .int j ∧ C i j ∧ Q (g i j) H
def rI0 (g : Int → Int → V) : R2 := fun x y H Q => ∃ i j, x = .int i ∧ y = .int j ∧ Q (g i j) H
def rU (g : Int → V) : V → Hp → VK → Prop := fun x H Q => ∃ i, x = .int i ∧ Q (g i) H

section
variable {X : Cx} {a b c : Expr} {ta tb tc : TE} {pos : Pos}

theorem binT (ha : PE X a ta) (hb : PE X b tb) {pins : List (Addr × Obj)} {s : Shared} {σ : St} {H : Hp} {R : V → V → Hp → Prop} (I : Inv X pins σ H s)
    (h : ta σ H fun x H1 => tb σ H1 fun y H2 => R x y H2) {Q : Value → Shared → Prop} {f : Value → Value → Sem Value}
    (hf : ∀ v u s2 x y H2, Inv X pins σ H2 s2 → RelV x v → RelV y u → R x y H2 → wpAny (model X.prog X.w) X.A (f v u) Q X.xe s2) :
    wpAny (model X.prog X.w) X.A (eval a X.env) (fun v s₁ => wpAny (model X.prog X.w) X.A (eval b X.env) (fun u s₂ => wpAny (model X.prog X.w) X.A (f v u) Q X.xe s₂) X.xe s₁) X.xe s := by
  refine thn (ha pins s σ H _ I h) fun v s1 ⟨x, H1, I1, r1, q1⟩ => ?_
  refine thn (hb pins s1 σ H1 _ I1 q1) fun u s2 ⟨y, H2, I2, r2, q2⟩ => ?_
  exact hf v u s2 x y H2 I2 r1 r2 q2

theorem pe_op {op : Operator} {r : R2} (ho : OpR X (binaryOp op) r) (ha : PE X a ta) (hb : PE X b tb) : PE X (.BinOp a op b pos) (tOp r ta tb) := by
  intro pins s σ H Q I h
  exact wpAny_BinOp (binT ha hb I h fun v u s2 x y H2 I2 rx ry q => ho pins s2 σ H2 x y v u Q I2 rx ry q)
theorem pe_un {op : UnaryOp} {r : V → Hp → VK → Prop} (ho : UnR X (unaryOp op) r) (ha : PE X a ta) : PE X (.UnaryOp op a pos) (tUn r ta) := by
  intro pins s σ H Q I h
  exact UnaryOp_ (thn (ha pins s σ H _ I h) fun v s1 ⟨x, H1, I1, r1, q1⟩ => ho pins s1 σ H1 x v Q I1 r1 q1)

/-! ### ints -/
theorem opI {f : Value → Value → Sem Value} {C : Int → Int → Prop} {g : Int → Int → Int}
    (rule : ∀ (i j : Int) (t u : Tok) (s : Shared) (Q : Value → Shared → Prop) (E : Value → Shared → Prop), C i j → Q (.int (g i j) s.toks) { s with toks := s.toks + 1 } → wpAny (model X.prog X.w) X.A (f (.int i t) (.int j u)) Q E s) :
    OpR X f (rI C fun i j => .int (g i j)) := by
  intro pins s σ H x y v u Q I rx ry h
  obtain ⟨i, j, rfl, rfl, hc, q⟩ := h
  obtain ⟨t, rfl⟩ := rx
  obtain ⟨t', rfl⟩ := ry
  exact rule i j t t' s _ _ hc ⟨.int (g i j), H, I.tok _, ⟨_, rfl⟩, q⟩
theorem opI0 {f : Value → Value → Sem Value} {g : Int → Int → Int}
    (rule : ∀ (i j : Int) (t u : Tok) (s : Shared) (Q : Value → Shared → Prop) (E : Value → Shared → Prop), Q (.int (g i j) s.toks) { s with toks := s.toks + 1 } → wpAny (model X.prog X.w) X.A (f (.int i t) (.int j u)) Q E s) :
    OpR X f (rI0 fun i j => .int (g i j)) := by
  intro pins s σ H x y v u Q I rx ry h
  obtain ⟨i, j, rfl, rfl, q⟩ := h
  obtain ⟨t, rfl⟩ := rx
  obtain ⟨t', rfl⟩ := ry
  exact rule i j t t' s _ _ ⟨.int (g i j), H, I.tok _, ⟨_, rfl⟩, q⟩
theorem opB0 {f : Value → Value → Sem Value} {g : Int → Int → Bool}
    (rule : ∀ (i j : Int) (t u : Tok) (s : Shared) (Q : Value → Shared → Prop) (E : Value → Shared → Prop), Q (.bool (g i j)) s → wpAny (model X.prog X.w) X.A (f (.int i t) (.int j u)) Q E s) :
    OpR X f (rI0 fun i j => .bl (g i j)) := by
  intro pins s σ H x y v u Q I rx ry h
  obtain ⟨i, j, rfl, rfl, q⟩ := h
  obtain ⟨t, rfl⟩ := rx
  obtain ⟨t', rfl⟩ := ry
  exact rule i j t t' s _ _ ⟨.bl (g i j), H, I, rfl, q⟩

def CDiv (i j : Int) : Prop := 0 < j ∧ j < 1073741824
def CMul (i j : Int) : Prop := (-(2 ^ 64) < i ∧ i < 2 ^ 64) ∨ (-(2 ^ 64) < j ∧ j < 2 ^ 64)
theorem CMul.ok {i j : Int} (h : CMul i j) : IntMulOk i j := by
  rcases h with ⟨h1, h2⟩ | ⟨h1, h2⟩
  · exact .of_left (intBits_le_64 h1 h2)
  · exact .of_right (intBits_le_64 h1 h2)

theorem op_add : OpR X (binaryOp .Add) (rI0 fun i j => .int (i + j)) := opI0 fun _ _ _ _ _ _ _ q => add_int q
theorem op_sub : OpR X (binaryOp .Sub) (rI0 fun i j => .int (i - j)) := opI0 fun _ _ _ _ _ _ _ q => sub_int q
theorem op_mul : OpR X (binaryOp .Mult) (rI CMul fun i j => .int (i * j)) := opI fun _ _ _ _ _ _ _ hc q => mul_int q hc.ok
/-- // by a positive divisor -/
theorem op_fdiv : OpR X (binaryOp .FloorDiv) (rI CDiv fun i j => .int (i / j)) := opI fun i j _ _ _ _ _ hc q => by
  have h1 : (0 : Int) < j := hc.1
  have h2 : j < 1073741824 := hc.2
  exact floordiv_int (by omega) (by rw [Int.fdiv_eq_ediv_of_nonneg i (by omega)]; exact q) (.inl (PyProof.noPylong_small (by omega)))


theorem unI {f : Value → Sem Value} {g : Int → Int}
    (rule : ∀ (i : Int) (t : Tok) (s : Shared) (Q : Value → Shared → Prop) (E : Value → Shared → Prop), Q (.int (g i) s.toks) { s with toks := s.toks + 1 } → wpAny (model X.prog X.w) X.A (f (.int i t)) Q E s) :
    UnR X f (rU fun i => .int (g i)) := by
  intro pins s σ H x v Q I rx h
  obtain ⟨i, rfl, q⟩ := h
  obtain ⟨t, rfl⟩ := rx
  exact rule i t s _ _ ⟨.int (g i), H, I.tok _, ⟨_, rfl⟩, q⟩
theorem un_neg : UnR X (unaryOp .USub) (rU fun i => .int (-i)) := unI fun _ _ _ _ _ q => neg_int q

/-! ### bools among ints: n += (a < b) -/
end

/-! ### comparisons -/
/-- the scalars that == tells apart as data does -/
def scal : V → V → Bool
  | .non, .non => true | .non, .int _ => true | .int _, .non => true | .non, .bl _ => true | .bl _, .non => true | .non, .str _ => true | .str _, .non => true
  | .int _, .int _ => true | .bl _, .bl _ => true | .str _, .str _ => true | .byt _, .byt _ => true
  | .int _, .str _ => true | .str _, .int _ => true | .bl _, .str _ => true | .str _, .bl _ => true
  | _, _ => false
def rEq : R2 := fun x y H Q => scal x y = true ∧ Q (.bl (decide (x = y))) H
def rNe : R2 := fun x y H Q => scal x y = true ∧ Q (.bl (!decide (x = y))) H

theorem dec_int {i j : Int} : decide (V.int i = V.int j) = (i == j) := by
  rw [Bool.eq_iff_iff]
  simp
theorem dec_bl {i j : Bool} : decide (V.bl i = V.bl j) = (i == j) := by
  rw [Bool.eq_iff_iff]
  simp
theorem dec_str {i j : Str} : decide (V.str i = V.str j) = (i == j) := by
  rw [Bool.eq_iff_iff]
  simp
theorem dec_byt {i j : Array UInt8} : decide (V.byt i = V.byt j) = (i.toList == j.toList) := by
  rw [Bool.eq_iff_iff]
  cases i
  cases j
  simp

section
variable {X : Cx} {a b c : Expr} {ta tb tc : TE} {pos : Pos}
theorem fin_bl {pins : List (Addr × Obj)} {σ : St} {H : Hp} {s : Shared} {Q : VK} {k k' : Bool} (I : Inv X pins σ H s) (q : Q (.bl k) H) (e : k = k') : EP X pins σ Q (.bool k') s := by
  subst e
  exact ⟨.bl k, H, I, rfl, q⟩
theorem op_eq : OpR X (compareOp .Eq) rEq := by
  intro pins s σ H x y v u Q I rx ry h
  obtain ⟨hs, q⟩ := h
  cases x with
  | non =>
    cases rx
    cases y with
    | non => cases ry; exact PySem.EqNone.eq_none_none (fin_bl I q (by simp))
    | bl j => cases ry; exact PySem.EqNone.eq_none_bool (fin_bl I q (by simp))
    | int j => obtain ⟨t', rfl⟩ := ry; exact PySem.EqNone.eq_none_int (fin_bl I q (by simp))
    | str j => obtain ⟨t', rfl⟩ := ry; exact PySem.EqNone.eq_none_str (fin_bl I q (by simp))
    | _ => exact absurd (show false = true from hs) Bool.false_ne_true
  | bl i =>
    cases rx
    cases y with
    | non => cases ry; exact PySem.EqNone.eq_bool_none (fin_bl I q (by simp))
    | bl j => cases ry; exact eq_bool (fin_bl I q dec_bl)
    | str j => obtain ⟨t', rfl⟩ := ry; exact PySem.EqMixed.eq_bool_str (fin_bl I q (by simp))
    | _ => exact absurd (show false = true from hs) Bool.false_ne_true
  | int i =>
    obtain ⟨t, rfl⟩ := rx
    cases y with
    | non => cases ry; exact PySem.EqNone.eq_int_none (fin_bl I q (by simp))
    | int j => obtain ⟨t', rfl⟩ := ry; exact eq_int (fin_bl I q dec_int)
    | str j => obtain ⟨t', rfl⟩ := ry; exact PySem.EqMixed.eq_int_str (fin_bl I q (by simp))
    | _ => exact absurd (show false = true from hs) Bool.false_ne_true
  | str i =>
    obtain ⟨t, rfl⟩ := rx
    cases y with
    | non => cases ry; exact PySem.EqNone.eq_str_none (fin_bl I q (by simp))
    | bl j => cases ry; exact PySem.EqMixed.eq_str_bool (fin_bl I q (by simp))
    | int j => obtain ⟨t', rfl⟩ := ry; exact PySem.EqMixed.eq_str_int (fin_bl I q (by simp))
    | str j => obtain ⟨t', rfl⟩ := ry; exact eq_str (fin_bl I q dec_str)
    | _ => exact absurd (show false = true from hs) Bool.false_ne_true
  | byt i =>
    obtain ⟨t, rfl⟩ := rx
    cases y with
    | byt j => obtain ⟨t', rfl⟩ := ry; exact PySem.W.eq_bytes (fin_bl I q dec_byt)
    | _ => exact absurd (show false = true from hs) Bool.false_ne_true
  | _ => cases y <;> exact absurd (show false = true from hs) Bool.false_ne_true
theorem op_ne : OpR X (compareOp .NotEq) rNe := by
  intro pins s σ H x y v u Q I rx ry h
  obtain ⟨hs, q⟩ := h
  cases x with
  | non =>
    cases rx
    cases y with
    | non => cases ry; exact PySem.EqNone.ne_none_none (fin_bl I q (by simp))
    | bl j => cases ry; exact PySem.EqNone.ne_none_bool (fin_bl I q (by simp))
    | int j => obtain ⟨t', rfl⟩ := ry; exact PySem.EqNone.ne_none_int (fin_bl I q (by simp))
    | str j => obtain ⟨t', rfl⟩ := ry; exact PySem.EqNone.ne_none_str (fin_bl I q (by simp))
    | _ => exact absurd (show false = true from hs) Bool.false_ne_true
  | bl i =>
    cases rx
    cases y with
    | non => cases ry; exact PySem.EqNone.ne_bool_none (fin_bl I q (by simp))
    | bl j => cases ry; exact ne_bool (fin_bl I q (congrArg not dec_bl))
    | str j => obtain ⟨t', rfl⟩ := ry; exact PySem.EqMixed.ne_bool_str (fin_bl I q (by simp))
    | _ => exact absurd (show false = true from hs) Bool.false_ne_true
  | int i =>
    obtain ⟨t, rfl⟩ := rx
    cases y with
    | non => cases ry; exact PySem.EqNone.ne_int_none (fin_bl I q (by simp))
    | int j => obtain ⟨t', rfl⟩ := ry; exact ne_int (fin_bl I q (congrArg not dec_int))
    | str j => obtain ⟨t', rfl⟩ := ry; exact PySem.EqMixed.ne_int_str (fin_bl I q (by simp))
    | _ => exact absurd (show false = true from hs) Bool.false_ne_true
  | str i =>
    obtain ⟨t, rfl⟩ := rx
    cases y with
    | non => cases ry; exact PySem.EqNone.ne_str_none (fin_bl I q (by simp))
    | bl j => cases ry; exact PySem.EqMixed.ne_str_bool (fin_bl I q (by simp))
    | int j => obtain ⟨t', rfl⟩ := ry; exact PySem.EqMixed.ne_str_int (fin_bl I q (by simp))
    | str j => obtain ⟨t', rfl⟩ := ry; exact ne_str (fin_bl I q (congrArg not dec_str))
    | _ => exact absurd (show false = true from hs) Bool.false_ne_true
  | byt i =>
    obtain ⟨t, rfl⟩ := rx
    cases y with
    | byt j => obtain ⟨t', rfl⟩ := ry; exact PySem.W.ne_bytes (fin_bl I q (congrArg not dec_byt))
    | _ => exact absurd (show false = true from hs) Bool.false_ne_true
  | _ => cases y <;> exact absurd (show false = true from hs) Bool.false_ne_true

theorem op_lt : OpR X (compareOp .Lt) (rI0 fun i j => .bl (decide (i < j))) := opB0 fun _ _ _ _ _ _ _ q => lt_int q
theorem op_le : OpR X (compareOp .LtE) (rI0 fun i j => .bl (decide (i ≤ j))) := opB0 fun _ _ _ _ _ _ _ q => le_int q
theorem op_gt : OpR X (compareOp .Gt) (rI0 fun i j => .bl (decide (j < i))) := opB0 fun _ _ _ _ _ _ _ q => gt_int q
theorem op_ge : OpR X (compareOp .GtE) (rI0 fun i j => .bl (decide (j ≤ i))) := opB0 fun _ _ _ _ _ _ _ q => ge_int q




theorem nomark (b : Expr) {op : CmpOp} (h : op ≠ .In := by decide) (h2 : op ≠ .NotIn := by decide) : behindInMarks op b = false := by
  have e1 : (op == CmpOp.In) = false := by cases op <;> first | rfl | exact absurd rfl h
  have e2 : (op == CmpOp.NotIn) = false := by cases op <;> first | rfl | exact absurd rfl h2
  cases b <;> simp [behindInMarks, e1, e2]
/-- a comparison as a value; hm: nomark b, or (for in, not in) by with_unfolding_all rfl -/
theorem pe_cmpR {op : CmpOp} {r : R2} (ho : OpR X (compareOp op) r) (ha : PE X a ta) (hb : PE X b tb) (hm : behindInMarks op b = false) : PE X (.Compare a [op] [b] pos) (tOp r ta tb) := by
  intro pins s σ H Q I h
  exact wpAny_Compare1 (binT ha hb I h fun v u s2 x y H2 I2 rx ry q => ho pins s2 σ H2 x y v u Q I2 rx ry q) hm
/-- a reading of a value as a test -/
def tTest (t : TE) : TT := fun σ H Q => t σ H fun x H' => ∃ k, x = .bl k ∧ Q k H'
theorem pt_cmpR {op : CmpOp} {r : R2} (ho : OpR X (compareOp op) r) (ha : PE X a ta) (hb : PE X b tb) (hm : behindInMarks op b = false) : PT X (.Compare a [op] [b] pos) (tTest (tOp r ta tb)) := by
  intro pins s σ H Q I h
  refine wpAny_isTrue_Compare1 (thn (ha pins s σ H _ I h) fun v s1 ⟨x, H1, I1, r1, q1⟩ => thn (hb pins s1 σ H1 _ I1 q1) fun u s2 ⟨y, H2, I2, r2, q2⟩ =>
    thn (ho pins s2 σ H2 x y v u _ I2 r1 r2 q2) fun c s3 ⟨z, H3, I3, r3, k, e, q3⟩ => ?_) hm
  subst e
  cases r3
  exact wpAny_truthy_bool ⟨H3, I3, q3⟩
/-- a op1 b op2 c -/
def tChain (r r' : R2) (ta tb tc : TE) : TE := fun σ H Q => ta σ H fun x H1 => tb σ H1 fun y H2 => r x y H2 fun z H3 => ∃ k, z = .bl k ∧
  (if k = true then tc σ H3 fun w' H4 => r' y w' H4 Q else Q (.bl false) H3)
theorem pe_chain {op op' : CmpOp} {r r' : R2} (ho : OpR X (compareOp op) r) (ho' : OpR X (compareOp op') r') (ha : PE X a ta) (hb : PE X b tb) (hc : PE X c tc)
    (hm : lastMarks [op, op'] [b, c] = false := by with_unfolding_all rfl) : PE X (.Compare a [op, op'] [b, c] pos) (tChain r r' ta tb tc) := by
  intro pins s σ H Q I h
  refine Compare_chain (thn (ha pins s σ H _ I h) fun v s1 ⟨x, H1, I1, r1, q1⟩ => chain_link (thn (hb pins s1 σ H1 _ I1 q1) fun u s2 ⟨y, H2, I2, r2, q2⟩ =>
    thn (ho pins s2 σ H2 x y v u _ I2 r1 r2 q2) fun d s3 ⟨z, H3, I3, r3, k, e, q3⟩ => ?_)) hm
  subst e
  cases r3
  refine wpAny_truthy_bool ?_
  cases k with
  | false => exact ite_ff ⟨.bl false, H3, I3, rfl, q3⟩
  | true => exact ite_tt (chain_last (thn (hc pins s3 σ H3 _ I3 q3) fun w' s4 ⟨z', H4, I4, r4, q4⟩ => ho' pins s4 σ H4 y z' u w' Q I4 r2 r4 q4))

/-! ### truth -/
theorem line63 : (sizeLine : Nat) < 2 ^ 63 := by rw [sizeLine_eq]; decide

/-! ### strs and bytes -/


/-! ### scalar builtins, by CallR -/
theorem vals1 {x : V} {us : List Value} (r : Vals [x] us) : ∃ u, us = [u] ∧ RelV x u := by
  cases r with
  | cons r1 r2 => cases r2; exact ⟨_, rfl, r1⟩
theorem vals2 {x y : V} {us : List Value} (r : Vals [x, y] us) : ∃ u w', us = [u, w'] ∧ RelV x u ∧ RelV y w' := by
  cases r with
  | cons r1 r2 =>
    cases r2 with
    | cons r3 r4 => cases r4; exact ⟨_, _, rfl, r1, r3⟩
theorem call_max2 (hc : X.calm = true) : CallR X (.builtin "max") (fun xs H Q => ∃ i j, xs = [.int i, .int j] ∧ Q (.int (if j > i then j else i)) H) := by
  intro pins s σ H xs us Q I r h
  obtain ⟨i, j, rfl, q⟩ := h
  obtain ⟨u, w', rfl, ⟨t, rfl⟩, ⟨t', rfl⟩⟩ := vals2 r
  refine max_two_ints (I.ok.hd hc) fun h' tk k => ⟨_, H, I.kept k, ?_, q⟩
  by_cases hj : j > i
  · rw [if_pos hj, if_pos hj]; exact ⟨_, rfl⟩
  · rw [if_neg hj, if_neg hj]; exact ⟨_, rfl⟩
theorem call_min2 (hc : X.calm = true) : CallR X (.builtin "min") (fun xs H Q => ∃ i j, xs = [.int i, .int j] ∧ Q (.int (if j < i then j else i)) H) := by
  intro pins s σ H xs us Q I r h
  obtain ⟨i, j, rfl, q⟩ := h
  obtain ⟨u, w', rfl, ⟨t, rfl⟩, ⟨t', rfl⟩⟩ := vals2 r
  refine min_two_ints (I.ok.hd hc) fun h' tk k => ⟨_, H, I.kept k, ?_, q⟩
  by_cases hj : j < i
  · rw [if_pos hj, if_pos hj]; exact ⟨_, rfl⟩
  · rw [if_neg hj, if_neg hj]; exact ⟨_, rfl⟩
end
end L2

namespace L2
open PySem PySem.Spec PyProof.Rows

/-! ### an instance, its attributes a map -/
structure ObjM (h : Heap) (x dx C : Addr) (mA : Str → Option Value) : Prop where
  obj : h.get? x = some (PySem.W.instObj C dx)
  ns : h.Ns1 dx mA
  ne : dx ≠ x

theorem lookIn_ns {h : Heap} {dx : Addr} {mA : Str → Option Value} (n : h.Ns1 dx mA) : ∃ od, h.get? dx = some od ∧ ∀ name, PySem.W.lookIn name od = some (mA name) := by
  obtain ⟨o, es, ep, ho, hd, hk, _, hm⟩ := n
  refine ⟨o, ho, fun name => ?_⟩
  have e := hm name
  unfold nsFind findBy at e
  rw [← Array.find?_toList] at e
  unfold PySem.W.lookIn
  rw [hd]
  dsimp only
  split
  · rename_i y q
    rw [q] at e
    exact congrArg some e
  · rename_i q
    rw [q] at e
    have a : es.toList.any (·.refKey) = false := by
      rw [List.any_eq_false]
      intro y hy
      obtain ⟨z, t, hkey⟩ := hk y (Array.mem_toList_iff.mp hy)
      simp [DictEntry.refKey, hkey]
    have a' : ¬ es.toList.any (·.refKey) = true := by rw [a]; exact Bool.false_ne_true
    rw [if_neg a']
    exact congrArg some e

theorem ObjM.look {h : Heap} {x dx C : Addr} {mA : Str → Option Value} (I : ObjM h x dx C mA) : ∃ od, PySem.W.InstAt h x (PySem.W.instObj C dx) C (some od) ∧ ∀ name, PySem.W.lookIn name od = some (mA name) :=
  let ⟨od, ho, hl⟩ := lookIn_ns I.ns
  ⟨od, ⟨I.obj, rfl, rfl, ho⟩, hl⟩

section
variable {prog : Program} {w : World} {A : Around} {E : Value → Shared → Prop} {s : Shared} {K : PySem.W.Frag} {x dx C f : Addr} {mA : Str → Option Value} {name : Str} {v : Value}

theorem get_map {expr : Bool} {Q : Value → Shared → Prop} (X : K.In s.heap) (I : ObjM s.heap x dx C mA) (hg : PySem.W.plainGet K C name = true) (hh : PySem.W.hasDictIn K C = true)
    (ha : PySem.W.findIn K (.ref C) name = some none) (hv : mA name = some v) (hv' : PySem.W.handedIn v = true) (h : Q v { s with toks := s.toks + 1 }) :
    wpAny (model prog w) A (getAttr (.ref x) name expr) Q E s := by
  obtain ⟨od, J, hl⟩ := I.look
  exact PySem.W.get_value X J (PySem.W.plainGet_of hg).1 (PySem.W.findObj_own hh ha rfl (by rw [hl, hv])) hv' h


theorem get_meth {pl : Sem Bool} {Q : Value × List Value → Shared → Prop} (X : K.In s.heap) (I : ObjM s.heap x dx C mA) (hg : PySem.W.plainGet K C name = true)
    (hf : PySem.W.findIn K (.ref C) name = some (some (.ref f))) (ht : PySem.W.isFn K (.ref f) = true) (hv : mA name = none) (h : Q (.ref f, [.ref x]) s) :
    wpAny (model prog w) A (getMethod (.ref x) name pl) Q E s := by
  obtain ⟨od, J, hl⟩ := I.look
  exact PySem.W.method_fn X J (PySem.W.plainGet_of hg).1 (PySem.W.plainGet_of hg).2 hf (beq_iff_eq.mp ht) (by show (PySem.W.lookIn name od).map (·.isSome) = some false; rw [hl, hv]; rfl) h

theorem set_map {ns : List Str} {Q : Unit → Shared → Prop} (X : K.In s.heap) (I : ObjM s.heap x dx C mA)
    (hs : PySem.W.findIn K (.ref C) "__setattr__" = some (some (.builtin "object.__setattr__"))) (hp : PySem.W.plainOver K C = true) (ht : PySem.W.takerIn K C name = some none) (hh : PySem.W.hasDictIn K C = true)
    (hw : PySem.Within mA ns) (hsz : ns.length ≤ sizeLine)
    (h : ∀ h', ObjM h' x dx C (fun y => if y = name then some v else mA y) → Heap.SameBut dx s.heap h' → Q () { s with heap := h', toks := s.toks + 2 }) :
    wpAny (model prog w) A (setAttr (.ref x) name v) Q E s := by
  obtain ⟨od, J, hl⟩ := I.look
  refine PySem.W.set_plain X J hs (PySem.W.osa_open (s := { s with toks := s.toks + 1 }) (r := none) X J hp ht fun b => ?_)
  obtain ⟨cd, hc, hd'⟩ := PySem.W.any_some hh
  have hx : s.heap.get? x = some ⟨.ref C, some dx, .plain, #[]⟩ := I.obj
  refine wpAny_bind (wpAny_pure (wpAny_bind (wpAny_bind (wpAny_loadPart hx (wpAny_bind (PySem.W.Looks.here (s := { s with toks := s.toks + 1 }) (PySem.W.looks_clsIn X hc) ?_))))))
  rw [hd']
  refine wpAny_pure (a := some dx) (wpAny_bind (wpAny_pure (wpAny_bind ?_)))
  refine wpAny_nsSet1 (s := { s with toks := s.toks + 1 }) I.ns fun h' hn2 hs2 => ?_
  obtain ⟨oD, esD, epD, hoD, hdD, hcD⟩ := hn2.count (PySem.Within.cons name v hw)
  refine wpAny_bind (wpAny_lookBehind hoD (by rw [hdD]; exact pastItsLine_dict (Nat.le_trans hcD (by rw [List.length_cons]; omega))) ?_)
  exact wpAny_pure (h _ ⟨(hs2.2 _ (Ne.symm I.ne)).trans I.obj, hn2, I.ne⟩ hs2)

/-- C(..): the dict at the heap's end, the instance behind it; then its __init__ -/
theorem make_map {R : Result → Shared → Prop} {vs : List Value} {kw : List (Str × Value)} (X : K.In s.heap) (hm : PySem.W.makesIn K C = true)
    (hi : PySem.W.findIn K (.ref C) "__init__" = some (some (.ref f))) (hf : PySem.W.typeIn K (.ref f) = some (.type "function"))
    (h : codeAny (model prog w) (A.under (.builtin "type.__call__" ⟨.ref C :: vs, kw⟩)) (.call (.ref f) ⟨.ref (s.heap.objs.size + 1) :: vs, kw⟩) (PySem.W.InitBack (s.heap.objs.size + 1) R)
      { s with heap := (s.heap.push PySem.W.emptyDict).push (PySem.W.instObj C s.heap.objs.size) }) :
    codeAny (model prog w) A (.call (.ref C) ⟨vs, kw⟩) R s := by
  obtain ⟨hh, g, d, t, os⟩ := s
  exact PySem.W.make_core (PySem.W.makes_of X hm) (PySem.W.looks_findIn X hi) (fun self => PySem.W.bind_fn X self hf) (.inl rfl) h
end

/-! ### the attributes as a list of pairs -/
def putF (f : Str) (v : V) : List (Str × V) → List (Str × V)
  | [] => [(f, v)]
  | (g, x) :: r => if g = f then (g, v) :: r else (g, x) :: putF f v r
theorem lookup_putF (f g : Str) (v : V) : ∀ fs : List (Str × V), (putF f v fs).lookup g = if g = f then some v else fs.lookup g
  | [] => by
    show List.lookup g [(f, v)] = _
    by_cases h : g = f
    · have hb : (g == f) = true := beq_iff_eq.mpr h
      simp only [List.lookup, hb, if_pos h]
    · have hb : (g == f) = false := beq_eq_false_iff_ne.mpr h
      simp only [List.lookup, hb, if_neg h]
  | (k, x) :: r => by
    have ih := lookup_putF f g v r
    rw [show putF f v ((k, x) :: r) = (if k = f then (k, v) :: r else (k, x) :: putF f v r) from rfl]
    by_cases hk : k = f
    · rw [if_pos hk]
      by_cases h : g = k
      · have hb : (g == k) = true := beq_iff_eq.mpr h
        simp only [List.lookup, hb, if_pos (h.trans hk)]
      · have hb : (g == k) = false := beq_eq_false_iff_ne.mpr h
        simp only [List.lookup, hb, if_neg (fun e : g = f => h (e.trans hk.symm))]
    · rw [if_neg hk]
      by_cases h : g = k
      · have hb : (g == k) = true := beq_iff_eq.mpr h
        simp only [List.lookup, hb, if_neg (fun e : g = f => hk (h.symm.trans e))]
      · have hb : (g == k) = false := beq_eq_false_iff_ne.mpr h
        simp only [List.lookup, hb]
        exact ih
theorem keys_putF (f : Str) (v : V) : ∀ fs : List (Str × V), f ∈ (putF f v fs).map (·.1) ∧ ∀ g, g ∈ fs.map (·.1) → g ∈ (putF f v fs).map (·.1)
  | [] => ⟨by simp [putF], fun g h => by simp at h⟩
  | (k, x) :: r => by
    obtain ⟨i1, i2⟩ := keys_putF f v r
    rw [show putF f v ((k, x) :: r) = (if k = f then (k, v) :: r else (k, x) :: putF f v r) from rfl]
    by_cases hk : k = f
    · rw [if_pos hk]
      subst hk
      exact ⟨by simp, fun g h => by simpa using h⟩
    · rw [if_neg hk]
      refine ⟨?_, fun g h => ?_⟩
      · rw [List.map_cons]
        exact List.mem_cons_of_mem _ i1
      · rw [List.map_cons] at h ⊢
        rcases List.mem_cons.mp h with e | e
        · exact List.mem_cons.mpr (.inl e)
        · exact List.mem_cons_of_mem _ (i2 g e)
theorem length_putF (f : Str) (v : V) : ∀ fs : List (Str × V), (putF f v fs).length ≤ fs.length + 1
  | [] => by simp [putF]
  | (k, x) :: r => by
    have ih := length_putF f v r
    rw [show putF f v ((k, x) :: r) = (if k = f then (k, v) :: r else (k, x) :: putF f v r) from rfl]
    by_cases hk : k = f
    · rw [if_pos hk, List.length_cons, List.length_cons]; omega
    · rw [if_neg hk, List.length_cons, List.length_cons]; omega

theorem RelO.some_of {v : V} {o : Option Value} (r : RelO (some v) o) : ∃ u, o = some u ∧ RelV v u := by
  cases o with
  | none => exact (show False from r).elim
  | some u => exact ⟨u, rfl, r⟩
theorem RelO.none_of {o : Option Value} (r : RelO none o) : o = none := by
  cases o with
  | none => rfl
  | some u => exact (show False from r).elim
theorem handed_of {v : V} {u : Value} (r : RelV v u) : PySem.W.handedIn u = true := by
  cases v with
  | non => cases (show u = Value.none from r); rfl
  | bl b => cases (show u = Value.bool b from r); rfl
  | int i => obtain ⟨t, e⟩ := (show ∃ t, u = Value.int i t from r); cases e; rfl
  | str x => obtain ⟨t, e⟩ := (show ∃ t, u = Value.str x t from r); cases e; rfl
  | byt b => obtain ⟨t, e⟩ := (show ∃ t, u = Value.bytes b t from r); cases e; rfl
  | flt b => obtain ⟨t, e⟩ := (show ∃ t, u = Value.float b t from r); cases e; rfl
  | ref a => cases (show u = Value.ref a from r); rfl
  | ty n => cases (show u = Value.type n from r); rfl

section
variable {P : Program} {w : World} {H H' : Hp} {h h' : Heap} {a C dx : Addr} {fs fs' : List (Str × V)}
theorem ins_get (hok : HOk P w H h) (e : H a = some (.ins C dx fs)) : ∃ mA, ObjM h a dx C mA ∧ (∀ f, RelO (fs.lookup f) (mA f)) ∧ PySem.Within mA (fs.map (·.1)) ∧ fs.length ≤ 1000 ∧ H dx = some (.own a) := by
  obtain ⟨d, z, ne, ob, mA, n, r, q⟩ := (show ObjOk P w H h a (.ins C dx fs) from hok a _ e)
  exact ⟨mA, ⟨ob, n, ne⟩, r, q, z, d⟩
end

/-! ### what of the text a class must have -/
structure Cls (K : PySem.W.Frag) (C : Addr) : Prop where
  pg : PySem.W.plainGet K C Str.empty = true
  hd : PySem.W.hasDictIn K C = true
  po : PySem.W.plainOver K C = true
  sa : PySem.W.findIn K (.ref C) "__setattr__" = some (some (.builtin "object.__setattr__"))
theorem Cls.get {K : PySem.W.Frag} {C : Addr} (c : Cls K C) (f : Str) : PySem.W.plainGet K C f = true := c.pg
/-- no class of it has the name -/
def NoAttr (K : PySem.W.Frag) (C : Addr) (f : Str) : Prop := PySem.W.findIn K (.ref C) f = some none
theorem NoAttr.taker {K : PySem.W.Frag} {C : Addr} {f : Str} (n : NoAttr K C f) : PySem.W.takerIn K C f = some none := by
  unfold PySem.W.takerIn
  rw [show PySem.W.findIn K (.ref C) f = some none from n]
  rfl
/-- a method: a plain def of the class or of one above it -/
structure Meth (K : PySem.W.Frag) (C : Addr) (m : Str) (f : Addr) : Prop where
  at_ : PySem.W.findIn K (.ref C) m = some (some (.ref f))
  fn : PySem.W.isFn K (.ref f) = true
  kp : PySem.W.keepIn K (.ref f) = true

section
variable {X : Cx} {pins : List (Addr × Obj)} {σ : St} {H : Hp} {s : Shared} {a C dx : Addr} {fs : List (Str × V)} {f : Str} {v : V} {A : Around} {E : Value → Shared → Prop}

theorem getattr_ok {b : Bool} {Q : Value → Shared → Prop} (I : Inv X pins σ H s) (e : H a = some (.ins C dx fs)) (c : Cls X.K C) (n : NoAttr X.K C f) (l : fs.lookup f = some v)
    (h : ∀ u s', Inv X pins σ H s' → RelV v u → Q u s') : wpAny (model X.prog X.w) A (getAttr (.ref a) f b) Q E s := by
  obtain ⟨mA, O, r, _, _, _⟩ := ins_get I.hok e
  obtain ⟨u, hu, ru⟩ := RelO.some_of (v := v) (o := mA f) (by rw [← l]; exact r f)
  exact get_map I.kIn O (c.get f) c.hd n hu (handed_of ru) (h u _ (I.tok _) ru)


theorem getmeth_ok {m : Str} {g : Addr} {pl : Sem Bool} {Q : Value × List Value → Shared → Prop} (I : Inv X pins σ H s) (e : H a = some (.ins C dx fs)) (c : Cls X.K C) (k : Meth X.K C m g) (l : fs.lookup m = none)
    (h : Q (.ref g, [.ref a]) s) : wpAny (model X.prog X.w) A (getMethod (.ref a) m pl) Q E s := by
  obtain ⟨mA, O, r, _, _, _⟩ := ins_get I.hok e
  have hn : mA m = none := RelO.none_of (by rw [← l]; exact r m)
  exact get_meth I.kIn O (c.get m) k.at_ k.fn hn h

theorem setattr_ok {y : V} {u : Value} {Q : Unit → Shared → Prop} (I : Inv X pins σ H s) (e : H a = some (.ins C dx fs)) (c : Cls X.K C) (n : NoAttr X.K C f) (hl : fs.length < 1000) (ry : RelV y u)
    (h : ∀ s', Inv X pins σ (upd H a (.ins C dx (putF f y fs))) s' → Q () s') : wpAny (model X.prog X.w) A (setAttr (.ref a) f u) Q E s := by
  obtain ⟨mA, O, r, wi, _, ho⟩ := ins_get I.hok e
  have hz : (fs.map (·.1)).length ≤ sizeLine := by rw [List.length_map, sizeLine_eq]; omega
  refine set_map I.kIn O c.sa c.po n.taker c.hd wi hz fun h' O' sb => h _ ?_
  have hd : ∃ o, h'.get? dx = some o := let ⟨o, _, _, e', _⟩ := O'.ns; ⟨o, e'⟩
  refine I.write (x := a) (e := dx) (by rw [e]; exact True.intro) (.inr ho) (fun b q hb z => (sb.2 b hb).trans z) hd ?_
  refine ⟨by rw [upd_ne O.ne]; exact ho, ?_, O.ne, O'.obj, _, O'.ns, fun g => ?_, fun g hg => ?_⟩
  · have := length_putF f y fs; omega
  · show RelO ((putF f y fs).lookup g) (if g = f then some u else mA g)
    rw [lookup_putF]
    by_cases q : g = f
    · rw [if_pos q, if_pos q]; exact ry
    · rw [if_neg q, if_neg q]; exact r g
  · by_cases q : g = f
    · rw [q]; exact (keys_putF f y fs).1
    · refine (keys_putF f y fs).2 g (wi g fun z => hg ?_)
      show (if g = f then some u else mA g) = none
      rw [if_neg q]; exact z

/-- a new instance, tracked, without attributes -/
theorem Inv.made (I : Inv X pins σ H s) : Inv X pins σ (upd (upd H s.heap.objs.size (.own (s.heap.objs.size + 1))) (s.heap.objs.size + 1) (.ins C s.heap.objs.size []))
    { s with heap := (s.heap.push PySem.W.emptyDict).push (PySem.W.instObj C s.heap.objs.size) } := by
  have e1 : (s.heap.push PySem.W.emptyDict).get? s.heap.objs.size = some PySem.W.emptyDict := Heap.get?_push_size s.heap rfl
  have e2 : ((s.heap.push PySem.W.emptyDict).push (PySem.W.instObj C s.heap.objs.size)).get? (s.heap.objs.size + 1) = some (PySem.W.instObj C s.heap.objs.size) := by
    have := Heap.get?_push_size (s.heap.push PySem.W.emptyDict) (o := PySem.W.instObj C s.heap.objs.size) rfl
    rwa [Heap.size_push] at this
  have e3 : (s.heap.push PySem.W.emptyDict).Ns s.heap.objs.size (fun _ => none) := ⟨PySem.W.emptyDict, #[], _, e1, rfl, (fun e he => absurd he (by simp)), fun _ => rfl⟩
  have I1 := I.laid (a := s.heap.objs.size) (o := .own (s.heap.objs.size + 1)) (h' := s.heap.push PySem.W.emptyDict) (t' := s.toks) (fun b u q => Heap.get?_push_of_some _ q) (Nat.le_refl _) ⟨_, e1⟩
  refine I1.laid (a := s.heap.objs.size + 1) (o := .ins C s.heap.objs.size []) (t' := s.toks) (fun b u q => Heap.get?_push_of_some _ q) (Nat.le_of_eq (Heap.size_push _ _)) ?_
  have ne : s.heap.objs.size ≠ s.heap.objs.size + 1 := Nat.ne_of_lt (Nat.lt_succ_self _)
  refine ⟨by rw [upd_ne ne, upd_same], Nat.zero_le _, ne, e2, fun _ => none, (Heap.Ns1.of_empty e3).at fun o q => Heap.get?_push_of_some _ q, fun _ => True.intro, fun y hy => absurd rfl hy⟩

/-- e.f where nothing but the object is asked: through attributeBase (super) and the last hold -/
theorem attr_of {prog : Program} {w : World} {env : Env} {e : Expr} {f : Str} {pos : Pos} {s : Shared} {Q : Value → Shared → Prop} (hb : attributeBase e f env (eval e env) = eval e env)
    (h : wpAny (model prog w) A (eval e env) (fun o s₁ => wpAny (model prog w) A (getAttr o f true) Q E s₁) E s) : wpAny (model prog w) A (eval (.Attribute e f pos) env) Q E s :=
  Attribute_any_ h (by rw [arm_eval_Attribute, hb])
end

/-! ### readings and rules -/
/-- e.f, an attribute of the instance -/
def tFld (K : PySem.W.Frag) (ta : TE) (f : Str) : TE := fun σ H Q => ta σ H fun x H1 => ∃ a C dx fs v, x = .ref a ∧ H1 a = some (.ins C dx fs) ∧ Cls K C ∧ NoAttr K C f ∧ fs.lookup f = some v ∧ Q v H1
/-- e.f = value -/
def sFld (K : PySem.W.Frag) (ta tv : TE) (f : Str) : TS := fun D σ H => tv σ H fun y H1 => ta σ H1 fun x H2 => ∃ a C dx fs, x = .ref a ∧ H2 a = some (.ins C dx fs) ∧ Cls K C ∧ NoAttr K C f ∧ fs.length < 1000 ∧
  D.nx σ (upd H2 a (.ins C dx (putF f y fs)))
/-- an augmented operator on two values -/
def InOp (X : Cx) (op : Operator) (rd : V → V → Hp → VK → Prop) : Prop :=
  ∀ (pins : List (Addr × Obj)) (s : Shared) (σ : St) (H : Hp) (x y : V) (u v : Value) (Q : VK), Inv X pins σ H s → RelV x u → RelV y v → rd x y H Q → wpAny (model X.prog X.w) X.A (inplaceOp op u v) (EP X pins σ Q) X.xe s
/-- e.f op= value -/
def sFldAug (K : PySem.W.Frag) (ta tv : TE) (rd : V → V → Hp → VK → Prop) (f : Str) : TS := fun D σ H => ta σ H fun x H1 => ∃ a C dx fs v, x = .ref a ∧ H1 a = some (.ins C dx fs) ∧ Cls K C ∧ NoAttr K C f ∧ fs.lookup f = some v ∧
  tv σ H1 fun y H2 => rd v y H2 fun z H3 => ∃ dx' fs', H3 a = some (.ins C dx' fs') ∧ fs'.length < 1000 ∧ D.nx σ (upd H3 a (.ins C dx' (putF f z fs')))

section
variable {X : Cx} {o e value : Expr} {f : Str} {pos pos' tpos : Pos} {ta tv : TE}
theorem pe_fld (he : PE X e ta) (hb : attributeBase e f X.env (eval e X.env) = eval e X.env) : PE X (.Attribute e f pos) (tFld X.K ta f) := by
  intro pins s σ H Q I h
  refine attr_of hb (thn (he pins s σ H _ I h) fun u s1 ⟨x, H1, I1, rx, a, C, dx, fs, v, ex, ea, c, n, l, q⟩ => ?_)
  subst ex
  obtain rfl : u = Value.ref a := rx
  exact getattr_ok I1 ea c n l fun u' s2 I2 ru => ⟨v, H1, I2, ru, q⟩
theorem ps_fld (ha : PE X o ta) (hv : PE X value tv) (hs : swapsWith value (some (.Attribute o f pos')) pos.line X.env = pure false) : PS X (.Assign [.Attribute o f pos'] value pos) (sFld X.K ta tv f) := by
  intro pins s σ H D I h
  refine plainObj_wpAny_Assign_Attribute (thn (hv pins s σ H _ I h) fun u s1 ⟨y, H1, I1, ry, q⟩ => thn (ha pins s1 σ H1 _ I1 q) fun ov s2 ⟨x, H2, I2, rx, a, C, dx, fs, ex, ea, c, n, l, q2⟩ => ?_) hs
  subst ex
  obtain rfl : ov = Value.ref a := rx
  exact setattr_ok I2 ea c n l ry fun s3 I3 => ⟨σ, _, I3, q2⟩
theorem ps_fldaug {op : Operator} {rd : V → V → Hp → VK → Prop} (ha : PE X o ta) (hv : PE X value tv) (hop : InOp X op rd) : PS X (.AugAssign (.Attribute o f tpos) op value pos) (sFldAug X.K ta tv rd f) := by
  intro pins s σ H D I h
  refine wpAny_AugAssign_AttributeAny (thn (ha pins s σ H _ I h) fun ov s1 ⟨x, H1, I1, rx, a, C, dx, fs, v, ex, ea, c, n, l, q⟩ => ?_)
  subst ex
  obtain rfl : ov = Value.ref a := rx
  refine getattr_ok I1 ea c n l fun u s2 I2 ru => thn (hv pins s2 σ H1 _ I2 q) fun w3 s3 ⟨y, H2, I3, ry, q3⟩ => thn (hop pins s3 σ H2 v y u w3 _ I3 ru ry q3) fun w4 s4 ⟨z, H3, I4, rz, dx', fs', ea', l', q4⟩ => ?_
  exact setattr_ok I4 ea' c n l' rz fun s5 I5 => ⟨σ, _, I5, q4⟩
def rAdd : V → V → Hp → VK → Prop := fun x y H Q => ∃ i j, x = .int i ∧ y = .int j ∧ Q (.int (i + j)) H
def rSub : V → V → Hp → VK → Prop := fun x y H Q => ∃ i j, x = .int i ∧ y = .int j ∧ Q (.int (i - j)) H
theorem in_add : InOp X .Add rAdd := by
  rintro pins s σ H x y u v Q I rx ry ⟨i, j, rfl, rfl, q⟩
  obtain ⟨t, rfl⟩ := (show ∃ t, u = Value.int i t from rx)
  obtain ⟨t', rfl⟩ := (show ∃ t', v = Value.int j t' from ry)
  exact PyProof.Rows.iadd_int ⟨.int (i + j), H, I.tok _, ⟨_, rfl⟩, q⟩
theorem in_sub : InOp X .Sub rSub := by
  rintro pins s σ H x y u v Q I rx ry ⟨i, j, rfl, rfl, q⟩
  obtain ⟨t, rfl⟩ := (show ∃ t, u = Value.int i t from rx)
  obtain ⟨t', rfl⟩ := (show ∃ t', v = Value.int j t' from ry)
  exact PyProof.Rows.isub_int ⟨.int (i - j), H, I.tok _, ⟨_, rfl⟩, q⟩

end

/-! ### isinstance -/
section
variable {X : Cx} {pins : List (Addr × Obj)} {σ : St} {H : Hp} {s : Shared} {A : Around} {E : Value → Shared → Prop} {Q : Value → Shared → Prop} {c : Value} {b : Bool}
end
end L2

namespace L2
open PySem PySem.Spec PyProof.Rows

/-! ### room -/
structure Room (k : Nat) (A : Around) : Prop where
  hd : A.handled = none
  dp : A.depth + 3 * k + 5 < recursionLimit
  un : A.units + 16 * k + 200 < cLine
theorem Room.mono {j k : Nat} {A : Around} (r : Room k A) (h : j ≤ k) : Room j A := ⟨r.hd, by have := r.dp; omega, by have := r.un; omega⟩
theorem Room.deeper {k : Nat} {A : Around} (r : Room (k + 1) A) (env : Env) : Room k (A.deeper env) :=
  ⟨r.hd, by have := r.dp; show A.depth + 1 + 3 * k + 5 < _; omega, by have := r.un; show A.units + 3 + 16 * k + 200 < _; omega⟩
theorem make_depth {A : Around} {C : Addr} {us : List Value} {kw : List (Str × Value)} : (A.under (.builtin "type.__call__" ⟨.ref C :: us, kw⟩)).depth = A.depth + 1 := by
  first | rfl | simp [Around.under, Code.weight, Code.isCreation, Code.isGuard, Code.isCaller, Code.frames, Code.isFrame, guardIds]
theorem make_units {A : Around} {C : Addr} {us : List Value} {kw : List (Str × Value)} : (A.under (.builtin "type.__call__" ⟨.ref C :: us, kw⟩)).units = A.units + 1 := by
  first | rfl | simp [Around.under, Code.cUnits, Code.frames, Code.isFrame]
theorem Room.make {k : Nat} {A : Around} (r : Room (k + 1) A) (C : Addr) (us : List Value) (kw : List (Str × Value)) : Room k (A.under (.builtin "type.__call__" ⟨.ref C :: us, kw⟩)) :=
  ⟨r.hd, by have := r.dp; rw [make_depth]; omega, by have := r.un; rw [make_units]; omega⟩
theorem Room.depth {k : Nat} {A : Around} (r : Room k A) : A.depth < recursionLimit := by have := r.dp; omega

/-! ### argument lists and displays -/
def tNil : TA := fun _ H Q => Q [] H
def tCons (ta : TE) (tr : TA) : TA := fun σ H Q => ta σ H fun x H1 => tr σ H1 fun xs H2 => Q (x :: xs) H2
section
variable {X : Cx} {e : Expr} {es : List Expr} {te : TE} {t : TA} {pos : Pos}
theorem pa_nil : PA X [] tNil := fun _ _ _ _ H Q I h => Calls.spliced_nil ⟨[], H, I, .nil, h⟩
theorem pa_cons (ha : PE X e te) (hr : PA X es t) (hs : starEach (e :: es) X.env = (false, eval e X.env) :: starEach es X.env := by rfl) : PA X (e :: es) (tCons te t) := by
  intro pos pins s σ H Q I h
  rw [hs]
  show wpAny _ _ (spliced ((false, eval e X.env) :: backTo pos (starEach es X.env))) _ _ s
  refine Calls.spliced_cons (thn (ha pins s σ H _ I h) fun u s1 ⟨x, H1, I1, r1, q1⟩ => ?_)
  exact thn (hr pos pins s1 σ H1 _ I1 q1) fun us s2 ⟨xs, H2, I2, r2, q2⟩ => ⟨x :: xs, H2, I2, .cons r1 r2, q2⟩

/-- a tuple, a list of written items -/
def tTup (t : TA) : TE := fun σ H Q => t σ H fun xs H1 => xs.length ≤ sizeLine ∧ ∀ p, H1 p = none → Q (.ref p) (upd H1 p (.tup xs))
def tLst (t : TA) : TE := fun σ H Q => t σ H fun xs H1 => xs.length ≤ sizeLine ∧ ∀ p, H1 p = none → Q (.ref p) (upd H1 p (.lst xs))
theorem pe_tup {x1} (h : PA X es t) : PE X (.Tuple es x1 pos) (tTup t) := by
  intro pins s σ H Q I hq
  refine wpAny_Tuple_spliced (thn (h pos pins s σ H _ I hq) fun us s1 ⟨xs, H1, I1, r, z, q⟩ => ⟨by rw [← r.length]; exact z, ?_⟩)
  have hf : H1 s1.heap.objs.size = none := I1.hok.fresh (Nat.le_refl _)
  refine ⟨.ref s1.heap.objs.size, upd H1 s1.heap.objs.size (.tup xs), I1.laid (t' := s1.toks) (fun b u e => Heap.get?_push_of_some _ e) (Nat.le_refl _) ?_, rfl, q _ hf⟩
  exact ⟨z, us, r, ⟨_, Heap.get?_push_size _ rfl, rfl, _, rfl⟩⟩
theorem pe_lst (h : PA X es t) : PE X (.List es pos) (tLst t) := by
  intro pins s σ H Q I hq
  refine wpAny_List_spliced (thn (h pos pins s σ H _ I hq) fun us s1 ⟨xs, H1, I1, r, z, q⟩ => ⟨by rw [← r.length]; exact z, ?_⟩)
  have hf : H1 s1.heap.objs.size = none := I1.hok.fresh (Nat.le_refl _)
  refine ⟨.ref s1.heap.objs.size, upd H1 s1.heap.objs.size (.lst xs), I1.laid (t' := s1.toks) (fun b u e => Heap.get?_push_of_some _ e) (Nat.le_refl _) ?_, rfl, q _ hf⟩
  exact ⟨z, us, 0, r, Heap.get?_push_size _ rfl⟩
end

/-! ### what a def promises -/
/-- a def's promise: the bound arguments in the parameters' order, the heap, the wanted end, the wanted exception -/
abbrev Sp := List V → Hp → VK → XK → Prop
/-- how an exception lies behind a call (file 08 gives it): the callers' frames, abstract heap and state ahead of the call, the wish, the exception, the state -/
abbrev CXT := List Env → Hp → Shared → XK → Value → Shared → Prop

/-- the state at a call -/
structure Env0 (P : Program) (w : World) (K : PySem.W.Frag) (mg : Str → Option Value) (base : Heap) (A : Around) (outer : List Env) (s : Shared) (H : Hp) : Prop where
  frames : A.frames = some outer
  mod : Mod K mg base
  bs : ∀ b o, base.get? b = some o → s.heap.get? b = some o ∧ H b = none
  bsz : base.objs.size ≤ s.heap.objs.size
  funs : s.heap.FunFrames base outer
  frf : ∀ b ∈ frs outer, H b = none
  hok : HOk P w H s.heap
  bare : AllBare s.gens
/-- a call's end -/
def CE (outer : List Env) (P : Program) (w : World) (H : Hp) (s : Shared) (Q : VK) (u : Value) (s' : Shared) : Prop :=
  ∃ v H', s'.os = s.os ∧ AllBare s'.gens ∧ Un (frs outer) [] H H' s.heap s'.heap ∧ HOk P w H' s'.heap ∧ RelV v u ∧ Q v H'
def CR (CX : CXT) (outer : List Env) (P : Program) (w : World) (H : Hp) (s : Shared) (Q : VK) (E : XK) (r : Result) (s' : Shared) : Prop :=
  match r with
  | .ok (.ret u) => CE outer P w H s Q u s'
  | .ok _ => False
  | .error e => CX outer H s E e s'
structure FnOk (P : Program) (w : World) (K : PySem.W.Frag) (mg : Str → Option Value) (base : Heap) (CX : CXT) (k : Nat) (f : Addr) (fd : FuncData) (ps : List Str) (sp : Sp) : Prop where
  len : ∀ vs H Q E, sp vs H Q E → vs.length = ps.length
  run : ∀ (A : Around) (outer : List Env) (s : Shared) (H : Hp) (args : Args) (us : List Value) (vs : List V) (Q : VK) (E : XK), Room k A → Env0 P w K mg base A outer s H → BindsTo s fd args (ps.zip us) → Vals vs us → sp vs H Q E →
    codeAny (model P w) A (.call (.ref f) args) (CR CX outer P w H s Q E) s

theorem Env0.make {P : Program} {w : World} {K : PySem.W.Frag} {mg : Str → Option Value} {base : Heap} {A : Around} {outer : List Env} {s : Shared} {H : Hp} (e : Env0 P w K mg base A outer s H) (C : Addr) (us : List Value) (kw : List (Str × Value)) :
    Env0 P w K mg base (A.under (.builtin "type.__call__" ⟨.ref C :: us, kw⟩)) outer s H := ⟨by first | exact e.frames | (simpa [Around.under, Code.envs, Code.isFrame, pushEnvs] using e.frames), e.mod, e.bs, e.bsz, e.funs, e.frf, e.hok, e.bare⟩

section
variable {X : Cx} {pins : List (Addr × Obj)} {σ : St} {H : Hp} {s s' : Shared}
/-- from a body: what a callee wants -/
theorem Inv.env0 (I : Inv X pins σ H s) : Env0 X.prog X.w X.K X.mg X.base X.A X.stack s H :=
  ⟨I.ok.frames, I.ok.mod, I.bs, Nat.le_trans I.ok.bsz I.sz, I.stack, I.stkFree, I.hok, I.bare⟩
/-- behind a call -/
theorem Inv.after {Q : VK} {u : Value} (I : Inv X pins σ H s) (h : CE X.stack X.prog X.w H s Q u s') : EP X pins σ Q u s' := by
  obtain ⟨v, H', os, bare, un, hok, r, q⟩ := h
  obtain ⟨hh, g, d, t, os'⟩ := s'
  obtain rfl : os' = s.os := os
  exact ⟨v, H', I.call (h' := hh) (g' := g) (d' := d) (t' := t) (ch := []) un hok bare (fun b z => absurd z (by simp)), r, q⟩
end

/-! ### calls -/
/-- f(..): the written arguments, then the defaults dvs; E: what is wanted of an exception -/
def tCall (sp : Sp) (dvs : List V) (E : XK) (t : TA) : TE := fun σ H Q => t σ H fun vs H1 => sp (vs ++ dvs) H1 Q E
/-- o.m(..) of an instance of the class at C -/
def tMeth (C : Addr) (m : Str) (sp : Sp) (dvs : List V) (E : XK) (ta : TE) (t : TA) : TE := fun σ H Q => ta σ H fun x H1 => ∃ a dx fs, x = .ref a ∧ H1 a = some (.ins C dx fs) ∧ fs.lookup m = none ∧
  t σ H1 fun vs H2 => sp (x :: (vs ++ dvs)) H2 Q E
/-- C(..): a new instance and its dict, then __init__ -/
def tMake (C : Addr) (sp : Sp) (dvs : List V) (E : XK) (t : TA) : TE := fun σ H Q => t σ H fun vs H1 => ∀ x dx, H1 x = none → H1 dx = none → dx ≠ x →
  sp (.ref x :: (vs ++ dvs)) (upd (upd H1 dx (.own x)) x (.ins C dx [])) (fun v H2 => v = .non ∧ Q (.ref x) H2) E

/-- how the parameters are bound: us the positional arguments, kw the keywords' values by name, ds the defaults that fill up -/
def Binds (K : PySem.W.Frag) (fd : FuncData) (ps : List Str) (ds : List Value) : Prop :=
  ∀ (s : Shared) (us : List Value), K.In s.heap → (us ++ ds).length = ps.length → BindsTo s fd ⟨us, []⟩ (ps.zip (us ++ ds))
/-- every parameter is given -/
theorem Binds.all {K : PySem.W.Frag} {fd : FuncData} {ps : List Str} (h : ∀ us : List Value, us.length = ps.length → bindArgs fd ⟨us, []⟩ = pure (ps.zip us)) : Binds K fd ps [] := fun s us _ hl => by
  rw [List.append_nil] at hl ⊢
  exact .of_eq (h us hl)

/-- an exception of a callee reaches what this body wants of exceptions -/
def Passes (CX : CXT) (X : Cx) (E : XK) : Prop := ∀ (pins : List (Addr × Obj)) (σ : St) (H : Hp) (s : Shared) (e : Value) (s' : Shared), Inv X pins σ H s → CX X.stack H s E e s' → X.xe e s'

section
variable {X : Cx} {CX : CXT} {k : Nat} {f C : Addr} {fd : FuncData} {ps : List Str} {sp : Sp} {dvs : List V} {ds : List Value} {E : XK} {x m : Str} {p pos apos : Pos} {e o : Expr} {es : List Expr} {ta : TE} {t : TA}

/-- the callee runs -/
theorem run_fn {pins : List (Addr × Obj)} {σ : St} {H : Hp} {s : Shared} {Q : VK} {us : List Value} {vs : List V} (F : FnOk X.prog X.w X.K X.mg X.base CX k f fd ps sp) (hr : Room k X.A) (hb : Binds X.K fd ps ds) (hd : Vals dvs ds) (hx : Passes CX X E)
    (I : Inv X pins σ H s) (r : Vals vs us) (h : sp (vs ++ dvs) H Q E) : wpAny (model X.prog X.w) X.A (call (.ref f) us) (EP X pins σ Q) X.xe s := by
  have r2 : Vals (vs ++ dvs) (us ++ ds) := r.append hd
  have hl : (us ++ ds).length = ps.length := by rw [← r2.length]; exact F.len _ _ _ _ h
  refine wpAny_call (codeAny_mono (F.run X.A X.stack s H ⟨us, []⟩ (us ++ ds) (vs ++ dvs) Q E hr I.env0 (hb s us I.kIn hl) r2 h) fun r s' hq => ?_)
  cases r with
  | error e => exact hx pins σ H s e s' I hq
  | ok fl =>
    cases fl with
    | ret u => exact I.after hq
    | next => exact False.elim hq
    | brk => exact False.elim hq
    | cont => exact False.elim hq

theorem pe_call (F : FnOk X.prog X.w X.K X.mg X.base CX k f fd ps sp) (hr : Room k X.A) (hg : Gl X x) (hm : X.mg x = some (.ref f)) (hk : PySem.W.keepIn X.K (.ref f) = true) (hb : Binds X.K fd ps ds) (hd : Vals dvs ds) (hx : Passes CX X E)
    (ha : PA X (e :: es) t) (hdb : (x == ("__debug__" : Str)) = false := by decide) (he : starEach (e :: es) X.env = (false, eval e X.env) :: starEach es X.env := by rfl) (hpl : (backTo pos (starEach es X.env)).any (·.1) = false := by rfl) :
    PE X (.Call (.Name x p) (e :: es) [] pos) (tCall sp dvs E t) := by
  intro pins s σ H Q I h
  refine wpAny_Call_Name_kw (ld_glob I hg hm ?_ hdb)
  refine PySem.W.callWith_K (h₀ := X.base) I.ok.mod.kin hk (thn (ha pos pins s σ H _ I h) fun us s1 ⟨vs, H1, I1, r, q⟩ => ⟨I1.kIn, ?_⟩) he hpl
  exact run_fn F hr hb hd hx I1 r q

/-- o.m(e, ..) -/
theorem pe_meth {pl : Sem Bool} (he : PE X o ta) (c : Cls X.K C) (hm : Meth X.K C m f) (F : FnOk X.prog X.w X.K X.mg X.base CX k f fd ps sp) (hr : Room k X.A) (hb : Binds X.K fd ps ds) (hd : Vals dvs ds) (hx : Passes CX X E) (ha : PA X (e :: es) t)
    (hst : starEach (e :: es) X.env = (false, eval e X.env) :: starEach es X.env := by rfl) (hpl : (backTo pos (starEach es X.env)).any (·.1) = false := by rfl)
    (ht : eval (.Call (.Attribute o m apos) (e :: es) [] pos) X.env = (do
      let ov ← eval o X.env
      standAt apos.atName
      let (f, first) ← holding [ov] (getMethod ov m pl)
      callWith pos f first (backTo pos (starEach (e :: es) X.env)) (backToKw pos (keywordEach [] X.env))) := by rfl) :
    PE X (.Call (.Attribute o m apos) (e :: es) [] pos) (tMeth C m sp dvs E ta t) := by
  intro pins s σ H Q I h
  refine PySem.W.methodCall_KW (pl := pl) (thn (he pins s σ H _ I h) fun u s1 ⟨x, H1, I1, rx, a, dx, fs, ex, ea, l, q⟩ => ?_) ht
  subst ex
  obtain rfl : u = Value.ref a := rx
  refine getmeth_ok I1 ea c hm l ?_
  refine PySem.W.callWith_K (first := [.ref a]) (h₀ := X.base) I.ok.mod.kin hm.kp (thn (ha pos pins s1 σ H1 _ I1 q) fun us s2 ⟨vs, H2, I2, r, q2⟩ => ⟨I2.kIn, ?_⟩) hst hpl
  exact run_fn (us := .ref a :: us) (vs := .ref a :: vs) F hr hb hd hx I2 (.cons rfl r) q2
/-- o.m() -/
theorem pe_meth0 {pl : Sem Bool} (he : PE X o ta) (c : Cls X.K C) (hm : Meth X.K C m f) (F : FnOk X.prog X.w X.K X.mg X.base CX k f fd ps sp) (hr : Room k X.A) (hb : Binds X.K fd ps ds) (hd : Vals dvs ds) (hx : Passes CX X E)
    (ht : eval (.Call (.Attribute o m apos) [] [] pos) X.env = (do
      let ov ← eval o X.env
      standAt apos.atName
      let (f, first) ← holding [ov] (getMethod ov m pl)
      callWith pos f first (backTo pos (starEach [] X.env)) (backToKw pos (keywordEach [] X.env))) := by rfl) :
    PE X (.Call (.Attribute o m apos) [] [] pos) (tMeth C m sp dvs E ta tNil) := by
  intro pins s σ H Q I h
  refine PySem.W.methodCall_KW (pl := pl) (thn (he pins s σ H _ I h) fun u s1 ⟨x, H1, I1, rx, a, dx, fs, ex, ea, l, q⟩ => ?_) ht
  subst ex
  obtain rfl : u = Value.ref a := rx
  refine getmeth_ok I1 ea c hm l ?_
  exact PySem.W.callWith_K0 (first := [.ref a]) I1.kIn hm.kp (run_fn (us := [.ref a]) (vs := [.ref a]) F hr hb hd hx I1 (.cons rfl .nil) q)

/-- what a class must have to be made -/
structure Mk (K : PySem.W.Frag) (C f : Addr) : Prop where
  makes : PySem.W.makesIn K C = true
  init : PySem.W.findIn K (.ref C) "__init__" = some (some (.ref f))
  fn : PySem.W.isFn K (.ref f) = true
  kp : PySem.W.keepIn K (.ref C) = true

theorem run_make {pins : List (Addr × Obj)} {σ : St} {H : Hp} {s : Shared} {Q : VK} {us : List Value} {vs : List V} (M : Mk X.K C f) (F : FnOk X.prog X.w X.K X.mg X.base CX k f fd ps sp) (hr : Room (k + 1) X.A) (hb : Binds X.K fd ps ds) (hd : Vals dvs ds)
    (hx : Passes CX X E) (I : Inv X pins σ H s) (r : Vals vs us)
    (h : ∀ x dx, H x = none → H dx = none → dx ≠ x → sp (.ref x :: (vs ++ dvs)) (upd (upd H dx (.own x)) x (.ins C dx [])) (fun v H2 => v = .non ∧ Q (.ref x) H2) E) :
    wpAny (model X.prog X.w) X.A (call (.ref C) us) (EP X pins σ Q) X.xe s := by
  have hq := h (s.heap.objs.size + 1) s.heap.objs.size (I.hok.fresh (Nat.le_succ _)) (I.hok.fresh (Nat.le_refl _)) (Nat.ne_of_lt (Nat.lt_succ_self _))
  have I2 := Inv.made (C := C) I
  have r2 : Vals (V.ref (s.heap.objs.size + 1) :: (vs ++ dvs)) (Value.ref (s.heap.objs.size + 1) :: (us ++ ds)) := .cons rfl (r.append hd)
  have hl : (Value.ref (s.heap.objs.size + 1) :: us ++ ds).length = ps.length := by
    have e := r2.length
    rw [F.len _ _ _ _ hq] at e
    exact e.symm
  refine wpAny_call (make_map (f := f) I.kIn M.makes M.init (beq_iff_eq.mp M.fn) (codeAny_mono (F.run _ X.stack _ _ ⟨Value.ref (s.heap.objs.size + 1) :: us, []⟩ (Value.ref (s.heap.objs.size + 1) :: (us ++ ds)) _ _ E (hr.make C us [])
    (I2.env0.make C us []) (hb _ (Value.ref (s.heap.objs.size + 1) :: us) I2.kIn hl) r2 hq) fun r s' hq' => ?_))
  cases r with
  | error e => exact hx pins σ _ _ e s' I2 hq'
  | ok fl =>
    cases fl with
    | ret u =>
      obtain ⟨v, H', I3, rv, ev, q3⟩ := I2.after hq'
      subst ev
      exact ⟨rv, ⟨V.ref (s.heap.objs.size + 1), H', I3, rfl, q3⟩⟩
    | next => exact False.elim hq'
    | brk => exact False.elim hq'
    | cont => exact False.elim hq'
theorem pe_make (M : Mk X.K C f) (F : FnOk X.prog X.w X.K X.mg X.base CX k f fd ps sp) (hr : Room (k + 1) X.A) (hg : Gl X x) (hm : X.mg x = some (.ref C)) (hb : Binds X.K fd ps ds) (hd : Vals dvs ds) (hx : Passes CX X E)
    (ha : PA X (e :: es) t) (hdb : (x == ("__debug__" : Str)) = false := by decide) (he : starEach (e :: es) X.env = (false, eval e X.env) :: starEach es X.env := by rfl) (hpl : (backTo pos (starEach es X.env)).any (·.1) = false := by rfl) :
    PE X (.Call (.Name x p) (e :: es) [] pos) (tMake C sp dvs E t) := by
  intro pins s σ H Q I h
  refine wpAny_Call_Name_kw (ld_glob I hg hm ?_ hdb)
  refine PySem.W.callWith_K (h₀ := X.base) I.ok.mod.kin M.kp (thn (ha pos pins s σ H _ I h) fun us s1 ⟨vs, H1, I1, r, q⟩ => ⟨I1.kIn, ?_⟩) he hpl
  exact run_make M F hr hb hd hx I1 r q
theorem pe_make0 (M : Mk X.K C f) (F : FnOk X.prog X.w X.K X.mg X.base CX k f fd ps sp) (hr : Room (k + 1) X.A) (hg : Gl X x) (hm : X.mg x = some (.ref C)) (hb : Binds X.K fd ps ds) (hd : Vals dvs ds) (hx : Passes CX X E)
    (hdb : (x == ("__debug__" : Str)) = false := by decide) : PE X (.Call (.Name x p) [] [] pos) (tMake C sp dvs E tNil) := by
  intro pins s σ H Q I h
  refine wpAny_Call_Name_kw (ld_glob I hg hm ?_ hdb)
  exact PySem.W.callWith_K0 I.kIn M.kp (run_make (us := []) M F hr hb hd hx I .nil h)
end

/-! ### keywords -/
section
variable {X : Cx} {CX : CXT} {k : Nat} {f C : Addr} {fd : FuncData} {ps ks : List Str} {sp : Sp} {E : XK} {x m : Str} {p pos apos kpos : Pos} {e o : Expr} {es : List Expr} {kws : List Keyword} {te ta : TE} {t tk : TA} {nm : Option Str}

variable {g : List Value → List Value → List Value} {gV : List V → List V → List V}
end

/-! ### a def's body keeps its promise -/
/-- names: the parameters first -/
structure FnScope (N P : List Str) (sc : Scope) : Prop where
  kind : sc.kind = .function
  co : sc.isCoroutine = false
  gen : sc.isGenerator = false
  nd : N.Nodup
  pre : N.take P.length = P
  par : ∀ x ∈ P, sc.names.lookup x = some .local ∨ sc.names.lookup x = some .cell
  nofree : ∀ y ∈ sc.names, y.2 ≠ .free

theorem bindL_out {kindOf : Str → Option NameKind} {x : Str} : ∀ {binds : List (Str × Value)} {m : Str → Option Value}, (∀ v, (x, v) ∉ binds) → bindL kindOf binds m x = m x
  | [], _, _ => rfl
  | (n, v) :: r, m, h => by
    unfold bindL
    rw [bindL_out fun w hw => h w (List.mem_cons_of_mem _ hw)]
    split
    · have : x ≠ n := by rintro rfl; exact h v List.mem_cons_self
      simp [this]
    · rfl
theorem bindC_out {kindOf : Str → Option NameKind} {x : Str} : ∀ {binds : List (Str × Value)} {m : Str → Option Value}, (∀ v, (x, v) ∉ binds) → bindC kindOf binds m x = m x
  | [], _, _ => rfl
  | (n, v) :: r, m, h => by
    unfold bindC
    rw [bindC_out fun w hw => h w (List.mem_cons_of_mem _ hw)]
    split
    · rfl
    · have : x ≠ n := by rintro rfl; exact h v List.mem_cons_self
      simp [this]
theorem bindL_get {kindOf : Str → Option NameKind} {x : Str} {v : Value} : ∀ {P : List Str} {vs : List Value} {i : Nat} {m : Str → Option Value}, P.Nodup → P[i]? = some x → vs[i]? = some v → kindOf x = some .local →
    bindL kindOf (P.zip vs) m x = some v
  | [], _, _, _, _, h, _, _ => by simp at h
  | _ :: _, [], _, _, _, _, h, _ => by simp at h
  | p :: P, w :: vs, 0, m, nd, h1, h2, hk => by
    simp at h1 h2; subst h1; subst h2
    show bindL kindOf ((p, w) :: P.zip vs) m p = _
    unfold bindL
    rw [bindL_out fun v hv => (List.nodup_cons.mp nd).1 (List.of_mem_zip hv).1, if_pos hk]
    simp
  | p :: P, w :: vs, i + 1, m, nd, h1, h2, hk => by
    show bindL kindOf ((p, w) :: P.zip vs) m x = _
    unfold bindL
    exact bindL_get (i := i) (List.nodup_cons.mp nd).2 (by simpa using h1) (by simpa using h2) hk
theorem bindC_get {kindOf : Str → Option NameKind} {x : Str} {v : Value} : ∀ {P : List Str} {vs : List Value} {i : Nat} {m : Str → Option Value}, P.Nodup → P[i]? = some x → vs[i]? = some v → kindOf x ≠ some .local →
    bindC kindOf (P.zip vs) m x = some v
  | [], _, _, _, _, h, _, _ => by simp at h
  | _ :: _, [], _, _, _, _, h, _ => by simp at h
  | p :: P, w :: vs, 0, m, nd, h1, h2, hk => by
    simp at h1 h2; subst h1; subst h2
    show bindC kindOf ((p, w) :: P.zip vs) m p = _
    unfold bindC
    rw [bindC_out fun v hv => (List.nodup_cons.mp nd).1 (List.of_mem_zip hv).1, if_neg hk]
    simp
  | p :: P, w :: vs, i + 1, m, nd, h1, h2, hk => by
    show bindC kindOf ((p, w) :: P.zip vs) m x = _
    unfold bindC
    exact bindC_get (i := i) (List.nodup_cons.mp nd).2 (by simpa using h1) (by simpa using h2) hk

/-- the names' values at the entry -/
def start (N : List Str) (vs : List V) : St := vs.map some ++ List.replicate (N.length - vs.length) none

/-- the context of a def's body, at its entry; an exception leaves the frame, then lies as CX says -/
def cxOf (CX : CXT) (P : Program) (w : World) (K : PySem.W.Frag) (mg : Str → Option Value) (base : Heap) (N : List Str) (qual : Str) (scope : Scope) (f : Addr) (cd : Value) (A : Around) (outer : List Env) (s : Shared) (H : Hp) (E : XK) : Cx where
  prog := P
  w := w
  K := K
  mg := mg
  base := base
  A := A.deeper (envOfC qual scope s.heap.objs.size f cd)
  N := N
  s_0 := s
  H_0 := H
  env := envOfC qual scope s.heap.objs.size f cd
  outer := outer
  stack := envOfC qual scope s.heap.objs.size f cd :: outer
  ex := []
  calm := true
  fn := fun _ => true
  pn := []
  xe := fun e s' => wpAny (model P w) (A.deeper (envOfC qual scope s.heap.objs.size f cd)) (leaving (envOfC qual scope s.heap.objs.size f cd) e) (fun _ s'' => CX outer H s E e s'') (fun e' s'' => CX outer H s E e' s'') s'

theorem cell_has {sc : Scope} {n : Nat} {x : Str} (h : sc.names.lookup x = some .cell) : ∃ c, (cellsFrom n sc.names []).lookup x = some c := by
  have q := PySem.W.cellsFrom_some sc.names n [] (.inl h)
  exact Option.isSome_iff_exists.mp q

theorem inv_start {CX : CXT} {P : Program} {w : World} {K : PySem.W.Frag} {mg : Str → Option Value} {base : Heap} {N ps : List Str} {qual : Str} {scope : Scope} {f : Addr} {cd : Value} {A : Around} {outer : List Env} {s s1 : Shared} {H : Hp} {E : XK} {us : List Value} {vs : List V}
    (S : FnScope N ps scope) (hd : A.handled = none) (e0 : Env0 P w K mg base A outer s H) (hl : vs.length = ps.length) (r : Vals vs us)
    (x : InCallC s s.heap.objs.size (bindL (envOfC qual scope s.heap.objs.size f cd).kindOf (ps.zip us) fun _ => none) (cellsFrom (s.heap.objs.size + 1) scope.names []) (bindC (envOfC qual scope s.heap.objs.size f cd).kindOf (ps.zip us) fun _ => none) s1) :
    Inv (cxOf CX P w K mg base N qual scope f cd A outer s H E) [] (start N vs) H s1 := by
  have hpl : ps.length ≤ N.length := by have := congrArg List.length S.pre; rw [List.length_take] at this; omega
  obtain ⟨h1, tk, rfl, hk⟩ := x.done
  have noA : ∀ b : Addr, b ∉ (cxOf CX P w K mg base N qual scope f cd A outer s H E).ex := fun b z => absurd (show b ∈ ([] : List Addr) from z) (by simp)
  refine ⟨⟨e0.mod, S.kind, rfl, rfl, Nat.le_refl _, fun y z c h1 h2 => ?_, fun y hy => ?_, fun y c _ h => ?_, fun _ => hd, Around.frames_deeper e0.frames, .inr ⟨rfl, rfl⟩, fun b z => absurd z (noA b), e0.bs, e0.bsz, fun b _ _ => noA b, fun b z => absurd z (noA b), e0.funs, e0.frf⟩,
    rfl, e0.bare, Un.kept hk, ⟨_, x.toInCall.ns, fun i y v h1 h2 h3 => ?_⟩, fun y c h => ⟨_, x.cell y c h⟩, e0.hok.fresh (Nat.le_refl _), fun y c h => ?_, fun p hp => absurd (show p ∈ ([] : List (Addr × Obj)) from hp) (by simp), e0.hok.kept hk, ?_⟩
  · exact name_of_addr x.apart (PySem.mem_of_lookup h1) (PySem.mem_of_lookup h2)
  · have hy : scope.names.lookup y = some .cell ∨ scope.names.lookup y = some .free := hy
    rcases hy with hy | hy
    · exact cell_has hy
    · exact absurd rfl (S.nofree _ (PySem.mem_of_lookup hy))
  · exact Nat.le_of_lt (x.above y c (PySem.mem_of_lookup h))
  · have hi : i < vs.length := by
      unfold start at h2
      by_cases hi : i < vs.length
      · exact hi
      · rw [List.getElem?_append_right (by simpa using hi)] at h2
        rw [List.getElem?_replicate] at h2
        split at h2 <;> cases h2
    have ha : vs[i]? = some v := by
      unfold start at h2
      rw [List.getElem?_append_left (by simpa using hi), List.getElem?_map] at h2
      cases e : vs[i]? with
      | none => rw [e] at h2; cases h2
      | some a => rw [e] at h2; cases h2; rfl
    obtain ⟨u, hu, rv⟩ := r.get ha
    have hp : ps[i]? = some y := by
      rw [← S.pre, List.getElem?_take_of_lt (by omega)]; exact h1
    have ndP : ps.Nodup := by rw [← S.pre]; exact S.nd.sublist (List.take_sublist _ _)
    refine ⟨u, rv, ?_⟩
    rcases S.par y (List.mem_of_getElem? hp) with k | k
    · exact .inl ⟨k, bindL_get ndP hp hu k⟩
    · obtain ⟨c, e⟩ := cell_has (n := s.heap.objs.size + 1) k
      refine .inr ⟨.inl k, c, e, ?_⟩
      have q := x.cell y c e
      rw [bindC_get ndP hp hu (by show scope.names.lookup y ≠ _; rw [k]; decide)] at q
      exact q
  · exact e0.hok.fresh (Nat.le_of_lt (x.above y c (PySem.mem_of_lookup h)))
  · unfold start
    show _ = N.length
    rw [List.length_append, List.length_map, List.length_replicate]
    omega

/-- THE RULE: a def (or a method) of the text, by its body. The body's reading t is chosen for each entry; it is run at the parameters' values -/
theorem fn_of {CX : CXT} {P : Program} {w : World} {K : PySem.W.Frag} {mg : Str → Option Value} {base : Heap} {k : Nat} {f : Addr} {name qual : Str} {params : Arguments} {body : List Stmt} {scope : Scope} {dV kV doc pm cdv ct oc : Value} {an od : Option Addr}
    {osl : Array (Option Value)} {N ps : List Str} {sp : Sp} (lk : K.lookup f = some ⟨oc, od, .func (PySem.W.fnOf name qual params body scope dV kV doc pm an cdv ct), osl⟩) (hcd : PySem.W.codeIn K cdv qual = true) (S : FnScope N ps scope)
    (len : ∀ vs H Q E, sp vs H Q E → vs.length = ps.length)
    (hbody : ∀ (A : Around) (outer : List Env) (s : Shared) (H : Hp) (vs : List V) (Q : VK) (E : XK), Room k (A.deeper (envOfC qual scope s.heap.objs.size f cdv)) → sp vs H Q E →
      ∃ t, PSs (cxOf CX P w K mg base N qual scope f cdv A outer s H E) body t ∧ t { nx := fun _ H' => Q .non H', rt := Q } (start N vs) H) :
    FnOk P w K mg base CX (k + 1) f (PySem.W.fnOf name qual params body scope dV kV doc pm an cdv ct) ps sp := by
  refine ⟨len, fun A outer s H args us vs Q E hr e0 hb r hsp => ?_⟩
  have hl := len _ _ _ _ hsp
  have KX : K.In s.heap := e0.mod.kin.keeps fun b o e => (e0.bs b o e).1
  have lim : s.heap.NoLimit := e0.mod.nolimit.keeps fun b o e => (e0.bs b o e).1
  have hkind : ∀ y ∈ ps.zip us, scope.names.lookup y.1 = some .local ∨ (scope.names.lookup y.1 = some .cell ∧ ((cellsFrom (s.heap.objs.size + 1) scope.names []).lookup y.1).isSome = true) := fun ⟨n, v⟩ hy => by
    rcases S.par n (List.of_mem_zip hy).1 with q | q
    · exact .inl q
    · exact .inr ⟨q, PySem.W.cellsFrom_some _ _ _ (.inl q)⟩
  refine codeAny_call_function hr.depth (KX _ _ lk) rfl S.co S.gen rfl (PySem.W.codeRec_of KX hcd) (hb _ _ _ _ ?_)
  refine wpAny_newFunctionEnv_cells S.kind hkind fun env he s1 x => ?_
  subst he
  refine ⟨lim.keeps x.toInCall.keep, codeAny_func ?_⟩
  obtain ⟨t, ht, hq⟩ := hbody A outer s H vs Q E (hr.deeper _) hsp
  have I : Inv (cxOf CX P w K mg base N qual scope f cdv A outer s H E) [] (start N vs) H s1 := inv_start S hr.hd e0 hl r x
  refine wpAny_mono (ht [] s1 (start N vs) H _ I hq) (fun fl s' hs => ?_) fun e s' hs => hs
  have fin : ∀ {σ' : St} {H' : Hp} {v : V} {u : Value}, Inv (cxOf CX P w K mg base N qual scope f cdv A outer s H E) [] σ' H' s' → RelV v u → Q v H' → CE outer P w H s Q u s' :=
    fun {σ' H' v u} J rv q => ⟨v, H', J.os, J.bare, J.base, J.hok, rv, q⟩
  cases fl with
  | ret u =>
    obtain ⟨v, σ', H', J, rv, q⟩ := hs
    exact fin J rv q
  | next =>
    obtain ⟨σ', H', J, q⟩ := hs
    exact fin (v := V.non) (u := Value.none) J rfl q
  | brk =>
    obtain ⟨_, _, _, q⟩ := hs
    exact False.elim q
  | cont =>
    obtain ⟨_, _, _, q⟩ := hs
    exact False.elim q
end L2

namespace L2
open PySem PySem.Spec PyProof.Rows
section
variable {X : Cx} {x : Str} {p pos : Pos} {e : Expr} {es : List Expr} {t : TA} {id T : String} {r : List V → Hp → VK → Prop}

def tCB (r : List V → Hp → VK → Prop) (t : TA) : TE := fun σ H Q => t σ H fun vs H1 => r vs H1 Q
/-- f(e, ..), f a built-in function -/
theorem pe_callB (hc : CallR X (.builtin id) r) (hg : Gl X x) (hm : X.mg x = none) (hv : bootBuiltins x = some (.builtin id)) (ha : PA X (e :: es) t) (hn : x ≠ "__name__" := by decide) (hdb : (x == ("__debug__" : Str)) = false := by decide)
    (he : starEach (e :: es) X.env = (false, eval e X.env) :: starEach es X.env := by rfl) (hpl : (backTo pos (starEach es X.env)).any (·.1) = false := by rfl) : PE X (.Call (.Name x p) (e :: es) [] pos) (tCB r t) := by
  intro pins s σ H Q I h
  refine wpAny_Call_Name_kw (ld_blt I hg hm hv ?_ hn hdb)
  exact PyProof.Rows.callWith_builtin1 (thn (ha pos pins s σ H _ I h) fun us s1 ⟨vs, H1, I1, r1, q1⟩ => hc pins s1 σ H1 vs us Q I1 r1 q1) he hpl
/-- T(e, ..), T a built-in type -/
theorem pe_callTy (hc : CallR X (.type T) r) (hg : Gl X x) (hm : X.mg x = none) (hv : bootBuiltins x = some (.type T)) (ha : PA X (e :: es) t) (hn : x ≠ "__name__" := by decide) (hdb : (x == ("__debug__" : Str)) = false := by decide)
    (he : starEach (e :: es) X.env = (false, eval e X.env) :: starEach es X.env := by rfl) (hpl : (backTo pos (starEach es X.env)).any (·.1) = false := by rfl) : PE X (.Call (.Name x p) (e :: es) [] pos) (tCB r t) := by
  intro pins s σ H Q I h
  refine wpAny_Call_Name_kw (ld_blt I hg hm hv ?_ hn hdb)
  exact PyProof.Rows.callWith_type1 (thn (ha pos pins s σ H _ I h) fun us s1 ⟨vs, H1, I1, r1, q1⟩ => hc pins s1 σ H1 vs us Q I1 r1 q1) he hpl
end
end L2

namespace HT
open PySem PyProof.Rows



section
open PySem.SeqAt
open PySem.AutoSeq1 (wpAny_loadPart')
open PySem.MeetsSeq PySem.MeetsSeq2 PySem.MeetsSeq3

end

section
variable {prog : Program} {w : World} {A : Around} {E : Value → Shared → Prop} {s : Shared}



/-! ### t[a:b], not the whole -/
/-- a slice's bound as a place among n (d where it is left out) -/
def sIx (n d : Nat) : Option Int → Nat
  | none => d
  | some v => if v < 0 then (v + (n : Int)).toNat else min v.toNat n
theorem sIx_nat (n d k : Nat) : sIx n d (some (k : Int)) = min k n := by
  show (if (k : Int) < 0 then ((k : Int) + (n : Int)).toNat else min (k : Int).toNat n) = min k n
  rw [if_neg (by omega), Int.toNat_natCast]

end
end HT

namespace L2
open PySem PySem.Spec PyProof.Rows

/-! ### the parts of a slice -/
abbrev TO := St → Hp → (Option Int → Hp → Prop) → Prop
/-- a slice's part (left out, or an int) -/
def PO (X : Cx) (e : Option Expr) (t : TO) : Prop :=
  ∀ (pins : List (Addr × Obj)) (s : Shared) (σ : St) (H : Hp) (Q : Option Int → Hp → Prop), Inv X pins σ H s → t σ H Q →
    wpAny (model X.prog X.w) X.A (evalPart e X.env) (fun u s' => ∃ o H', Inv X pins σ H' s' ∧ IsPart u o ∧ Q o H') X.xe s
def tPart (t : TE) : TO := fun σ H Q => t σ H fun x H1 => ∃ i, x = .int i ∧ Q (some i) H1


section
variable {X : Cx} {e : Expr} {te : TE} {lo hi : Option Expr} {tl th : TO} {pos p2 : Pos}

theorem po_some (h : PE X e te) : PO X (some e) (tPart te) := by
  intro pins s σ H Q I hw
  rw [evalPart_some]
  refine thn (h pins s σ H _ I hw) fun u s1 ⟨x, H1, I1, r1, q1⟩ => ?_
  obtain ⟨i, rfl, q⟩ := q1
  obtain ⟨t, rfl⟩ := r1
  exact ⟨some i, H1, I1, .int i t, q⟩

/-- what a slice of a value is, by values: the slice object stands at sl -/
def SlR (X : Cx) (r : V → Option Int → Option Int → Hp → VK → Prop) : Prop :=
  ∀ (pins : List (Addr × Obj)) (s : Shared) (σ : St) (H : Hp) (x : V) (v vl vu : Value) (lo hi : Option Int) (sl : Addr) (Q : VK), Inv X pins σ H s → RelV x v → s.heap.IsSliceOf sl vl vu .none → IsPart vl lo → IsPart vu hi → r x lo hi H Q →
    ∃ T id, typeLookup (.type T) "__getitem__" = pure (some (.builtin id)) ∧ s.TypeIs v T ∧ wpAny (model X.prog X.w) X.A (getItem v (.ref sl)) (EP X pins σ Q) X.xe s
def tSl (r : V → Option Int → Option Int → Hp → VK → Prop) (te : TE) (tl th : TO) : TE := fun σ H Q => te σ H fun x H1 => tl σ H1 fun l H2 => th σ H2 fun u H3 => r x l u H3 Q
/-- a[lo:hi], any a -/
theorem pe_slice {r : V → Option Int → Option Int → Hp → VK → Prop} (hr : SlR X r) (he : PE X e te) (hl : PO X lo tl) (hu : PO X hi th) : PE X (.Subscript e (.Slice lo hi none p2) pos) (tSl r te tl th) := by
  intro pins s σ H Q I h
  refine Subscript_ (thn (he pins s σ H _ I h) fun v s1 ⟨x, H1, I1, r1, q1⟩ => ?_)
  refine wpAny_Slice (thn (hl pins s1 σ H1 _ I1 q1) fun vl s2 ⟨l, H2, I2, pl, q2⟩ => thn (hu pins s2 σ H2 _ I2 q2) fun vu s3 ⟨u, H3, I3, pu, q3⟩ => ?_)
  rw [evalPart_none]
  refine wpAny_pure ?_
  have I4 : Inv X pins σ H3 { s3 with heap := s3.heap.push { cls := .type "slice", data := .fields #[vl, vu, .none] } } := I3.kept (t' := s3.toks) fun b ob q => Heap.get?_push_of_some _ q
  obtain ⟨T, id, hT, ht, hg⟩ := hr pins { s3 with heap := s3.heap.push { cls := .type "slice", data := .fields #[vl, vu, .none] } } σ H3 x v vl vu l u s3.heap.objs.size Q I4 r1 (Heap.IsSliceOf.new ..) pl pu q3
  show wpAny (model X.prog X.w) X.A (subscriptTail e (.Slice lo hi none p2) v (.ref s3.heap.objs.size)) (EP X pins σ Q) X.xe { s3 with heap := s3.heap.push { cls := .type "slice", data := .fields #[vl, vu, .none] } }
  exact tail_any (ops := [.ref s3.heap.objs.size, v]) ht hT hg (by with_unfolding_all rfl)

/-- the items of xs[lo:hi] -/
def cutV (xs : List V) (lo hi : Option Int) : List V := (xs.drop (HT.sIx xs.length 0 lo)).take (HT.sIx xs.length xs.length hi - HT.sIx xs.length 0 lo)
theorem cutV_length (xs : List V) (lo hi : Option Int) : (cutV xs lo hi).length ≤ xs.length := by
  unfold cutV
  rw [List.length_take, List.length_drop]
  omega

/-! ### t < u, t + u -/
end
end L2

namespace L2
open PySem PySem.Spec PyProof.Rows

/-! ### places -/
/-- the place that an index of any sign means -/
def ixN (n : Nat) (i : Int) : Option Nat := if 0 ≤ i then (if i < n then some i.toNat else none) else if -(n : Int) ≤ i then some (i + n).toNat else none
def atI {α : Type} (xs : List α) (i : Int) : Option α := (ixN xs.length i).bind fun j => xs[j]?
theorem ixN_seq {n : Nat} {i : Int} {j : Nat} (h : ixN n i = some j) : seqIndex? i n = some j ∧ j < n ∧ -(n : Int) ≤ i ∧ i < n := by
  unfold ixN at h
  by_cases h0 : 0 ≤ i
  · rw [if_pos h0] at h
    by_cases h1 : i < n
    · rw [if_pos h1] at h
      have e : i.toNat = j := Option.some.inj h
      exact ⟨by rw [seqIndex_of h0 h1, e], by omega, by omega, h1⟩
    · rw [if_neg h1] at h; cases h
  · rw [if_neg h0] at h
    by_cases h1 : -(n : Int) ≤ i
    · rw [if_pos h1] at h
      have e : (i + n).toNat = j := Option.some.inj h
      exact ⟨by rw [seqIndex_neg (by omega) h1, e], by omega, h1, by omega⟩
    · rw [if_neg h1] at h; cases h
theorem atI_get {α : Type} {xs : List α} {i : Int} {v : α} (h : atI xs i = some v) : ∃ j, seqIndex? i xs.length = some j ∧ xs[j]? = some v ∧ j < xs.length ∧ -(xs.length : Int) ≤ i ∧ i < xs.length := by
  unfold atI at h
  cases e : ixN xs.length i with
  | none => rw [e] at h; cases h
  | some j =>
    rw [e] at h
    obtain ⟨h1, h2, h3, h4⟩ := ixN_seq e
    exact ⟨j, h1, h, h2, h3, h4⟩
theorem atI_nat {α : Type} {xs : List α} {j : Nat} {v : α} (h : xs[j]? = some v) : atI xs (j : Int) = some v := by
  have hj : j < xs.length := (List.getElem?_eq_some_iff.mp h).1
  have e : ixN xs.length (j : Int) = some j := by
    unfold ixN
    rw [if_pos (by omega), if_pos (by omega)]; simp
  unfold atI; rw [e]; exact h

/-! ### what may be subscripted -/
/-- what stands as an index of a plain subscript -/
def PlainIx (b : Expr) : Prop := ∀ o i, subscripted b false o i = operate [o, i] (getItem o i)
/-- a subscript by values -/
def IxR (X : Cx) (r : R2) : Prop :=
  ∀ (value slice : Expr) (pins : List (Addr × Obj)) (s : Shared) (σ : St) (H : Hp) (x y : V) (v u : Value) (Q : VK), Inv X pins σ H s → RelV x v → RelV y u → r x y H Q →
    subscripted slice false v u = operate [v, u] (getItem v u) → wpAny (model X.prog X.w) X.A (subscriptTail value slice v u) (EP X pins σ Q) X.xe s
/-- a call of a builtin's method by values: the receiver, the arguments -/
def MtR (X : Cx) (id : String) (r : V → List V → Hp → VK → Prop) : Prop :=
  ∀ (pins : List (Addr × Obj)) (s : Shared) (σ : St) (H : Hp) (x : V) (xs : List V) (v : Value) (us : List Value) (Q : VK), Inv X pins σ H s → RelV x v → Vals xs us → r x xs H Q →
    wpAny (model X.prog X.w) X.A (call (.builtin id) (v :: us)) (EP X pins σ Q) X.xe s
section
variable {X : Cx} {a b : Expr} {ta tb : TE} {pos : Pos}
/-- a[b] -/
theorem pe_ix {r : R2} (hr : IxR X r) (ha : PE X a ta) (hb : PE X b tb) (hs : PlainIx b) : PE X (.Subscript a b pos) (tOp r ta tb) := by
  intro pins s σ H Q I h
  exact Subscript_ (binT ha hb I h fun v u s2 x y H2 I2 rx ry q => hr a b pins s2 σ H2 x y v u Q I2 rx ry q (hs _ _))

def rIxL (K : PySem.W.Frag) : R2 := fun x y H Q => ∃ p xs i v, x = .ref p ∧ y = .int i ∧ SqL K H p xs ∧ atI xs i = some v ∧ Q v H
def rIxT (K : PySem.W.Frag) : R2 := fun x y H Q => ∃ p xs i v, x = .ref p ∧ y = .int i ∧ SqT K H p xs ∧ atI xs i = some v ∧ Q v H
theorem ix_list : IxR X (rIxL X.K) := by
  intro value slice pins s σ H x y v u Q I rx ry h hs
  obtain ⟨p, xs, i, z, rfl, rfl, hq, he, q⟩ := h
  cases rx
  obtain ⟨t, rfl⟩ := ry
  obtain ⟨its, r, pl, hz⟩ := I.list hq
  obtain ⟨j, h1, h2, h3, h4, h5⟩ := atI_get he
  obtain ⟨w, ew, rw'⟩ := r.get h2
  have hl := r.length
  have hn := line63
  have fin : EP X pins σ Q w s := ⟨z, H, I, rw', q⟩
  by_cases h0 : 0 ≤ i
  · have hj : i.toNat = j := by
      rw [seqIndex_of h0 h5] at h1
      exact Option.some.inj h1
    exact item_listR pl.isList h0 (by omega) (by rw [hj]; simpa using ew) fin hs
  · have hj : (i + (its.toArray.size : Int)).toNat = j := by
      rw [seqIndex_neg (by omega) h4] at h1
      rw [List.size_toArray, ← hl]
      exact Option.some.inj h1
    exact subscriptTail_builtinR (x := w) pl.isList.typeIs slot_list_getitem.lookup
      (wpAny_getItem_list_neg (Q := fun r s' => r = w ∧ EP X pins σ Q r s') pl.isList (by omega) (by rw [List.size_toArray] <;> omega) (by omega) (by rw [hj]; simpa using ew) ⟨rfl, fin⟩) hs
theorem ix_tup : IxR X (rIxT X.K) := by
  intro value slice pins s σ H x y v u Q I rx ry h hs
  obtain ⟨p, xs, i, z, rfl, rfl, hq, he, q⟩ := h
  cases rx
  obtain ⟨t, rfl⟩ := ry
  obtain ⟨its, r, pl, hz⟩ := I.tuple hq
  obtain ⟨j, h1, h2, h3, h4, h5⟩ := atI_get he
  obtain ⟨w, ew, rw'⟩ := r.get h2
  have hl := r.length
  have hn := line63
  have fin : EP X pins σ Q w s := ⟨z, H, I, rw', q⟩
  exact subscriptTail_builtinR (x := w) pl.typeIs slot_tuple_getitem.lookup
    (getItem_tuple (j := j) (Q := fun r s' => r = w ∧ EP X pins σ Q r s') pl (by omega) (by omega) (by rw [List.size_toArray, ← hl]; exact h1) (by simpa using ew) ⟨rfl, fin⟩) hs

/-! ### xs[i] = v, any sign -/
/-- the list's object behind a store -/
theorem mapSeq_set (its : List Value) (n j : Nat) (u : Value) : Obj.mapSeq (·.setIfInBounds j u) { cls := .type "list", data := .seq its.toArray n } = { cls := .type "list", data := .seq (its.set j u).toArray n } := by
  simp [Obj.mapSeq]
theorem Inv.lst {pins : List (Addr × Obj)} {σ : St} {H : Hp} {s : Shared} {p : Addr} {xs : List V} (I : Inv X pins σ H s) (h : H p = some (.lst xs)) :
    ∃ (its : List Value) (n : Nat), Vals xs its ∧ s.heap.get? p = some { cls := .type "list", data := .seq its.toArray n } ∧ xs.length ≤ sizeLine := by
  obtain ⟨z, its, n, r, e⟩ := I.hok p _ h
  exact ⟨its, n, r, e, z⟩
/-- the list at p is written by an update of its object -/
theorem Inv.lstUpd {pins : List (Addr × Obj)} {σ : St} {H : Hp} {s : Shared} {p : Addr} {xs ys : List V} {its its' : List Value} {n n' : Nat} {f : Obj → Obj} (I : Inv X pins σ H s) (h : H p = some (.lst xs))
    (ho : s.heap.get? p = some { cls := .type "list", data := .seq its.toArray n }) (hf : f { cls := .type "list", data := .seq its.toArray n } = { cls := .type "list", data := .seq its'.toArray n' }) (r : Vals ys its') (hz : ys.length ≤ sizeLine) (t : Nat) :
    Inv X pins σ (upd H p (.lst ys)) { s with heap := s.heap.update p f, toks := t } := by
  have e : (s.heap.update p f).get? p = some { cls := .type "list", data := .seq its'.toArray n' } := by
    rw [Heap.get?_update_self f ho (by rw [hf] <;> rfl), hf]
  refine I.write (x := p) (e := p) (by rw [h]; trivial) (.inl rfl) (fun b u hb q => (Heap.get?_update_other _ _ (Ne.symm hb)).trans q) ⟨_, e⟩ ?_
  exact ⟨hz, its', n', r, e⟩
def rSetL : V → V → V → Hp → (Hp → Prop) → Prop := fun o i v H Q => ∃ p xs k j, o = .ref p ∧ i = .int k ∧ H p = some (.lst xs) ∧ ixN xs.length k = some j ∧ Q (upd H p (.lst (xs.set j v)))
theorem set_list : PSet X rSetL := by
  intro pins s σ H o i v ov iv u Q I ro ri rv h
  obtain ⟨p, xs, k, j, rfl, rfl, hp, hj, q⟩ := h
  cases ro
  obtain ⟨t, rfl⟩ := ri
  obtain ⟨its, n, r, ho, hz⟩ := I.lst hp
  obtain ⟨h1, h2, h3, h4⟩ := ixN_seq hj
  have hl := r.length
  have hn := line63
  have I' : Inv X pins σ (upd H p (.lst (xs.set j v))) { s with heap := s.heap.update p (Obj.mapSeq (·.setIfInBounds j u)) } :=
    I.lstUpd hp ho (mapSeq_set its n j u) (r.set rv j) (by rw [List.length_set]; exact hz) s.toks
  by_cases h0 : 0 ≤ k
  · have hk : k.toNat = j := by
      rw [seqIndex_of h0 h4] at h1
      exact Option.some.inj h1
    exact PySem.W.ki_setAt ho h0 (by omega) (by rw [List.size_toArray, ← hl]; exact h4) (by rw [hk]; exact ⟨_, I', q⟩)
  · have hk : (k + (its.toArray.size : Int)).toNat = j := by
      rw [seqIndex_neg (by omega) h3] at h1
      rw [List.size_toArray, ← hl]
      exact Option.some.inj h1
    exact PySem.W.ki_setBack ho (by omega) (by rw [List.size_toArray, ← hl]; exact h3) (by omega) (by rw [hk]; exact ⟨_, I', q⟩)

/-! ### slices -/
theorem slice_bounds (lo hi : Option Int) (n : Nat) : (sliceBounds lo hi none n).1 = ((HT.sIx n 0 lo : Nat) : Int) ∧ (sliceBounds lo hi none n).2.1 = ((HT.sIx n n hi : Nat) : Int) ∧ (sliceBounds lo hi none n).2.2 = 1 := by
  refine ⟨?_, ?_, rfl⟩
  · cases lo with
    | none => simp [sliceBounds, HT.sIx]
    | some i =>
      simp only [sliceBounds, HT.sIx, Option.getD_none, show (1 : Int) > 0 by decide, if_true]
      by_cases h : i < 0
      · simp only [h, if_true] <;> omega
      · simp only [h, if_false] <;> omega
  · cases hi with
    | none => simp [sliceBounds, HT.sIx]
    | some i =>
      simp only [sliceBounds, HT.sIx, Option.getD_none, show (1 : Int) > 0 by decide, if_true]
      by_cases h : i < 0
      · simp only [h, if_true] <;> omega
      · simp only [h, if_false] <;> omega
theorem slicePick_cut (its : List Value) (lo hi : Option Int) : slicePick its.toArray lo hi none = ((its.drop (HT.sIx its.length 0 lo)).take (HT.sIx its.length its.length hi - HT.sIx its.length 0 lo)).toArray := by
  obtain ⟨h1, h2, h3⟩ := slice_bounds lo hi its.toArray.size
  unfold slicePick
  rw [h1, h2, h3]
  simp only [sliceRange_one, pick_run, List.size_toArray] <;> rfl
/-- xs[lo:hi] of a list: a new list -/
def rSlL (K : PySem.W.Frag) : V → Option Int → Option Int → Hp → VK → Prop := fun x lo hi H Q => ∃ a xs, x = .ref a ∧ SqL K H a xs ∧ ∀ p, H p = none → Q (.ref p) (upd H p (.lst (cutV xs lo hi)))
theorem sl_list : SlR X (rSlL X.K) := by
  intro pins s σ H x v vl vu lo hi sl Q I rx hs pl pu h
  obtain ⟨a, xs, rfl, hx, q⟩ := h
  cases rx
  obtain ⟨its, r, ht, hz⟩ := I.list hx
  have hlen := r.length
  refine ⟨"list", _, slot_list_getitem.lookup, ht.isList.typeIs, ?_⟩
  refine wpAny_getItem_list_slice ht.isList hs pl pu .none (by simp) ?_ (by rw [List.size_toArray] <;> omega)
  rw [slicePick_cut, ← hlen]
  refine ⟨.ref s.heap.objs.size, _, I.laid (t' := s.toks) (o := .lst (cutV xs lo hi)) (fun b ob q => Heap.get?_push_of_some _ q) (Nat.le_refl _) ?_, rfl, q _ (I.hok.fresh (Nat.le_refl _))⟩
  exact ⟨Nat.le_trans (cutV_length xs lo hi) hz, _, 0, (r.drop (HT.sIx xs.length 0 lo)).take (HT.sIx xs.length xs.length hi - HT.sIx xs.length 0 lo), Heap.get?_push_size _ rfl⟩

/-! ### in, not in: flat items -/

/-! ### len, list(x), tuple(x) of any list or tuple that is read -/
theorem call_len_seq : CallR X (.builtin "len") (fun xs H Q => ∃ p ys, xs = [.ref p] ∧ (SqL X.K H p ys ∨ SqT X.K H p ys) ∧ Q (.int ys.length) H) := by
  intro pins s σ H xs us Q I r h
  obtain ⟨p, ys, rfl, hq, q⟩ := h
  obtain ⟨u, rfl, rx⟩ := vals1 r
  cases rx
  have hn := line63
  rcases hq with hq | hq
  · obtain ⟨its, r', pl, hz⟩ := I.list hq
    have hlen := r'.length
    exact Calls.call_len_list pl.isList (by simp only [List.size_toArray] <;> omega) ⟨.int ys.length, H, I.tok _, ⟨s.toks + 1, by rw [List.size_toArray, hlen]⟩, q⟩
  · obtain ⟨its, r', pl, hz⟩ := I.tuple hq
    have hlen := r'.length
    exact len_tuple pl (by simp only [List.size_toArray] <;> omega) ⟨.int ys.length, H, I.tok _, ⟨s.toks + 1, by rw [List.size_toArray, hlen]⟩, q⟩
theorem call_list_of : CallR X (.type "list") (fun xs H Q => ∃ p ys, xs = [.ref p] ∧ (SqL X.K H p ys ∨ SqT X.K H p ys) ∧ ∀ l, H l = none → Q (.ref l) (upd H l (.lst ys))) := by
  intro pins s σ H xs us Q I r h
  obtain ⟨p, ys, rfl, hq, q⟩ := h
  obtain ⟨u, rfl, rx⟩ := vals1 r
  cases rx
  have fin : ∀ (its : List Value), Vals ys its → ys.length ≤ sizeLine → ∀ (h' : Heap) (c' : Nat), (∀ b o', s.heap.get? b = some o' → h'.get? b = some o') →
      h'.get? s.heap.objs.size = some { cls := .type "list", dict := none, data := .seq its.toArray c', slots := #[] } → EP X pins σ Q (.ref s.heap.objs.size) { s with heap := h' } := fun its r' hz h' c' kp e =>
    ⟨.ref s.heap.objs.size, _, I.laid (t' := s.toks) kp (Nat.le_refl _) (show ObjOk X.prog X.w _ h' _ (.lst ys) from ⟨hz, its, c', r', e⟩), rfl, q _ (I.hok.fresh (Nat.le_refl _))⟩
  rcases hq with hq | hq
  · obtain ⟨its, r', pl, hz⟩ := I.list hq
    have hlen := r'.length
    obtain ⟨o, ho, hc, n, hd⟩ := pl.isList
    exact call_list_seq p (.inl rfl) ho hc hd (fun h' c' kp e => fin its r' hz h' c' kp e) (by simp only [List.size_toArray] <;> omega)
  · obtain ⟨its, r', pl, hz⟩ := I.tuple hq
    have hlen := r'.length
    obtain ⟨o, ho, hc, n, hd⟩ := pl
    exact call_list_seq p (.inr rfl) ho hc hd (fun h' c' kp e => fin its r' hz h' c' kp e) (by simp only [List.size_toArray] <;> omega)

/-! ### the call of a builtin's method: o.m(..) -/
/-- the value is of that builtin type -/
def tyV (K : PySem.W.Frag) (T : String) (x : V) (H : Hp) : Prop := match x with
  | .str _ => T = "str"
  | .int _ => T = "int"
  | .ref p => (T = "list" ∧ ∃ xs, SqL K H p xs) ∨ (T = "tuple" ∧ ∃ o, K.lookup p = some o ∧ o.cls = .type "tuple" ∧ o.dict = none) ∨
      (T = "dict" ∧ ((∃ kvs, H p = some (.dK kvs)) ∨ ∃ kvs, H p = some (.dT kvs))) ∨ (T = "set" ∧ ∃ S n, H p = some (.set S n))
  | _ => False
theorem tyV_is {pins : List (Addr × Obj)} {σ : St} {H : Hp} {s : Shared} {T : String} {x : V} {v : Value} (I : Inv X pins σ H s) (r : RelV x v) (ty : tyV X.K T x H) :
    s.TypeIs v T ∧ ∀ a, v = .ref a → ∃ ob, s.heap.get? a = some ob ∧ ob.dict = none := by
  cases x with
  | str z =>
    obtain ⟨t, rfl⟩ := r
    cases (show T = "str" from ty)
    exact ⟨typeIs_str s z t, fun _ e => nomatch e⟩
  | int i =>
    obtain ⟨t, rfl⟩ := r
    cases (show T = "int" from ty)
    exact ⟨typeIs_int s i t, fun _ e => nomatch e⟩
  | ref p =>
    cases r
    rcases ty with ⟨rfl, xs, hq⟩ | ⟨rfl, o, hk, hc, hd⟩ | ⟨rfl, hk⟩ | ⟨rfl, S, n, hk⟩
    · obtain ⟨its, _, pl, _⟩ := I.list hq
      refine ⟨pl.isList.typeIs, fun a e => ?_⟩
      cases e
      obtain ⟨o, n, e, c, hd, _⟩ := pl
      exact ⟨o, e, hd⟩
    · refine ⟨⟨o, I.kIn p o hk, hc⟩, fun a e => ?_⟩
      cases e
      exact ⟨o, I.kIn _ o hk, hd⟩
    · have z : ∃ o, s.heap.get? p = some o ∧ o.ExactDict := by
        rcases hk with ⟨kvs, hk⟩ | ⟨kvs, hk⟩
        · obtain ⟨_, _, _, _, o, _, _, e, ex, _⟩ := I.hok p _ hk
          exact ⟨o, e, ex⟩
        · obtain ⟨_, _, _, _, o, _, _, e, ex, _⟩ := I.hok p _ hk
          exact ⟨o, e, ex⟩
      obtain ⟨o, e, ex⟩ := z
      refine ⟨⟨o, e, ex.1⟩, fun a e2 => ?_⟩
      cases e2
      exact ⟨o, e, ex.2.1⟩
    · obtain ⟨o, _, _, _, e, ex, _⟩ := I.hok p _ hk
      refine ⟨⟨o, e, ex.1⟩, fun a e2 => ?_⟩
      cases e2
      exact ⟨o, e, ex.2.1⟩
  | _ => exact False.elim ty
def tBM (K : PySem.W.Frag) (T : String) (r : V → List V → Hp → VK → Prop) (to : TE) (t : TA) : TE := fun σ H Q => to σ H fun x H1 => tyV K T x H1 ∧ t σ H1 fun xs H2 => r x xs H2 Q
variable {o e : Expr} {es : List Expr} {to : TE} {t : TA} {name : Str} {apos cpos : Pos} {T id : String} {r : V → List V → Hp → VK → Prop}
theorem pe_bm (pa : PlainAttrs T) (slot : Slot T name id) (hty : typeOf (.builtin id) = pure (.type "method_descriptor")) (hm : MtR X id r) (ho : PE X o to) (ha : PA X (e :: es) t)
    (hbase : attributeBase o name X.env (eval o X.env) = eval o X.env := by rfl)
    (hfew : ((backTo cpos (starEach (e :: es) X.env)).all (fun x => !x.1) && (backToKw cpos (keywordEach [] X.env)).all (fun x => x.1.isSome)
      && decide ((e :: es).length + ([] : List Keyword).length + (if ([] : List Keyword).isEmpty then 0 else 1) < 30)) = true := by rfl)
    (hline : (apos.endLine == cpos.line) = true := by rfl) (hs : starEach (e :: es) X.env = (false, eval e X.env) :: starEach es X.env := by rfl) (hplain : (backTo cpos (starEach es X.env)).any (·.1) = false := by rfl) :
    PE X (.Call (.Attribute o name apos) (e :: es) [] cpos) (tBM X.K T r to t) := by
  intro pins s σ H Q I h
  refine wpAny_Call_method_late hbase hfew hline rfl (thn (ho pins s σ H _ I h) fun v s1 ⟨x, H1, I1, r1, ty, q1⟩ => ?_)
  obtain ⟨h1, h2⟩ := tyV_is I1 r1 ty
  refine ⟨T, id, pa, slot, hty, h1, h2, ?_⟩
  have hA := ha cpos pins s1 σ H1 _ I1 q1
  rw [hs] at hA ⊢
  refine Calls.callWith_builtin (by show (false || (backTo cpos (starEach es X.env)).any (·.1)) = false; rw [hplain] <;> rfl) (Calls.evalArgs_plain ?_)
  exact thn hA fun us s2 ⟨vs, H2, I2, r2, q2⟩ => hm pins s2 σ H2 x vs v us Q I2 r1 r2 q2
/- xs.append(e), list.index on a module's tuple .. are MtR facts of 06m -/
end
end L2

namespace L2
open PySem PySem.Spec PyProof.Rows

def MtM (X : Cx) (id : String) (r : V → List V → Hp → VK → Prop) : Prop :=
  ∀ (pins : List (Addr × Obj)) (s : Shared) (σ : St) (H : Hp) (x : V) (xs : List V) (v : Value) (us : List Value) (Q : VK), Inv X pins σ H s → RelV x v → Vals xs us → r x xs H Q →
    wpAny (model X.prog X.w) X.A (call (.builtin id) (v :: us)) (EP X pins σ Q) X.xe s

/-! ### lists of values -/
theorem Vals.one : ∀ {x : V} {us : List Value}, Vals [x] us → ∃ u, us = [u] ∧ RelV x u
  | _, _, .cons r .nil => ⟨_, rfl, r⟩
theorem Vals.rep {xs : List V} {us : List Value} (h : Vals xs us) : ∀ k : Nat, Vals (List.replicate k xs).flatten (List.replicate k us).flatten
  | 0 => .nil
  | k + 1 => by
    rw [List.replicate_succ, List.replicate_succ, List.flatten_cons, List.flatten_cons]
    exact Vals.append h (Vals.rep h k)
theorem foldl_rep (its : List Value) : ∀ (k : Nat) (acc : List Value),
    List.foldl (fun x1 x2 => x1 ++ x2) acc.toArray (List.replicate k its.toArray) = (acc ++ (List.replicate k its).flatten).toArray
  | 0, acc => by simp
  | k + 1, acc => by
    have e : acc.toArray ++ its.toArray = (acc ++ its).toArray := by simp
    have e2 : (acc ++ its) ++ (List.replicate k its).flatten = acc ++ (List.replicate (k + 1) its).flatten := by
      rw [List.replicate_succ, List.flatten_cons, List.append_assoc]
    rw [← e2, ← foldl_rep its k (acc ++ its), ← e, List.replicate_succ, List.foldl_cons]

section
variable {X : Cx} {pins : List (Addr × Obj)} {σ : St} {H : Hp} {s : Shared} {l b : Addr} {xs ys zs : List V}

/-! ### the two steps: a tracked list is rewritten, a new list is laid -/
theorem Inv.lset {its its' : List Value} {n : Nat} {f : Array Value → Array Value} {t' : Nat} (I : Inv X pins σ H s) (hH : H l = some (.lst xs))
    (e : s.heap.get? l = some { cls := .type "list", data := .seq its.toArray n }) (hf : f its.toArray = its'.toArray) (hv : Vals ys its') (hz : ys.length ≤ sizeLine) :
    Inv X pins σ (upd H l (.lst ys)) { s with heap := s.heap.update l (Obj.mapSeq f), toks := t' } := by
  have q := PySem.IsL.update e f
  rw [hf] at q
  refine I.write (x := l) (e := l) (by rw [hH]; exact trivial) (.inl rfl) (fun b' u hb hu => (Heap.get?_update_other s.heap (Obj.mapSeq f) (Ne.symm hb)).trans hu) ⟨_, q⟩ ?_
  exact ⟨hz, its', _, hv, q⟩
theorem Inv.lnew {its : List Value} {t' : Nat} (I : Inv X pins σ H s) (hv : Vals ys its) (hz : ys.length ≤ sizeLine) :
    Inv X pins σ (upd H s.heap.objs.size (.lst ys)) { s with heap := s.heap.push { cls := .type "list", data := .seq its.toArray }, toks := t' } :=
  I.laid (fun _ _ q => Heap.get?_push_of_some _ q) (Nat.le_refl _) ⟨hz, its, 0, hv, Heap.get?_push_size _ rfl⟩
theorem Inv.fresh (I : Inv X pins σ H s) : H s.heap.objs.size = none := I.hok.fresh (Nat.le_refl _)
theorem Inv.lstM (I : Inv X pins σ H s) (hH : H l = some (.lst xs)) : xs.length ≤ sizeLine ∧ ∃ (its : List Value) (n : Nat), Vals xs its ∧ xs.length = its.length ∧ s.heap.get? l = some { cls := .type "list", data := .seq its.toArray n } := by
  obtain ⟨z, its, n, r, e⟩ := I.hok l _ hH
  exact ⟨z, its, n, r, r.length, e⟩

theorem notLongL {n : Nat} (h : n ≤ sizeLine) : Builtin.List.listTooLong n = false := by
  unfold Builtin.List.listTooLong
  exact decide_eq_false (by omega)
end

section
variable {X : Cx}

/-! ### methods -/
def rAppend : V → List V → Hp → VK → Prop := fun x vs H Q => ∃ l xs y, x = .ref l ∧ vs = [y] ∧ H l = some (.lst xs) ∧ xs.length < sizeLine ∧ Q .non (upd H l (.lst (xs ++ [y])))
theorem mt_append : MtM X "list.append" rAppend := by
  intro pins s σ H x vs v us Q I rx rv h
  obtain ⟨l, xs, y, rfl, rfl, hH, hz, q⟩ := h
  cases rx
  obtain ⟨u, rfl, ru⟩ := rv.one
  obtain ⟨z, its, n, r, hl, e⟩ := I.lstM hH
  refine call_meets F.slot_list_append ⟨_, e, rfl⟩ F.entry_list_append (F.args_list_append_2 _ _) (PySem.list_append l its.toArray n u (by rw [List.size_toArray]; omega)) ⟨e, ?_⟩
  refine ⟨.non, _, I.lset (its' := its ++ [u]) hH e (by simp) (r.append (.cons ru .nil)) ?_, rfl, q⟩
  rw [List.length_append, List.length_singleton]
  omega

def rExtend : V → List V → Hp → VK → Prop := fun x vs H Q => ∃ l b xs zs, x = .ref l ∧ vs = [.ref b] ∧ H l = some (.lst xs) ∧ H b = some (.lst zs) ∧ xs.length + zs.length ≤ sizeLine ∧ Q .non (upd H l (.lst (xs ++ zs)))
theorem mt_extend : MtM X "list.extend" rExtend := by
  intro pins s σ H x vs v us Q I rx rv h
  obtain ⟨l, b, xs, zs, rfl, rfl, hH, hB, hz, q⟩ := h
  cases rx
  obtain ⟨u, rfl, ru⟩ := rv.one
  cases ru
  obtain ⟨z, its, n, r, hl, e⟩ := I.lstM hH
  obtain ⟨z2, its2, n2, r2, hl2, e2⟩ := I.lstM hB
  have hsz : its.toArray.size + its2.toArray.size ≤ sizeLine := by rw [List.size_toArray, List.size_toArray]; omega
  have hlong : ¬ (!its.toArray.isEmpty && Builtin.List.listTooLong (its.toArray.size + its2.toArray.size)) = true := by
    rw [notLongL hsz, Bool.and_false]
    exact Bool.false_ne_true
  refine call_meets F.slot_list_extend ⟨_, e, rfl⟩ F.entry_list_extend (F.args_list_extend_2 _ _)
    (AutoSeq1.list_extend_list_list_0 l its.toArray n b its2.toArray n2 hlong (by rw [List.size_toArray]; omega) (by omega)) ⟨e, e2, ?_⟩
  refine ⟨.non, _, I.lset (its' := its ++ its2) hH e (by simp) (r.append r2) ?_, rfl, q⟩
  rw [List.length_append]
  omega





/-! ### list + list, list += list, list * int -/
def rCat : R2 := fun x y H Q => ∃ l b xs zs, x = .ref l ∧ y = .ref b ∧ H l = some (.lst xs) ∧ H b = some (.lst zs) ∧ xs.length + zs.length ≤ sizeLine ∧ ∀ p, H p = none → Q (.ref p) (upd H p (.lst (xs ++ zs)))
theorem op_cat : OpR X (binaryOp .Add) rCat := by
  intro pins s σ H x y v u Q I rx ry h
  obtain ⟨l, b, xs, zs, rfl, rfl, hH, hB, hz, q⟩ := h
  cases rx
  cases ry
  obtain ⟨z, its, n, r, hl, e⟩ := I.lstM hH
  obtain ⟨z2, its2, n2, r2, hl2, e2⟩ := I.lstM hB
  refine PySem.P.add_list e e2 ?_ (by rw [List.size_toArray, List.size_toArray]; omega)
  have ea : its.toArray ++ its2.toArray = (its ++ its2).toArray := by simp
  rw [ea]
  exact ⟨.ref _, _, I.lnew (t' := s.toks) (r.append r2) (by rw [List.length_append]; omega), rfl, q _ I.fresh⟩
/-- a list times an int (a negative one is nothing) -/
def rRep : R2 := fun x y H Q => ∃ l k xs, x = .ref l ∧ y = .int k ∧ H l = some (.lst xs) ∧ -(2 ^ 63) ≤ k ∧ k < 2 ^ 63 ∧ xs.length * k.toNat ≤ sizeLine ∧
  ∀ p, H p = none → Q (.ref p) (upd H p (.lst (List.replicate k.toNat xs).flatten))
theorem len_rep {α : Type} (xs : List α) (k : Nat) : (List.replicate k xs).flatten.length = k * xs.length := by
  induction k with
  | zero => simp
  | succ k ih => rw [List.replicate_succ, List.flatten_cons, List.length_append, ih, Nat.succ_mul, Nat.add_comm]
theorem op_rep : OpR X (binaryOp .Mult) rRep := by
  intro pins s σ H x y v u Q I rx ry h
  obtain ⟨l, k, xs, rfl, rfl, hH, h1, h2, hz, q⟩ := h
  cases rx
  obtain ⟨t, rfl⟩ := ry
  obtain ⟨z, its, n, r, hl, e⟩ := I.lstM hH
  have hlen : its.toArray.size * k.toNat ≤ sizeLine := by rw [List.size_toArray, ← hl]; exact hz
  have hcap : ¬ its.toArray.size * k.toNat > (2 ^ 63 - 1) / 8 := by
    have : (sizeLine : Nat) ≤ (2 ^ 63 - 1) / 8 := by decide
    omega
  have hfit : ¬ (!Builtin.List.listFitsIndex k) = true := by
    rw [fitsIndex_both h1 h2]
    exact Bool.false_ne_true
  have hlong : ¬ Builtin.List.listTooLong (its.toArray.size * k.toNat) = true := by
    rw [notLongL hlen]
    exact Bool.false_ne_true
  have hnew : List.foldl (fun x1 x2 => x1 ++ x2) #[] (List.replicate (if its.toArray.isEmpty = true then 0 else k.toNat) its.toArray) = (List.replicate k.toNat its).flatten.toArray := by
    have f0 : ∀ m : Nat, List.foldl (fun x1 x2 => x1 ++ x2) #[] (List.replicate m its.toArray) = (List.replicate m its).flatten.toArray := fun m => by
      have := foldl_rep its m []
      rw [List.nil_append] at this
      exact this
    rw [f0]
    cases its with
    | nil => simp
    | cons a r' => rw [if_neg (by simp)]
  refine wpAny_binaryOp_repeat_ref (T := "list") (U := "int") (by decide) ⟨_, e, rfl⟩ (fun s' => typeIs_int s' k t) noFill_list_mul F.fills_int_mul F.slot_int_rmul repeat_list F.slot_int_index.lookup
    (call_meets F.slot_int_rmul (typeIs_int s k t) F.entry_int_rmul (F.args_int_rmul_2 _ _) (int___rmul___int_list k t l its.toArray n)
      ⟨e, rfl, ⟨_, e, rfl⟩, call_meets F.slot_list_mul ⟨_, e, rfl⟩ F.entry_list_mul (F.args_list_mul_2 _ _) (AutoListH.list___mul___list_int_3 l its.toArray n k t hfit hcap hlong) ⟨e, ?_⟩⟩)
  rw [hnew]
  exact ⟨.ref _, _, I.lnew (t' := s.toks) (r.rep k.toNat) (by rw [len_rep, Nat.mul_comm]; exact hz), rfl, q _ I.fresh⟩

/-! ### del xs[i] -/
end

/-! ### xs[a:b] = ys -/
section
variable {prog : Program} {w : World} {A : Around} {E : Value → Shared → Prop} {s : Shared}
set_option maxRecDepth 100000 in
end

section
variable {X : Cx}
end
end L2

namespace L2
open PySem PySem.Spec PyProof.Rows


/-! ### the library's walks over a list of ints, kept objects alone -/
section
variable {prog : Program} {w : World} {A : Around} {E : Value → Shared → Prop} {s : Shared} {l : Addr} {its : List Value} {ns : List Int} {Q : Value → Shared → Prop}
end

/-! ### the calls, by values (CallR of 03t; MtR of 06l) -/
section
variable {X : Cx}

/-! sorted, sort (fewer than 64 items: the library's own bound) -/
end

/-! ### list.index, flat items -/
section
variable {X : Cx}
end

/-! ### type(x) of an own instance; is, is not of a module's class -/
section
variable {X : Cx}
end

/-! ### any(xs), all(xs) of a list of bools -/
section
variable {X : Cx}
end

/-! ### == and != of data at any depth: none, bools, ints, texts, lists, tuples -/
section
variable {X : Cx} {pins : List (Addr × Obj)} {σ : St} {H : Hp} {s : Shared}
end
section
variable {X : Cx}
end
end L2

namespace L2
open PySem PySem.Spec PyProof.Rows











section
variable {X : Cx} {pins : List (Addr × Obj)} {σ : St} {H : Hp} {s : Shared}


end



section
variable {X : Cx}
end

/-! ### the forms one uses -/
end L2

namespace L2
open PySem PySem.Spec PyProof.Rows


section
variable {prog : Program} {w : World} {A : Around} {R : Result → Shared → Prop} {s : Shared} {elt t0 i0 t1 i1 : Expr} {ifs0 ifs1 : List Expr} {scope : Scope} {pos : Pos} {it acc : Value} {env : Env}
end

section
variable {X : Cx}
end
end L2

namespace L2
open PySem PySem.Spec PyProof.Rows

/-! ### lists of pairs as tables -/
section
variable {κ : Type} [DecidableEq κ]



end


/-! ### a tracked dict, its keys ints and texts or tuples of these -/
theorem kV_is {P : Program} {w : World} {k : Key} {u : Value} (r : RelV (kV k) u) : (mixKind P w).is k u = true := by
  cases k with
  | inl i => obtain ⟨t, e⟩ := (show ∃ t, u = Value.int i t from r); subst e; exact mixKind_int P w i t
  | inr x => obtain ⟨t, e⟩ := (show ∃ t, u = Value.str x t from r); subst e; exact mixKind_str P w x t


section
variable {P : Program} {w : World} {H : Hp} {h : Heap} {a : Addr}
end



section
variable {X : Cx} {pins : List (Addr × Obj)} {σ : St} {H : Hp} {s : Shared} {a : Addr} {y v : V} {u r : Value} {o : Option V} {A : Around} {E : Value → Shared → Prop}


end

section
variable {X : Cx} {pins : List (Addr × Obj)} {σ : St} {H : Hp} {s : Shared} {a : Addr} {kvs : List (Key × V)} {k : Key} {u : Value} {A : Around} {E : Value → Shared → Prop}
end


/-! ### readings and rules -/
/-- the element of a subscription, not a slice -/
def NoSl (i : Expr) : Prop := ∀ ov iv, subscripted i false ov iv = operate [ov, iv] (getItem ov iv)
theorem subD_of {prog : Program} {w : World} {A : Around} {E : Value → Shared → Prop} {s : Shared} {env : Env} {value slice : Expr} {pos : Pos} {T id : String} {Q : Value → Shared → Prop}
    (hl : typeLookup (.type T) "__getitem__" = pure (some (.builtin id))) (hs : NoSl slice)
    (h : wpAny (model prog w) A (eval value env) (fun o s₁ => wpAny (model prog w) A (eval slice env) (fun i s₂ => s₂.TypeIs o T ∧ wpAny (model prog w) A (getItem o i) Q E s₂) E s₁) E s) :
    wpAny (model prog w) A (eval (.Subscript value slice pos) env) Q E s := by
  refine Subscript_ (wpAny_mono h (fun o s₁ h₁ => wpAny_mono h₁ (fun i s₂ h₂ => ?_) fun _ _ x => x) fun _ _ x => x)
  obtain ⟨hT, h₂⟩ := h₂
  unfold subscriptTail
  refine wpAny_bind ?_
  rw [getitemInPython_of_ne hT.not_modules]
  refine wpAny_bind (wpAny_specialOf hT hl ?_)
  have fin : wpAny (model prog w) A (subscripted slice false o i) (fun r s₃ => wpAny (model prog w) A (letTemporaryGo value o r >>= fun _ => pure r) Q E s₃) E s₂ := by
    rw [hs o i]
    exact wpAny_operating (wpAny_mono h₂ (fun r s₃ h₃ => wpAny_bind (wpAny_letTemporaryGo (wpAny_pure h₃))) fun _ _ x => x)
  first
    | exact wpAny_pure (wpAny_bind fin)
    | exact wpAny_bind (wpAny_pure (wpAny_bind fin))
    | exact wpAny_bind fin



section
variable {X : Cx} {o i e value : Expr} {pos pos' tpos : Pos} {td ty tv : TE}
end


/-! ### displays -/
section
variable {X : Cx} {pos : Pos}
end




/-! ### methods -/


section
variable {X : Cx} {pins : List (Addr × Obj)} {σ : St} {H : Hp} {s : Shared} {a : Addr} {y d : V} {u r : Value} {o : Option V} {A : Around} {E : Value → Shared → Prop}
end

section
variable {X : Cx} {o e f : Expr} {apos cpos : Pos} {td ty tx : TE}
end

/-! ### dict(d): a copy -/
section
variable {X : Cx} {pins : List (Addr × Obj)} {σ : St} {H : Hp} {s : Shared} {a : Addr} {kvs : List (Key × V)} {A : Around} {E : Value → Shared → Prop}
end


section
variable {X : Cx} {pins : List (Addr × Obj)} {σ : St} {H : Hp} {s : Shared} {a : Addr} {y : V} {u : Value} {A : Around} {E : Value → Shared → Prop}
end
end L2

namespace L2
open PySem PySem.Spec PyProof.Rows


section
variable {prog : Program} {w : World} {A : Around} {E : Value → Shared → Prop}


end

section
variable {X : Cx}
end
end L2

namespace L2
open PySem PySem.Spec PyProof.Rows


section
variable {X : Cx} {pins : List (Addr × Obj)} {σ : St} {H : Hp} {s : Shared} {h' : Heap}
/-- several records of ours have turned -/
theorem Inv.turnedL {t' : Nat} {ch : List Addr} (I : Inv X pins σ H s) (k : ∀ b o, b ∉ ch → s.heap.get? b = some o → h'.get? b = some o) (hf : ∀ b ∈ ch, FpOk X pins H b) : Inv X pins σ H { s with heap := h', toks := t' } := by
  have nit : ∀ b u, H b = some u → b ∉ ch := fun b u e z => by
    have q := (hf b z).1
    rw [q] at e; cases e
  refine I.step (g' := s.gens) (d' := s.drawn) (ch := ch) (fun b hb => ⟨(hf b hb).2.2.2.1, (hf b hb).2.1, (hf b hb).2.2.2.2.1, (hf b hb).2.2.2.2.2⟩) (fun b o _ _ hc e _ => k b o hc e) (fun b o _ _ hc e _ => ⟨o.slots, k b o hc e⟩)
    (fun _ _ _ _ n => n) (fun b o hc e => ⟨o, k b o hc e⟩) (fun _ _ e => e) (fun _ _ _ e => e) (fun b ps e => ⟨#[], by rw [e]; simp⟩) (fun m hm => ?_) (fun b u e => ?_) I.bare
  · obtain ⟨o, es, ep, ho, r⟩ := hm
    exact ⟨o, es, ep, k _ o (fun z => (hf _ z).2.1 rfl) ho, r⟩
  · refine (I.hok b u e).stay (fun c v hc q => k c v ?_ q) (fun _ q => q) fun _ _ q => q
    rcases hc with z | z
    · rw [z]; exact nit b u e
    · exact nit c _ z
/-- .. and one new object is laid -/
theorem Inv.turnedNew {t' : Nat} {ch : List Addr} {T : Addr} {ob : HO} (I : Inv X pins σ H s) (k : ∀ b o, b ∉ ch → s.heap.get? b = some o → h'.get? b = some o) (hf : ∀ b ∈ ch, FpOk X pins H b) (hT : s.heap.objs.size ≤ T)
    (new : ObjOk X.prog X.w (upd H T ob) h' T ob) : Inv X pins σ (upd H T ob) { s with heap := h', toks := t' } := by
  have hn : H T = none := I.hok.fresh hT
  have nit : ∀ b u, H b = some u → b ∉ ch := fun b u e z => by
    have q := (hf b z).1
    rw [q] at e; cases e
  refine I.step (g' := s.gens) (d' := s.drawn) (ch := ch) (fun b hb => ⟨(hf b hb).2.2.2.1, (hf b hb).2.1, (hf b hb).2.2.2.2.1, (hf b hb).2.2.2.2.2⟩) (fun b o _ _ hc e _ => k b o hc e) (fun b o _ _ hc e _ => ⟨o.slots, k b o hc e⟩)
    (fun b o _ e n => ?_) (fun b o hc e => ⟨o, k b o hc e⟩) (fun b xs e => ?_) (fun b o u e => ?_) (fun b ps e => ⟨#[], ?_⟩) (fun m hm => ?_) (fun b u e => ?_) I.bare
  · rw [upd_ne (Nat.ne_of_lt (Nat.lt_of_lt_of_le (Heap.lt_size e) hT))]; exact n
  · rw [upd_ne (ne_of_none e hn)]; exact e
  · rw [upd_ne (ne_of_none e hn)]; exact e
  · rw [upd_ne (ne_of_none e hn), e]; simp
  · obtain ⟨o, es, ep, ho, r⟩ := hm
    exact ⟨o, es, ep, k _ o (fun z => (hf _ z).2.1 rfl) ho, r⟩
  · by_cases hb : b = T
    · subst hb
      rw [upd_same] at e
      cases e
      exact new
    · rw [upd_ne hb] at e
      refine (I.hok b u e).stay (fun c v hc q => k c v ?_ q) (fun c q => by rw [upd_ne (ne_of_none q hn)]; exact q) fun c xs q => by rw [upd_ne (ne_of_none q hn)]; exact q
      rcases hc with z | z
      · rw [z]; exact nit b u e
      · exact nit c _ z

/-! ### locking a thing while a statement runs -/
end
section
variable {X : Cx}

/-! ### one iterator just laid -/
end

/-! ### range with a step -/
section
variable {X : Cx} {tg : Expr}
end

/-! ### reversed(list) -/
section
variable {X : Cx} {tg : Expr}
end

/-! ### a str -/

/-! ### a dict's keys: any dict's entries -/
section
variable {prog : Program} {w : World} {A : Around} {E : Value → Shared → Prop} {s : Shared}
end

/-! ### a locked dict -/
section
variable {X : Cx} {pins : List (Addr × Obj)} {σ : St} {H : Hp} {s : Shared} {d : Addr} {o : Obj}
end

section
variable {P : Program} {w : World} {K : PySem.W.Frag} {tg : Expr} {d : Addr} {o : Obj} {es : Array DictEntry} {ep : Nat}
end

/-! ### for k in d, d.keys(), d.values(), d.items() -/
section
variable {X : Cx} {tg e : Expr} {td : TE} {apos cpos : Pos}
end

/-! ### enumerate(list) -/
/-! ### zip(list, list) -/
theorem boot_zip5 : bootBuiltins "zip" = some (.type "zip") := by decide +kernel
/-- the lists at a and b as they stand at each turn, the items in new pairs -/
def Itz (K : PySem.W.Frag) (a b : Addr) : It :=
  ⟨fun i H => ∃ (xs ys : List V) (x y : V), SqL K H a xs ∧ SqL K H b ys ∧ xs[i]? = some x ∧ ys[i]? = some y,
    fun i H v H' => ∃ T x y, v = .ref T ∧ H T = none ∧ H' = upd H T (.tup [x, y]) ∧ (∀ xs, SqL K H a xs → xs[i]? = some x) ∧ ∀ ys, SqL K H b ys → ys[i]? = some y,
    fun i H => ∃ xs ys : List V, SqL K H a xs ∧ SqL K H b ys ∧ (xs.length ≤ i ∨ ys.length ≤ i)⟩
theorem turn_zip {P : Program} {w : World} {K : PySem.W.Frag} {elts : List Expr} {kk : Nat} {tpos : Pos} {a b z TI TO i1 i2 : Addr} (D : ZipApart z TI TO i1 i2 a b) :
    Turn P w K (.Tuple elts kk tpos) (Itz K a b) [z, TI, TO, i1, i2] z (fun i h => IsZip h z TI TO .none ∧ IsPair h TI (.ref i1) (.ref i2) ∧ (∃ x y, IsPair h TO x y) ∧ h.IsListIter i1 a i ∧ h.IsListIter i2 b i) where
  mem := by simp
  obj := fun i h st c hc => by
    obtain ⟨hz, hTI, ⟨x, y, hTO⟩, ⟨o1, e1, _, d1⟩, ⟨o2, e2, _, d2⟩⟩ := st
    have e' : c = z ∨ c = TI ∨ c = TO ∨ c = i1 ∨ c = i2 := by simpa using hc
    rcases e' with q | q | q | q | q
    · rw [q]; exact ⟨_, hz, fun v q => nomatch q⟩
    · rw [q]; exact ⟨_, hTI, fun v q => nomatch q⟩
    · rw [q]; exact ⟨_, hTO, fun v q => nomatch q⟩
    · rw [q]; exact ⟨o1, e1, fun v q => by rw [d1] at q; cases q⟩
    · rw [q]; exact ⟨o2, e2, fun v q => by rw [d2] at q; cases q⟩
  keep := fun i h h' st k => by
    obtain ⟨hz, hTI, ⟨x, y, hTO⟩, h1, h2⟩ := st
    exact ⟨k z (by simp) _ hz, k TI (by simp) _ hTI, ⟨x, y, k TO (by simp) _ hTO⟩, h1.at fun o q => k i1 (by simp) o q, h2.at fun o q => k i2 (by simp) o q⟩
  item := by
    intro X hP hw hK hc i pins s σ H E I hf st hg
    subst hP hw hK
    obtain ⟨hz, hTI, ⟨x0, y0, hTO⟩, h1, h2⟩ := st
    obtain ⟨xs, ys, x, y, hqx, hqy, hx, hy⟩ := hg
    obtain ⟨its, rv, p, _⟩ := I.list hqx
    obtain ⟨its2, rv2, p2, _⟩ := I.list hqy
    obtain ⟨u, hu, ru⟩ := rv.get hx
    obtain ⟨u2, hu2, ru2⟩ := rv2.get hy
    have hzl : z < s.heap.objs.size := Heap.lt_size hz
    refine wpAny_pyNext_zip_item D hz hTI hTO h1 h2 p.isList p2.isList (x := u) (y := u2) (by simpa using hu) (by simpa using hu2) fun h' z' TO' h1' h2' hT hsz hk => ?_
    refine ⟨_, rfl, wpAny_letOwnedTupleGo_zip (s := { s with heap := h' }) z' fun h'' z'' sb => ?_⟩
    have hT2 : h''.get? s.heap.objs.size = some { cls := .type "tuple", data := .seq #[u, u2] } := (sb.2 _ (Nat.ne_of_gt hzl)).trans hT
    have new : ObjOk X.prog X.w (upd H s.heap.objs.size (.tup [x, y])) h'' s.heap.objs.size (.tup [x, y]) :=
      ⟨by show 2 ≤ sizeLine; decide, [u, u2], .cons ru (.cons ru2 .nil), ⟨_, hT2, rfl, _, rfl⟩⟩
    have I1 : Inv X pins σ (upd H s.heap.objs.size (.tup [x, y])) { s with heap := h'' } :=
      I.turnedNew (t' := s.toks) (ch := [z, TI, TO, i1, i2]) (fun c o hb q => (sb.2 c (fun q' => hb (by simp [q']))).trans (hk c o (fun q' => hb (by simp [q'])) (fun q' => hb (by simp [q'])) (fun q' => hb (by simp [q'])) (fun q' => hb (by simp [q'])) q)) hf (Nat.le_refl _) new
    refine ⟨.ref s.heap.objs.size, _, I1, rfl, ⟨_, x, y, rfl, I.hok.fresh (Nat.le_refl _), rfl, fun l hl => by rw [I.list_inj hl hqx]; exact hx, fun l hl => by rw [I.list_inj hl hqy]; exact hy⟩, ⟨z'', ?_, ⟨u, u2, ?_⟩, ?_, ?_⟩, fun c hcm => ?_⟩
    · exact (sb.2 _ D.TIz).trans (hk _ _ D.TIz D.TITO D.TIi1 D.TIi2 hTI)
    · exact (sb.2 _ D.TOz).trans TO'
    · exact h1'.at fun o q => (sb.2 _ D.i1z).trans q
    · exact h2'.at fun o q => (sb.2 _ D.i2z).trans q
    · have hlt : c < s.heap.objs.size := by
        have e' : c = z ∨ c = TI ∨ c = TO ∨ c = i1 ∨ c = i2 := by simpa using hcm
        rcases e' with q | q | q | q | q
        · rw [q]; exact hzl
        · rw [q]; exact Heap.lt_size hTI
        · rw [q]; exact Heap.lt_size hTO
        · rw [q]; obtain ⟨_, e1, _⟩ := h1; exact Heap.lt_size e1
        · rw [q]; obtain ⟨_, e2, _⟩ := h2; exact Heap.lt_size e2
      rw [upd_ne (Nat.ne_of_lt hlt)]
      exact (hf c hcm).1
  done := by
    intro X hP hw hK hc i pins s σ H E I hf st hg
    subst hP hw hK
    obtain ⟨hz, hTI, ⟨x0, y0, hTO⟩, h1, h2⟩ := st
    obtain ⟨xs, ys, hqx, hqy, hend⟩ := hg
    obtain ⟨its, rv, p, _⟩ := I.list hqx
    obtain ⟨its2, rv2, p2, _⟩ := I.list hqy
    have l1 := rv.length
    have l2 := rv2.length
    have he : its.toArray[i]? = none ∨ its2.toArray[i]? = none := by
      rcases hend with q | q
      · exact .inl (by simp; omega)
      · exact .inr (by simp; omega)
    exact wpAny_pyNext_zip_end (I.ok.hd hc) D hz hTI hTO h1 h2 p.isList p2.isList he fun h' hk => ⟨rfl, I.turnedL (t' := s.toks) (ch := [z, TI, TO, i1, i2]) (fun c o hb q =>
      hk c o (fun q' => hb (by simp [q'])) (fun q' => hb (by simp [q'])) (fun q' => hb (by simp [q'])) (fun q' => hb (by simp [q'])) q) hf⟩
  self := fun A i s Q E st h => wpAny_pyIter_zip st.1 h
def iZip (K : PySem.W.Frag) (ta : TA) : TI := fun σ H R => ta σ H fun vs H1 => ∃ a b xs ys, vs = [.ref a, .ref b] ∧ SqL K H1 a xs ∧ SqL K H1 b ys ∧ R (Itz K a b) H1
theorem pi_zip {X : Cx} {e e2 : Expr} {ta : TA} {p pos tpos : Pos} {elts : List Expr} {kk : Nat} (hg : Gl X "zip") (hm : X.mg "zip" = none) (ha : PA X [e, e2] ta)
    (hs : starEach [e, e2] X.env = (false, eval e X.env) :: starEach [e2] X.env := by rfl) (hpl : (backTo pos (starEach [e2] X.env)).any (·.1) = false := by rfl) :
    PI X (.Tuple elts kk tpos) (.Call (.Name "zip" p) [e, e2] [] pos) (iZip X.K ta) := by
  intro pins s σ H R I h
  refine Call_ (ld_blt I hg hm boot_zip5 (PyProof.Rows.callWith_type1 (thn (ha pos pins s σ H _ I h) fun us s1 ⟨vs, H1, I1, r1, q1⟩ => ?_) hs hpl))
  obtain ⟨a, b, xs, ys, ex, hqx, hqy, q⟩ := q1
  subst ex
  cases r1 with
  | cons r rr =>
    cases rr with
    | cons r' rr =>
      cases rr
      cases r
      cases r'
      obtain ⟨its, rv, p1, _⟩ := I1.list hqx
      obtain ⟨its2, rv2, p2, _⟩ := I1.list hqy
      have la : a < s1.heap.objs.size := p1.lt
      have lb : b < s1.heap.objs.size := p2.lt
      refine call_zip_2 p1.isList p2.isList fun h' hz hTI hTO h1 h2 hsz hk => wpAny_pyIter_zip hz ?_
      have I2 : Inv X pins σ H1 { s1 with heap := h' } := I1.kept (t' := s1.toks) hk
      refine ⟨s1.heap.objs.size + 4, [s1.heap.objs.size + 4, s1.heap.objs.size + 2, s1.heap.objs.size + 3, s1.heap.objs.size, s1.heap.objs.size + 1], _, _, H1, rfl, I2, turn_zip (PySem.W.ktu_apart s1.heap.objs.size a b la lb), ⟨hz, hTI, ⟨_, _, hTO⟩, h1, h2⟩, fun c hcm => ?_, q⟩
      have e' : c = s1.heap.objs.size + 4 ∨ c = s1.heap.objs.size + 2 ∨ c = s1.heap.objs.size + 3 ∨ c = s1.heap.objs.size ∨ c = s1.heap.objs.size + 1 := by simpa using hcm
      have hle : s1.heap.objs.size ≤ c := by
        rcases e' with z | z | z | z | z
        · rw [z]; exact Nat.le_add_right _ _
        · rw [z]; exact Nat.le_add_right _ _
        · rw [z]; exact Nat.le_add_right _ _
        · rw [z]; exact Nat.le_refl _
        · rw [z]; exact Nat.le_add_right _ _
      exact I1.fpOk hle (I1.hok.fresh hle)
end L2

section 
namespace Bits
open PySem PyProof.Rows








end Bits
end 

section 
namespace TL
open PySem PySem.Builtin PySem.Builtin.Str PySem.StrLaws


/-! ### the list functions -/




/-! ### the model's split and partition are these -/




/-! ### computing spl and par -/


/-! ### digits -/

/-! ### words: x.split() -/
end TL
end 

namespace L2
open PySem PySem.Spec PyProof.Rows




section
variable {X : Cx} {pins : List (Addr × Obj)} {σ : St} {H : Hp} {s : Shared} {Q : VK}
end

section
variable {X : Cx}





/-! ### of a text alone -/

/-! ### of a text and a text -/

end

section
variable {X : Cx} {o e : Expr} {to te : TE}

end
end L2

namespace L2
open PySem PySem.Spec PyProof.Rows

section
variable {X : Cx}
end

/-! ### slices of a text -/


end L2

namespace Att
open PySem PySem.W PySem.Calls PyProof.Rows

/-! ### the script -/



/-! ### the attachment: holds_open's last premise (the goal 'hc' behind k_head) from a wpAny of the law's body -/



/-! ### rules over ANY heap (no ledger) from facts about the written part K: the library's own take a ledger (News) for what they write -/
section
variable {prog : Program} {w : World} {A : Around} {E : Value → Shared → Prop} {s : Shared} {K : Frag}





/-! the whole heap as the ledger: makes every rule that writes through a ledger a rule over any heap -/

end
end Att

namespace L2
open PySem PySem.Spec PyProof.Rows



end L2

namespace L2
open PySem PySem.Spec PyProof.Rows


end L2

/- THE LAST THEOREM (shape; LID, My.* are yours):
   My.Adr: a structure of the addresses that your layer names (classes, functions); My.Txt K t: a structure (Prop) of the equations over K;
   My.txt_mk : {K} {implicit addresses ..} (e1 : nsIn K mainGlobals "law" = some (some (.ref f))) (e2 : K.lookup f = some ⟨oc, od, .func (fnOf "law" "law" params body scope dV kV doc pm an cdv ct), sl⟩) (e3 : codeIn K cdv "law" = true) .. : ∃ t, My.Txt K t

set_option maxRecDepth 100000 in
set_option maxHeartbeats 0 in
theorem PySem.Challenge.cw_LID_holds : PySem.Challenge.rw_LID.Holds := by
  w_on; o_law; k_head; (case hw => w_witness2)
  k_fill
  refine L2.walk_of (l := PySem.Challenge.rw_LID) (n := 63) (k := 40) (x := "script") (CX := fun w => ..) (sp := fun _ => My.sp_law) rfl (by decide) rfl ⟨rfl, by decide, by decide⟩ (fun w h Y => PySem.W.kIn_of Y) ?F ?S ?C
  case F =>
    intro w mg fa h KX G hmg
    have T : ∃ t, My.Txt (L2.KOf KX) t := by
      dsimp only [L2.KOf]                          -- K must stand as «<heap const> w.params» for k_is
      refine' My.txt_mk ?e1 ?e2 ?e3 ..
      (case e1 => PySem.W.k_is)                    -- in the order: a name -> its address -> its object -> its parts
      (case e2 => PySem.W.k_is)
      ..
    obtain ⟨t, T⟩ := T
    have e0 := hmg.symm.trans (PySem.W.mg_of KX G T.law)
    cases e0                                       -- fa is the law's own address
    exact ⟨_, fun s u => .of_eq rfl, fun base kb nb => My.law_fn T kb nb⟩     -- if «.of_eq rfl» comes too early: refine' ⟨_, ?b, fun base kb nb => My.law_fn T kb nb⟩; exact fun s u => .of_eq rfl
  case S => exact fun w H a ns hl hO hS => ..
  case C => exact ..
(the tactic k_is has no namespace: write k_is) -/

/-! SHORT WORDS over the layer: a def of the text, its body, what a loop and a test want. -/
namespace L2
open PySem PySem.Spec PyProof.Rows

/-! ### the text by places -/
/-- the j-th statement of a class's body -/
def inClass (s : Stmt) (j : Nat) : Stmt := match s with
  | .ClassDef _ _ _ body _ _ _ _ _ _ _ => body.getD j (.Pass ⟨0, 0, 0, 0⟩)
  | _ => .Pass ⟨0, 0, 0, 0⟩
def defArgs (s : Stmt) : Arguments := match s with
  | .FunctionDef _ a _ _ _ _ _ _ _ _ => a
  | _ => { posonlyargs := [], args := [], vararg := none, kwonlyargs := [], kw_defaults := [], kwarg := none, defaults := [] }
def defBody (s : Stmt) : List Stmt := match s with
  | .FunctionDef _ _ b _ _ _ _ _ _ _ => b
  | _ => []
def defScope (s : Stmt) : Scope := match s with
  | .FunctionDef _ _ _ _ _ _ sc _ _ _ => sc
  | _ => { kind := .function, names := [], isGenerator := false, isCoroutine := false }

/-! ### no exception leaves a def -/
abbrev CX0 : CXT := fun _ _ _ _ _ _ => False
abbrev E0 : XK := fun _ _ _ => False
theorem pass0 {X : Cx} : Passes CX0 X E0 := fun _ _ _ _ _ _ _ h => h.elim

/-! ### a def (or method) of the text as it stands behind the top -/
structure Fun (K : PySem.W.Frag) (x qual : Str) (st : Stmt) (f : Addr) (fd : FuncData) : Prop where
  ex : ∃ (oc : Value) (od : Option Addr) (kV doc pm : Value) (an : Option Addr) (cdv ct : Value) (osl : Array (Option Value)),
    fd = PySem.W.fnOf x qual (defArgs st) (defBody st) (defScope st) .none kV doc pm an cdv ct ∧ K.lookup f = some ⟨oc, od, .func fd, osl⟩ ∧ PySem.W.codeIn K cdv qual = true
  kp : PySem.W.keepIn K (.ref f) = true
section
variable {P : Program} {w : World} {K : PySem.W.Frag} {mg : Str → Option Value} {base : Heap}
/-- THE RULE for a def: its body as a term of rules, and the reading of that term -/
theorem Fun.ok {x qual : Str} {st : Stmt} {f : Addr} {fd : FuncData} {N ps : List Str} {k : Nat} {sp : Sp} (F : Fun K x qual st f fd) (S : FnScope N ps (defScope st)) (len : ∀ vs H Q E, sp vs H Q E → vs.length = ps.length)
    (hbody : ∀ (cdv : Value) (A : Around) (outer : List Env) (s : Shared) (H : Hp) (vs : List V) (Q : VK) (E : XK), Room k (A.deeper (envOfC qual (defScope st) s.heap.objs.size f cdv)) → sp vs H Q E →
      ∃ t, PSs (cxOf CX0 P w K mg base N qual (defScope st) f cdv A outer s H E).nox (defBody st) t ∧ t { nx := fun _ H' => Q .non H', rt := Q } (start N vs) H) : FnOk P w K mg base CX0 (k + 1) f fd ps sp := by
  obtain ⟨oc, od, kV, doc, pm, an, cdv, ct, osl, rfl, lk, hcd⟩ := F.ex
  refine fn_of lk hcd S len fun A outer s H vs Q E hr hsp => ?_
  obtain ⟨t, h, q⟩ := hbody cdv A outer s H vs Q E hr hsp
  exact ⟨t, h.nox, q⟩
/-- how its arguments bind (no defaults): h is «fun _ _ _ _ _ _ us hl => match us, hl with | [_, _], _ => rfl», one _ a parameter -/
theorem Fun.binds {x qual : Str} {st : Stmt} {f : Addr} {fd : FuncData} {ps : List Str} (F : Fun K x qual st f fd)
    (h : ∀ (kV doc pm : Value) (an : Option Addr) (cdv ct : Value) (us : List Value), us.length = ps.length → bindArgs (PySem.W.fnOf x qual (defArgs st) (defBody st) (defScope st) .none kV doc pm an cdv ct) ⟨us, []⟩ = pure (ps.zip us)) : Binds K fd ps [] := by
  obtain ⟨oc, od, kV, doc, pm, an, cdv, ct, osl, rfl, lk, hcd⟩ := F.ex
  exact .all (h kV doc pm an cdv ct)
theorem fun_mk {x qual : Str} {st : Stmt} {f : Addr} {oc : Value} {od an : Option Addr} {osl : Array (Option Value)} {kV doc pm cdv ct : Value} (l : K.lookup f = some ⟨oc, od, .func (PySem.W.fnOf x qual (defArgs st) (defBody st) (defScope st) .none kV doc pm an cdv ct), osl⟩)
    (c : PySem.W.codeIn K cdv qual = true) (k : PySem.W.keepIn K (.ref f) = true) : Fun K x qual st f (PySem.W.fnOf x qual (defArgs st) (defBody st) (defScope st) .none kV doc pm an cdv ct) := ⟨⟨oc, od, kV, doc, pm, an, cdv, ct, osl, rfl, l, c⟩, k⟩
end

/-! ### expressions in short: the name that stands in the i-th slot -/
section
variable {X : Cx}
theorem pv (i : Nat) {x : Str} {pos : Pos} (hN : X.N[i]? = some x := by rfl) (hv : Vis X.env.scope x := by first | exact Or.inl rfl | exact Or.inr (Or.inl rfl) | exact Or.inr (Or.inr rfl)) (hd : (x == ("__debug__" : Str)) = false := by decide)
    (hcd : (x == ("__classdict__" : Str)) = false := by decide) : PE X (.Name x pos) (tVar i) := pe_var hN hv hd hcd
end

/-! ### tests -/
theorem iteF {A B : Prop} (h : B) : if false = true then A else B := by
  rw [if_neg Bool.false_ne_true]
  exact h
theorem iteT {A B : Prop} (h : A) : if true = true then A else B := by
  rw [if_pos rfl]
  exact h

/-! ### heaps -/
/-- all that was tracked is as it was -/
def Same (H H' : Hp) : Prop := ∀ b o, H b = some o → H' b = some o
theorem Same.refl (H : Hp) : Same H H := fun _ _ h => h
theorem Same.trans {H H1 H2 : Hp} (a : Same H H1) (b : Same H1 H2) : Same H H2 := fun c o h => b c o (a c o h)
theorem Same.free {H H' : Hp} (e : Same H H') {l : Addr} (h : H' l = Option.none) : H l = Option.none := by
  cases q : H l with
  | none => rfl
  | some o =>
    rw [e l o q] at h
    cases h
theorem Same.seq {K : PySem.W.Frag} {H H' : Hp} {a : Addr} {xs : List V} (e : Same H H') (h : SqL K H a xs) : SqL K H' a xs := by
  rcases h with (h | ⟨o, h⟩) | h
  · exact .inl (.inl (e _ _ h))
  · exact .inl (.inr ⟨o, e _ _ h⟩)
  · exact .inr h

/-! ### a dict's pairs: keys that differ -/
section
variable {κ : Type} [DecidableEq κ]
end
/-! ### lists -/
/-- a new instance and its __init__ leave all that was tracked as it was -/
theorem Same.made {H H1 : Hp} {x dx C : Addr} (nx : H x = Option.none) (nd : H dx = Option.none) (k : ∀ b o, (upd (upd H dx (.own x)) x (.ins C dx [])) b = some o → b ≠ x → H1 b = some o) : Same H H1 := fun b o e =>
  k b o (by rw [upd_ne (ne_of_none e nx), upd_ne (ne_of_none e nd)]; exact e) (ne_of_none e nx)
end L2
end
section
/-! The mathematics of the ticks: one tick after the other is what the stretches of one mood are. -/
namespace HM
open Vbrgak
structure WB (b : Body) : Prop where
  hp : b.hp ≤ b.most
  heal : b.heal < 1000
  full : b.hp = b.most → b.heal = 0
  lit : b.lit = true → 0 < b.fuel
def run (d r : Nat) : Nat → Body → Body × Nat
  | 0, b => (b, 0)
  | n + 1, b => if alive b = true then ((run d r n (lived d r 1 b)).1, 1 + (run d r n (lived d r 1 b)).2) else (b, 0)
theorem run_succ {d r n : Nat} {b : Body} (h : alive b = true) : run d r (n + 1) b = ((run d r n (lived d r 1 b)).1, 1 + (run d r n (lived d r 1 b)).2) := by
  show (if alive b = true then _ else _) = _
  rw [if_pos h]
theorem body_ext {a b : Body} (h1 : a.fed = b.fed) (h2 : a.hp = b.hp) (h3 : a.most = b.most) (h4 : a.heal = b.heal) (h5 : a.fuel = b.fuel) (h6 : a.lit = b.lit) : a = b := by
  cases a
  cases b
  simp only at h1 h2 h3 h4 h5 h6
  subst h1 h2 h3 h4 h5 h6
  rfl
/-- what heals, by plain numbers -/
def hHp (hp most h : Nat) : Nat := hp + min (h / 1000) (most - hp)
def hHl (hp most h : Nat) : Nat := if hp + min (h / 1000) (most - hp) = most then 0 else h % 1000
theorem heal_split {hp most heal g x : Nat} (h : hp ≤ most) : hHp (hHp hp most (heal + g)) most (hHl hp most (heal + g) + x) = hHp hp most (heal + (g + x)) ∧
    hHl (hHp hp most (heal + g)) most (hHl hp most (heal + g) + x) = hHl hp most (heal + (g + x)) := by
  unfold hHp hHl
  by_cases c : hp + min ((heal + g) / 1000) (most - hp) = most
  · rw [if_pos c]
    have e1 : most - hp ≤ (heal + g) / 1000 := by omega
    have e2 : (heal + g) / 1000 ≤ (heal + (g + x)) / 1000 := Nat.div_le_div_right (by omega)
    have e3 : min ((heal + (g + x)) / 1000) (most - hp) = most - hp := by omega
    rw [e3, c]
    have e4 : min ((0 + x) / 1000) (most - most) = 0 := by omega
    rw [e4]
    constructor
    · omega
    · rw [if_pos (by omega), if_pos (by omega)]
  · rw [if_neg c]
    have e1 : (heal + g) / 1000 < most - hp := by omega
    have e0 : min ((heal + g) / 1000) (most - hp) = (heal + g) / 1000 := by omega
    rw [e0]
    have q : (heal + (g + x)) / 1000 = (heal + g) / 1000 + ((heal + g) % 1000 + x) / 1000 := by omega
    have q2 : (heal + (g + x)) % 1000 = ((heal + g) % 1000 + x) % 1000 := by omega
    rw [q, q2]
    generalize (heal + g) / 1000 = u at *
    generalize ((heal + g) % 1000 + x) / 1000 = v at *
    generalize ((heal + g) % 1000 + x) % 1000 = z at *
    constructor
    · omega
    · by_cases c2 : hp + u + min v (most - (hp + u)) = most
      · rw [if_pos c2, if_pos (by omega)]
      · rw [if_neg c2, if_neg (by omega)]
theorem lived_hp (d r n : Nat) (b : Body) : (lived d r n b).hp = hHp b.hp b.most (b.heal + n * healing r b.fed) := rfl
theorem lived_heal (d r n : Nat) (b : Body) : (lived d r n b).heal = hHl b.hp b.most (b.heal + n * healing r b.fed) := rfl
theorem lived_fed (d r n : Nat) (b : Body) : (lived d r n b).fed = b.fed - n * d := rfl
theorem lived_most (d r n : Nat) (b : Body) : (lived d r n b).most = b.most := rfl
theorem lived_fuel (d r n : Nat) (b : Body) : (lived d r n b).fuel = if b.lit = true then b.fuel - n else b.fuel := rfl
theorem lived_lit (d r n : Nat) (b : Body) : (lived d r n b).lit = (b.lit && decide (n < b.fuel)) := rfl
theorem lived_zero {d r : Nat} {b : Body} (w : WB b) : lived d r 0 b = b := by
  have h1 := w.hp
  have h2 := w.heal
  have h3 := w.full
  have h4 := w.lit
  refine body_ext ?_ ?_ rfl ?_ ?_ ?_
  · rw [lived_fed]; omega
  · rw [lived_hp]; unfold hHp; omega
  · rw [lived_heal]; unfold hHl
    have e : (b.heal + 0 * healing r b.fed) / 1000 = 0 := by omega
    rw [e]
    by_cases c : b.hp = b.most
    · rw [if_pos (by omega), h3 c]
    · rw [if_neg (by omega)]; omega
  · rw [lived_fuel]; split <;> omega
  · rw [lived_lit]
    cases q : b.lit with
    | false => rfl
    | true => simp [h4 q]
theorem lived_wb {d r n : Nat} {b : Body} (w : WB b) : WB (lived d r n b) := by
  have h1 := w.hp
  have h4 := w.lit
  refine ⟨?_, ?_, ?_, ?_⟩
  · rw [lived_hp, lived_most]; unfold hHp; omega
  · rw [lived_heal]; unfold hHl; split <;> omega
  · intro q
    rw [lived_hp, lived_most] at q
    rw [lived_heal]
    unfold hHp at q
    unfold hHl
    rw [if_pos q]
  · intro q
    rw [lived_lit] at q
    rw [lived_fuel]
    simp at q
    rw [if_pos q.1]
    omega
theorem lived_succ {d r m : Nat} {b : Body} (w : WB b) (h : m = 0 ∨ mood (b.fed - d) = mood b.fed) : lived d r (m + 1) b = lived d r m (lived d r 1 b) := by
  rcases h with rfl | h
  · rw [lived_zero (lived_wb w)]
  have hg : healing r (b.fed - 1 * d) = healing r b.fed := by
    rw [Nat.one_mul]
    unfold healing
    rw [h]
  have hs := heal_split (hp := b.hp) (most := b.most) (heal := b.heal) (g := 1 * healing r b.fed) (x := m * healing r b.fed) w.hp
  have e : 1 * healing r b.fed + m * healing r b.fed = (m + 1) * healing r b.fed := by rw [Nat.add_mul, Nat.add_comm]
  rw [e] at hs
  refine body_ext ?_ ?_ rfl ?_ ?_ ?_
  · simp only [lived_fed]; rw [Nat.add_mul]; omega
  · rw [lived_hp, lived_hp, lived_hp, lived_heal, lived_most, lived_fed, hg]; exact hs.1.symm
  · rw [lived_heal, lived_heal, lived_hp, lived_heal, lived_most, lived_fed, hg]; exact hs.2.symm
  · have h4 := w.lit
    rw [lived_fuel, lived_fuel, lived_lit, lived_fuel]
    cases q : b.lit with
    | false => simp
    | true =>
      by_cases c : 1 < b.fuel
      · simp [c]; omega
      · simp [c]; omega
  · rw [lived_lit, lived_lit, lived_lit, lived_fuel]
    cases q : b.lit with
    | false => simp
    | true =>
      by_cases c : m + 1 < b.fuel
      · have c1 : 1 < b.fuel := by omega
        have c2 : m < b.fuel - 1 := by omega
        simp [c, c1, c2]
      · by_cases c1 : 1 < b.fuel
        · have c2 : ¬ m < b.fuel - 1 := by omega
          simp [c, c1, c2]
        · simp [c, c1]
theorem up_le {a d : Nat} (hd : 0 < d) (m : Nat) (h : m < up a d) : m * d < a := by
  unfold up at h
  have q := (Nat.lt_div_iff_mul_lt hd).mp h
  omega
theorem up_ge {a d : Nat} (hd : 0 < d) : a ≤ up a d * d := by
  unfold up
  have q := Nat.div_add_mod (a + d - 1) d
  have q2 := Nat.mod_lt (a + d - 1) hd
  rw [Nat.mul_comm] at q
  omega
theorem up_pos {a d : Nat} (hd : 0 < d) (h : 0 < a) : 0 < up a d := by
  unfold up
  exact Nat.div_pos (by omega) hd
theorem up_sub {a d : Nat} (hd : 0 < d) (h : d ≤ a) : up (a - d) d + 1 = up a d := by
  unfold up
  have e : a + d - 1 = (a - d + d - 1) + d := by omega
  rw [e, Nat.add_div_right _ hd]
def edge (fed : Nat) : Nat := if 300000 < fed then 300000 else if 100000 < fed then 100000 else 0
theorem mood_eq (f : Nat) : mood f = if f = 0 then 3 else if f ≤ 100000 then 2 else if f ≤ 300000 then 1 else 0 := rfl
theorem turn_eq (d : Nat) (b : Body) : turn d b = up (b.fed - edge b.fed) d := rfl
theorem edge_mood {f g : Nat} (h1 : edge f < g) (h2 : g ≤ f) : mood g = mood f ∧ edge g = edge f := by
  unfold edge at *
  rw [mood_eq, mood_eq]
  by_cases a : 300000 < f
  · rw [if_pos a] at h1
    simp only [if_pos a, if_pos h1]
    constructor
    · rw [if_neg (by omega), if_neg (by omega), if_neg (by omega), if_neg (by omega), if_neg (by omega), if_neg (by omega)]
    · trivial
  · rw [if_neg a] at h1
    by_cases c : 100000 < f
    · rw [if_pos c] at h1
      constructor
      · rw [if_neg (by omega), if_neg (by omega), if_pos (by omega), if_neg (by omega), if_neg (by omega), if_pos (by omega)]
      · rw [if_neg (by omega), if_pos h1, if_neg (by omega), if_pos c]
    · rw [if_neg c] at h1
      constructor
      · rw [if_neg (by omega), if_pos (by omega), if_neg (by omega), if_pos (by omega)]
      · rw [if_neg (by omega), if_neg (by omega), if_neg (by omega), if_neg (by omega)]
theorem mood_edge {f g : Nat} (hf : 0 < f) (h : g ≤ edge f) : mood f + 1 ≤ mood g := by
  unfold edge at h
  rw [mood_eq, mood_eq]
  by_cases a : 300000 < f
  · rw [if_pos a] at h
    rw [if_neg (by omega), if_neg (by omega), if_neg (by omega)]
    split
    · omega
    · split
      · omega
      · omega
  · rw [if_neg a] at h
    by_cases c : 100000 < f
    · rw [if_pos c] at h
      rw [if_neg (by omega), if_neg (by omega), if_pos (by omega)]
      split
      · omega
      · omega
    · rw [if_neg c] at h
      rw [if_neg (by omega), if_pos (by omega), if_pos (by omega)]
      omega
theorem edge_lt {f : Nat} (hf : 0 < f) : edge f < f := by
  unfold edge
  split
  · assumption
  · split
    · assumption
    · assumption
theorem alive_iff (b : Body) : alive b = true ↔ 0 < b.fed ∧ 0 < b.hp := by
  unfold alive
  simp
theorem run_stretch {d r : Nat} (hd : 0 < d) : ∀ (m : Nat) (b : Body), WB b → alive b = true → m ≤ turn d b → run d r m b = (lived d r m b, m)
  | 0, b, w, _, _ => by
    rw [lived_zero w]
    rfl
  | m + 1, b, w, ha, hm => by
    have hb := (alive_iff b).mp ha
    rw [turn_eq] at hm
    have hlt : edge b.fed < b.fed := edge_lt hb.1
    unfold run
    rw [if_pos ha]
    by_cases c : m = 0
    · subst c
      rfl
    · have h1 : 1 * d < b.fed - edge b.fed := up_le hd 1 (by omega)
      have h2 := edge_mood (f := b.fed) (g := b.fed - d) (by omega) (by omega)
      have ha1 : alive (lived d r 1 b) = true := by
        rw [alive_iff, lived_fed, lived_hp]
        unfold hHp
        omega
      have ht : m ≤ turn d (lived d r 1 b) := by
        rw [turn_eq, lived_fed, Nat.one_mul, h2.2]
        have e := up_sub (a := b.fed - edge b.fed) hd (by omega)
        have e2 : b.fed - d - edge b.fed = b.fed - edge b.fed - d := by omega
        rw [e2]
        omega
      rw [run_stretch hd m _ (lived_wb w) ha1 ht, ← lived_succ w (.inr h2.1), Nat.add_comm 1 m]
theorem run_add {d r : Nat} : ∀ (m n : Nat) (b c : Body), run d r m b = (c, m) → run d r (m + n) b = ((run d r n c).1, m + (run d r n c).2)
  | 0, n, b, c, h => by
    have e : b = c := congrArg Prod.fst h
    subst e
    rw [Nat.zero_add]
    show run d r n b = ((run d r n b).1, 0 + (run d r n b).2)
    rw [Nat.zero_add]
  | m + 1, n, b, c, h => by
    unfold run at h
    by_cases ha : alive b = true
    · rw [if_pos ha] at h
      have h1 : (run d r m (lived d r 1 b)).1 = c := congrArg Prod.fst h
      have h2 : 1 + (run d r m (lived d r 1 b)).2 = m + 1 := congrArg Prod.snd h
      have h3 : run d r m (lived d r 1 b) = (c, m) := Prod.ext h1 (by show (run d r m (lived d r 1 b)).2 = m; omega)
      have ih := run_add m n _ c h3
      have e : m + 1 + n = (m + n) + 1 := by omega
      rw [e, run_succ ha, ih]
      show ((run d r n c).1, 1 + (m + (run d r n c).2)) = _
      refine Prod.ext rfl ?_
      show 1 + (m + (run d r n c).2) = m + 1 + (run d r n c).2
      omega
    · rw [if_neg ha] at h
      have h2 : (0 : Nat) = m + 1 := congrArg Prod.snd h
      omega
theorem run_dead {d r : Nat} {b : Body} (h : ¬ alive b = true) : ∀ n, run d r n b = (b, 0)
  | 0 => rfl
  | n + 1 => by
    unfold run
    rw [if_neg h]
theorem pass_zero (d r : Nat) (b : Body) : ∀ k, pass k d r 0 b = (b, 0)
  | 0 => rfl
  | k + 1 => by
    unfold pass
    rw [if_pos (.inl rfl)]
theorem mood_le (f : Nat) : mood f ≤ 3 := by
  rw [mood_eq]
  split
  · omega
  · split
    · omega
    · split <;> omega
theorem pass_run {d r : Nat} (hd : 0 < d) : ∀ (k n : Nat) (b : Body), WB b → 3 ≤ k + mood b.fed → pass k d r n b = run d r n b
  | 0, n, b, w, h => by
    have q : ¬ alive b = true := by
      rw [alive_iff]
      intro q
      have e := mood_edge (f := b.fed) (g := 0) q.1 (Nat.zero_le _)
      have e2 := mood_le 0
      omega
    rw [run_dead q]
    rfl
  | k + 1, n, b, w, h => by
    unfold pass
    by_cases c : n = 0 ∨ alive b = false
    · rw [if_pos c]
      rcases c with c | c
      · subst c
        rfl
      · rw [run_dead (by rw [c]; exact Bool.false_ne_true)]
    · rw [if_neg c]
      have ha : alive b = true := by
        cases q : alive b with
        | true => rfl
        | false => exact absurd (.inr q) c
      have hb := (alive_iff b).mp ha
      have hs := run_stretch (r := r) hd (min n (turn d b)) b w ha (by omega)
      have hA := run_add (min n (turn d b)) (n - min n (turn d b)) b _ hs
      have e : min n (turn d b) + (n - min n (turn d b)) = n := by omega
      rw [e] at hA
      show ((pass k d r (n - min n (turn d b)) (lived d r (min n (turn d b)) b)).1, min n (turn d b) + (pass k d r (n - min n (turn d b)) (lived d r (min n (turn d b)) b)).2) = _
      rw [hA]
      by_cases c2 : n ≤ turn d b
      · have e0 : n - min n (turn d b) = 0 := by omega
        rw [e0, pass_zero]
        rfl
      · have e1 : min n (turn d b) = turn d b := by omega
        rw [e1]
        rw [pass_run hd k _ _ (lived_wb w) ?_]
        rw [lived_fed]
        have q := mood_edge (f := b.fed) (g := b.fed - turn d b * d) hb.1 (by
          rw [turn_eq]
          have u := up_ge (a := b.fed - edge b.fed) hd
          have v := edge_lt hb.1
          omega)
        omega
theorem passed_run {d r : Nat} (hd : 0 < d) (n : Nat) {b : Body} (w : WB b) : passed d r n b = run d r n b := pass_run hd 5 n b w (by omega)
theorem run_wb {d r : Nat} : ∀ (n : Nat) (b : Body), WB b → WB (run d r n b).1
  | 0, b, w => w
  | n + 1, b, w => by
    unfold run
    by_cases ha : alive b = true
    · rw [if_pos ha]
      exact run_wb n _ (lived_wb w)
    · rw [if_neg ha]
      exact w
end HM
end
section
set_option Elab.async false
set_option linter.all false
set_option maxRecDepth 100000
set_option maxHeartbeats 4000000
/-! zip of a list and a tuple, walked by a for: the second of the two iterators is a tuple's. -/
namespace ZT
open PySem PySem.Spec PyProof.Rows L2
section
variable {prog : Program} {w : World} {A : Around} {E : Value → Shared → Prop} {s : Shared}
/-- the tuple's iterator has an item -/
theorem next_item {J t : Addr} {k : Nat} {its : Array Value} {u : Value} {Q : Value → Shared → Prop} (hJ : s.heap.IsTupleIter J t k) (ht : s.heap.IsTuple t its) (hu : its[k]? = some u)
    (q : ∀ g, g.IsTupleIter J t (k + 1) → Heap.SameBut J s.heap g → Q u { s with heap := g }) : wpAny (model prog w) A (Builtin.SmallTypes.nextOf (.ref J)) Q E s := by
  obtain ⟨jo, jh, jc, jd⟩ := id hJ
  obtain ⟨to, th, _, tn, td⟩ := ht
  unfold Builtin.SmallTypes.nextOf
  refine wpAny_bind (wpAny_callSpecial?_slot (name := Str.ofString "__next__") hJ.typeIs F.slot_tuple_iterator_next (wpAny_call_entry F.slot_tuple_iterator_next hJ.typeIs F.entry_tuple_iterator_next ?_ (F.args_tuple_iterator_next_1 _)))
  show wpAny _ _ (field (.ref J) 0 >>= _) _ _ s
  refine wpAny_bind (wpAny_field jh jd (x := .ref t) rfl ?_)
  have nn : ¬ ((Value.ref t == Value.none) = true) := Bool.false_ne_true
  show wpAny _ _ (if (Value.ref t == Value.none) = true then _ else _) _ _ s
  rw [if_neg nn]
  show wpAny _ _ (field (.ref J) 1 >>= _) _ _ s
  refine wpAny_bind (wpAny_field jh jd (x := .int k 0) rfl ?_)
  show wpAny _ _ (seqItems? (.ref t) >>= _) _ _ s
  refine wpAny_bind (wpAny_seqItems th td ?_); simp only [Int.toNat_natCast, hu]
  have fin := fun g => q g
  refine wpAny_bind (wpAny_setField jh jd (by simp) (wpAny_pure ⟨u, rfl, wpAny_pure (fin _ ?_ (Heap.SameBut.update ..))⟩))
  refine ⟨_, Heap.get?_update_self _ jh (Obj.isFreed_of_fields (Obj.data_mapFields jd _)), (Obj.cls_mapFields ..).trans jc, ?_⟩
  rw [Obj.data_mapFields jd]; simp [rawInt]
/-- it has none -/
theorem next_end {J t : Addr} {k : Nat} {its : Array Value} {Q : Value → Shared → Prop} (hn : A.handled = none) (hJ : s.heap.IsTupleIter J t k) (ht : s.heap.IsTuple t its) (hu : its[k]? = none)
    (q : ∀ g e, Heap.ExtBut J s.heap g → (∃ o, g.get? e = some o ∧ o.cls = .type "StopIteration") → E (.ref e) { s with heap := g }) : wpAny (model prog w) A (Builtin.SmallTypes.nextOf (.ref J)) Q E s := by
  obtain ⟨jo, jh, jc, jd⟩ := id hJ
  obtain ⟨to, th, _, tn, td⟩ := ht
  unfold Builtin.SmallTypes.nextOf
  refine wpAny_bind (wpAny_callSpecial?_slot (name := Str.ofString "__next__") hJ.typeIs F.slot_tuple_iterator_next (wpAny_call_entry F.slot_tuple_iterator_next hJ.typeIs F.entry_tuple_iterator_next ?_ (F.args_tuple_iterator_next_1 _)))
  show wpAny _ _ (field (.ref J) 0 >>= _) _ _ s
  refine wpAny_bind (wpAny_field jh jd (x := .ref t) rfl ?_)
  have nn : ¬ ((Value.ref t == Value.none) = true) := Bool.false_ne_true
  show wpAny _ _ (if (Value.ref t == Value.none) = true then _ else _) _ _ s
  rw [if_neg nn]
  show wpAny _ _ (field (.ref J) 1 >>= _) _ _ s
  refine wpAny_bind (wpAny_field jh jd (x := .int k 0) rfl ?_)
  show wpAny _ _ (seqItems? (.ref t) >>= _) _ _ s
  refine wpAny_bind (wpAny_seqItems th td ?_); simp only [Int.toNat_natCast, hu]
  refine wpAny_bind (wpAny_rule (wpAny_bind (wpAny_setField jh jd (by simp) ?_)))
  show wpAny _ _ (newExc (.type "StopIteration") [] >>= _) _ _ _
  refine wpAny_bind ?_; simp only [newExc, newTuple]
  refine wpAny_bind (wpAny_newObj_type ?_ (by size_fits)); refine wpAny_bind (m := firstArgMember _ _) (wpAny_of_eq (a := Value.none) (by first | rfl | (simp only [firstArgMember]; rfl)) ?_)
  refine wpAny_newObj_type ?_ (by size_fits); simp only [raiseNew]; refine wpAny_bind (wpAny_handled ?_)
  first | rw [show A.in1.handled = none from hn] | rw [hn]
  refine wpAny_bind (wpAny_pure (wpAny_throw (q _ _ (((Heap.SameBut.update ..).extBut.push _).push _) ⟨_, Heap.get?_push_size _ rfl, rfl⟩)))
end
end ZT
end
section
set_option Elab.async false
set_option linter.all false
set_option maxRecDepth 100000
set_option maxHeartbeats 4000000
namespace ZT
open PySem PySem.Spec PyProof.Rows L2
section
variable {prog : Program} {w : World} {A : Around} {E : Value → Shared → Prop} {s : Shared}
/-- both have an item: the pair is new -/
theorem zip_item {z ti to i1 i2 l t : Addr} {k : Nat} {xs ys : Array Value} {x y a b : Value} {Q : Value → Shared → Prop} (D : ZipApart z ti to i1 i2 l t) (hz : IsZip s.heap z ti to .none) (hi : IsPair s.heap ti (.ref i1) (.ref i2)) (ho : IsPair s.heap to a b)
    (h1 : s.heap.IsListIter i1 l k) (h2 : s.heap.IsTupleIter i2 t k) (hl : s.heap.IsList l xs) (ht : s.heap.IsTuple t ys) (hx : xs[k]? = some x) (hy : ys[k]? = some y)
    (q : ∀ g, IsZip g z ti to (rawInt s.heap.objs.size) → IsPair g to x y → g.IsListIter i1 l (k + 1) → g.IsTupleIter i2 t (k + 1) → IsPair g s.heap.objs.size x y → g.objs.size = s.heap.objs.size + 1 →
      (∀ c o, c ≠ z → c ≠ to → c ≠ i1 → c ≠ i2 → s.heap.get? c = some o → g.get? c = some o) → Q (.ref s.heap.objs.size) { s with heap := g }) :
    wpAny (model prog w) A (Builtin.«zip.__next__» ⟨[.ref z], []⟩) (fun fin s' => ∃ v, fin = .done (.ret v) ∧ Q v s') E s := by
  show wpAny _ _ (field (.ref z) 2 >>= _) _ _ _; refine wpAny_bind (wpAny_field hz rfl (x := .bool false) rfl ?_)
  show wpAny _ _ (field (.ref z) 3 >>= _) _ _ _; refine wpAny_bind (wpAny_field hz rfl (x := .ref ti) rfl ?_); refine wpAny_bind (wpAny_seqItems hi rfl ?_)
  show wpAny _ _ (Builtin.SmallTypes.ownedTupleIsFree (.ref z) >>= _) _ _ _; refine wpAny_bind ?_; unfold Builtin.SmallTypes.ownedTupleIsFree
  refine wpAny_bind (wpAny_field hz rfl (x := .none) rfl (wpAny_pure ?_)); simp only [if_true]; refine wpAny_bind (wpAny_rule ?_)
  refine wpAny_bind (wpAny_field hz rfl (x := .ref to) rfl ?_); refine wpAny_bind (wpAny_setField_rec hz (by simp) fun ga za sa => ?_)
  have za : IsZip ga z ti to .ellipsis := za
  refine wpAny_bind ?_; simp only [List.zipIdx_cons, List.zipIdx_nil, List.forIn_cons, List.forIn_nil]
  refine wpAny_bind (wpAny_bind (wpAny_onRaise ?_)); show wpAny _ _ (Builtin.SmallTypes.nextOf (.ref i1) >>= _) _ _ _
  refine wpAny_bind (wpAny_nextOf_list_item (h1.extBut sa.extBut D.i1z) (hl.extBut sa.extBut D.l1z) hx fun gb b1 sb => wpAny_pure ?_)
  have ob : IsPair gb to a b := sb.extBut _ _ D.TOi1 (sa.extBut _ _ D.TOz ho)
  refine wpAny_bind (wpAny_seqItems ob rfl ?_); refine wpAny_bind (wpAny_updateSeq_pair ob fun gc oc sc => ?_)
  have oc : IsPair gc to x b := oc
  refine wpAny_bind (wpAny_letGo (wpAny_pure ?_)); refine wpAny_bind (wpAny_bind (wpAny_onRaise ?_)); show wpAny _ _ (Builtin.SmallTypes.nextOf (.ref i2) >>= _) _ _ _
  have h2c : gc.IsTupleIter i2 t k := ((h2.extBut sa.extBut D.i2z).extBut sb.extBut D.i12.symm).extBut sc.extBut D.TOi2.symm
  have htc : gc.IsTuple t ys := ((ht.extBut sa.extBut D.l2z).extBut sb.extBut D.l2i1).extBut sc.extBut D.l2TO
  refine wpAny_bind (next_item h2c htc hy fun gd d2 sd => wpAny_pure ?_)
  have od : IsPair gd to x b := sd.extBut _ _ D.TOi2 oc
  refine wpAny_bind (wpAny_seqItems od rfl ?_); refine wpAny_bind (wpAny_updateSeq_pair od fun ge oe se => ?_)
  have oe : IsPair ge to x y := oe
  refine wpAny_bind (wpAny_letGo (wpAny_pure (wpAny_pure ?_))); refine wpAny_bind (wpAny_seqItems oe rfl ?_); refine wpAny_bind (wpAny_newTuple ?_)
  have size : ge.objs.size = s.heap.objs.size := by rw [se.1, sd.1, sc.1, sb.1, sa.1]
  have ze : IsZip ge z ti to .ellipsis := se.extBut _ _ D.TOz.symm (sd.extBut _ _ D.i2z.symm (sc.extBut _ _ D.TOz.symm (sb.extBut _ _ D.i1z.symm za)))
  have kept : ∀ c o, c ≠ z → c ≠ to → c ≠ i1 → c ≠ i2 → s.heap.get? c = some o → ge.get? c = some o := fun c o n1 n2 n3 n4 e => se.extBut _ _ n2 (sd.extBut _ _ n4 (sc.extBut _ _ n2 (sb.extBut _ _ n3 (sa.extBut _ _ n1 e))))
  have e1 : ge.IsListIter i1 l (k + 1) := ((b1.extBut sc.extBut D.TOi1.symm).extBut sd.extBut D.i12).extBut se.extBut D.TOi1.symm
  have e2 : ge.IsTupleIter i2 t (k + 1) := d2.extBut se.extBut D.TOi2.symm
  have ltz : z < ge.objs.size := Heap.lt_size ze
  show wpAny _ _ (Builtin.SmallTypes.ownedTupleHandOut (.ref z) (.ref ge.objs.size) >>= _) _ _ _; refine wpAny_bind ?_; unfold Builtin.SmallTypes.ownedTupleHandOut
  have zf : IsZip (ge.push { cls := .type "tuple", data := .seq #[x, y] }) z ti to .ellipsis := Heap.get?_push_of_some _ ze
  refine wpAny_bind (wpAny_setField_rec zf (by simp) fun gg zg sg => ?_)
  have zg : IsZip gg z ti to (rawInt ge.objs.size) := zg
  refine wpAny_setField_rec zg (by simp) fun gh zh sh => ?_
  have zh : IsZip gh z ti to (rawInt ge.objs.size) := zh
  have over : ∀ c o, c ≠ z → ge.get? c = some o → gh.get? c = some o := fun c o n e => sh.extBut _ _ n (sg.extBut _ _ n (Heap.get?_push_of_some _ e))
  have th : IsPair gh ge.objs.size x y := sh.extBut _ _ (Nat.ne_of_gt ltz) (sg.extBut _ _ (Nat.ne_of_gt ltz) (Heap.get?_push_size _ rfl))
  have zsz : gh.objs.size = ge.objs.size + 1 := by rw [sh.1, sg.1, Heap.size_push]
  rw [size] at zh th zsz
  refine wpAny_pure ⟨_, rfl, ?_⟩
  have fin : Q (.ref s.heap.objs.size) { s with heap := gh } := q gh zh (over _ _ D.TOz oe) (e1.at fun o e => over _ o D.i1z e) (e2.at fun o e => over _ o D.i2z e) th zsz fun c o n1 n2 n3 n4 e => over c o n1 (kept c o n1 n2 n3 n4 e)
  show Q (.ref ge.objs.size) _
  rw [size]
  exact fin
/-- one of them has none -/
theorem zip_end {z ti to i1 i2 l t : Addr} {k : Nat} {xs ys : Array Value} {a b : Value} {Q : Fin → Shared → Prop} (hn : A.handled = none) (D : ZipApart z ti to i1 i2 l t) (hz : IsZip s.heap z ti to .none) (hi : IsPair s.heap ti (.ref i1) (.ref i2)) (ho : IsPair s.heap to a b)
    (h1 : s.heap.IsListIter i1 l k) (h2 : s.heap.IsTupleIter i2 t k) (hl : s.heap.IsList l xs) (ht : s.heap.IsTuple t ys) (he : xs[k]? = none ∨ ys[k]? = none)
    (q : ∀ g e, (∀ c o, c ≠ z → c ≠ to → c ≠ i1 → c ≠ i2 → s.heap.get? c = some o → g.get? c = some o) → (∃ o, g.get? e = some o ∧ o.cls = .type "StopIteration") → E (.ref e) { s with heap := g }) :
    wpAny (model prog w) A (Builtin.«zip.__next__» ⟨[.ref z], []⟩) Q E s := by
  show wpAny _ _ (field (.ref z) 2 >>= _) _ _ _; refine wpAny_bind (wpAny_field hz rfl (x := .bool false) rfl ?_)
  show wpAny _ _ (field (.ref z) 3 >>= _) _ _ _; refine wpAny_bind (wpAny_field hz rfl (x := .ref ti) rfl ?_); refine wpAny_bind (wpAny_seqItems hi rfl ?_)
  show wpAny _ _ (Builtin.SmallTypes.ownedTupleIsFree (.ref z) >>= _) _ _ _; refine wpAny_bind ?_; unfold Builtin.SmallTypes.ownedTupleIsFree
  refine wpAny_bind (wpAny_field hz rfl (x := .none) rfl (wpAny_pure ?_)); simp only [if_true]; refine wpAny_bind (wpAny_rule ?_)
  refine wpAny_bind (wpAny_field hz rfl (x := .ref to) rfl ?_); refine wpAny_bind (wpAny_setField_rec hz (by simp) fun ga za sa => ?_)
  have za : IsZip ga z ti to .ellipsis := za
  refine wpAny_bind ?_; simp only [List.zipIdx_cons, List.zipIdx_nil, List.forIn_cons, List.forIn_nil]
  refine wpAny_bind (wpAny_bind (wpAny_onRaise ?_)); show wpAny _ _ (Builtin.SmallTypes.nextOf (.ref i1) >>= _) _ _ _
  cases hx : xs[k]? with
  | none =>
    refine wpAny_bind (wpAny_nextOf_list_end hn (h1.extBut sa.extBut D.i1z) (hl.extBut sa.extBut D.l1z) hx fun gb e sb he => ?_)
    obtain ⟨eo, eh, ec⟩ := he
    have zb : IsZip gb z ti to .ellipsis := sb _ _ D.i1z.symm za
    have ne : e ≠ z := fun u => by
      subst u; rw [zb] at eh; cases eh; simp at ec
    exact wpAny_setField_rec zb (by simp) fun gc _ sc => q gc e (fun c o n1 _ n3 _ u => sc.extBut _ _ n1 (sb _ _ n3 (sa.extBut _ _ n1 u))) ⟨eo, sc.extBut _ _ ne eh, ec⟩
  | some x =>
    have hy : ys[k]? = none := he.resolve_left fun u => by rw [hx] at u; cases u
    refine wpAny_bind (wpAny_nextOf_list_item (h1.extBut sa.extBut D.i1z) (hl.extBut sa.extBut D.l1z) hx fun gb b1 sb => wpAny_pure ?_)
    have ob : IsPair gb to a b := sb.extBut _ _ D.TOi1 (sa.extBut _ _ D.TOz ho)
    refine wpAny_bind (wpAny_seqItems ob rfl ?_); refine wpAny_bind (wpAny_updateSeq_pair ob fun gc oc sc => ?_)
    refine wpAny_bind (wpAny_letGo (wpAny_pure ?_)); refine wpAny_bind (wpAny_bind (wpAny_onRaise ?_)); show wpAny _ _ (Builtin.SmallTypes.nextOf (.ref i2) >>= _) _ _ _
    have h2c : gc.IsTupleIter i2 t k := ((h2.extBut sa.extBut D.i2z).extBut sb.extBut D.i12.symm).extBut sc.extBut D.TOi2.symm
    have htc : gc.IsTuple t ys := ((ht.extBut sa.extBut D.l2z).extBut sb.extBut D.l2i1).extBut sc.extBut D.l2TO
    refine wpAny_bind (next_end hn h2c htc hy fun gd e sd he => ?_)
    obtain ⟨eo, eh, ec⟩ := he
    have zd : IsZip gd z ti to .ellipsis := sd _ _ D.i2z.symm (sc.extBut _ _ D.TOz.symm (sb.extBut _ _ D.i1z.symm za))
    have ne : e ≠ z := fun u => by
      subst u; rw [zd] at eh; cases eh; simp at ec
    exact wpAny_setField_rec zd (by simp) fun ge _ se => q ge e (fun c o n1 n2 n3 n4 u => se.extBut _ _ n1 (sd _ _ n4 (sc.extBut _ _ n2 (sb.extBut _ _ n3 (sa.extBut _ _ n1 u))))) ⟨eo, se.extBut _ _ ne eh, ec⟩
theorem py_item {z ti to i1 i2 l t : Addr} {k : Nat} {xs ys : Array Value} {x y a b : Value} {Q : Option Value → Shared → Prop} (D : ZipApart z ti to i1 i2 l t) (hz : IsZip s.heap z ti to .none) (hi : IsPair s.heap ti (.ref i1) (.ref i2)) (ho : IsPair s.heap to a b)
    (h1 : s.heap.IsListIter i1 l k) (h2 : s.heap.IsTupleIter i2 t k) (hl : s.heap.IsList l xs) (ht : s.heap.IsTuple t ys) (hx : xs[k]? = some x) (hy : ys[k]? = some y)
    (q : ∀ g, IsZip g z ti to (rawInt s.heap.objs.size) → IsPair g to x y → g.IsListIter i1 l (k + 1) → g.IsTupleIter i2 t (k + 1) → IsPair g s.heap.objs.size x y → g.objs.size = s.heap.objs.size + 1 →
      (∀ c o, c ≠ z → c ≠ to → c ≠ i1 → c ≠ i2 → s.heap.get? c = some o → g.get? c = some o) → Q (some (.ref s.heap.objs.size)) { s with heap := g }) : wpAny (model prog w) A (pyNext (.ref z)) Q E s := by
  have ty : s.TypeIs (.ref z) "zip" := ⟨_, hz, rfl⟩
  unfold pyNext
  exact wpAny_bind (wpAny_attempt (wpAny_callSpecial?_slot (name := Str.ofString "__next__") ty F.slot_zip_next (wpAny_call_entry F.slot_zip_next ty F.entry_zip_next
    (zip_item D hz hi ho h1 h2 hl ht hx hy fun g a1 a2 a3 a4 a5 a6 a7 => wpAny_pure (q g a1 a2 a3 a4 a5 a6 a7)) (F.args_zip_next_1 _))))
theorem py_end {z ti to i1 i2 l t : Addr} {k : Nat} {xs ys : Array Value} {a b : Value} {Q : Option Value → Shared → Prop} (hn : A.handled = none) (D : ZipApart z ti to i1 i2 l t) (hz : IsZip s.heap z ti to .none) (hi : IsPair s.heap ti (.ref i1) (.ref i2)) (ho : IsPair s.heap to a b)
    (h1 : s.heap.IsListIter i1 l k) (h2 : s.heap.IsTupleIter i2 t k) (hl : s.heap.IsList l xs) (ht : s.heap.IsTuple t ys) (he : xs[k]? = none ∨ ys[k]? = none)
    (q : ∀ g, (∀ c o, c ≠ z → c ≠ to → c ≠ i1 → c ≠ i2 → s.heap.get? c = some o → g.get? c = some o) → Q none { s with heap := g }) : wpAny (model prog w) A (pyNext (.ref z)) Q E s := by
  have ty : s.TypeIs (.ref z) "zip" := ⟨_, hz, rfl⟩
  unfold pyNext
  refine wpAny_bind (wpAny_attempt (wpAny_callSpecial?_slot (name := Str.ofString "__next__") ty F.slot_zip_next (wpAny_call_entry F.slot_zip_next ty F.entry_zip_next
    (zip_end hn D hz hi ho h1 h2 hl ht he fun g e kp hs => ?_) (F.args_zip_next_1 _))))
  obtain ⟨o, oh, oc⟩ := hs
  exact wpAny_bind (wpAny_isInstance (T := "StopIteration") (b := true) ⟨o, oh, oc⟩ isSubtype_stop (wpAny_pure (q _ kp)))
end
/-! zip(list, tuple) is made -/
abbrev gA (h : Heap) (l : Addr) : Heap := h.push { cls := .type "list_iterator", data := .fields #[.ref l, .int 0 0] }
abbrev gB (h : Heap) (l t : Addr) : Heap := (gA h l).push { cls := .type "tuple_iterator", data := .fields #[.ref t, .int 0 0] }
abbrev gC (h : Heap) (l t : Addr) : Heap := (gB h l t).push { cls := .type "tuple", data := .seq #[.ref h.objs.size, .ref (gA h l).objs.size] }
abbrev gD (h : Heap) (l t : Addr) : Heap := (gC h l t).push { cls := .type "tuple", data := .seq #[.none, .none] }
abbrev gE (h : Heap) (l t : Addr) : Heap := (gD h l t).push { cls := .type "zip", data := .fields #[.none, .bool false, .bool false, .ref (gB h l t).objs.size, .ref (gC h l t).objs.size] }
theorem made (l t : Addr) (xs ys : Array Value) : Meets (Builtin.«zip.__new__» ⟨[.type "zip", .ref l, .ref t], []⟩) (fun _ R s => s.heap.IsList l xs ∧ s.heap.IsTuple t ys ∧ R (.ok (.ret (.ref (gD s.heap l t).objs.size))) { s with heap := gE s.heap l t }) :=
  .of_wp fun prog w A R s h => by
    obtain ⟨hp, g, d, tk, os⟩ := s
    obtain ⟨ha, hb, h⟩ := h
    have sub := sub_zip
    have la : Heap.IsList (Shared.heap ⟨hp, g, d, tk, os⟩) l xs := ha
    have lb : Heap.IsTuple (Shared.heap ⟨hp.push { cls := .type "list_iterator", data := .fields #[.ref l, .int 0 0] }, g, d, tk, os⟩) t ys := Heap.IsTuple.push hb _
    wp_walk using wpAny_pyIter_list la, wpAny_pyIter_tuple lb
    exact ⟨_, rfl, h⟩
section
variable {prog : Program} {w : World} {A : Around} {E : Value → Shared → Prop} {s : Shared}
theorem call_zipT {l t : Addr} {xs ys : Array Value} {Q : Value → Shared → Prop} (ha : s.heap.IsList l xs) (hb : s.heap.IsTuple t ys)
    (q : ∀ g, IsZip g (s.heap.objs.size + 4) (s.heap.objs.size + 2) (s.heap.objs.size + 3) .none → IsPair g (s.heap.objs.size + 2) (.ref s.heap.objs.size) (.ref (s.heap.objs.size + 1)) → IsPair g (s.heap.objs.size + 3) .none .none →
      g.IsListIter s.heap.objs.size l 0 → g.IsTupleIter (s.heap.objs.size + 1) t 0 → (∀ c o, s.heap.get? c = some o → g.get? c = some o) → Q (.ref (s.heap.objs.size + 4)) { s with heap := g }) :
    wpAny (model prog w) A (call (.type "zip") [.ref l, .ref t]) Q E s := by
  refine callType_new F.called_zip (by decide) (F.typeCall_zip_2 _ _) (F.newCall_zip_2 _ _) (fun obj => F.args_object_init_3 obj _ _) F.entry_zip_new (made l t xs ys) ⟨ha, hb, ?_⟩
  have za : (gA s.heap l).objs.size = s.heap.objs.size + 1 := Heap.size_push ..
  have zb : (gB s.heap l t).objs.size = s.heap.objs.size + 2 := by rw [Heap.size_push, za]
  have zc : (gC s.heap l t).objs.size = s.heap.objs.size + 3 := by rw [Heap.size_push, zb]
  have zd : (gD s.heap l t).objs.size = s.heap.objs.size + 4 := by rw [Heap.size_push, zc]
  have ve : (gE s.heap l t).get? (gD s.heap l t).objs.size = some _ := Heap.get?_push_size _ rfl
  have vd : (gE s.heap l t).get? (gC s.heap l t).objs.size = some _ := Heap.get?_push_of_some _ (Heap.get?_push_size _ rfl)
  have vc : (gE s.heap l t).get? (gB s.heap l t).objs.size = some _ := Heap.get?_push_of_some _ (Heap.get?_push_of_some _ (Heap.get?_push_size _ rfl))
  have vb : (gE s.heap l t).get? (gA s.heap l).objs.size = some _ := Heap.get?_push_of_some _ (Heap.get?_push_of_some _ (Heap.get?_push_of_some _ (Heap.get?_push_size _ rfl)))
  have va : (gE s.heap l t).get? s.heap.objs.size = some _ := Heap.get?_push_of_some _ (Heap.get?_push_of_some _ (Heap.get?_push_of_some _ (Heap.get?_push_of_some _ (Heap.get?_push_size _ rfl))))
  show _ ∧ _
  rw [zb, zc, zd] at ve
  rw [za, zb] at vc
  rw [zc] at vd
  rw [za] at vb
  rw [zd]
  refine ⟨⟨_, ve, rfl⟩, q _ ve vc vd ⟨_, va, rfl, rfl⟩ ⟨_, vb, rfl, rfl⟩ fun c o u => ?_⟩
  exact Heap.get?_push_of_some _ (Heap.get?_push_of_some _ (Heap.get?_push_of_some _ (Heap.get?_push_of_some _ (Heap.get?_push_of_some _ u))))
end
end ZT
end
section
set_option Elab.async false
set_option linter.all false
set_option maxRecDepth 100000
set_option maxHeartbeats 4000000
namespace L2
open PySem PySem.Spec PyProof.Rows
/-- the list at a and the tuple at b as they stand at each turn, the items in new pairs -/
def ItzT (K : PySem.W.Frag) (a b : Addr) : It :=
  ⟨fun i H => ∃ (xs ys : List V) (x y : V), SqL K H a xs ∧ SqT K H b ys ∧ xs[i]? = some x ∧ ys[i]? = some y,
    fun i H v H' => ∃ T x y, v = .ref T ∧ H T = none ∧ H' = upd H T (.tup [x, y]) ∧ (∀ xs, SqL K H a xs → xs[i]? = some x) ∧ ∀ ys, SqT K H b ys → ys[i]? = some y,
    fun i H => ∃ xs ys : List V, SqL K H a xs ∧ SqT K H b ys ∧ (xs.length ≤ i ∨ ys.length ≤ i)⟩
theorem turn_zipT {P : Program} {w : World} {K : PySem.W.Frag} {elts : List Expr} {kk : Nat} {tpos : Pos} {a b z ti to i1 i2 : Addr} (D : ZipApart z ti to i1 i2 a b) :
    Turn P w K (.Tuple elts kk tpos) (ItzT K a b) [z, ti, to, i1, i2] z (fun i h => IsZip h z ti to .none ∧ IsPair h ti (.ref i1) (.ref i2) ∧ (∃ x y, IsPair h to x y) ∧ h.IsListIter i1 a i ∧ h.IsTupleIter i2 b i) where
  mem := by simp
  obj := fun i h st c hc => by
    obtain ⟨hz, hTI, ⟨x, y, hTO⟩, ⟨o1, e1, _, d1⟩, ⟨o2, e2, _, d2⟩⟩ := st
    have e' : c = z ∨ c = ti ∨ c = to ∨ c = i1 ∨ c = i2 := by simpa using hc
    rcases e' with q | q | q | q | q
    · rw [q]; exact ⟨_, hz, fun v q => nomatch q⟩
    · rw [q]; exact ⟨_, hTI, fun v q => nomatch q⟩
    · rw [q]; exact ⟨_, hTO, fun v q => nomatch q⟩
    · rw [q]; exact ⟨o1, e1, fun v q => by rw [d1] at q; cases q⟩
    · rw [q]; exact ⟨o2, e2, fun v q => by rw [d2] at q; cases q⟩
  keep := fun i h h' st k => by
    obtain ⟨hz, hTI, ⟨x, y, hTO⟩, h1, h2⟩ := st
    exact ⟨k z (by simp) _ hz, k ti (by simp) _ hTI, ⟨x, y, k to (by simp) _ hTO⟩, h1.at fun o q => k i1 (by simp) o q, h2.at fun o q => k i2 (by simp) o q⟩
  item := by
    intro X hP hw hK hc i pins s σ H E I hf st hg
    subst hP hw hK
    obtain ⟨hz, hTI, ⟨x0, y0, hTO⟩, h1, h2⟩ := st
    obtain ⟨xs, ys, x, y, hqx, hqy, hx, hy⟩ := hg
    obtain ⟨its, rv, p, _⟩ := I.list hqx
    obtain ⟨its2, rv2, p2, _⟩ := I.tuple hqy
    obtain ⟨u, hu, ru⟩ := rv.get hx
    obtain ⟨u2, hu2, ru2⟩ := rv2.get hy
    have hzl : z < s.heap.objs.size := Heap.lt_size hz
    refine ZT.py_item D hz hTI hTO h1 h2 p.isList (show s.heap.IsTuple b its2.toArray from p2) (x := u) (y := u2) (by simpa using hu) (by simpa using hu2) fun h' z' TO' h1' h2' hT hsz hk => ?_
    refine ⟨_, rfl, wpAny_letOwnedTupleGo_zip (s := { s with heap := h' }) z' fun h'' z'' sb => ?_⟩
    have hT2 : h''.get? s.heap.objs.size = some { cls := .type "tuple", data := .seq #[u, u2] } := (sb.2 _ (Nat.ne_of_gt hzl)).trans hT
    have new : ObjOk X.prog X.w (upd H s.heap.objs.size (.tup [x, y])) h'' s.heap.objs.size (.tup [x, y]) :=
      ⟨by show 2 ≤ sizeLine; decide, [u, u2], .cons ru (.cons ru2 .nil), ⟨_, hT2, rfl, _, rfl⟩⟩
    have I1 : Inv X pins σ (upd H s.heap.objs.size (.tup [x, y])) { s with heap := h'' } :=
      I.turnedNew (t' := s.toks) (ch := [z, ti, to, i1, i2]) (fun c o hb q => (sb.2 c (fun q' => hb (by simp [q']))).trans (hk c o (fun q' => hb (by simp [q'])) (fun q' => hb (by simp [q'])) (fun q' => hb (by simp [q'])) (fun q' => hb (by simp [q'])) q)) hf (Nat.le_refl _) new
    refine ⟨.ref s.heap.objs.size, _, I1, rfl, ⟨_, x, y, rfl, I.hok.fresh (Nat.le_refl _), rfl, fun l hl => by rw [I.list_inj hl hqx]; exact hx, fun l hl => by rw [I.tuple_inj hl hqy]; exact hy⟩, ⟨z'', ?_, ⟨u, u2, ?_⟩, ?_, ?_⟩, fun c hcm => ?_⟩
    · exact (sb.2 _ D.TIz).trans (hk _ _ D.TIz D.TITO D.TIi1 D.TIi2 hTI)
    · exact (sb.2 _ D.TOz).trans TO'
    · exact h1'.at fun o q => (sb.2 _ D.i1z).trans q
    · exact h2'.at fun o q => (sb.2 _ D.i2z).trans q
    · have hlt : c < s.heap.objs.size := by
        have e' : c = z ∨ c = ti ∨ c = to ∨ c = i1 ∨ c = i2 := by simpa using hcm
        rcases e' with q | q | q | q | q
        · rw [q]; exact hzl
        · rw [q]; exact Heap.lt_size hTI
        · rw [q]; exact Heap.lt_size hTO
        · rw [q]; obtain ⟨_, e1, _⟩ := h1; exact Heap.lt_size e1
        · rw [q]; obtain ⟨_, e2, _⟩ := h2; exact Heap.lt_size e2
      rw [upd_ne (Nat.ne_of_lt hlt)]
      exact (hf c hcm).1
  done := by
    intro X hP hw hK hc i pins s σ H E I hf st hg
    subst hP hw hK
    obtain ⟨hz, hTI, ⟨x0, y0, hTO⟩, h1, h2⟩ := st
    obtain ⟨xs, ys, hqx, hqy, hend⟩ := hg
    obtain ⟨its, rv, p, _⟩ := I.list hqx
    obtain ⟨its2, rv2, p2, _⟩ := I.tuple hqy
    have l1 := rv.length
    have l2 := rv2.length
    have he : its.toArray[i]? = none ∨ its2.toArray[i]? = none := by
      rcases hend with q | q
      · exact .inl (by simp; omega)
      · exact .inr (by simp; omega)
    exact ZT.py_end (I.ok.hd hc) D hz hTI hTO h1 h2 p.isList (show s.heap.IsTuple b its2.toArray from p2) he fun h' hk => ⟨rfl, I.turnedL (t' := s.toks) (ch := [z, ti, to, i1, i2]) (fun c o hb q =>
      hk c o (fun q' => hb (by simp [q'])) (fun q' => hb (by simp [q'])) (fun q' => hb (by simp [q'])) (fun q' => hb (by simp [q'])) q) hf⟩
  self := fun A i s Q E st h => wpAny_pyIter_zip st.1 h
def iZipT (K : PySem.W.Frag) (ta : TA) : TI := fun σ H R => ta σ H fun vs H1 => ∃ a b xs ys, vs = [.ref a, .ref b] ∧ SqL K H1 a xs ∧ SqT K H1 b ys ∧ R (ItzT K a b) H1
theorem pi_zipT {X : Cx} {e e2 : Expr} {ta : TA} {p pos tpos : Pos} {elts : List Expr} {kk : Nat} (hg : Gl X "zip") (hm : X.mg "zip" = none) (ha : PA X [e, e2] ta)
    (hs : starEach [e, e2] X.env = (false, eval e X.env) :: starEach [e2] X.env := by rfl) (hpl : (backTo pos (starEach [e2] X.env)).any (·.1) = false := by rfl) :
    PI X (.Tuple elts kk tpos) (.Call (.Name "zip" p) [e, e2] [] pos) (iZipT X.K ta) := by
  intro pins s σ H R I h
  refine Call_ (ld_blt I hg hm boot_zip5 (PyProof.Rows.callWith_type1 (thn (ha pos pins s σ H _ I h) fun us s1 ⟨vs, H1, I1, r1, q1⟩ => ?_) hs hpl))
  obtain ⟨a, b, xs, ys, ex, hqx, hqy, q⟩ := q1
  subst ex
  cases r1 with
  | cons r rr =>
    cases rr with
    | cons r' rr =>
      cases rr
      cases r
      cases r'
      obtain ⟨its, rv, p1, _⟩ := I1.list hqx
      obtain ⟨its2, rv2, p2, _⟩ := I1.tuple hqy
      have la : a < s1.heap.objs.size := p1.lt
      have lb : b < s1.heap.objs.size := by obtain ⟨_, e, _⟩ := p2; exact Heap.lt_size e
      refine ZT.call_zipT p1.isList (show s1.heap.IsTuple b its2.toArray from p2) fun h' hz hTI hTO h1 h2 hk => wpAny_pyIter_zip hz ?_
      have I2 : Inv X pins σ H1 { s1 with heap := h' } := I1.kept (t' := s1.toks) hk
      refine ⟨s1.heap.objs.size + 4, [s1.heap.objs.size + 4, s1.heap.objs.size + 2, s1.heap.objs.size + 3, s1.heap.objs.size, s1.heap.objs.size + 1], _, _, H1, rfl, I2, turn_zipT (PySem.W.ktu_apart s1.heap.objs.size a b la lb), ⟨hz, hTI, ⟨_, _, hTO⟩, h1, h2⟩, fun c hcm => ?_, q⟩
      have e' : c = s1.heap.objs.size + 4 ∨ c = s1.heap.objs.size + 2 ∨ c = s1.heap.objs.size + 3 ∨ c = s1.heap.objs.size ∨ c = s1.heap.objs.size + 1 := by simpa using hcm
      have hle : s1.heap.objs.size ≤ c := by
        rcases e' with z | z | z | z | z
        · rw [z]; exact Nat.le_add_right _ _
        · rw [z]; exact Nat.le_add_right _ _
        · rw [z]; exact Nat.le_add_right _ _
        · rw [z]; exact Nat.le_refl _
        · rw [z]; exact Nat.le_add_right _ _
      exact I1.fpOk hle (I1.hok.fresh hle)
/-- zip of a list and a tuple of one length, walked -/
theorem for_zipT {K : PySem.W.Frag} {a b : Addr} {xs ys : List V} {g : TG} {tb : TS} {D : Ends} {σ : L2.St} {H : Hp} (Pv : Nat → L2.St → Hp → Prop) (h0 : Pv 0 σ H) (hl : ∀ i σ H, Pv i σ H → SqL K H a xs ∧ SqT K H b ys) (len : xs.length ≤ ys.length)
    (hs : ∀ i x y T σ H, xs[i]? = some x → ys[i]? = some y → H T = none → Pv i σ H → g (.ref T) σ (upd H T (.tup [x, y])) fun σ2 H2 => tb { D with nx := Pv (i + 1), ct := Pv (i + 1), bk := D.nx } σ2 H2) (hd : ∀ σ H, Pv xs.length σ H → D.nx σ H) :
    ∃ W : Nat → Nat → L2.St → Hp → Prop, (∃ m, W 0 m σ H) ∧ ∀ i m σ H, W i m σ H →
      ((ItzT K a b).stop i H ∧ D.nx σ H) ∨ ((ItzT K a b).go i H ∧ ∃ N : L2.St → Hp → Prop, (∀ σ' H', N σ' H' → ∃ m', m' < m ∧ W (i + 1) m' σ' H') ∧ ∀ x H', (ItzT K a b).yld i H x H' → g x σ H' fun σ2 H2 => tb { D with nx := N, ct := N, bk := D.nx } σ2 H2) := by
  refine ⟨fun i m σ H => m = xs.length - i ∧ i ≤ xs.length ∧ Pv i σ H, ⟨xs.length, by simp, Nat.zero_le _, h0⟩, ?_⟩
  rintro i m σ H ⟨rfl, hi, p⟩
  obtain ⟨qx, qy⟩ := hl i σ H p
  by_cases hlt : i < xs.length
  · have hlt2 : i < ys.length := by omega
    refine .inr ⟨⟨xs, ys, xs[i], ys[i], qx, qy, by simp [hlt], by simp [hlt2]⟩, Pv (i + 1), fun σ' H' p' => ⟨xs.length - (i + 1), by omega, rfl, hlt, p'⟩, fun x H' y => ?_⟩
    obtain ⟨T, u, v, rfl, hT, rfl, hu, hv⟩ := y
    exact hs i u v T σ H (hu xs qx) (hv ys qy) hT p
  · have e : i = xs.length := by omega
    subst e
    exact .inl ⟨⟨xs, ys, qx, qy, .inl (Nat.le_refl _)⟩, hd σ H p⟩
end L2
end
section
set_option Elab.async false
set_option linter.all false
set_option maxRecDepth 100000
set_option maxHeartbeats 2000000
/-! A table of the module: a dict of ints, each with a row of pairs, all of it written. -/
namespace Ho
open PySem PySem.Spec PyProof.Rows L2
/-- the items of a written tuple -/
def kSeq (K : PySem.W.Frag) (v : Value) : Option (List Value) := match v with
  | .ref a => match K.lookup a with
    | some o => match o.cls, o.data with
      | .type t, .seq its _ => if t = "tuple" then some its.toList else none
      | _, _ => none
    | none => none
  | _ => none
def pairOk (K : PySem.W.Frag) (v : Value) (p : Int × Int) : Bool := match kSeq K v with
  | some [.int i _, .int j _] => i == p.1 && j == p.2
  | _ => false
def rowsOk (K : PySem.W.Frag) : List Value → List (Int × Int) → Bool
  | [], [] => true
  | v :: vs, p :: ps => pairOk K v p && rowsOk K vs ps
  | _, _ => false
def rowOk (K : PySem.W.Frag) (v : Value) (ps : List (Int × Int)) : Bool := match kSeq K v with
  | some l => decide (l.length ≤ 100) && rowsOk K l ps
  | none => false
def keyOk (e : DictEntry) (i : Int) : Bool := match e.key with
  | .int j _ => j == i && e.hash == hashInt i
  | _ => false
def tabOk (K : PySem.W.Frag) : List DictEntry → List (Int × List (Int × Int)) → Bool
  | [], [] => true
  | e :: es, r :: rs => keyOk e r.1 && rowOk K e.val r.2 && tabOk K es rs
  | _, _ => false
theorem kSeq_sq {K : PySem.W.Frag} {v : Value} {l : List Value} (h : kSeq K v = some l) (hl : l.length ≤ 100) : ∃ a, v = .ref a ∧ ∀ (H : Hp) (xs : List V), Vals xs l → SqT K H a xs := by
  unfold kSeq at h
  split at h
  · rename_i a
    split at h
    · rename_i o ho
      split at h
      · rename_i t its n hc hd
        split at h
        · rename_i ht
          cases h
          subst ht
          exact ⟨a, rfl, fun H xs r => .inr ⟨o, its, _, ho, hc, hd, Nat.le_trans (by simpa using hl) (by decide), r⟩⟩
        · cases h
      · cases h
    · cases h
  · cases h
/-- the pair at a -/
def PairK (K : PySem.W.Frag) (a : Addr) (p : Int × Int) : Prop := ∀ H : Hp, SqT K H a [.int p.1, .int p.2]
/-- the row at a -/
def RowK (K : PySem.W.Frag) (a : Addr) (ps : List (Int × Int)) : Prop := ∃ bs : List Addr, (∀ H : Hp, SqT K H a (bs.map V.ref)) ∧ bs.length = ps.length ∧ ∀ (i : Nat) (b : Addr) (p : Int × Int), bs[i]? = some b → ps[i]? = some p → PairK K b p
theorem pairOk_k {K : PySem.W.Frag} {v : Value} {p : Int × Int} (h : pairOk K v p = true) : ∃ a, v = .ref a ∧ PairK K a p := by
  unfold pairOk at h
  split at h
  · rename_i i t j u e
    obtain ⟨a, ea, q⟩ := kSeq_sq e (by simp)
    simp at h
    refine ⟨a, ea, fun H => q H _ ?_⟩
    rw [← h.1, ← h.2]
    exact .cons ⟨_, rfl⟩ (.cons ⟨_, rfl⟩ .nil)
  · cases h
theorem rowsOk_k {K : PySem.W.Frag} : ∀ {l : List Value} {ps : List (Int × Int)}, rowsOk K l ps = true → ∃ bs : List Addr, l = bs.map Value.ref ∧ bs.length = ps.length ∧ ∀ (i : Nat) (b : Addr) (p : Int × Int), bs[i]? = some b → ps[i]? = some p → PairK K b p
  | [], [], _ => ⟨[], rfl, rfl, fun i b p h => by simp at h⟩
  | [], _ :: _, h => by simp [rowsOk] at h
  | _ :: _, [], h => by simp [rowsOk] at h
  | v :: l, p :: ps, h => by
    simp only [rowsOk, Bool.and_eq_true] at h
    obtain ⟨a, rfl, pa⟩ := pairOk_k h.1
    obtain ⟨bs, rfl, hl, q⟩ := rowsOk_k h.2
    refine ⟨a :: bs, rfl, by simp [hl], fun i b p' hb hp => ?_⟩
    match i, hb, hp with
    | 0, hb, hp =>
      cases hb
      cases hp
      exact pa
    | i + 1, hb, hp => exact q i b p' hb hp
theorem vals_refs : ∀ bs : List Addr, Vals (bs.map V.ref) (bs.map Value.ref)
  | [] => .nil
  | b :: bs => .cons rfl (vals_refs bs)
theorem rowOk_k {K : PySem.W.Frag} {v : Value} {ps : List (Int × Int)} (h : rowOk K v ps = true) : ∃ a, v = .ref a ∧ RowK K a ps := by
  unfold rowOk at h
  split at h
  · rename_i l e
    rw [Bool.and_eq_true] at h
    obtain ⟨a, ea, q⟩ := kSeq_sq e (of_decide_eq_true h.1)
    obtain ⟨bs, rfl, hl, r⟩ := rowsOk_k h.2
    exact ⟨a, ea, bs, fun H => q H _ (vals_refs bs), hl, r⟩
  · cases h
def valT (tabl : List (Int × List (Int × Int))) (i : Int) : Option (List (Int × Int)) := (tabl.find? fun r => r.1 == i).map (·.2)
theorem keyOk_k {e : DictEntry} {i : Int} (h : keyOk e i = true) : keyIs (.inl i) e.key = true ∧ e.hash = hashInt i ∧ ∀ j, keyIs (.inl j) e.key = (i == j) := by
  unfold keyOk at h
  split at h
  · rename_i j t ek
    simp at h
    rw [ek]
    refine ⟨by rw [h.1]; exact keyIs_int i t, h.2, fun k => ?_⟩
    show Value.isInt k (Value.int j t) = _
    rw [h.1]
    simp [Value.isInt]
  · cases h
theorem tabOk_keys {K : PySem.W.Frag} : ∀ {es : List DictEntry} {tabl : List (Int × List (Int × Int))}, tabOk K es tabl = true → ∀ e ∈ es, ∃ i, keyIs (.inl i) e.key = true ∧ e.hash = hashInt i
  | [], _, _, e, h => by simp at h
  | e :: es, [], h, _, _ => by simp [tabOk] at h
  | e :: es, r :: rs, h, x, m => by
    simp only [tabOk, Bool.and_eq_true] at h
    rcases List.mem_cons.mp m with q | q
    · subst q
      obtain ⟨a, b, _⟩ := keyOk_k h.1.1
      exact ⟨_, a, b⟩
    · exact tabOk_keys h.2 x q
theorem tabOk_find {K : PySem.W.Frag} {i : Int} {ps : List (Int × Int)} : ∀ {es : List DictEntry} {tabl : List (Int × List (Int × Int))}, tabOk K es tabl = true → valT tabl i = some ps → ∃ a, (es.find? fun e => keyIs (.inl i) e.key).map (·.val) = some (.ref a) ∧ RowK K a ps
  | [], [], _, h => by simp [valT] at h
  | [], _ :: _, h, _ => by simp [tabOk] at h
  | _ :: _, [], h, _ => by simp [tabOk] at h
  | e :: es, r :: rs, h, hv => by
    simp only [tabOk, Bool.and_eq_true] at h
    obtain ⟨ka, kb, kc⟩ := keyOk_k h.1.1
    by_cases c : r.1 = i
    · obtain ⟨a, ea, ra⟩ := rowOk_k h.1.2
      have hv : r.2 = ps := by
        unfold valT at hv
        rw [List.find?_cons_of_pos (by simp [c])] at hv
        exact Option.some.inj hv
      subst hv
      refine ⟨a, ?_, ra⟩
      rw [List.find?_cons_of_pos (by rw [kc]; simp [c])]
      exact congrArg some ea
    · have hv : valT rs i = some ps := by
        unfold valT at hv
        rw [List.find?_cons_of_neg (by simp [c])] at hv
        exact hv
      obtain ⟨a, q, ra⟩ := tabOk_find h.2 hv
      refine ⟨a, ?_, ra⟩
      rw [List.find?_cons_of_neg (by rw [kc]; simp [c])]
      exact q
/-- the name x stands for such a table -/
def Tab (K : PySem.W.Frag) (mg : Str → Option Value) (x : Str) (tabl : List (Int × List (Int × Int))) : Prop :=
  ∃ (a : Addr) (es : Array DictEntry) (ep : Nat), mg x = some (.ref a) ∧ K.lookup a = some ⟨.type "dict", none, .dict es ep, #[]⟩ ∧ tabOk K es.toList tabl = true
def tTab (K : PySem.W.Frag) (tabl : List (Int × List (Int × Int))) (ti : TE) : TE := fun σ H Q => ti σ H fun y H1 => ∃ c ps, y = .int c ∧ valT tabl c = some ps ∧ ∀ a, RowK K a ps → Q (.ref a) H1
theorem pe_tab {X : Cx} {x : Str} {tabl : List (Int × List (Int × Int))} {i : Expr} {ti : TE} {p pos : Pos} (hg : Gl X x) (h : Tab X.K X.mg x tabl) (hi : PE X i ti) (hs : NoSl i) (hd : (x == ("__debug__" : Str)) = false := by decide) : PE X (.Subscript (.Name x p) i pos) (tTab X.K tabl ti) := by
  obtain ⟨a, es, ep, hm, hl, ht⟩ := h
  intro pins s σ H Q I hw
  refine subD_of PySem.F.slot_dict_getitem.lookup hs (thn (pe_glob (v := .ref a) hg hm rfl hd pins s σ H (fun v H1 => v = .ref a ∧ H1 = H) I ⟨rfl, rfl⟩) fun u s1 ⟨v, H1, I1, rv, ev, eH⟩ => ?_)
  subst ev eH
  obtain rfl : u = Value.ref a := rv
  refine thn (hi pins s1 σ H1 _ I1 hw) fun iv s2 ⟨y, H2, I2, ry, c, ps, ey, hv, q⟩ => ?_
  subst ey
  have ho := I2.kIn a _ hl
  obtain ⟨b, hb, rb⟩ := tabOk_find ht hv
  have mo : s2.heap.MapOf (mixKind X.prog X.w) a (fun k => findBy (mixKind X.prog X.w).is es k) := ⟨_, es, ep, ho, ⟨rfl, rfl, rfl⟩, rfl, fun e he => by
    obtain ⟨j, h1, h2⟩ := tabOk_keys ht e (by simpa using he)
    exact ⟨.inl j, h1, h2⟩, fun _ => rfl⟩
  refine ⟨⟨_, ho, rfl⟩, wpAny_getItem_of (k := Sum.inl c) (kV_is ry) mo (v := .ref b) ?_ ⟨.ref b, H2, I2.tok _, rfl, q b rb⟩⟩
  show (es.find? fun e => keyIs (.inl c) e.key).map (·.val) = _
  rw [← Array.find?_toList]
  exact hb
end Ho
end
section
set_option Elab.async false
set_option linter.all false
set_option maxRecDepth 100000
set_option maxHeartbeats 2000000
namespace Ho
open PySem PySem.Spec PyProof.Rows L2
open Vbrgak (State Body)
def top (i : Nat) : Stmt := PySem.Challenge.pw_hungerhouse_s01_answers.main.body.getD i (.Pass ⟨0, 0, 0, 0⟩)
/-- the addresses of a house -/
structure Ad where
  p : Addr
  dx : Addr
  aw : Addr
  ab : Addr
  af : Addr
  al : Addr
  ap : Addr
  at_ : Addr
def nI (n : Nat) : V := V.int (n : Int)
def nL (l : List Nat) : List V := l.map nI
def hf (A : Ad) (s : State) : List (Str × V) :=
  [("opened", .bl s.opened), ("capacity", nI s.capacity), ("markup", nI s.markup), ("pays", nI s.pays), ("regen", nI s.regen), ("most_hits", nI s.body.most), ("coins", nI s.coins), ("shop_coins", nI s.till),
   ("weights", .ref A.aw), ("prices", .ref A.ab), ("foods", .ref A.af), ("fuels", .ref A.al), ("pack", .ref A.ap), ("stock", .ref A.at_),
   ("fed", nI s.body.fed), ("hits", nI s.body.hp), ("healed", nI s.body.heal), ("fuel", nI s.body.fuel), ("lit", .bl s.body.lit), ("drain", nI s.drain), ("clock", nI s.clock)]
section
variable (A : Ad) (s : State)
theorem lk_opened : (hf A s).lookup ("opened" : Str) = some (.bl s.opened) := rfl
theorem lk_fed : (hf A s).lookup ("fed" : Str) = some (nI s.body.fed) := rfl
theorem lk_hits : (hf A s).lookup ("hits" : Str) = some (nI s.body.hp) := rfl
theorem lk_clock : (hf A s).lookup ("clock" : Str) = some (nI s.clock) := rfl
theorem pt_clock (n : Nat) : putF "clock" (nI n) (hf A s) = hf A { s with clock := n } := rfl
end
end Ho
end
section
set_option Elab.async false
set_option linter.all false
set_option maxRecDepth 100000
set_option maxHeartbeats 2000000
namespace Ho
open PySem PySem.Spec PyProof.Rows L2
open Vbrgak (State Body)
theorem boot_max1 : bootBuiltins "max" = some (.builtin "max") := by decide +kernel
theorem boot_min1 : bootBuiltins "min" = some (.builtin "min") := by decide +kernel
theorem boot_list1 : bootBuiltins "list" = some (.type "list") := by decide +kernel
structure HA (C : Addr) (H : Hp) (A : Ad) (s : State) : Prop where
  o : H A.p = some (.ins C A.dx (hf A s))
  w : H A.aw = some (.lst (nL s.weights))
  b : H A.ab = some (.lst (nL s.bases))
  f : H A.af = some (.lst (nL s.foods))
  l : H A.al = some (.lst (nL s.fuels))
  k : H A.ap = some (.lst (nL s.pack))
  t : H A.at_ = some (.lst (nL s.stock))
  nd : [A.aw, A.ab, A.af, A.al, A.ap, A.at_].Nodup
theorem HA.same {C : Addr} {H H' : Hp} {A : Ad} {s : State} (h : HA C H A s) (e : Same H H') : HA C H' A s :=
  ⟨e _ _ h.o, e _ _ h.w, e _ _ h.b, e _ _ h.f, e _ _ h.l, e _ _ h.k, e _ _ h.t, h.nd⟩
theorem HA.frame {C : Addr} {H H' : Hp} {A : Ad} {s : State} (h : HA C H A s) (e : ∀ b o, H b = some o → b ∈ [A.p, A.aw, A.ab, A.af, A.al, A.ap, A.at_] → H' b = some o) : HA C H' A s :=
  ⟨e _ _ h.o (by simp), e _ _ h.w (by simp), e _ _ h.b (by simp), e _ _ h.f (by simp), e _ _ h.l (by simp), e _ _ h.k (by simp), e _ _ h.t (by simp), h.nd⟩
/-- the house's own record is written anew -/
theorem HA.put {C : Addr} {H : Hp} {A : Ad} {s s' : State} {fs : List (Str × V)} (h : HA C H A s) (e : fs = hf A s') (e1 : s'.weights = s.weights) (e2 : s'.bases = s.bases) (e3 : s'.foods = s.foods) (e4 : s'.fuels = s.fuels) (e5 : s'.pack = s.pack) (e6 : s'.stock = s.stock) :
    HA C (upd H A.p (.ins C A.dx fs)) A s' := by
  have ne : ∀ {b : Addr} {xs : List V}, H b = some (.lst xs) → b ≠ A.p := fun hb => ne_of hb h.o (by intro z; cases z)
  subst e
  refine ⟨upd_same, ?_, ?_, ?_, ?_, ?_, ?_, h.nd⟩
  · rw [upd_ne (ne h.w), e1]; exact h.w
  · rw [upd_ne (ne h.b), e2]; exact h.b
  · rw [upd_ne (ne h.f), e3]; exact h.f
  · rw [upd_ne (ne h.l), e4]; exact h.l
  · rw [upd_ne (ne h.k), e5]; exact h.k
  · rw [upd_ne (ne h.t), e6]; exact h.t
/-- a def of the text, as it stands behind the top -/
def Dfs (K : PySem.W.Frag) (mg : Str → Option Value) (x : Str) (st : Stmt) : Prop := ∃ f fd, Fun K x x st f fd ∧ mg x = some (.ref f)
/-- a def that keeps its promise -/
def Has (P : Program) (w : World) (K : PySem.W.Frag) (mg : Str → Option Value) (base : Heap) (x : Str) (ps : List Str) (k : Nat) (sp : Sp) : Prop :=
  ∃ f fd, FnOk P w K mg base CX0 k f fd ps sp ∧ mg x = some (.ref f) ∧ PySem.W.keepIn K (.ref f) = true ∧ Binds K fd ps []
def gI (mg : Str → Option Value) (x : Str) (i : Int) : Prop := ∃ t, mg x = some (.int i t)
/-- the numbers of each call, by the text's table -/
def tabl : List (Int × List (Int × Int)) := [(0, [(1, 100000), (0, 400), (0, 100), (0, 10000), (1, 10000), (0, 1000000000000), (0, 1000000000000)]), (1, [(0, 15), (1, 10000)]), (2, [(0, 15), (1, 10000)]), (3, [(0, 15)]), (4, [(0, 15)]), (5, [(0, 1)]), (6, [(1, 1000000)]), (7, [(0, 5000)]), (8, [(1, 10000)]), (9, [(0, 15), (1, 10000)]), (10, [(0, 15), (1, 10000)]), (11, [(0, 15), (1, 10000)]), (12, []), (13, [(0, 15), (1, 10000)]), (14, []), (15, []), (16, []), (17, []), (18, []), (19, [(1, 1000000)])]
def rowsT : List (Int × Int) := [(0, 1000), (1, 1000000), (0, 2000), (0, 100000)]
/-- the name x stands for a written row of pairs -/
def RowG (K : PySem.W.Frag) (mg : Str → Option Value) (x : Str) (ps : List (Int × Int)) : Prop := ∃ a, mg x = some (.ref a) ∧ RowK K a ps
structure Txt (K : PySem.W.Frag) (mg : Str → Option Value) (C : Addr) : Prop where
  cl : Cls K C
  no : ∀ x ∈ (["opened", "capacity", "markup", "pays", "regen", "most_hits", "coins", "shop_coins", "weights", "prices", "foods", "fuels", "pack", "stock", "fed", "hits", "healed", "fuel", "lit", "drain", "clock"] : List Str), NoAttr K C x
  n_len : mg "len" = none
  n_max : mg "max" = none
  n_min : mg "min" = none
  n_list : mg "list" = none
  n_zip : mg "zip" = none
  g_ACCEPTED : gI mg "ACCEPTED" (0)
  g_OUT_OF_RANGE : gI mg "OUT_OF_RANGE" (-1)
  g_NOT_OPEN : gI mg "NOT_OPEN" (-2)
  g_ALREADY_OPEN : gI mg "ALREADY_OPEN" (-3)
  g_BAD_COUNT : gI mg "BAD_COUNT" (-4)
  g_NO_SUCH_KIND : gI mg "NO_SUCH_KIND" (-5)
  g_TOO_FEW : gI mg "TOO_FEW" (-6)
  g_TOO_HEAVY : gI mg "TOO_HEAVY" (-7)
  g_OF_NO_USE : gI mg "OF_NO_USE" (-8)
  g_GONE : gI mg "GONE" (-9)
  g_TOO_FEW_COINS : gI mg "TOO_FEW_COINS" (-10)
  g_HUNGRY_FED : gI mg "HUNGRY_FED" (300000)
  g_WEAK_FED : gI mg "WEAK_FED" (100000)
  g_MOST_OF_A_KIND : gI mg "MOST_OF_A_KIND" (10000)
  g_MOST_FED : gI mg "MOST_FED" (2000000)
  g_MOST_FUEL : gI mg "MOST_FUEL" (1000000)
  g_UNLIT : gI mg "UNLIT" (-1)
  g_LONGEST_ROW : gI mg "LONGEST_ROW" (16)
  g_OPEN : gI mg "OPEN" (0)
  g_FIND : gI mg "FIND" (1)
  g_DROP : gI mg "DROP" (2)
  g_EAT : gI mg "EAT" (3)
  g_FILL : gI mg "FILL" (4)
  g_LIGHT : gI mg "LIGHT" (5)
  g_WAIT : gI mg "WAIT" (6)
  g_DRAIN : gI mg "DRAIN" (7)
  g_HURT : gI mg "HURT" (8)
  g_BUY : gI mg "BUY" (9)
  g_SELL : gI mg "SELL" (10)
  g_STOCK : gI mg "STOCK" (11)
  g_STATUS : gI mg "STATUS" (12)
  g_PRICE : gI mg "PRICE" (13)
  g_WHEN : gI mg "WHEN" (14)
  g_PACK : gI mg "PACK" (15)
  g_BURDEN : gI mg "BURDEN" (16)
  g_WORTH : gI mg "WORTH" (17)
  g_SHOP : gI mg "SHOP" (18)
  g_NUMBER_RANGES : Tab K mg "NUMBER_RANGES" tabl
  g_ROW_RANGES : RowG K mg "ROW_RANGES" rowsT
section
variable {X : Cx}
theorem pe_has {x : Str} {ps : List Str} {k : Nat} {sp : Sp} {e : Expr} {es : List Expr} {t : TA} {p pos : Pos} (h : Has X.prog X.w X.K X.mg X.base x ps k sp) (hr : Room k X.A) (hg : Gl X x) (ha : PA X (e :: es) t)
    (hdb : (x == ("__debug__" : Str)) = false := by decide) (he : starEach (e :: es) X.env = (false, eval e X.env) :: starEach es X.env := by rfl) (hpl : (backTo pos (starEach es X.env)).any (·.1) = false := by rfl) :
    PE X (.Call (.Name x p) (e :: es) [] pos) (tCall sp [] E0 t) := by
  obtain ⟨f, fd, F, hm, hk, hb⟩ := h
  exact pe_call F hr hg hm hk hb .nil pass0 ha hdb he hpl
theorem pe_gI {x : Str} {i : Int} {pos : Pos} (hg : Gl X x) (h : gI X.mg x i) (hd : (x == ("__debug__" : Str)) = false := by decide) : PE X (.Name x pos) (tC (.int i)) := by
  obtain ⟨t, h⟩ := h
  exact pe_glob hg h ⟨t, rfl⟩ hd
def tRow (K : PySem.W.Frag) (ps : List (Int × Int)) : TE := fun _ H Q => ∀ a, RowK K a ps → Q (.ref a) H
theorem pe_gR {x : Str} {ps : List (Int × Int)} {pos : Pos} (hg : Gl X x) (h : RowG X.K X.mg x ps) (hd : (x == ("__debug__" : Str)) = false := by decide) : PE X (.Name x pos) (tRow X.K ps) := by
  obtain ⟨a, h, r⟩ := h
  intro pins s σ H Q I q
  exact pe_glob (v := .ref a) hg h rfl hd pins s σ H Q I (q a r)
/-- xs[i], by values -/
theorem get_list : PGet X (rIxL X.K) := by
  intro pins s σ H x y v u Q I rx ry h
  obtain ⟨p, xs, i, z, rfl, rfl, hq, he, q⟩ := h
  cases rx
  obtain ⟨t, rfl⟩ := ry
  obtain ⟨its, r, pl, hz⟩ := I.list hq
  obtain ⟨j, h1, h2, h3, h4, h5⟩ := atI_get he
  obtain ⟨w, ew, rw'⟩ := r.get h2
  have hl := r.length
  have hn := line63
  by_cases h0 : 0 ≤ i
  · have hj : i.toNat = j := by
      rw [seqIndex_of h0 h5] at h1
      exact Option.some.inj h1
    exact wpAny_getItem_list pl.isList h0 (by omega) (by rw [hj]; simpa using ew) ⟨z, H, I, rw', q⟩
  · have hj : (i + (its.toArray.size : Int)).toNat = j := by
      rw [seqIndex_neg (by omega) h4] at h1
      rw [List.size_toArray, ← hl]
      exact Option.some.inj h1
    exact wpAny_getItem_list_neg pl.isList (by omega) (by rw [List.size_toArray] <;> omega) (by omega) (by rw [hj]; simpa using ew) ⟨z, H, I, rw', q⟩
end
section
variable {P : Program} {w : World} {K : PySem.W.Frag} {mg : Str → Option Value} {base : Heap} {C : Addr}
theorem mkHas {x : Str} {st : Stmt} {N ps : List Str} {k : Nat} {sp : Sp} (D : Dfs K mg x st) (S : FnScope N ps (defScope st)) (len : ∀ vs H Q E, sp vs H Q E → vs.length = ps.length)
    (hb : ∀ (kV doc pm : Value) (an : Option Addr) (cdv ct : Value) (us : List Value), us.length = ps.length → bindArgs (PySem.W.fnOf x x (defArgs st) (defBody st) (defScope st) .none kV doc pm an cdv ct) ⟨us, []⟩ = pure (ps.zip us))
    (hbody : ∀ (f : Addr) (cdv : Value) (A : Around) (outer : List Env) (s : Shared) (H : Hp) (vs : List V) (Q : VK) (E : XK), Room k (A.deeper (envOfC x (defScope st) s.heap.objs.size f cdv)) → sp vs H Q E →
      ∃ t, PSs (cxOf CX0 P w K mg base N x (defScope st) f cdv A outer s H E).nox (defBody st) t ∧ t { nx := fun _ H' => Q .non H', rt := Q } (start N vs) H) : Has P w K mg base x ps (k + 1) sp := by
  obtain ⟨f, fd, F, hm⟩ := D
  exact ⟨f, fd, F.ok S len (hbody f), hm, F.kp, F.binds hb⟩
end
/-! tests -/
section
variable {A B : Prop}
theorem iteE {i j : Int} (h1 : i = j → A) (h2 : ¬ i = j → B) : if decide (V.int i = V.int j) = true then A else B := by
  by_cases h : i = j
  · rw [if_pos (by rw [h]; simp)]; exact h1 h
  · rw [if_neg (by simp [h])]; exact h2 h
theorem iteN {i j : Int} (h1 : ¬ i = j → A) (h2 : i = j → B) : if (!decide (V.int i = V.int j)) = true then A else B := by
  by_cases h : i = j
  · rw [if_neg (by rw [h]; simp)]; exact h2 h
  · rw [if_pos (by simp [h])]; exact h1 h
theorem iteD {c : Prop} [Decidable c] (h1 : c → A) (h2 : ¬ c → B) : if decide c = true then A else B := by
  by_cases h : c
  · rw [if_pos (by simp [h])]; exact h1 h
  · rw [if_neg (by simp [h])]; exact h2 h
theorem iteB {b : Bool} (h1 : b = true → A) (h2 : b = false → B) : if b = true then A else B := by
  cases b with
  | true => rw [if_pos rfl]; exact h1 rfl
  | false => rw [if_neg (by simp)]; exact h2 rfl
theorem iteNB {b : Bool} (h1 : b = false → A) (h2 : b = true → B) : if (!b) = true then A else B := by
  cases b with
  | true => rw [if_neg (by simp)]; exact h2 rfl
  | false => rw [if_pos (by simp)]; exact h1 rfl
end
/-! promises -/
/-- the house is asked, nothing changes -/
def spRead (C : Addr) (g : State → V) : Sp := fun vs H Q _ => ∃ A s, vs = [V.ref A.p] ∧ HA C H A s ∧ ∀ v, v = g s → Q v H
/-- the same, where tuples may have been made on the way -/
def spLook (C : Addr) (pre : State → Prop) (g : State → V) : Sp := fun vs H Q _ => ∃ A s, vs = [V.ref A.p] ∧ HA C H A s ∧ pre s ∧ ∀ v H', v = g s → Same H H' → Q v H'
end Ho
end
section
set_option Elab.async false
set_option linter.all false
set_option maxRecDepth 100000
set_option maxHeartbeats 2000000
namespace Ho
open PySem PySem.Spec PyProof.Rows L2
open Vbrgak (State Body)
/-! plain facts -/
theorem nI_eq {i : Int} {n : Nat} (h : i = n) : V.int i = nI n := congrArg V.int h
theorem gone_iff (s : State) : Vbrgak.gone s = true ↔ s.body.fed = 0 ∨ s.body.hp = 0 := by
  unfold Vbrgak.gone Vbrgak.alive
  simp
theorem gone_t {s : State} (h : s.body.fed = 0 ∨ s.body.hp = 0) : Vbrgak.gone s = true := (gone_iff s).mpr h
theorem gone_f {s : State} (h : ¬ (s.body.fed = 0 ∨ s.body.hp = 0)) : Vbrgak.gone s = false := by
  cases e : Vbrgak.gone s with
  | false => rfl
  | true => exact absurd ((gone_iff s).mp e) h
theorem mood0 {f : Nat} (h : 300000 < f) : Vbrgak.mood f = 0 := by rw [HM.mood_eq, if_neg (by omega), if_neg (by omega), if_neg (by omega)]
theorem mood1 {f : Nat} (h : 100000 < f) (h2 : f ≤ 300000) : Vbrgak.mood f = 1 := by rw [HM.mood_eq, if_neg (by omega), if_neg (by omega), if_pos (by omega)]
theorem mood2 {f : Nat} (h : 0 < f) (h2 : f ≤ 100000) : Vbrgak.mood f = 2 := by rw [HM.mood_eq, if_neg (by omega), if_pos (by omega)]
theorem mood3 {f : Nat} (h : f = 0) : Vbrgak.mood f = 3 := by rw [HM.mood_eq, if_pos (by omega)]
theorem radius0 {b : Body} (h : b.lit = false) : Vbrgak.radius b = 0 := by
  unfold Vbrgak.radius
  rw [if_pos h]
theorem radius1 {b : Body} (h : b.lit = true) (h2 : b.fuel ≤ 50) : Vbrgak.radius b = 1 := by
  unfold Vbrgak.radius
  rw [if_neg (by rw [h]; simp), if_pos (show b.fuel ≤ Vbrgak.DIM from h2)]
theorem radius2 {b : Body} (h : b.lit = true) (h2 : ¬ b.fuel ≤ 50) : Vbrgak.radius b = 2 := by
  unfold Vbrgak.radius
  rw [if_neg (by rw [h]; simp), if_neg (show ¬ b.fuel ≤ Vbrgak.DIM from h2)]
section
variable {P : Program} {w : World} {K : PySem.W.Frag} {mg : Str → Option Value} {base : Heap} {C : Addr}
abbrev spGone (C : Addr) : Sp := spRead C fun s => .bl (Vbrgak.gone s)
abbrev spMood (C : Addr) : Sp := spRead C fun s => nI (Vbrgak.mood s.body.fed)
abbrev spRadius (C : Addr) : Sp := spRead C fun s => nI (Vbrgak.radius s.body)
theorem sc_is_gone : FnScope ["house"] ["house"] (defScope (top 17)) := ⟨rfl, rfl, rfl, by decide +kernel, rfl, by decide +kernel, by decide +kernel⟩
theorem ok_is_gone (D : Dfs K mg "is_gone" (top 17)) (T : Txt K mg C) : Has P w K mg base "is_gone" ["house"] 1 (spGone C) := by
  refine mkHas D sc_is_gone (fun vs H Q E h => ?_) (fun _ _ _ _ _ _ us hl => match us, hl with | [_], _ => rfl) (fun f cdv Ar outer sh H vs Q E hr h => ?_)
  · obtain ⟨A, s, rfl, _⟩ := h
    rfl
  · obtain ⟨A, s, rfl, h, k⟩ := h
    refine ⟨_, (pss_one (ps_ret (pe_or (pe_cmpR op_eq (pe_fld (pv 0) rfl) pe_int (nomark _)) (pe_one (pe_cmpR op_eq (pe_fld (pv 0) rfl) pe_int (nomark _)))))), ?_⟩
    refine ⟨_, rfl, _, _, _, _, _, rfl, h.o, T.cl, T.no _ (by decide), rfl, rfl, _, rfl, ?_⟩
    refine iteE (fun c => ?_) (fun c => ?_)
    · exact k _ (congrArg V.bl (gone_t (.inl (by omega))).symm)
    · refine ⟨_, rfl, _, _, _, _, _, rfl, h.o, T.cl, T.no _ (by decide), rfl, rfl, ?_⟩
      refine k _ (congrArg V.bl ?_)
      by_cases c2 : s.body.hp = 0
      · rw [gone_t (.inr c2), c2]; rfl
      · rw [gone_f (by omega)]
        exact decide_eq_false (fun q => by have q := V.int.inj q; omega)
theorem sc_mood_of : FnScope ["house"] ["house"] (defScope (top 18)) := ⟨rfl, rfl, rfl, by decide +kernel, rfl, by decide +kernel, by decide +kernel⟩
theorem ok_mood_of (D : Dfs K mg "mood_of" (top 18)) (T : Txt K mg C) : Has P w K mg base "mood_of" ["house"] 1 (spMood C) := by
  refine mkHas D sc_mood_of (fun vs H Q E h => ?_) (fun _ _ _ _ _ _ us hl => match us, hl with | [_], _ => rfl) (fun f cdv Ar outer sh H vs Q E hr h => ?_)
  · obtain ⟨A, s, rfl, _⟩ := h
    rfl
  · obtain ⟨A, s, rfl, h, k⟩ := h
    refine ⟨_, (pss_cons (ps_if (pt_cmpR op_gt (pe_fld (pv 0) rfl) (pe_gI rfl T.g_HUNGRY_FED) (nomark _)) (pss_one (ps_ret pe_int)) pss_nil) (pss_cons (ps_if (pt_cmpR op_gt (pe_fld (pv 0) rfl) (pe_gI rfl T.g_WEAK_FED) (nomark _)) (pss_one (ps_ret pe_int)) pss_nil) (pss_cons (ps_if (pt_cmpR op_gt (pe_fld (pv 0) rfl) pe_int (nomark _)) (pss_one (ps_ret pe_int)) pss_nil) (pss_one (ps_ret pe_int))))), ?_⟩
    refine ⟨_, rfl, _, _, _, _, _, rfl, h.o, T.cl, T.no _ (by decide), rfl, _, _, rfl, rfl, _, rfl, ?_⟩
    refine iteD (fun c => ?_) (fun c => ?_)
    · exact k _ (nI_eq (by rw [mood0 (by omega)]; rfl))
    refine ⟨_, rfl, _, _, _, _, _, rfl, h.o, T.cl, T.no _ (by decide), rfl, _, _, rfl, rfl, _, rfl, ?_⟩
    refine iteD (fun c => ?_) (fun c => ?_)
    · exact k _ (nI_eq (by rw [mood1 (by omega) (by omega)]; rfl))
    refine ⟨_, rfl, _, _, _, _, _, rfl, h.o, T.cl, T.no _ (by decide), rfl, _, _, rfl, rfl, _, rfl, ?_⟩
    refine iteD (fun c => ?_) (fun c => ?_)
    · exact k _ (nI_eq (by rw [mood2 (by omega) (by omega)]; rfl))
    · exact k _ (nI_eq (by rw [mood3 (by omega)]; rfl))
theorem sc_radius_of : FnScope ["house"] ["house"] (defScope (top 19)) := ⟨rfl, rfl, rfl, by decide +kernel, rfl, by decide +kernel, by decide +kernel⟩
theorem ok_radius_of (D : Dfs K mg "radius_of" (top 19)) (T : Txt K mg C) : Has P w K mg base "radius_of" ["house"] 1 (spRadius C) := by
  refine mkHas D sc_radius_of (fun vs H Q E h => ?_) (fun _ _ _ _ _ _ us hl => match us, hl with | [_], _ => rfl) (fun f cdv Ar outer sh H vs Q E hr h => ?_)
  · obtain ⟨A, s, rfl, _⟩ := h
    rfl
  · obtain ⟨A, s, rfl, h, k⟩ := h
    refine ⟨_, (pss_cons (ps_if (pt_not (pt_val (pe_fld (pv 0) rfl))) (pss_one (ps_ret pe_int)) pss_nil) (pss_cons (ps_if (pt_cmpR op_le (pe_fld (pv 0) rfl) pe_int (nomark _)) (pss_one (ps_ret pe_int)) pss_nil) (pss_one (ps_ret pe_int)))), ?_⟩
    refine ⟨_, rfl, _, _, _, _, _, rfl, h.o, T.cl, T.no _ (by decide), rfl, _, rfl, ?_⟩
    refine iteNB (fun c => ?_) (fun c => ?_)
    · exact k _ (nI_eq (by rw [radius0 c]; rfl))
    refine ⟨_, rfl, _, _, _, _, _, rfl, h.o, T.cl, T.no _ (by decide), rfl, _, _, rfl, rfl, _, rfl, ?_⟩
    refine iteD (fun c2 => ?_) (fun c2 => ?_)
    · exact k _ (nI_eq (by rw [radius1 c (by omega)]; rfl))
    · exact k _ (nI_eq (by rw [radius2 c (by omega)]; rfl))
/-- how one is: a new list -/
def spHow (C : Addr) : Sp := fun vs H Q _ => ∃ A s, vs = [V.ref A.p] ∧ HA C H A s ∧ ∀ q, H q = none → Q (.ref q) (upd H q (.lst ((Vbrgak.shown s.body).map V.int)))
theorem sc_how_one_is : FnScope ["house"] ["house"] (defScope (top 20)) := ⟨rfl, rfl, rfl, by decide +kernel, rfl, by decide +kernel, by decide +kernel⟩
theorem ok_how_one_is (D : Dfs K mg "how_one_is" (top 20)) (T : Txt K mg C) (h_mood_of : Has P w K mg base "mood_of" ["house"] 1 (spMood C)) (h_radius_of : Has P w K mg base "radius_of" ["house"] 1 (spRadius C)) : Has P w K mg base "how_one_is" ["house"] 2 (spHow C) := by
  refine mkHas D sc_how_one_is (fun vs H Q E h => ?_) (fun _ _ _ _ _ _ us hl => match us, hl with | [_], _ => rfl) (fun f cdv Ar outer sh H vs Q E hr h => ?_)
  · obtain ⟨A, s, rfl, _⟩ := h
    rfl
  · obtain ⟨A, s, rfl, h, k⟩ := h
    refine ⟨_, (pss_one (ps_ret (pe_lst (pa_cons (pe_op op_fdiv (pe_fld (pv 0) rfl) pe_int) (pa_cons (pe_has h_mood_of (hr.mono (by decide)) rfl (pa_cons (pv 0) pa_nil)) (pa_cons (pe_fld (pv 0) rfl) (pa_cons (pe_has h_radius_of (hr.mono (by decide)) rfl (pa_cons (pv 0) pa_nil)) (pa_cons (pe_fld (pv 0) rfl) pa_nil)))))))), ?_⟩
    refine ⟨_, rfl, _, _, _, _, _, rfl, h.o, T.cl, T.no _ (by decide), rfl, _, _, rfl, rfl, ⟨by decide, by decide⟩, ?_⟩
    refine ⟨_, rfl, A, s, rfl, h, ?_⟩
    rintro _ rfl
    refine ⟨_, rfl, _, _, _, _, _, rfl, h.o, T.cl, T.no _ (by decide), rfl, ?_⟩
    refine ⟨_, rfl, A, s, rfl, h, ?_⟩
    rintro _ rfl
    refine ⟨_, rfl, _, _, _, _, _, rfl, h.o, T.cl, T.no _ (by decide), rfl, ?_⟩
    exact ⟨(by show 5 ≤ sizeLine; decide), k⟩
end
end Ho
end
section
set_option Elab.async false
set_option linter.all false
set_option maxRecDepth 100000
set_option maxHeartbeats 2000000
namespace Ho
open PySem PySem.Spec PyProof.Rows L2
open Vbrgak (State Body)
/-! ### what holds of a house's numbers -/
structure WF (s : State) : Prop where
  lp : s.pack.length = s.weights.length
  lt : s.stock.length = s.weights.length
  lb : s.bases.length = s.weights.length
  lf : s.foods.length = s.weights.length
  ll : s.fuels.length = s.weights.length
  kk : s.weights.length ≤ 16
  pk : ∀ n ∈ s.pack, n ≤ 10000
  st : ∀ n ∈ s.stock, n ≤ 10000
  ws : ∀ n ∈ s.weights, n ≤ 1000
  bs : ∀ n ∈ s.bases, n ≤ 1000000
  mku : s.markup ≤ 400
  pa : s.pays ≤ 100
  dr : s.drain ≤ 5000
  wb : HM.WB s.body
/-! ### zip of two lists of one length -/
theorem for_zip {K : PySem.W.Frag} {a b : Addr} {xs ys : List V} {g : TG} {tb : TS} {D : Ends} {σ : L2.St} {H : Hp} (Pv : Nat → L2.St → Hp → Prop) (h0 : Pv 0 σ H) (hl : ∀ i σ H, Pv i σ H → SqL K H a xs ∧ SqL K H b ys) (len : xs.length = ys.length)
    (hs : ∀ i x y T σ H, xs[i]? = some x → ys[i]? = some y → H T = none → Pv i σ H → g (.ref T) σ (upd H T (.tup [x, y])) fun σ2 H2 => tb { D with nx := Pv (i + 1), ct := Pv (i + 1), bk := D.nx } σ2 H2) (hd : ∀ σ H, Pv xs.length σ H → D.nx σ H) :
    ∃ W : Nat → Nat → L2.St → Hp → Prop, (∃ m, W 0 m σ H) ∧ ∀ i m σ H, W i m σ H →
      ((Itz K a b).stop i H ∧ D.nx σ H) ∨ ((Itz K a b).go i H ∧ ∃ N : L2.St → Hp → Prop, (∀ σ' H', N σ' H' → ∃ m', m' < m ∧ W (i + 1) m' σ' H') ∧ ∀ x H', (Itz K a b).yld i H x H' → g x σ H' fun σ2 H2 => tb { D with nx := N, ct := N, bk := D.nx } σ2 H2) := by
  refine ⟨fun i m σ H => m = xs.length - i ∧ i ≤ xs.length ∧ Pv i σ H, ⟨xs.length, by simp, Nat.zero_le _, h0⟩, ?_⟩
  rintro i m σ H ⟨rfl, hi, p⟩
  obtain ⟨qx, qy⟩ := hl i σ H p
  by_cases hlt : i < xs.length
  · have hlt2 : i < ys.length := by omega
    refine .inr ⟨⟨xs, ys, xs[i], ys[i], qx, qy, by simp [hlt], by simp [hlt2]⟩, Pv (i + 1), fun σ' H' p' => ⟨xs.length - (i + 1), by omega, rfl, hlt, p'⟩, fun x H' y => ?_⟩
    obtain ⟨T, u, v, rfl, hT, rfl, hu, hv⟩ := y
    exact hs i u v T σ H (hu xs qx) (hv ys qy) hT p
  · have e : i = xs.length := by omega
    subst e
    exact .inl ⟨⟨xs, ys, qx, qy, .inl (Nat.le_refl _)⟩, hd σ H p⟩
theorem take_succ {α : Type} : ∀ {l : List α} {i : Nat} {x : α}, l[i]? = some x → l.take (i + 1) = l.take i ++ [x]
  | [], i, x, h => by simp at h
  | a :: l, 0, x, h => by
    have e : a = x := Option.some.inj h
    subst e
    rfl
  | a :: l, i + 1, x, h => by
    have ih := take_succ (l := l) (i := i) (x := x) h
    show a :: l.take (i + 1) = a :: l.take i ++ [x]
    rw [ih]
    rfl
theorem sum_snoc : ∀ (l : List Nat) (z : Nat), (l ++ [z]).sum = l.sum + z
  | [], z => by simp
  | a :: l, z => by
    show (a :: (l ++ [z])).sum = (a :: l).sum + z
    rw [List.sum_cons, List.sum_cons, sum_snoc l z]
    omega
theorem weightOf_succ {ws ps : List Nat} {i x y : Nat} (hx : ws[i]? = some x) (hy : ps[i]? = some y) : Vbrgak.weightOf (ws.take (i + 1)) (ps.take (i + 1)) = Vbrgak.weightOf (ws.take i) (ps.take i) + x * y := by
  obtain ⟨h1, _⟩ := List.getElem?_eq_some_iff.mp hx
  obtain ⟨h2, _⟩ := List.getElem?_eq_some_iff.mp hy
  unfold Vbrgak.weightOf
  rw [take_succ hx, take_succ hy, List.zip_append (by rw [List.length_take, List.length_take]; omega), List.map_append]
  exact sum_snoc _ _
theorem get_nL {l : List Nat} {i : Nat} {x : V} (h : (nL l)[i]? = some x) : ∃ n, l[i]? = some n ∧ x = nI n := by
  unfold nL at h
  rw [List.getElem?_map] at h
  cases e : l[i]? with
  | none =>
    rw [e] at h
    cases h
  | some n =>
    rw [e] at h
    exact ⟨n, rfl, (Option.some.inj h).symm⟩
theorem nL_len (l : List Nat) : (nL l).length = l.length := List.length_map _
theorem mul_small {a b : Int} (h0 : 0 ≤ a) (h : a ≤ 1000000000000000000) : CMul a b := .inl ⟨by omega, by omega⟩
theorem mul_small2 {a b : Int} (h0 : 0 ≤ b) (h : b ≤ 1000000000000000000) : CMul a b := .inr ⟨by omega, by omega⟩
theorem same_upd {H H' : Hp} {q : Addr} {o : HO} (e : Same H H') (hq : H' q = none) : Same H (upd H' q o) := fun b u h => by
  rw [upd_ne (ne_of_none (e b u h) hq)]
  exact e b u h
section
variable {P : Program} {w : World} {K : PySem.W.Frag} {mg : Str → Option Value} {base : Heap} {C : Addr}
abbrev spPackW (C : Addr) : Sp := spLook C WF fun s => nI (Vbrgak.weightOf s.weights s.pack)
abbrev spWeight (C : Addr) : Sp := spLook C WF fun s => nI (Vbrgak.weight s)
abbrev spLoad (C : Addr) : Sp := spLook C WF fun s => nI (Vbrgak.loadOf s)
abbrev spRate (C : Addr) : Sp := spLook C WF fun s => nI (Vbrgak.rate s)
theorem sc_pack_weight : FnScope ["house", "total", "count", "weight"] ["house"] (defScope (top 21)) := ⟨rfl, rfl, rfl, by decide +kernel, rfl, by decide +kernel, by decide +kernel⟩
theorem ok_pack_weight (D : Dfs K mg "pack_weight" (top 21)) (T : Txt K mg C) : Has P w K mg base "pack_weight" ["house"] 1 (spPackW C) := by
  refine mkHas D sc_pack_weight (fun vs H Q E h => ?_) (fun _ _ _ _ _ _ us hl => match us, hl with | [_], _ => rfl) (fun f cdv Ar outer sh H vs Q E hr h => ?_)
  · obtain ⟨A, s, rfl, _⟩ := h
    rfl
  · obtain ⟨A, s, rfl, h, wf, k⟩ := h
    refine ⟨_, (pss_cons (ps_set (i := 1) sc_pack_weight.nd rfl (Or.inl rfl) pe_int) (pss_cons (ps_for PassesOwn.never rfl (pi_zip rfl T.n_zip (pa_cons (pe_fld (pv 0) rfl) (pa_cons (pe_fld (pv 0) rfl) pa_nil))) (pg_tup rfl (pgs_cons (pg_name (i := 2) sc_pack_weight.nd rfl (Or.inl rfl)) (pgs_cons (pg_name (i := 3) sc_pack_weight.nd rfl (Or.inl rfl)) pgs_nil))) (pss_one (ps_aug (i := 1) sc_pack_weight.nd rfl (Or.inl rfl) (pe_op op_mul (pv 2) (pv 3)) ip_add))) (pss_one (ps_ret (pv 1))))), ?_⟩
    refine ⟨_, rfl, _, _, _, _, _, rfl, h.o, T.cl, T.no _ (by decide), rfl, _, rfl, _, _, _, _, _, rfl, h.o, T.cl, T.no _ (by decide), rfl, A.ap, A.aw, _, _, rfl, SqL.of h.k, SqL.of h.w, ?_⟩
    refine for_zip (K := K) (a := A.ap) (b := A.aw) (xs := nL s.pack) (ys := nL s.weights) (fun i σ H' => ∃ v2 v3 : Option V, σ = [some (.ref A.p), some (nI (Vbrgak.weightOf (s.weights.take i) (s.pack.take i))), v2, v3] ∧ Same H H')
      ⟨none, none, rfl, Same.refl H⟩ (fun i σ H' ⟨_, _, _, e⟩ => ⟨SqL.of (e _ _ h.k), SqL.of (e _ _ h.w)⟩) (by rw [nL_len, nL_len]; exact wf.lp) ?_ ?_
    · rintro i x y t σ H' hx hy ht ⟨v2, v3, rfl, e⟩
      obtain ⟨n, hn, rfl⟩ := get_nL hx
      obtain ⟨m, hm, rfl⟩ := get_nL hy
      refine ⟨t, _, rfl, SqT.of upd_same, rfl, _, _, rfl, _, _, rfl, rfl, ?_⟩
      have bn := wf.pk n (List.mem_of_getElem? hn)
      refine ⟨_, rfl, _, rfl, _, rfl, _, _, rfl, rfl, mul_small (by omega) (by omega), _, _, rfl, rfl, ?_⟩
      refine ⟨some (nI n), some (nI m), ?_, same_upd e ht⟩
      have q := weightOf_succ hm hn
      rw [Nat.mul_comm] at q
      rw [show nI (Vbrgak.weightOf (s.weights.take (i + 1)) (s.pack.take (i + 1))) = V.int ((Vbrgak.weightOf (s.weights.take i) (s.pack.take i) : Int) + n * m) from congrArg V.int (by rw [q]; exact Int.natCast_add _ _)]
      rfl
    · rintro σ H' ⟨v2, v3, rfl, e⟩
      refine ⟨_, rfl, ?_⟩
      refine k _ _ ?_ e
      rw [nL_len, List.take_length, wf.lp, List.take_length]
def spCoinsW : Sp := fun vs H Q _ => ∃ n : Int, vs = [V.int n] ∧ ∀ v, v = V.int (n / 100) → Q v H
theorem div_cast (n m : Nat) : ((n : Int) / (m : Int)) = ((n / m : Nat) : Int) := (Int.natCast_ediv n m).symm
theorem sc_coins_weight : FnScope ["coins"] ["coins"] (defScope (top 22)) := ⟨rfl, rfl, rfl, by decide +kernel, rfl, by decide +kernel, by decide +kernel⟩
theorem ok_coins_weight (D : Dfs K mg "coins_weight" (top 22)) (T : Txt K mg C) : Has P w K mg base "coins_weight" ["coins"] 1 (spCoinsW) := by
  refine mkHas D sc_coins_weight (fun vs H Q E h => ?_) (fun _ _ _ _ _ _ us hl => match us, hl with | [_], _ => rfl) (fun f cdv Ar outer sh H vs Q E hr h => ?_)
  · obtain ⟨n, rfl, _⟩ := h
    rfl
  · obtain ⟨n, rfl, k⟩ := h
    refine ⟨_, (pss_one (ps_ret (pe_op op_fdiv (pv 0) pe_int))), ?_⟩
    refine ⟨_, rfl, _, _, rfl, rfl, ⟨by decide, by decide⟩, ?_⟩
    exact k _ rfl
theorem sc_weight_of : FnScope ["house"] ["house"] (defScope (top 23)) := ⟨rfl, rfl, rfl, by decide +kernel, rfl, by decide +kernel, by decide +kernel⟩
theorem ok_weight_of (D : Dfs K mg "weight_of" (top 23)) (T : Txt K mg C) (h_pack_weight : Has P w K mg base "pack_weight" ["house"] 1 (spPackW C)) (h_coins_weight : Has P w K mg base "coins_weight" ["coins"] 1 spCoinsW) : Has P w K mg base "weight_of" ["house"] 2 (spWeight C) := by
  refine mkHas D sc_weight_of (fun vs H Q E h => ?_) (fun _ _ _ _ _ _ us hl => match us, hl with | [_], _ => rfl) (fun f cdv Ar outer sh H vs Q E hr h => ?_)
  · obtain ⟨A, s, rfl, _⟩ := h
    rfl
  · obtain ⟨A, s, rfl, h, wf, k⟩ := h
    refine ⟨_, (pss_one (ps_ret (pe_op op_add (pe_has h_pack_weight (hr.mono (by decide)) rfl (pa_cons (pv 0) pa_nil)) (pe_has h_coins_weight (hr.mono (by decide)) rfl (pa_cons (pe_fld (pv 0) rfl) pa_nil))))), ?_⟩
    refine ⟨_, rfl, A, s, rfl, h, wf, ?_⟩
    rintro _ H1 rfl e1
    have h1 := h.same e1
    refine ⟨_, rfl, _, _, _, _, _, rfl, h1.o, T.cl, T.no _ (by decide), rfl, _, rfl, ?_⟩
    rintro _ rfl
    refine ⟨_, _, rfl, rfl, ?_⟩
    exact k _ _ (nI_eq (by unfold Vbrgak.weight; rw [Int.natCast_add]; exact congrArg _ (div_cast s.coins 100))) e1
/-- too much, by a weight handed in -/
def spTooMuch (C : Addr) : Sp := fun vs H Q _ => ∃ A s, ∃ n : Nat, vs = [V.ref A.p, nI n] ∧ HA C H A s ∧ ∀ v, v = V.bl (decide (3 * s.capacity < 2 * n)) → Q v H
theorem sc_is_too_much : FnScope ["house", "weight"] ["house", "weight"] (defScope (top 24)) := ⟨rfl, rfl, rfl, by decide +kernel, rfl, by decide +kernel, by decide +kernel⟩
theorem ok_is_too_much (D : Dfs K mg "is_too_much" (top 24)) (T : Txt K mg C) : Has P w K mg base "is_too_much" ["house", "weight"] 1 (spTooMuch C) := by
  refine mkHas D sc_is_too_much (fun vs H Q E h => ?_) (fun _ _ _ _ _ _ us hl => match us, hl with | [_, _], _ => rfl) (fun f cdv Ar outer sh H vs Q E hr h => ?_)
  · obtain ⟨A, s, n, rfl, _⟩ := h
    rfl
  · obtain ⟨A, s, n, rfl, h, k⟩ := h
    refine ⟨_, (pss_one (ps_ret (pe_cmpR op_gt (pe_op op_mul pe_int (pv 1)) (pe_op op_mul pe_int (pe_fld (pv 0) rfl)) (nomark _)))), ?_⟩
    refine ⟨_, rfl, _, _, rfl, rfl, mul_small (by omega) (by omega), _, rfl, _, _, _, _, _, rfl, h.o, T.cl, T.no _ (by decide), rfl, _, _, rfl, rfl, mul_small (by omega) (by omega), _, _, rfl, rfl, ?_⟩
    refine k _ (congrArg V.bl ?_)
    refine decide_eq_decide.mpr ?_
    omega
theorem load_eq (c w : Nat) : Vbrgak.load c w = (if c * 2 < 4 * w then 1 else 0) + (if c * 3 < 4 * w then 1 else 0) + (if c * 4 < 4 * w then 1 else 0) + (if c * 5 < 4 * w then 1 else 0) := by
  unfold Vbrgak.load
  show (([0, 1, 2, 3] : List Nat).filter fun i => decide (c * (i + 2) < 4 * w)).length = _
  by_cases h1 : c * 2 < 4 * w <;> by_cases h2 : c * 3 < 4 * w <;> by_cases h3 : c * 4 < 4 * w <;> by_cases h4 : c * 5 < 4 * w <;> simp [List.filter, h1, h2, h3, h4]
def steps (c w : Nat) : Nat → Nat
  | 0 => 0
  | i + 1 => steps c w i + if c * (i + 2) < 4 * w then 1 else 0
theorem steps4 (c w : Nat) : steps c w 4 = Vbrgak.load c w := by
  have e : steps c w 4 = 0 + (if c * 2 < 4 * w then 1 else 0) + (if c * 3 < 4 * w then 1 else 0) + (if c * 4 < 4 * w then 1 else 0) + (if c * 5 < 4 * w then 1 else 0) := rfl
  rw [load_eq, e]
  omega
theorem sc_load_of : FnScope ["house", "fourfold", "load", "quarters"] ["house"] (defScope (top 25)) := ⟨rfl, rfl, rfl, by decide +kernel, rfl, by decide +kernel, by decide +kernel⟩
theorem ok_load_of (D : Dfs K mg "load_of" (top 25)) (T : Txt K mg C) (h_weight_of : Has P w K mg base "weight_of" ["house"] 2 (spWeight C)) : Has P w K mg base "load_of" ["house"] 3 (spLoad C) := by
  refine mkHas D sc_load_of (fun vs H Q E h => ?_) (fun _ _ _ _ _ _ us hl => match us, hl with | [_], _ => rfl) (fun f cdv Ar outer sh H vs Q E hr h => ?_)
  · obtain ⟨A, s, rfl, _⟩ := h
    rfl
  · obtain ⟨A, s, rfl, h, wf, k⟩ := h
    refine ⟨_, (pss_cons (ps_set (i := 1) sc_load_of.nd rfl (Or.inl rfl) (pe_op op_mul pe_int (pe_has h_weight_of (hr.mono (by decide)) rfl (pa_cons (pv 0) pa_nil)))) (pss_cons (ps_set (i := 2) sc_load_of.nd rfl (Or.inl rfl) pe_int) (pss_cons (ps_for PassesOwn.never rfl (pi_tup (pe_tup (pa_cons pe_int (pa_cons pe_int (pa_cons pe_int (pa_cons pe_int pa_nil)))))) (pg_name (i := 3) sc_load_of.nd rfl (Or.inl rfl)) (pss_one (ps_if (pt_cmpR op_gt (pv 1) (pe_op op_mul (pv 3) (pe_fld (pv 0) rfl)) (nomark _)) (pss_one (ps_aug (i := 2) sc_load_of.nd rfl (Or.inl rfl) pe_int ip_add)) pss_nil))) (pss_one (ps_ret (pv 2)))))), ?_⟩
    refine ⟨_, rfl, A, s, rfl, h, wf, ?_⟩
    rintro _ H1 rfl e1
    have h1 := h.same e1
    refine ⟨_, _, rfl, rfl, mul_small (by omega) (by omega), ?_⟩
    refine ⟨(by show 4 ≤ sizeLine; decide), fun t ht => ?_⟩
    have e2 : Same H (upd H1 t (.tup [.int 2, .int 3, .int 4, .int 5])) := same_upd e1 ht
    refine ⟨t, rfl, ⟨_, SqT.of upd_same⟩, ?_⟩
    refine for_tup (K := K) (a := t) (xs := [.int 2, .int 3, .int 4, .int 5]) (fun i σ H' => ∃ v3 : Option V, σ = [some (.ref A.p), some (.int (4 * (Vbrgak.weight s : Int))), some (nI (steps s.capacity (Vbrgak.weight s) i)), v3] ∧ Same H H' ∧ H' t = some (.tup [.int 2, .int 3, .int 4, .int 5]))
      ⟨none, rfl, e2, upd_same⟩ (fun i σ H' _ ⟨_, _, _, q⟩ => SqT.of q) ?_ ?_
    · rintro i x σ H' hi ⟨v3, rfl, e, q⟩
      obtain ⟨rfl, hi4⟩ : x = .int ((i : Int) + 2) ∧ i < 4 := by
        match i, hi with
        | 0, hi => exact ⟨(Option.some.inj hi).symm, by omega⟩
        | 1, hi => exact ⟨(Option.some.inj hi).symm, by omega⟩
        | 2, hi => exact ⟨(Option.some.inj hi).symm, by omega⟩
        | 3, hi => exact ⟨(Option.some.inj hi).symm, by omega⟩
        | n + 4, hi => simp at hi
      have h2 := h.same e
      refine ⟨_, rfl, _, rfl, _, rfl, _, _, _, _, _, rfl, h2.o, T.cl, T.no _ (by decide), rfl, _, _, rfl, rfl, mul_small (by omega) (by omega), _, _, rfl, rfl, _, rfl, ?_⟩
      have ec : ((i : Int) + 2) * (s.capacity : Int) = ((s.capacity * (i + 2) : Nat) : Int) := by rw [Int.natCast_mul, Int.mul_comm]; rfl
      refine iteD (fun c => ?_) (fun c => ?_)
      · refine ⟨_, rfl, _, _, rfl, rfl, ?_⟩
        refine ⟨some (.int ((i : Int) + 2)), ?_, e, q⟩
        rw [ec] at c
        have g : s.capacity * (i + 2) < 4 * Vbrgak.weight s := by omega
        rw [show nI (steps s.capacity (Vbrgak.weight s) (i + 1)) = V.int ((steps s.capacity (Vbrgak.weight s) i : Int) + 1) from congrArg V.int (by simp only [steps]; rw [if_pos g]; rfl)]
        rfl
      · refine ⟨some (.int ((i : Int) + 2)), ?_, e, q⟩
        rw [ec] at c
        have g : ¬ s.capacity * (i + 2) < 4 * Vbrgak.weight s := by omega
        rw [show nI (steps s.capacity (Vbrgak.weight s) (i + 1)) = nI (steps s.capacity (Vbrgak.weight s) i) from congrArg nI (by simp only [steps]; rw [if_neg g]; rfl)]
        rfl
    · rintro σ H' ⟨v3, rfl, e, q⟩
      refine ⟨_, rfl, ?_⟩
      exact k _ _ (congrArg nI (steps4 _ _)) e
theorem load_le (c w : Nat) : Vbrgak.load c w ≤ 4 := by
  rw [load_eq]
  split <;> split <;> split <;> split <;> omega
theorem rate_le {s : State} (wf : WF s) : 1000 ≤ Vbrgak.rate s ∧ Vbrgak.rate s ≤ 7000 := by
  have a := load_le s.capacity (Vbrgak.weight s)
  have b := wf.dr
  unfold Vbrgak.rate Vbrgak.loadOf
  omega
theorem sc_rate_of : FnScope ["house"] ["house"] (defScope (top 26)) := ⟨rfl, rfl, rfl, by decide +kernel, rfl, by decide +kernel, by decide +kernel⟩
theorem ok_rate_of (D : Dfs K mg "rate_of" (top 26)) (T : Txt K mg C) (h_load_of : Has P w K mg base "load_of" ["house"] 3 (spLoad C)) : Has P w K mg base "rate_of" ["house"] 4 (spRate C) := by
  refine mkHas D sc_rate_of (fun vs H Q E h => ?_) (fun _ _ _ _ _ _ us hl => match us, hl with | [_], _ => rfl) (fun f cdv Ar outer sh H vs Q E hr h => ?_)
  · obtain ⟨A, s, rfl, _⟩ := h
    rfl
  · obtain ⟨A, s, rfl, h, wf, k⟩ := h
    refine ⟨_, (pss_one (ps_ret (pe_op op_add (pe_op op_add pe_int (pe_op op_mul pe_int (pe_has h_load_of (hr.mono (by decide)) rfl (pa_cons (pv 0) pa_nil)))) (pe_fld (pv 0) rfl)))), ?_⟩
    refine ⟨_, rfl, A, s, rfl, h, wf, ?_⟩
    rintro _ H1 rfl e1
    have h1 := h.same e1
    refine ⟨_, _, rfl, rfl, mul_small (by omega) (by omega), _, _, rfl, rfl, _, rfl, _, _, _, _, _, rfl, h1.o, T.cl, T.no _ (by decide), rfl, _, _, rfl, rfl, ?_⟩
    exact k _ _ (nI_eq (by unfold Vbrgak.rate; omega)) e1
end
end Ho
end
section
set_option Elab.async false
set_option linter.all false
set_option maxRecDepth 100000
set_option maxHeartbeats 2000000
namespace Ho
open PySem PySem.Spec PyProof.Rows L2
open Vbrgak (State Body)
/-! ### frames -/
def Fx (F : List Addr) (H H' : Hp) : Prop := ∀ b o, H b = some o → b ∉ F → H' b = some o
theorem Fx.refl (F : List Addr) (H : Hp) : Fx F H H := fun _ _ h _ => h
theorem Fx.trans {F : List Addr} {H H1 H2 : Hp} (a : Fx F H H1) (b : Fx F H1 H2) : Fx F H H2 := fun c o h n => b c o (a c o h n) n
theorem Fx.of {F : List Addr} {H H' : Hp} (e : Same H H') : Fx F H H' := fun b o h _ => e b o h
theorem Fx.upd {F : List Addr} {H : Hp} {a : Addr} {o : HO} (h : a ∈ F) : Fx F H (L2.upd H a o) := fun b u e n => by
  rw [upd_ne (fun q : b = a => n (by rw [q]; exact h))]
  exact e
theorem Fx.new {F : List Addr} {H : Hp} {a : Addr} {o : HO} (h : H a = none) : Fx F H (L2.upd H a o) := fun b u e _ => by
  rw [upd_ne (ne_of_none e h)]
  exact e
theorem Fx.mono {F G : List Addr} {H H' : Hp} (a : Fx F H H') (s : ∀ b ∈ F, b ∈ G) : Fx G H H' := fun b o h n => a b o h fun q => n (s b q)
def foot (A : Ad) : List Addr := [A.p, A.ap, A.at_]
/-! ### fields written -/
def sB (s : State) (b : Body) : State := { s with body := b }
def sClock (s : State) (n : Nat) : State := { s with clock := n }
def sDrain (s : State) (n : Nat) : State := { s with drain := n }
def sCoins (s : State) (n : Nat) : State := { s with coins := n }
def sTill (s : State) (n : Nat) : State := { s with till := n }
def sCap (s : State) (n : Nat) : State := { s with capacity := n }
def sMarkup (s : State) (n : Nat) : State := { s with markup := n }
def sPays (s : State) (n : Nat) : State := { s with pays := n }
def sRegen (s : State) (n : Nat) : State := { s with regen := n }
def sOpened (s : State) (b : Bool) : State := { s with opened := b }
def sPack (s : State) (l : List Nat) : State := { s with pack := l }
def sStock (s : State) (l : List Nat) : State := { s with stock := l }
section
variable {C : Addr} {H : Hp} {A : Ad} {s : State} {b : Body} {z : Int} {n : Nat}
theorem HA.p_healed (h : HA C H A (sB s b)) (e : z = n) : HA C (upd H A.p (.ins C A.dx (putF "healed" (V.int z) (hf A (sB s b))))) A (sB s { b with heal := n }) :=
  h.put (by subst e; rfl) rfl rfl rfl rfl rfl rfl
theorem HA.p_hits (h : HA C H A (sB s b)) (e : z = n) : HA C (upd H A.p (.ins C A.dx (putF "hits" (V.int z) (hf A (sB s b))))) A (sB s { b with hp := n }) :=
  h.put (by subst e; rfl) rfl rfl rfl rfl rfl rfl
theorem HA.p_fed (h : HA C H A (sB s b)) (e : z = n) : HA C (upd H A.p (.ins C A.dx (putF "fed" (V.int z) (hf A (sB s b))))) A (sB s { b with fed := n }) :=
  h.put (by subst e; rfl) rfl rfl rfl rfl rfl rfl
theorem HA.p_fuel (h : HA C H A (sB s b)) (e : z = n) : HA C (upd H A.p (.ins C A.dx (putF "fuel" (V.int z) (hf A (sB s b))))) A (sB s { b with fuel := n }) :=
  h.put (by subst e; rfl) rfl rfl rfl rfl rfl rfl
theorem HA.p_most_hits (h : HA C H A (sB s b)) (e : z = n) : HA C (upd H A.p (.ins C A.dx (putF "most_hits" (V.int z) (hf A (sB s b))))) A (sB s { b with most := n }) :=
  h.put (by subst e; rfl) rfl rfl rfl rfl rfl rfl
theorem HA.p_lit {v : Bool} (h : HA C H A (sB s b)) : HA C (upd H A.p (.ins C A.dx (putF "lit" (V.bl v) (hf A (sB s b))))) A (sB s { b with lit := v }) :=
  h.put rfl rfl rfl rfl rfl rfl rfl
theorem HA.p_clock (h : HA C H A s) (e : z = n) : HA C (upd H A.p (.ins C A.dx (putF "clock" (V.int z) (hf A s)))) A (sClock s n) :=
  h.put (by subst e; rfl) rfl rfl rfl rfl rfl rfl
theorem HA.p_drain (h : HA C H A s) (e : z = n) : HA C (upd H A.p (.ins C A.dx (putF "drain" (V.int z) (hf A s)))) A (sDrain s n) :=
  h.put (by subst e; rfl) rfl rfl rfl rfl rfl rfl
theorem HA.p_coins (h : HA C H A s) (e : z = n) : HA C (upd H A.p (.ins C A.dx (putF "coins" (V.int z) (hf A s)))) A (sCoins s n) :=
  h.put (by subst e; rfl) rfl rfl rfl rfl rfl rfl
theorem HA.p_shop_coins (h : HA C H A s) (e : z = n) : HA C (upd H A.p (.ins C A.dx (putF "shop_coins" (V.int z) (hf A s)))) A (sTill s n) :=
  h.put (by subst e; rfl) rfl rfl rfl rfl rfl rfl
theorem HA.p_capacity (h : HA C H A s) (e : z = n) : HA C (upd H A.p (.ins C A.dx (putF "capacity" (V.int z) (hf A s)))) A (sCap s n) :=
  h.put (by subst e; rfl) rfl rfl rfl rfl rfl rfl
theorem HA.p_markup (h : HA C H A s) (e : z = n) : HA C (upd H A.p (.ins C A.dx (putF "markup" (V.int z) (hf A s)))) A (sMarkup s n) :=
  h.put (by subst e; rfl) rfl rfl rfl rfl rfl rfl
theorem HA.p_pays (h : HA C H A s) (e : z = n) : HA C (upd H A.p (.ins C A.dx (putF "pays" (V.int z) (hf A s)))) A (sPays s n) :=
  h.put (by subst e; rfl) rfl rfl rfl rfl rfl rfl
theorem HA.p_regen (h : HA C H A s) (e : z = n) : HA C (upd H A.p (.ins C A.dx (putF "regen" (V.int z) (hf A s)))) A (sRegen s n) :=
  h.put (by subst e; rfl) rfl rfl rfl rfl rfl rfl
theorem HA.p_opened {v : Bool} (h : HA C H A s) : HA C (upd H A.p (.ins C A.dx (putF "opened" (V.bl v) (hf A s)))) A (sOpened s v) :=
  h.put rfl rfl rfl rfl rfl rfl rfl
end
section
variable {P : Program} {w : World} {K : PySem.W.Frag} {mg : Str → Option Value} {base : Heap} {C : Addr}
abbrev spHealing (C : Addr) : Sp := spRead C fun s => nI (Vbrgak.healing s.regen s.body.fed)
theorem healing0 {r f : Nat} (h : Vbrgak.mood f = 0) : Vbrgak.healing r f = r := by
  unfold Vbrgak.healing
  rw [if_pos h]
theorem healing1 {r f : Nat} (h : Vbrgak.mood f = 1) : Vbrgak.healing r f = r / 2 := by
  unfold Vbrgak.healing
  rw [if_neg (by omega), if_pos h]
theorem healing2 {r f : Nat} (h : ¬ Vbrgak.mood f = 0) (h2 : ¬ Vbrgak.mood f = 1) : Vbrgak.healing r f = 0 := by
  unfold Vbrgak.healing
  rw [if_neg h, if_neg h2]
theorem sc_healing_of : FnScope ["house", "mood"] ["house"] (defScope (top 52)) := ⟨rfl, rfl, rfl, by decide +kernel, rfl, by decide +kernel, by decide +kernel⟩
theorem ok_healing_of (D : Dfs K mg "healing_of" (top 52)) (T : Txt K mg C) (h_mood_of : Has P w K mg base "mood_of" ["house"] 1 (spMood C)) : Has P w K mg base "healing_of" ["house"] 2 (spHealing C) := by
  refine mkHas D sc_healing_of (fun vs H Q E h => ?_) (fun _ _ _ _ _ _ us hl => match us, hl with | [_], _ => rfl) (fun f cdv Ar outer sh H vs Q E hr h => ?_)
  · obtain ⟨A, s, rfl, _⟩ := h
    rfl
  · obtain ⟨A, s, rfl, h, k⟩ := h
    refine ⟨_, (pss_cons (ps_set (i := 1) sc_healing_of.nd rfl (Or.inl rfl) (pe_has h_mood_of (hr.mono (by decide)) rfl (pa_cons (pv 0) pa_nil))) (pss_cons (ps_if (pt_cmpR op_eq (pv 1) pe_int (nomark _)) (pss_one (ps_ret (pe_fld (pv 0) rfl))) pss_nil) (pss_cons (ps_if (pt_cmpR op_eq (pv 1) pe_int (nomark _)) (pss_one (ps_ret (pe_op op_fdiv (pe_fld (pv 0) rfl) pe_int))) pss_nil) (pss_one (ps_ret pe_int))))), ?_⟩
    refine ⟨_, rfl, A, s, rfl, h, ?_⟩
    rintro _ rfl
    refine ⟨_, rfl, rfl, _, rfl, ?_⟩
    refine iteE (fun c => ?_) (fun c => ?_)
    · refine ⟨_, rfl, _, _, _, _, _, rfl, h.o, T.cl, T.no _ (by decide), rfl, ?_⟩
      exact k _ (congrArg nI (healing0 (by omega)).symm)
    refine ⟨_, rfl, rfl, _, rfl, ?_⟩
    refine iteE (fun c2 => ?_) (fun c2 => ?_)
    · refine ⟨_, rfl, _, _, _, _, _, rfl, h.o, T.cl, T.no _ (by decide), rfl, _, _, rfl, rfl, ⟨by decide, by decide⟩, ?_⟩
      exact k _ (nI_eq (by rw [healing1 (by omega)]; exact div_cast _ 2))
    · exact k _ (nI_eq (by rw [healing2 (by omega) (by omega)]; rfl))
/-- something happens to the body: no more than the record is written -/
def spBody (C : Addr) (pre : State → Prop) (g : State → Body) : Sp := fun vs H Q _ => ∃ A s, vs = [V.ref A.p] ∧ HA C H A s ∧ pre s ∧ ∀ H', HA C H' A (sB s (g s)) → Fx [A.p] H H' → Q .non H'
def healed (b : Body) (h : Nat) : Body := { b with hp := HM.hHp b.hp b.most h, heal := HM.hHl b.hp b.most h }
abbrev spHeal (C : Addr) : Sp := spBody C (fun s => HM.WB s.body) fun s => healed s.body (s.body.heal + Vbrgak.healing s.regen s.body.fed)
theorem sc_heal : FnScope ["house"] ["house"] (defScope (top 53)) := ⟨rfl, rfl, rfl, by decide +kernel, rfl, by decide +kernel, by decide +kernel⟩
theorem ok_heal (D : Dfs K mg "heal" (top 53)) (T : Txt K mg C) (h_healing_of : Has P w K mg base "healing_of" ["house"] 2 (spHealing C)) : Has P w K mg base "heal" ["house"] 3 (spHeal C) := by
  refine mkHas D sc_heal (fun vs H Q E h => ?_) (fun _ _ _ _ _ _ us hl => match us, hl with | [_], _ => rfl) (fun f cdv Ar outer sh H vs Q E hr h => ?_)
  · obtain ⟨A, s, rfl, _⟩ := h
    rfl
  · obtain ⟨A, s, rfl, h, wb, k⟩ := h
    refine ⟨_, (pss_cons (ps_fldaug (pv 0) (pe_has h_healing_of (hr.mono (by decide)) rfl (pa_cons (pv 0) pa_nil)) in_add) (pss_cons (ps_while PassesOwn.never (PW.pt (pw_and (pt_cmpR op_ge (pe_fld (pv 0) rfl) pe_int (nomark _)) (pw_and1 (pt_cmpR op_lt (pe_fld (pv 0) rfl) (pe_fld (pv 0) rfl) (nomark _))))) (pss_cons (ps_fldaug (pv 0) pe_int in_sub) (pss_one (ps_fldaug (pv 0) pe_int in_add)))) (pss_one (ps_if (pt_cmpR op_eq (pe_fld (pv 0) rfl) (pe_fld (pv 0) rfl) (nomark _)) (pss_one (ps_fld (pv 0) pe_int rfl)) pss_nil)))), ?_⟩
    refine ⟨_, rfl, _, _, _, _, _, rfl, h.o, T.cl, T.no _ (by decide), rfl, _, rfl, A, s, rfl, h, ?_⟩
    rintro _ rfl
    refine ⟨_, _, rfl, rfl, _, _, h.o, (by show 21 < 1000; decide), ?_⟩
    have h1 := HA.p_healed (s := s) (b := s.body) (n := s.body.heal + Vbrgak.healing s.regen s.body.fed) h (Int.natCast_add _ _).symm
    have k : ∀ H', HA C H' A (sB s (healed s.body (s.body.heal + Vbrgak.healing s.regen s.body.fed))) → Fx [A.p] H H' → Q .non H' := k
    generalize hx : s.body.heal + Vbrgak.healing s.regen s.body.fed = x at h1 k
    have hp0 := wb.hp
    refine ⟨fun m σ H' => ∃ j, m = x / 1000 - j ∧ j ≤ x / 1000 ∧ j ≤ s.body.most - s.body.hp ∧ σ = [some (.ref A.p)] ∧ HA C H' A (sB s { s.body with hp := s.body.hp + j, heal := x - 1000 * j }) ∧ Fx [A.p] H H', ⟨_, 0, rfl, Nat.zero_le _, Nat.zero_le _, rfl, h1, Fx.upd (by simp)⟩, ?_⟩
    rintro m σ H' ⟨j, rfl, j1, j2, rfl, h2, f2⟩
    refine ⟨_, rfl, _, _, _, _, _, rfl, h2.o, T.cl, T.no _ (by decide), rfl, _, _, rfl, rfl, _, rfl, ?_⟩
    have dm : 1000 * (x / 1000) ≤ x := Nat.mul_div_le x 1000
    have jx : 1000 * j ≤ x := by omega
    have key : ∀ H3 : Hp, HA C H3 A (sB s { s.body with hp := s.body.hp + j, heal := x - 1000 * j }) → Fx [A.p] H H3 → (x - 1000 * j < 1000 ∨ s.body.hp + j = s.body.most) →
        tIfS (tTest (tOp rEq (tFld K (tVar 0) "hits") (tFld K (tVar 0) "most_hits"))) (sFld K (tVar 0) (tC (.int 0)) "healed") tNext { nx := fun _ H' => Q .non H', rt := Q } [some (.ref A.p)] H3 := by
      intro H3 h3 f3 hc
      refine ⟨_, rfl, _, _, _, _, _, rfl, h3.o, T.cl, T.no _ (by decide), rfl, _, rfl, _, _, _, _, _, rfl, h3.o, T.cl, T.no _ (by decide), rfl, rfl, _, rfl, ?_⟩
      have em : min (x / 1000) (s.body.most - s.body.hp) = j := by omega
      have e1 : HM.hHp s.body.hp s.body.most x = s.body.hp + j := by unfold HM.hHp; rw [em]
      refine iteE (fun c => ?_) (fun c => ?_)
      · have c : ((s.body.hp + j : Nat) : Int) = (s.body.most : Int) := c
        refine ⟨_, rfl, _, _, _, _, rfl, h3.o, T.cl, T.no _ (by decide), (by show 21 < 1000; decide), ?_⟩
        have h4 := h3.p_healed (n := 0) rfl
        refine k _ ?_ (f3.trans (Fx.upd (by simp)))
        have e2 : HM.hHl s.body.hp s.body.most x = 0 := by unfold HM.hHl; rw [em, if_pos (by omega)]
        show HA C _ A (sB s { s.body with hp := HM.hHp s.body.hp s.body.most x, heal := HM.hHl s.body.hp s.body.most x })
        rw [e1, e2]
        exact h4
      · have c : ¬ ((s.body.hp + j : Nat) : Int) = (s.body.most : Int) := c
        refine k _ ?_ f3
        have e2 : HM.hHl s.body.hp s.body.most x = x - 1000 * j := by unfold HM.hHl; rw [em, if_neg (by omega)]; omega
        show HA C _ A (sB s { s.body with hp := HM.hHp s.body.hp s.body.most x, heal := HM.hHl s.body.hp s.body.most x })
        rw [e1, e2]
        exact h3
    refine iteD (fun c => ?_) (fun c => ?_)
    · have c : (1000 : Int) ≤ ((x - 1000 * j : Nat) : Int) := c
      refine ⟨_, rfl, _, _, _, _, _, rfl, h2.o, T.cl, T.no _ (by decide), rfl, _, rfl, _, _, _, _, _, rfl, h2.o, T.cl, T.no _ (by decide), rfl, _, _, rfl, rfl, _, rfl, ?_⟩
      refine iteD (fun c2 => ?_) (fun c2 => ?_)
      · have c2 : ((s.body.hp + j : Nat) : Int) < (s.body.most : Int) := c2
        refine ⟨_, fun _ _ h => h, ?_⟩
        refine ⟨_, rfl, _, _, _, _, _, rfl, h2.o, T.cl, T.no _ (by decide), rfl, _, _, rfl, rfl, _, _, h2.o, (by show 21 < 1000; decide), ?_⟩
        have h3 := h2.p_healed (n := x - 1000 * (j + 1)) (show ((x - 1000 * j : Nat) : Int) - 1000 = _ by omega)
        refine ⟨_, rfl, _, _, _, _, _, rfl, h3.o, T.cl, T.no _ (by decide), rfl, _, _, rfl, rfl, _, _, h3.o, (by show 21 < 1000; decide), ?_⟩
        have h4 := h3.p_hits (n := s.body.hp + (j + 1)) (show ((s.body.hp + j : Nat) : Int) + 1 = _ by omega)
        exact ⟨x / 1000 - (j + 1), by omega, j + 1, rfl, by omega, by omega, rfl, h4, (f2.trans (Fx.upd (by simp))).trans (Fx.upd (by simp))⟩
      · have c2 : ¬ ((s.body.hp + j : Nat) : Int) < (s.body.most : Int) := c2
        exact key _ h2 f2 (.inr (by omega))
    · have c : ¬ (1000 : Int) ≤ ((x - 1000 * j : Nat) : Int) := c
      exact iteF (key _ h2 f2 (.inl (by omega)))
end
end Ho
end
section
set_option Elab.async false
set_option linter.all false
set_option maxRecDepth 100000
set_option maxHeartbeats 2000000
namespace Ho
open PySem PySem.Spec PyProof.Rows L2
open Vbrgak (State Body)
def burned (b : Body) : Body := { b with fuel := if b.lit = true then b.fuel - 1 else b.fuel, lit := b.lit && decide (1 < b.fuel) }
theorem lived_one (d r : Nat) (b : Body) : Vbrgak.lived d r 1 b = burned { healed b (b.heal + Vbrgak.healing r b.fed) with fed := b.fed - d } := by
  refine HM.body_ext ?_ ?_ rfl ?_ rfl rfl
  · rw [HM.lived_fed, Nat.one_mul]; rfl
  · rw [HM.lived_hp, Nat.one_mul]; rfl
  · rw [HM.lived_heal, Nat.one_mul]; rfl
section
variable {P : Program} {w : World} {K : PySem.W.Frag} {mg : Str → Option Value} {base : Heap} {C : Addr}
abbrev spBurn (C : Addr) : Sp := spBody C (fun s => s.body.lit = true → 0 < s.body.fuel) fun s => burned s.body
theorem sc_burn : FnScope ["house"] ["house"] (defScope (top 54)) := ⟨rfl, rfl, rfl, by decide +kernel, rfl, by decide +kernel, by decide +kernel⟩
theorem ok_burn (D : Dfs K mg "burn" (top 54)) (T : Txt K mg C) : Has P w K mg base "burn" ["house"] 1 (spBurn C) := by
  refine mkHas D sc_burn (fun vs H Q E h => ?_) (fun _ _ _ _ _ _ us hl => match us, hl with | [_], _ => rfl) (fun f cdv Ar outer sh H vs Q E hr h => ?_)
  · obtain ⟨A, s, rfl, _⟩ := h
    rfl
  · obtain ⟨A, s, rfl, h, pre, k⟩ := h
    refine ⟨_, (pss_cons (ps_if (pt_not (pt_val (pe_fld (pv 0) rfl))) (pss_one ps_retN) pss_nil) (pss_cons (ps_fldaug (pv 0) pe_int in_sub) (pss_one (ps_if (pt_cmpR op_eq (pe_fld (pv 0) rfl) pe_int (nomark _)) (pss_one (ps_fld (pv 0) pe_bl rfl)) pss_nil)))), ?_⟩
    have k : ∀ H', HA C H' A (sB s (burned s.body)) → Fx [A.p] H H' → Q .non H' := k
    refine ⟨_, rfl, _, _, _, _, _, rfl, h.o, T.cl, T.no _ (by decide), rfl, _, rfl, ?_⟩
    refine iteNB (fun c => ?_) (fun c => ?_)
    · refine k _ ?_ (Fx.refl _ _)
      have e : burned s.body = s.body := HM.body_ext rfl rfl rfl rfl (by show (if s.body.lit = true then _ else _) = _; rw [if_neg (by rw [c]; simp)]) (by show (s.body.lit && _) = s.body.lit; rw [c]; rfl)
      rw [e]
      exact h
    have hp := pre c
    refine ⟨_, rfl, _, _, _, _, _, rfl, h.o, T.cl, T.no _ (by decide), rfl, _, _, rfl, rfl, _, _, h.o, (by show 21 < 1000; decide), ?_⟩
    have h1 := HA.p_fuel (s := s) (b := s.body) (n := s.body.fuel - 1) h (show (s.body.fuel : Int) - 1 = _ by omega)
    refine ⟨_, rfl, _, _, _, _, _, rfl, h1.o, T.cl, T.no _ (by decide), rfl, rfl, _, rfl, ?_⟩
    have e1 : (if s.body.lit = true then s.body.fuel - 1 else s.body.fuel) = s.body.fuel - 1 := if_pos c
    refine iteE (fun c2 => ?_) (fun c2 => ?_)
    · have c2 : ((s.body.fuel - 1 : Nat) : Int) = 0 := c2
      refine ⟨_, rfl, _, _, _, _, rfl, h1.o, T.cl, T.no _ (by decide), (by show 21 < 1000; decide), ?_⟩
      have h2 := h1.p_lit (v := false)
      refine k _ ?_ ((Fx.upd (by simp)).trans (Fx.upd (by simp)))
      have e : burned s.body = { s.body with fuel := s.body.fuel - 1, lit := false } := HM.body_ext rfl rfl rfl rfl e1 (by show (s.body.lit && decide (1 < s.body.fuel)) = false; rw [c, decide_eq_false (by omega)]; rfl)
      rw [e]
      exact h2
    · have c2 : ¬ ((s.body.fuel - 1 : Nat) : Int) = 0 := c2
      refine k _ ?_ (Fx.upd (by simp))
      have e : burned s.body = { s.body with fuel := s.body.fuel - 1 } := HM.body_ext rfl rfl rfl rfl e1 (by show (s.body.lit && decide (1 < s.body.fuel)) = s.body.lit; rw [c, decide_eq_true (by omega)]; rfl)
      rw [e]
      exact h1
/-- a tick at the rate d -/
def ticked (s : State) (d : Nat) : State := { s with body := Vbrgak.lived d s.regen 1 s.body, clock := s.clock + 1 }
def spTick (C : Addr) : Sp := fun vs H Q _ => ∃ A s, ∃ d : Nat, vs = [V.ref A.p, nI d] ∧ HA C H A s ∧ HM.WB s.body ∧ ∀ H', HA C H' A (ticked s d) → Fx [A.p] H H' → Q .non H'
theorem sc_tick : FnScope ["house", "rate"] ["house", "rate"] (defScope (top 55)) := ⟨rfl, rfl, rfl, by decide +kernel, rfl, by decide +kernel, by decide +kernel⟩
theorem ok_tick (D : Dfs K mg "tick" (top 55)) (T : Txt K mg C) (h_heal : Has P w K mg base "heal" ["house"] 3 (spHeal C)) (h_burn : Has P w K mg base "burn" ["house"] 1 (spBurn C)) : Has P w K mg base "tick" ["house", "rate"] 4 (spTick C) := by
  refine mkHas D sc_tick (fun vs H Q E h => ?_) (fun _ _ _ _ _ _ us hl => match us, hl with | [_, _], _ => rfl) (fun f cdv Ar outer sh H vs Q E hr h => ?_)
  · obtain ⟨A, s, d, rfl, _⟩ := h
    rfl
  · obtain ⟨A, s, d, rfl, h, wb, k⟩ := h
    refine ⟨_, (pss_cons (ps_expr (pe_has h_heal (hr.mono (by decide)) rfl (pa_cons (pv 0) pa_nil))) (pss_cons (ps_fld (pv 0) (pe_callB (call_max2 rfl) rfl T.n_max boot_max1 (pa_cons pe_int (pa_cons (pe_op op_sub (pe_fld (pv 0) rfl) (pv 1)) pa_nil))) rfl) (pss_cons (ps_expr (pe_has h_burn (hr.mono (by decide)) rfl (pa_cons (pv 0) pa_nil))) (pss_one (ps_fldaug (pv 0) pe_int in_add))))), ?_⟩
    refine ⟨_, rfl, A, s, rfl, h, wb, ?_⟩
    intro H1 h1 f1
    have h1 : HA C H1 A (sB s (healed s.body (s.body.heal + Vbrgak.healing s.regen s.body.fed))) := h1
    refine ⟨_, rfl, _, _, _, _, _, rfl, h1.o, T.cl, T.no _ (by decide), rfl, _, rfl, _, _, rfl, rfl, _, _, rfl, ?_⟩
    refine ⟨_, rfl, _, _, _, _, rfl, h1.o, T.cl, T.no _ (by decide), (by show 21 < 1000; decide), ?_⟩
    have h2 := h1.p_fed (n := s.body.fed - d) (z := if (s.body.fed : Int) - (d : Int) > 0 then (s.body.fed : Int) - (d : Int) else 0) (by split <;> omega)
    refine ⟨_, rfl, A, _, rfl, h2, wb.lit, ?_⟩
    intro H3 h3 f3
    refine ⟨_, rfl, _, _, _, _, _, rfl, h3.o, T.cl, T.no _ (by decide), rfl, _, _, rfl, rfl, _, _, h3.o, (by show 21 < 1000; decide), ?_⟩
    have h4 := HA.p_clock (n := s.clock + 1) h3 (show ((s.clock : Nat) : Int) + 1 = _ by omega)
    refine k _ ?_ (((f1.trans (Fx.upd (by simp))).trans f3).trans (Fx.upd (by simp)))
    show HA C _ A { s with body := Vbrgak.lived d s.regen 1 s.body, clock := s.clock + 1 }
    rw [lived_one]
    exact h4
/-- ticks go by -/
def went (s : State) (n : Nat) : State := { s with body := (HM.run (Vbrgak.rate s) s.regen n s.body).1, clock := s.clock + (HM.run (Vbrgak.rate s) s.regen n s.body).2 }
def spPass (C : Addr) : Sp := fun vs H Q _ => ∃ A s, ∃ n : Nat, vs = [V.ref A.p, nI n] ∧ HA C H A s ∧ WF s ∧ ∀ H', HA C H' A (went s n) → Fx [A.p] H H' → Q (nI (HM.run (Vbrgak.rate s) s.regen n s.body).2) H'
theorem sc_pass_ticks : FnScope ["house", "ticks", "rate", "passed"] ["house", "ticks"] (defScope (top 56)) := ⟨rfl, rfl, rfl, by decide +kernel, rfl, by decide +kernel, by decide +kernel⟩
theorem ok_pass_ticks (D : Dfs K mg "pass_ticks" (top 56)) (T : Txt K mg C) (h_rate_of : Has P w K mg base "rate_of" ["house"] 4 (spRate C)) (h_is_gone : Has P w K mg base "is_gone" ["house"] 1 (spGone C)) (h_tick : Has P w K mg base "tick" ["house", "rate"] 4 (spTick C)) : Has P w K mg base "pass_ticks" ["house", "ticks"] 5 (spPass C) := by
  refine mkHas D sc_pass_ticks (fun vs H Q E h => ?_) (fun _ _ _ _ _ _ us hl => match us, hl with | [_, _], _ => rfl) (fun f cdv Ar outer sh H vs Q E hr h => ?_)
  · obtain ⟨A, s, n, rfl, _⟩ := h
    rfl
  · obtain ⟨A, s, n, rfl, h, wf, k⟩ := h
    refine ⟨_, (pss_cons (ps_set (i := 2) sc_pass_ticks.nd rfl (Or.inl rfl) (pe_has h_rate_of (hr.mono (by decide)) rfl (pa_cons (pv 0) pa_nil))) (pss_cons (ps_set (i := 3) sc_pass_ticks.nd rfl (Or.inl rfl) pe_int) (pss_cons (ps_while PassesOwn.never (PW.pt (pw_and (pt_cmpR op_lt (pv 3) (pv 1) (nomark _)) (pw_and1 (pt_not (pt_val (pe_has h_is_gone (hr.mono (by decide)) rfl (pa_cons (pv 0) pa_nil))))))) (pss_cons (ps_expr (pe_has h_tick (hr.mono (by decide)) rfl (pa_cons (pv 0) (pa_cons (pv 2) pa_nil)))) (pss_one (ps_aug (i := 3) sc_pass_ticks.nd rfl (Or.inl rfl) pe_int ip_add)))) (pss_one (ps_ret (pv 3)))))), ?_⟩
    refine ⟨_, rfl, A, s, rfl, h, wf, ?_⟩
    rintro _ H1 rfl e1
    have h1 := h.same e1
    refine ⟨fun m σ H' => ∃ j b, m = n - j ∧ j ≤ n ∧ HM.WB b ∧ HM.run (Vbrgak.rate s) s.regen n s.body = ((HM.run (Vbrgak.rate s) s.regen (n - j) b).1, j + (HM.run (Vbrgak.rate s) s.regen (n - j) b).2) ∧
      σ = [some (.ref A.p), some (nI n), some (nI (Vbrgak.rate s)), some (nI j)] ∧ HA C H' A { s with body := b, clock := s.clock + j } ∧ Fx [A.p] H H',
      ⟨_, 0, s.body, rfl, Nat.zero_le _, wf.wb, by rw [Nat.sub_zero, Nat.zero_add], rfl, h1, Fx.of e1⟩, ?_⟩
    rintro m σ H2 ⟨j, b, rfl, jn, wb, er, rfl, h2, f2⟩
    have done : (n - j = 0 ∨ ¬ Vbrgak.alive b = true) → Q (nI j) H2 := by
      intro hc
      have e : HM.run (Vbrgak.rate s) s.regen (n - j) b = (b, 0) := by
        rcases hc with c | c
        · rw [c]; rfl
        · exact HM.run_dead c _
      rw [e] at er
      have q := k H2 (by unfold went; rw [er]; exact h2) f2
      rw [er] at q
      exact q
    refine ⟨_, rfl, _, rfl, _, _, rfl, rfl, _, rfl, ?_⟩
    refine iteD (fun c => ?_) (fun c => ?_)
    · refine ⟨_, rfl, A, _, rfl, h2, ?_⟩
      rintro _ rfl
      refine ⟨_, rfl, ?_⟩
      refine iteNB (fun c2 => ?_) (fun c2 => ?_)
      · refine ⟨_, fun _ _ h => h, ?_⟩
        refine ⟨_, rfl, _, rfl, A, _, _, rfl, h2, wb, ?_⟩
        intro H3 h3 f3
        refine ⟨_, rfl, _, _, rfl, rfl, ?_⟩
        have al : Vbrgak.alive b = true := by
          have c2 : (!Vbrgak.alive b) = false := c2
          simpa using c2
        have e : n - j = (n - (j + 1)) + 1 := by omega
        rw [e, HM.run_succ al] at er
        refine ⟨n - (j + 1), by omega, j + 1, Vbrgak.lived (Vbrgak.rate s) s.regen 1 b, rfl, by omega, HM.lived_wb wb, ?_, rfl, ?_, f2.trans f3⟩
        · rw [er]
          refine Prod.ext rfl ?_
          show j + (1 + _) = j + 1 + _
          omega
        · have e3 : s.clock + (j + 1) = s.clock + j + 1 := by omega
          rw [e3]
          exact h3
      · refine ⟨_, rfl, ?_⟩
        refine done (.inr ?_)
        have c2 : (!Vbrgak.alive b) = true := c2
        simpa using c2
    · refine iteF ?_
      refine ⟨_, rfl, ?_⟩
      exact done (.inl (by omega))
end
end Ho
end
section
set_option Elab.async false
set_option linter.all false
set_option maxRecDepth 100000
set_option maxHeartbeats 2000000
namespace Ho
open PySem PySem.Spec PyProof.Rows L2
open Vbrgak (State Body)
/-- what a call does to an open house, and its answer -/
def res (s : State) (c : Vbrgak.Call) : State × List Int := match Vbrgak.does s c with
  | .error e => (s, [e])
  | .ok (t, l) => (t, 0 :: l)
theorem res_err {s : State} {c : Vbrgak.Call} {e : Int} (h : Vbrgak.does s c = .error e) : res s c = (s, [e]) := by
  unfold res
  rw [h]
theorem res_ok {s t : State} {c : Vbrgak.Call} {l : List Int} (h : Vbrgak.does s c = .ok (t, l)) : res s c = (t, 0 :: l) := by
  unfold res
  rw [h]
/-- what is wanted behind a call: the house at s', a new list l -/
def Post (C : Addr) (A : Ad) (H : Hp) (Q : VK) (r : State × List Int) : Prop := ∀ H' q, HA C H' A r.1 → H' q = some (.lst (r.2.map V.int)) → H q = none → Fx (foot A) H H' → Q (.ref q) H'
theorem Post.err {C : Addr} {A : Ad} {H H1 : Hp} {Q : VK} {s : State} {c : Vbrgak.Call} {e : Int} {q : Addr} (k : Post C A H Q (res s c)) (d : Vbrgak.does s c = .error e) (h : HA C H1 A s) (f : Fx (foot A) H H1) (hq : H1 q = none) (hq0 : H q = none) :
    Q (.ref q) (upd H1 q (.lst [.int e])) := by
  rw [res_err d] at k
  exact k _ q (h.same (same_upd (Same.refl _) hq)) upd_same hq0 (f.trans (Fx.new hq))
theorem Post.ok {C : Addr} {A : Ad} {H H1 : Hp} {Q : VK} {s t : State} {c : Vbrgak.Call} {l : List Int} {xs : List V} {q : Addr} (k : Post C A H Q (res s c)) (d : Vbrgak.does s c = .ok (t, l)) (h : HA C H1 A t) (f : Fx (foot A) H H1) (hq : H1 q = none) (hq0 : H q = none)
    (e : xs = V.int 0 :: l.map V.int) : Q (.ref q) (upd H1 q (.lst xs)) := by
  rw [res_ok d] at k
  exact k _ q (h.same (same_upd (Same.refl _) hq)) (by rw [e]; exact upd_same) hq0 (f.trans (Fx.new hq))
theorem Fx.free {F : List Addr} {H H' : Hp} {q : Addr} (f : Fx F H H') (hF : ∀ b ∈ F, ∃ o, H' b = some o) (h : H' q = none) : H q = none := by
  cases e : H q with
  | none => rfl
  | some o =>
    by_cases m : q ∈ F
    · obtain ⟨u, hu⟩ := hF q m
      rw [hu] at h
      cases h
    · rw [f q o e m] at h
      cases h
theorem HA.foot {C : Addr} {H : Hp} {A : Ad} {s : State} (h : HA C H A s) : ∀ b ∈ foot A, ∃ o, H b = some o := fun b m => by
  have e : b = A.p ∨ b = A.ap ∨ b = A.at_ := by simpa [Ho.foot] using m
  rcases e with rfl | rfl | rfl
  · exact ⟨_, h.o⟩
  · exact ⟨_, h.k⟩
  · exact ⟨_, h.t⟩
theorem Fx.wide {A : Ad} {H H' : Hp} (f : Fx [A.p] H H') : Fx (foot A) H H' := f.mono fun b m => by
  have e : b = A.p := by simpa using m
  rw [e]
  simp [foot]
section
variable {P : Program} {w : World} {K : PySem.W.Frag} {mg : Str → Option Value} {base : Heap} {C : Addr}
/-- a call with one number -/
def spCall1 (C : Addr) (pre : Nat → Prop) (c : Nat → Vbrgak.Call) : Sp := fun vs H Q _ => ∃ A s, ∃ n : Nat, vs = [V.ref A.p, nI n] ∧ pre n ∧ HA C H A s ∧ WF s ∧ Post C A H Q (res s (c n))
def spCall2 (C : Addr) (pre : Nat → Nat → Prop) (c : Nat → Nat → Vbrgak.Call) : Sp := fun vs H Q _ => ∃ A s, ∃ k n : Nat, vs = [V.ref A.p, nI k, nI n] ∧ pre k n ∧ HA C H A s ∧ WF s ∧ Post C A H Q (res s (c k n))
abbrev spLight (C : Addr) : Sp := spCall1 C (fun n => n ≤ 1) fun n => .light (n == 1)
abbrev spWait (C : Addr) : Sp := spCall1 C (fun _ => True) .wait
abbrev spDrain (C : Addr) : Sp := spCall1 C (fun n => n ≤ 5000) .drain
abbrev spHurt (C : Addr) : Sp := spCall1 C (fun _ => True) .hurt
theorem sc_switch_light : FnScope ["house", "on"] ["house", "on"] (defScope (top 69)) := ⟨rfl, rfl, rfl, by decide +kernel, rfl, by decide +kernel, by decide +kernel⟩
theorem ok_switch_light (D : Dfs K mg "switch_light" (top 69)) (T : Txt K mg C) (h_is_gone : Has P w K mg base "is_gone" ["house"] 1 (spGone C)) (h_radius_of : Has P w K mg base "radius_of" ["house"] 1 (spRadius C)) : Has P w K mg base "switch_light" ["house", "on"] 2 (spLight C) := by
  refine mkHas D sc_switch_light (fun vs H Q E h => ?_) (fun _ _ _ _ _ _ us hl => match us, hl with | [_, _], _ => rfl) (fun f cdv Ar outer sh H vs Q E hr h => ?_)
  · obtain ⟨A, s, n, rfl, _⟩ := h
    rfl
  · obtain ⟨A, s, n, rfl, hn, h, wf, k⟩ := h
    refine ⟨_, (pss_cons (ps_if (pt_val (pe_has h_is_gone (hr.mono (by decide)) rfl (pa_cons (pv 0) pa_nil))) (pss_one (ps_ret (pe_lst (pa_cons (pe_gI rfl T.g_GONE) pa_nil)))) pss_nil) (pss_cons (ps_if (PW.pt (pw_and (pt_cmpR op_eq (pv 1) pe_int (nomark _)) (pw_and1 (pt_cmpR op_eq (pe_fld (pv 0) rfl) pe_int (nomark _))))) (pss_one (ps_ret (pe_lst (pa_cons (pe_gI rfl T.g_OF_NO_USE) pa_nil)))) pss_nil) (pss_cons (ps_fld (pv 0) (pe_cmpR op_eq (pv 1) pe_int (nomark _)) rfl) (pss_one (ps_ret (pe_lst (pa_cons (pe_gI rfl T.g_ACCEPTED) (pa_cons (pe_has h_radius_of (hr.mono (by decide)) rfl (pa_cons (pv 0) pa_nil)) pa_nil)))))))), ?_⟩
    refine ⟨_, rfl, A, s, rfl, h, ?_⟩
    rintro _ rfl
    refine ⟨_, rfl, ?_⟩
    refine iteB (fun c => ?_) (fun c => ?_)
    · refine ⟨(by show 1 ≤ sizeLine; decide), fun q hq => ?_⟩
      exact k.err (by simp only [Vbrgak.does]; rw [if_pos c]) h (Fx.refl _ _) hq hq
    refine ⟨_, rfl, rfl, _, rfl, ?_⟩
    have main : ¬ ((n == 1) = true ∧ s.body.fuel = 0) → ∀ b : Bool, b = (n == 1) → ∀ D : Ends, D.rt = Q → tSeq (sFld K (tVar 0) (tC (.bl b)) "lit") (tRet (tLst (tCons (tC (.int 0)) (tCons (tCall (spRadius C) [] E0 (tCons (tVar 0) tNil)) tNil)))) D [some (.ref A.p), some (nI n)] H := by
      intro hne b eb D eD
      subst eb
      refine ⟨_, rfl, _, _, _, _, rfl, h.o, T.cl, T.no _ (by decide), (by show 21 < 1000; decide), ?_⟩
      have h1 := HA.p_lit (s := s) (b := s.body) (v := (n == 1)) h
      refine ⟨_, rfl, A, _, rfl, h1, ?_⟩
      rintro _ rfl
      refine ⟨(by show 2 ≤ sizeLine; decide), fun q hq => ?_⟩
      rw [eD]
      have f1 : Fx (foot A) H (upd H A.p (.ins C A.dx (putF "lit" (V.bl (n == 1)) (hf A (sB s s.body))))) := Fx.upd (by simp [foot])
      refine k.ok (by simp only [Vbrgak.does]; rw [if_neg (by rw [c]; simp), if_neg hne]; all_goals rfl) h1 f1 hq (f1.free h1.foot hq) rfl
    refine iteE (fun c2 => ?_) (fun c2 => ?_)
    · refine ⟨_, rfl, _, _, _, _, _, rfl, h.o, T.cl, T.no _ (by decide), rfl, rfl, _, rfl, ?_⟩
      have en : n = 1 := by omega
      refine iteE (fun c3 => ?_) (fun c3 => ?_)
      · refine ⟨(by show 1 ≤ sizeLine; decide), fun q hq => ?_⟩
        exact k.err (by simp only [Vbrgak.does]; rw [if_neg (by rw [c]; simp), if_pos ⟨by rw [en]; rfl, by omega⟩]) h (Fx.refl _ _) hq hq
      · refine ⟨_, rfl, rfl, ?_⟩
        exact main (by omega) _ (by rw [en]; rfl) _ rfl
    · refine iteF ?_
      refine ⟨_, rfl, rfl, ?_⟩
      have en : (n == 1) = false := by simp; omega
      exact main (by rw [en]; simp) _ (by rw [en]; exact decide_eq_false (fun q => by have q := V.int.inj q; omega)) _ rfl
theorem run_rate {s : State} (wf : WF s) (n : Nat) : HM.run (Vbrgak.rate s) s.regen n s.body = Vbrgak.passed (Vbrgak.rate s) s.regen n s.body := (HM.passed_run (by unfold Vbrgak.rate; omega) n wf.wb).symm
theorem sc_wait_ticks : FnScope ["house", "ticks", "passed"] ["house", "ticks"] (defScope (top 70)) := ⟨rfl, rfl, rfl, by decide +kernel, rfl, by decide +kernel, by decide +kernel⟩
theorem ok_wait_ticks (D : Dfs K mg "wait_ticks" (top 70)) (T : Txt K mg C) (h_is_gone : Has P w K mg base "is_gone" ["house"] 1 (spGone C)) (h_pass_ticks : Has P w K mg base "pass_ticks" ["house", "ticks"] 5 (spPass C)) (h_how_one_is : Has P w K mg base "how_one_is" ["house"] 2 (spHow C)) : Has P w K mg base "wait_ticks" ["house", "ticks"] 6 (spWait C) := by
  refine mkHas D sc_wait_ticks (fun vs H Q E h => ?_) (fun _ _ _ _ _ _ us hl => match us, hl with | [_, _], _ => rfl) (fun f cdv Ar outer sh H vs Q E hr h => ?_)
  · obtain ⟨A, s, n, rfl, _⟩ := h
    rfl
  · obtain ⟨A, s, n, rfl, hn, h, wf, k⟩ := h
    refine ⟨_, (pss_cons (ps_if (pt_val (pe_has h_is_gone (hr.mono (by decide)) rfl (pa_cons (pv 0) pa_nil))) (pss_one (ps_ret (pe_lst (pa_cons (pe_gI rfl T.g_GONE) pa_nil)))) pss_nil) (pss_cons (ps_set (i := 2) sc_wait_ticks.nd rfl (Or.inl rfl) (pe_has h_pass_ticks (hr.mono (by decide)) rfl (pa_cons (pv 0) (pa_cons (pv 1) pa_nil)))) (pss_one (ps_ret (pe_op op_cat (pe_lst (pa_cons (pe_gI rfl T.g_ACCEPTED) (pa_cons (pv 2) pa_nil))) (pe_has h_how_one_is (hr.mono (by decide)) rfl (pa_cons (pv 0) pa_nil))))))), ?_⟩
    refine ⟨_, rfl, A, s, rfl, h, ?_⟩
    rintro _ rfl
    refine ⟨_, rfl, ?_⟩
    refine iteB (fun c => ?_) (fun c => ?_)
    · refine ⟨(by show 1 ≤ sizeLine; decide), fun q hq => ?_⟩
      exact k.err (by simp only [Vbrgak.does]; rw [if_pos c]) h (Fx.refl _ _) hq hq
    refine ⟨_, rfl, _, rfl, A, s, n, rfl, h, wf, ?_⟩
    intro H1 h1 f1
    rw [run_rate wf]
    have h1 : HA C H1 A { s with body := (HM.run (Vbrgak.rate s) s.regen n s.body).1, clock := s.clock + (HM.run (Vbrgak.rate s) s.regen n s.body).2 } := h1
    rw [run_rate wf] at h1
    refine ⟨_, rfl, (by show 2 ≤ sizeLine; decide), fun q1 hq1 => ?_⟩
    have e2 := same_upd (o := .lst [V.int 0, nI (Vbrgak.passed (Vbrgak.rate s) s.regen n s.body).2]) (Same.refl H1) hq1
    have h2 := h1.same e2
    refine ⟨_, rfl, A, _, rfl, h2, ?_⟩
    intro q2 hq2
    have e3 := same_upd (o := .lst ((Vbrgak.shown (Vbrgak.passed (Vbrgak.rate s) s.regen n s.body).1).map V.int)) e2 hq2
    refine ⟨_, _, _, _, rfl, rfl, (by rw [upd_ne (ne_of_none upd_same hq2)]; exact upd_same), upd_same, (by show 7 ≤ sizeLine; decide), fun q hq => ?_⟩
    refine k.ok (by simp only [Vbrgak.does]; rw [if_neg (by rw [c]; simp)]) (h1.same e3) (f1.wide.trans (Fx.of e3)) hq ((f1.wide.trans (Fx.of e3)).free (h1.same e3).foot hq) rfl
theorem sc_set_drain : FnScope ["house", "drain"] ["house", "drain"] (defScope (top 71)) := ⟨rfl, rfl, rfl, by decide +kernel, rfl, by decide +kernel, by decide +kernel⟩
theorem ok_set_drain (D : Dfs K mg "set_drain" (top 71)) (T : Txt K mg C) (h_rate_of : Has P w K mg base "rate_of" ["house"] 4 (spRate C)) : Has P w K mg base "set_drain" ["house", "drain"] 5 (spDrain C) := by
  refine mkHas D sc_set_drain (fun vs H Q E h => ?_) (fun _ _ _ _ _ _ us hl => match us, hl with | [_, _], _ => rfl) (fun f cdv Ar outer sh H vs Q E hr h => ?_)
  · obtain ⟨A, s, n, rfl, _⟩ := h
    rfl
  · obtain ⟨A, s, n, rfl, hn, h, wf, k⟩ := h
    refine ⟨_, (pss_cons (ps_fld (pv 0) (pv 1) rfl) (pss_one (ps_ret (pe_lst (pa_cons (pe_gI rfl T.g_ACCEPTED) (pa_cons (pe_has h_rate_of (hr.mono (by decide)) rfl (pa_cons (pv 0) pa_nil)) pa_nil)))))), ?_⟩
    refine ⟨_, rfl, _, rfl, _, _, _, _, rfl, h.o, T.cl, T.no _ (by decide), (by show 21 < 1000; decide), ?_⟩
    have h1 := h.p_drain (n := n) rfl
    have wf1 : WF (sDrain s n) := ⟨wf.lp, wf.lt, wf.lb, wf.lf, wf.ll, wf.kk, wf.pk, wf.st, wf.ws, wf.bs, wf.mku, wf.pa, hn, wf.wb⟩
    refine ⟨_, rfl, A, _, rfl, h1, wf1, ?_⟩
    rintro _ H2 rfl e2
    refine ⟨(by show 2 ≤ sizeLine; decide), fun q hq => ?_⟩
    have f2 : Fx (foot A) H H2 := (Fx.upd (by simp [foot])).trans (Fx.of e2)
    exact k.ok rfl (h1.same e2) f2 hq (f2.free (h1.same e2).foot hq) rfl
theorem sc_hurt_one : FnScope ["house", "hits"] ["house", "hits"] (defScope (top 72)) := ⟨rfl, rfl, rfl, by decide +kernel, rfl, by decide +kernel, by decide +kernel⟩
theorem ok_hurt_one (D : Dfs K mg "hurt_one" (top 72)) (T : Txt K mg C) (h_is_gone : Has P w K mg base "is_gone" ["house"] 1 (spGone C)) : Has P w K mg base "hurt_one" ["house", "hits"] 2 (spHurt C) := by
  refine mkHas D sc_hurt_one (fun vs H Q E h => ?_) (fun _ _ _ _ _ _ us hl => match us, hl with | [_, _], _ => rfl) (fun f cdv Ar outer sh H vs Q E hr h => ?_)
  · obtain ⟨A, s, n, rfl, _⟩ := h
    rfl
  · obtain ⟨A, s, n, rfl, hn, h, wf, k⟩ := h
    refine ⟨_, (pss_cons (ps_if (pt_val (pe_has h_is_gone (hr.mono (by decide)) rfl (pa_cons (pv 0) pa_nil))) (pss_one (ps_ret (pe_lst (pa_cons (pe_gI rfl T.g_GONE) pa_nil)))) pss_nil) (pss_cons (ps_fld (pv 0) (pe_callB (call_max2 rfl) rfl T.n_max boot_max1 (pa_cons pe_int (pa_cons (pe_op op_sub (pe_fld (pv 0) rfl) (pv 1)) pa_nil))) rfl) (pss_one (ps_ret (pe_lst (pa_cons (pe_gI rfl T.g_ACCEPTED) (pa_cons (pe_fld (pv 0) rfl) pa_nil))))))), ?_⟩
    refine ⟨_, rfl, A, s, rfl, h, ?_⟩
    rintro _ rfl
    refine ⟨_, rfl, ?_⟩
    refine iteB (fun c => ?_) (fun c => ?_)
    · refine ⟨(by show 1 ≤ sizeLine; decide), fun q hq => ?_⟩
      exact k.err (by simp only [Vbrgak.does]; rw [if_pos c]) h (Fx.refl _ _) hq hq
    refine ⟨_, rfl, _, _, _, _, _, rfl, h.o, T.cl, T.no _ (by decide), rfl, _, rfl, _, _, rfl, rfl, _, _, rfl, ?_⟩
    refine ⟨_, rfl, _, _, _, _, rfl, h.o, T.cl, T.no _ (by decide), (by show 21 < 1000; decide), ?_⟩
    have h1 := HA.p_hits (s := s) (b := s.body) (n := s.body.hp - n) (z := if (s.body.hp : Int) - (n : Int) > 0 then (s.body.hp : Int) - (n : Int) else 0) h (by split <;> omega)
    refine ⟨_, rfl, _, _, _, _, _, rfl, h1.o, T.cl, T.no _ (by decide), rfl, ?_⟩
    refine ⟨(by show 2 ≤ sizeLine; decide), fun q hq => ?_⟩
    have f2 := Fx.upd (F := foot A) (H := H) (a := A.p) (o := .ins C A.dx (putF "hits" (V.int (if (s.body.hp : Int) - (n : Int) > 0 then (s.body.hp : Int) - (n : Int) else 0)) (hf A s))) (by simp [foot])
    exact k.ok (by simp only [Vbrgak.does]; rw [if_neg (by rw [c]; simp)]; all_goals rfl) h1 f2 hq (f2.free h1.foot hq) rfl
end
end Ho
end
section
set_option Elab.async false
set_option linter.all false
set_option maxRecDepth 100000
set_option maxHeartbeats 2000000
namespace Ho
open PySem PySem.Spec PyProof.Rows L2
open Vbrgak (State Body)
/-! ### lists by place -/
theorem nth_get {l : List Nat} {k : Nat} (h : k < l.length) : l[k]? = some (Vbrgak.nth l k) := by
  unfold Vbrgak.nth
  rw [List.getElem?_eq_getElem h]
  rfl
theorem at_nL {l : List Nat} {k : Nat} (h : k < l.length) : atI (nL l) (k : Int) = some (nI (Vbrgak.nth l k)) := by
  refine atI_nat ?_
  unfold nL
  rw [List.getElem?_map, nth_get h]
  rfl
theorem ix_nL {l : List Nat} {k : Nat} (h : k < l.length) : ixN (nL l).length (k : Int) = some k := by
  unfold ixN
  rw [nL_len, if_pos (by omega), if_pos (by omega)]
  rfl
theorem setAt_eq (x : Nat) : ∀ (k : Nat) (l : List Nat), Vbrgak.setAt x k l = l.set k x
  | _, [] => by cases ‹Nat› <;> rfl
  | 0, _ :: _ => rfl
  | k + 1, y :: r => by
    show y :: Vbrgak.setAt x k r = y :: r.set k x
    rw [setAt_eq x k r]
theorem nL_set (l : List Nat) (k n : Nat) : (nL l).set k (nI n) = nL (l.set k n) := by
  unfold nL
  rw [List.map_set]
theorem nth_set {l : List Nat} {k n : Nat} (h : k < l.length) : Vbrgak.nth (l.set k n) k = n := by
  unfold Vbrgak.nth
  rw [List.getElem?_set_self h]
  rfl
theorem mem_set {l : List Nat} {k n m : Nat} {P : Nat → Prop} (h : ∀ x ∈ l, P x) (hn : P n) (hm : m ∈ l.set k n) : P m := by
  rcases List.mem_or_eq_of_mem_set hm with q | q
  · exact h m q
  · rw [q]; exact hn
theorem nth_mem {l : List Nat} {k : Nat} (h : k < l.length) : Vbrgak.nth l k ∈ l := List.mem_of_getElem? (nth_get h)
theorem weightOf_cons (a b : Nat) (ws ps : List Nat) : Vbrgak.weightOf (a :: ws) (b :: ps) = a * b + Vbrgak.weightOf ws ps := by
  unfold Vbrgak.weightOf
  rw [List.zip_cons_cons, List.map_cons, List.sum_cons]
theorem weightOf_set : ∀ (ws ps : List Nat) (k x : Nat), k < ws.length → k < ps.length → Vbrgak.weightOf ws (ps.set k x) + Vbrgak.nth ws k * Vbrgak.nth ps k = Vbrgak.weightOf ws ps + Vbrgak.nth ws k * x
  | [], _, k, _, h, _ => by simp at h
  | _ :: _, [], k, _, _, h => by simp at h
  | a :: ws, b :: ps, 0, x, _, _ => by
    show Vbrgak.weightOf (a :: ws) (x :: ps) + a * b = Vbrgak.weightOf (a :: ws) (b :: ps) + a * x
    rw [weightOf_cons, weightOf_cons]
    omega
  | a :: ws, b :: ps, k + 1, x, h, h2 => by
    have ih := weightOf_set ws ps k x (by simpa using h) (by simpa using h2)
    show Vbrgak.weightOf (a :: ws) (b :: ps.set k x) + Vbrgak.nth ws k * Vbrgak.nth ps k = Vbrgak.weightOf (a :: ws) (b :: ps) + Vbrgak.nth ws k * x
    rw [weightOf_cons, weightOf_cons]
    omega
theorem weightOf_more {ws ps : List Nat} {k n : Nat} (h : k < ws.length) (h2 : k < ps.length) : Vbrgak.weightOf ws (ps.set k (Vbrgak.nth ps k + n)) = Vbrgak.weightOf ws ps + n * Vbrgak.nth ws k := by
  have q := weightOf_set ws ps k (Vbrgak.nth ps k + n) h h2
  rw [Nat.mul_add, Nat.mul_comm _ n] at q
  omega
theorem weightOf_less {ws ps : List Nat} {k n : Nat} (h : k < ws.length) (h2 : k < ps.length) (hn : n ≤ Vbrgak.nth ps k) : Vbrgak.weightOf ws (ps.set k (Vbrgak.nth ps k - n)) + n * Vbrgak.nth ws k = Vbrgak.weightOf ws ps := by
  have q := weightOf_set ws ps k (Vbrgak.nth ps k - n) h h2
  have e : Vbrgak.nth ps k = (Vbrgak.nth ps k - n) + n := by omega
  have e2 : Vbrgak.nth ws k * Vbrgak.nth ps k = Vbrgak.nth ws k * (Vbrgak.nth ps k - n) + n * Vbrgak.nth ws k := by
    rw [Nat.mul_comm n, ← Nat.mul_add, ← e]
  omega
/-! ### the pack, the stock written -/
theorem HA.setPack {C : Addr} {H : Hp} {A : Ad} {s : State} {k n : Nat} {v : V} (h : HA C H A s) (e : v = nI n) : HA C (upd H A.ap (.lst ((nL s.pack).set k v))) A (sPack s (s.pack.set k n)) := by
  have nd := h.nd
  simp only [List.nodup_cons, List.mem_cons, List.not_mem_nil, or_false, not_or, not_false_eq_true, and_true] at nd
  obtain ⟨⟨n1, n2, n3, n4, n5⟩, ⟨m2, m3, m4, m5⟩, ⟨o3, o4, o5⟩, ⟨p4, p5⟩, q5, _⟩ := nd
  subst e
  refine ⟨?_, ?_, ?_, ?_, ?_, ?_, ?_, h.nd⟩
  · rw [upd_ne (ne_of h.o h.k (by intro z; cases z))]; exact h.o
  · rw [upd_ne n4]; exact h.w
  · rw [upd_ne m4]; exact h.b
  · rw [upd_ne o4]; exact h.f
  · rw [upd_ne p4]; exact h.l
  · rw [upd_same, nL_set]; rfl
  · rw [upd_ne (Ne.symm q5)]; exact h.t
theorem HA.setStock {C : Addr} {H : Hp} {A : Ad} {s : State} {k n : Nat} {v : V} (h : HA C H A s) (e : v = nI n) : HA C (upd H A.at_ (.lst ((nL s.stock).set k v))) A (sStock s (s.stock.set k n)) := by
  have nd := h.nd
  simp only [List.nodup_cons, List.mem_cons, List.not_mem_nil, or_false, not_or, not_false_eq_true, and_true] at nd
  obtain ⟨⟨n1, n2, n3, n4, n5⟩, ⟨m2, m3, m4, m5⟩, ⟨o3, o4, o5⟩, ⟨p4, p5⟩, q5, _⟩ := nd
  subst e
  refine ⟨?_, ?_, ?_, ?_, ?_, ?_, ?_, h.nd⟩
  · rw [upd_ne (ne_of h.o h.t (by intro z; cases z))]; exact h.o
  · rw [upd_ne n5]; exact h.w
  · rw [upd_ne m5]; exact h.b
  · rw [upd_ne o5]; exact h.f
  · rw [upd_ne p5]; exact h.l
  · rw [upd_ne q5]; exact h.k
  · rw [upd_same, nL_set]; rfl
/-! ### refusals -/
def kindR (s : State) (k : Nat) : Int := if s.weights.length ≤ k then -5 else if Vbrgak.gone s = true then -9 else 0
def roomR (s : State) (k n w : Nat) : Int := if 10000 < Vbrgak.nth s.pack k + n then -4 else if 3 * s.capacity < 2 * w then -7 else 0
def findR (s : State) (k n : Nat) : Int := if kindR s k = 0 then roomR s k n (Vbrgak.weight s + n * Vbrgak.nth s.weights k) else kindR s k
def takeR (s : State) (k n : Nat) : Int := if kindR s k = 0 then (if Vbrgak.nth s.pack k < n then -6 else 0) else kindR s k
def useR (s : State) (k : Nat) (us : List Nat) : Int := if takeR s k 1 = 0 then (if Vbrgak.nth us k = 0 then -8 else 0) else takeR s k 1
theorem kindR0 {s : State} {k : Nat} (h : kindR s k = 0) : k < s.weights.length ∧ Vbrgak.gone s = false := by
  unfold kindR at h
  by_cases c : s.weights.length ≤ k
  · rw [if_pos c] at h
    omega
  · rw [if_neg c] at h
    cases e : Vbrgak.gone s with
    | false => exact ⟨by omega, rfl⟩
    | true =>
      rw [if_pos e] at h
      omega
section
variable {P : Program} {w : World} {K : PySem.W.Frag} {mg : Str → Option Value} {base : Heap} {C : Addr}
def spKindR (C : Addr) : Sp := fun vs H Q _ => ∃ A s, ∃ k : Nat, vs = [V.ref A.p, nI k] ∧ HA C H A s ∧ ∀ v, v = V.int (kindR s k) → Q v H
def spRoomR (C : Addr) : Sp := fun vs H Q _ => ∃ A s, ∃ k n m : Nat, vs = [V.ref A.p, nI k, nI n, nI m] ∧ HA C H A s ∧ k < s.pack.length ∧ ∀ v, v = V.int (roomR s k n m) → Q v H
def spFindR (C : Addr) : Sp := fun vs H Q _ => ∃ A s, ∃ k n : Nat, vs = [V.ref A.p, nI k, nI n] ∧ n ≤ 10000 ∧ HA C H A s ∧ WF s ∧ ∀ v H', v = V.int (findR s k n) → Same H H' → Q v H'
def spTakeR (C : Addr) : Sp := fun vs H Q _ => ∃ A s, ∃ k n : Nat, vs = [V.ref A.p, nI k, nI n] ∧ HA C H A s ∧ WF s ∧ ∀ v, v = V.int (takeR s k n) → Q v H
def spUseR (C : Addr) : Sp := fun vs H Q _ => ∃ A s, ∃ (k : Nat) (a : Addr) (us : List Nat), vs = [V.ref A.p, nI k, V.ref a] ∧ H a = some (.lst (nL us)) ∧ us.length = s.weights.length ∧ HA C H A s ∧ WF s ∧ ∀ v, v = V.int (useR s k us) → Q v H
def spHasKind (C : Addr) : Sp := fun vs H Q _ => ∃ A s, ∃ k : Nat, vs = [V.ref A.p, nI k] ∧ HA C H A s ∧ ∀ v, v = V.bl (decide (k < s.weights.length)) → Q v H
theorem sc_has_kind : FnScope ["house", "kind"] ["house", "kind"] (defScope (top 16)) := ⟨rfl, rfl, rfl, by decide +kernel, rfl, by decide +kernel, by decide +kernel⟩
theorem ok_has_kind (D : Dfs K mg "has_kind" (top 16)) (T : Txt K mg C) : Has P w K mg base "has_kind" ["house", "kind"] 1 (spHasKind C) := by
  refine mkHas D sc_has_kind (fun vs H Q E h => ?_) (fun _ _ _ _ _ _ us hl => match us, hl with | [_, _], _ => rfl) (fun f cdv Ar outer sh H vs Q E hr h => ?_)
  · obtain ⟨A, s, k, rfl, _⟩ := h
    rfl
  · obtain ⟨A, s, k, rfl, h, kk⟩ := h
    refine ⟨_, (pss_one (ps_ret (pe_cmpR op_lt (pv 1) (pe_callB call_len_seq rfl T.n_len PySem.boot_len (pa_cons (pe_fld (pv 0) rfl) pa_nil)) (nomark _)))), ?_⟩
    refine ⟨_, rfl, _, rfl, _, _, _, _, _, rfl, h.o, T.cl, T.no _ (by decide), rfl, _, _, rfl, .inl (SqL.of h.w), _, _, rfl, rfl, ?_⟩
    rw [nL_len]
    refine kk _ (congrArg V.bl ?_)
    exact decide_eq_decide.mpr (by omega)
theorem sc_kind_refusal : FnScope ["house", "kind"] ["house", "kind"] (defScope (top 31)) := ⟨rfl, rfl, rfl, by decide +kernel, rfl, by decide +kernel, by decide +kernel⟩
theorem ok_kind_refusal (D : Dfs K mg "kind_refusal" (top 31)) (T : Txt K mg C) (h_has_kind : Has P w K mg base "has_kind" ["house", "kind"] 1 (spHasKind C)) (h_is_gone : Has P w K mg base "is_gone" ["house"] 1 (spGone C)) : Has P w K mg base "kind_refusal" ["house", "kind"] 2 (spKindR C) := by
  refine mkHas D sc_kind_refusal (fun vs H Q E h => ?_) (fun _ _ _ _ _ _ us hl => match us, hl with | [_, _], _ => rfl) (fun f cdv Ar outer sh H vs Q E hr h => ?_)
  · obtain ⟨A, s, k, rfl, _⟩ := h
    rfl
  · obtain ⟨A, s, k, rfl, h, kk⟩ := h
    refine ⟨_, (pss_cons (ps_if (pt_not (pt_val (pe_has h_has_kind (hr.mono (by decide)) rfl (pa_cons (pv 0) (pa_cons (pv 1) pa_nil))))) (pss_one (ps_ret (pe_gI rfl T.g_NO_SUCH_KIND))) pss_nil) (pss_cons (ps_if (pt_val (pe_has h_is_gone (hr.mono (by decide)) rfl (pa_cons (pv 0) pa_nil))) (pss_one (ps_ret (pe_gI rfl T.g_GONE))) pss_nil) (pss_one (ps_ret (pe_gI rfl T.g_ACCEPTED))))), ?_⟩
    refine ⟨_, rfl, _, rfl, A, s, k, rfl, h, ?_⟩
    rintro _ rfl
    refine ⟨_, rfl, ?_⟩
    refine iteNB (fun c => ?_) (fun c => ?_)
    · exact kk _ (congrArg V.int (by unfold kindR; rw [if_pos (by have := of_decide_eq_false c; omega)]))
    have c := of_decide_eq_true c
    refine ⟨_, rfl, A, s, rfl, h, ?_⟩
    rintro _ rfl
    refine ⟨_, rfl, ?_⟩
    refine iteB (fun c2 => ?_) (fun c2 => ?_)
    · exact kk _ (congrArg V.int (by unfold kindR; rw [if_neg (by omega), if_pos c2]))
    · exact kk _ (congrArg V.int (by unfold kindR; rw [if_neg (by omega), if_neg (by rw [c2]; simp)]))
theorem sc_room_refusal : FnScope ["house", "kind", "n", "weight"] ["house", "kind", "n", "weight"] (defScope (top 32)) := ⟨rfl, rfl, rfl, by decide +kernel, rfl, by decide +kernel, by decide +kernel⟩
theorem ok_room_refusal (D : Dfs K mg "room_refusal" (top 32)) (T : Txt K mg C) (h_is_too_much : Has P w K mg base "is_too_much" ["house", "weight"] 1 (spTooMuch C)) : Has P w K mg base "room_refusal" ["house", "kind", "n", "weight"] 2 (spRoomR C) := by
  refine mkHas D sc_room_refusal (fun vs H Q E h => ?_) (fun _ _ _ _ _ _ us hl => match us, hl with | [_, _, _, _], _ => rfl) (fun f cdv Ar outer sh H vs Q E hr h => ?_)
  · obtain ⟨A, s, k, n, m, rfl, _⟩ := h
    rfl
  · obtain ⟨A, s, k, n, m, rfl, h, hk, kk⟩ := h
    refine ⟨_, (pss_cons (ps_if (pt_cmpR op_gt (pe_op op_add (pe_ix ix_list (pe_fld (pv 0) rfl) (pv 1) (fun _ _ => rfl)) (pv 2)) (pe_gI rfl T.g_MOST_OF_A_KIND) (nomark _)) (pss_one (ps_ret (pe_gI rfl T.g_BAD_COUNT))) pss_nil) (pss_cons (ps_if (pt_val (pe_has h_is_too_much (hr.mono (by decide)) rfl (pa_cons (pv 0) (pa_cons (pv 3) pa_nil)))) (pss_one (ps_ret (pe_gI rfl T.g_TOO_HEAVY))) pss_nil) (pss_one (ps_ret (pe_gI rfl T.g_ACCEPTED))))), ?_⟩
    refine ⟨_, rfl, _, _, _, _, _, rfl, h.o, T.cl, T.no _ (by decide), rfl, _, rfl, _, _, _, _, rfl, rfl, SqL.of h.k, at_nL hk, _, rfl, _, _, rfl, rfl, _, _, rfl, rfl, _, rfl, ?_⟩
    refine iteD (fun c => ?_) (fun c => ?_)
    · exact kk _ (congrArg V.int (by unfold roomR; rw [if_pos (by omega)]))
    refine ⟨_, rfl, _, rfl, A, s, m, rfl, h, ?_⟩
    rintro _ rfl
    refine ⟨_, rfl, ?_⟩
    refine iteD (fun c2 => ?_) (fun c2 => ?_)
    · exact kk _ (congrArg V.int (by unfold roomR; rw [if_neg (by omega), if_pos c2]))
    · exact kk _ (congrArg V.int (by unfold roomR; rw [if_neg (by omega), if_neg c2]))
theorem sc_find_refusal : FnScope ["house", "kind", "n", "refusal"] ["house", "kind", "n"] (defScope (top 33)) := ⟨rfl, rfl, rfl, by decide +kernel, rfl, by decide +kernel, by decide +kernel⟩
theorem ok_find_refusal (D : Dfs K mg "find_refusal" (top 33)) (T : Txt K mg C) (h_kind_refusal : Has P w K mg base "kind_refusal" ["house", "kind"] 2 (spKindR C)) (h_room_refusal : Has P w K mg base "room_refusal" ["house", "kind", "n", "weight"] 2 (spRoomR C)) (h_weight_of : Has P w K mg base "weight_of" ["house"] 2 (spWeight C)) : Has P w K mg base "find_refusal" ["house", "kind", "n"] 3 (spFindR C) := by
  refine mkHas D sc_find_refusal (fun vs H Q E h => ?_) (fun _ _ _ _ _ _ us hl => match us, hl with | [_, _, _], _ => rfl) (fun f cdv Ar outer sh H vs Q E hr h => ?_)
  · obtain ⟨A, s, k, n, rfl, _⟩ := h
    rfl
  · obtain ⟨A, s, k, n, rfl, hn, h, wf, kk⟩ := h
    refine ⟨_, (pss_cons (ps_set (i := 3) sc_find_refusal.nd rfl (Or.inl rfl) (pe_has h_kind_refusal (hr.mono (by decide)) rfl (pa_cons (pv 0) (pa_cons (pv 1) pa_nil)))) (pss_cons (ps_if (pt_cmpR op_ne (pv 3) (pe_gI rfl T.g_ACCEPTED) (nomark _)) (pss_one (ps_ret (pv 3))) pss_nil) (pss_one (ps_ret (pe_has h_room_refusal (hr.mono (by decide)) rfl (pa_cons (pv 0) (pa_cons (pv 1) (pa_cons (pv 2) (pa_cons (pe_op op_add (pe_has h_weight_of (hr.mono (by decide)) rfl (pa_cons (pv 0) pa_nil)) (pe_op op_mul (pv 2) (pe_ix ix_list (pe_fld (pv 0) rfl) (pv 1) (fun _ _ => rfl)))) pa_nil))))))))), ?_⟩
    refine ⟨_, rfl, _, rfl, A, s, k, rfl, h, ?_⟩
    rintro _ rfl
    refine ⟨_, rfl, rfl, _, rfl, ?_⟩
    refine iteN (fun c => ?_) (fun c => ?_)
    · refine ⟨_, rfl, ?_⟩
      exact kk _ _ (congrArg V.int (by unfold findR; rw [if_neg c])) (Same.refl _)
    obtain ⟨c1, c2⟩ := kindR0 c
    refine ⟨_, rfl, _, rfl, _, rfl, _, rfl, A, s, rfl, h, wf, ?_⟩
    rintro _ H1 rfl e1
    have h1 := h.same e1
    refine ⟨_, rfl, _, rfl, _, _, _, _, _, rfl, h1.o, T.cl, T.no _ (by decide), rfl, _, rfl, _, _, _, _, rfl, rfl, SqL.of h1.w, at_nL c1, _, _, rfl, rfl, mul_small (by omega) (by omega), _, _, rfl, rfl, ?_⟩
    refine ⟨A, s, k, n, Vbrgak.weight s + n * Vbrgak.nth s.weights k, ?_, h1, by rw [wf.lp]; exact c1, ?_⟩
    · exact congrArg (fun v => [V.ref A.p, nI k, nI n, v]) (nI_eq (by rw [Int.natCast_add, Int.natCast_mul]))
    · rintro _ rfl
      exact kk _ _ (congrArg V.int (by unfold findR; rw [if_pos c])) e1
theorem sc_taking_refusal : FnScope ["house", "kind", "n", "refusal"] ["house", "kind", "n"] (defScope (top 35)) := ⟨rfl, rfl, rfl, by decide +kernel, rfl, by decide +kernel, by decide +kernel⟩
theorem ok_taking_refusal (D : Dfs K mg "taking_refusal" (top 35)) (T : Txt K mg C) (h_kind_refusal : Has P w K mg base "kind_refusal" ["house", "kind"] 2 (spKindR C)) : Has P w K mg base "taking_refusal" ["house", "kind", "n"] 3 (spTakeR C) := by
  refine mkHas D sc_taking_refusal (fun vs H Q E h => ?_) (fun _ _ _ _ _ _ us hl => match us, hl with | [_, _, _], _ => rfl) (fun f cdv Ar outer sh H vs Q E hr h => ?_)
  · obtain ⟨A, s, k, n, rfl, _⟩ := h
    rfl
  · obtain ⟨A, s, k, n, rfl, h, wf, kk⟩ := h
    refine ⟨_, (pss_cons (ps_set (i := 3) sc_taking_refusal.nd rfl (Or.inl rfl) (pe_has h_kind_refusal (hr.mono (by decide)) rfl (pa_cons (pv 0) (pa_cons (pv 1) pa_nil)))) (pss_cons (ps_if (pt_cmpR op_ne (pv 3) (pe_gI rfl T.g_ACCEPTED) (nomark _)) (pss_one (ps_ret (pv 3))) pss_nil) (pss_cons (ps_if (pt_cmpR op_lt (pe_ix ix_list (pe_fld (pv 0) rfl) (pv 1) (fun _ _ => rfl)) (pv 2) (nomark _)) (pss_one (ps_ret (pe_gI rfl T.g_TOO_FEW))) pss_nil) (pss_one (ps_ret (pe_gI rfl T.g_ACCEPTED)))))), ?_⟩
    refine ⟨_, rfl, _, rfl, A, s, k, rfl, h, ?_⟩
    rintro _ rfl
    refine ⟨_, rfl, rfl, _, rfl, ?_⟩
    refine iteN (fun c => ?_) (fun c => ?_)
    · refine ⟨_, rfl, ?_⟩
      exact kk _ (congrArg V.int (by unfold takeR; rw [if_neg c]))
    obtain ⟨c1, c2⟩ := kindR0 c
    refine ⟨_, rfl, _, _, _, _, _, rfl, h.o, T.cl, T.no _ (by decide), rfl, _, rfl, _, _, _, _, rfl, rfl, SqL.of h.k, at_nL (by rw [wf.lp]; exact c1), _, rfl, _, _, rfl, rfl, _, rfl, ?_⟩
    refine iteD (fun c3 => ?_) (fun c3 => ?_)
    · exact kk _ (congrArg V.int (by unfold takeR; rw [if_pos c, if_pos (by omega)]))
    · exact kk _ (congrArg V.int (by unfold takeR; rw [if_pos c, if_neg (by omega)]))
theorem takeR0 {s : State} {k n : Nat} (h : takeR s k n = 0) : kindR s k = 0 ∧ n ≤ Vbrgak.nth s.pack k := by
  unfold takeR at h
  by_cases c : kindR s k = 0
  · rw [if_pos c] at h
    by_cases c2 : Vbrgak.nth s.pack k < n
    · rw [if_pos c2] at h; omega
    · exact ⟨c, by omega⟩
  · rw [if_neg c] at h
    exact absurd h c
theorem sc_use_refusal : FnScope ["house", "kind", "uses", "refusal"] ["house", "kind", "uses"] (defScope (top 37)) := ⟨rfl, rfl, rfl, by decide +kernel, rfl, by decide +kernel, by decide +kernel⟩
theorem ok_use_refusal (D : Dfs K mg "use_refusal" (top 37)) (T : Txt K mg C) (h_taking_refusal : Has P w K mg base "taking_refusal" ["house", "kind", "n"] 3 (spTakeR C)) : Has P w K mg base "use_refusal" ["house", "kind", "uses"] 4 (spUseR C) := by
  refine mkHas D sc_use_refusal (fun vs H Q E h => ?_) (fun _ _ _ _ _ _ us hl => match us, hl with | [_, _, _], _ => rfl) (fun f cdv Ar outer sh H vs Q E hr h => ?_)
  · obtain ⟨A, s, k, a, us, rfl, _⟩ := h
    rfl
  · obtain ⟨A, s, k, a, us, rfl, ha, hl, h, wf, kk⟩ := h
    refine ⟨_, (pss_cons (ps_set (i := 3) sc_use_refusal.nd rfl (Or.inl rfl) (pe_has h_taking_refusal (hr.mono (by decide)) rfl (pa_cons (pv 0) (pa_cons (pv 1) (pa_cons pe_int pa_nil))))) (pss_cons (ps_if (pt_cmpR op_ne (pv 3) (pe_gI rfl T.g_ACCEPTED) (nomark _)) (pss_one (ps_ret (pv 3))) pss_nil) (pss_cons (ps_if (pt_cmpR op_eq (pe_ix ix_list (pv 2) (pv 1) (fun _ _ => rfl)) pe_int (nomark _)) (pss_one (ps_ret (pe_gI rfl T.g_OF_NO_USE))) pss_nil) (pss_one (ps_ret (pe_gI rfl T.g_ACCEPTED)))))), ?_⟩
    refine ⟨_, rfl, _, rfl, A, s, k, 1, rfl, h, wf, ?_⟩
    rintro _ rfl
    refine ⟨_, rfl, rfl, _, rfl, ?_⟩
    refine iteN (fun c => ?_) (fun c => ?_)
    · refine ⟨_, rfl, ?_⟩
      exact kk _ (congrArg V.int (by unfold useR; rw [if_neg c]))
    obtain ⟨c0, c1⟩ := takeR0 c
    obtain ⟨c2, c3⟩ := kindR0 c0
    refine ⟨_, rfl, _, rfl, _, _, _, _, rfl, rfl, SqL.of ha, at_nL (by rw [hl]; exact c2), rfl, _, rfl, ?_⟩
    refine iteE (fun c4 => ?_) (fun c4 => ?_)
    · exact kk _ (congrArg V.int (by unfold useR; rw [if_pos c, if_pos (by omega)]))
    · exact kk _ (congrArg V.int (by unfold useR; rw [if_pos c, if_neg (by omega)]))
end
end Ho
end
section
set_option Elab.async false
set_option linter.all false
set_option maxRecDepth 100000
set_option maxHeartbeats 2000000
namespace Ho
open PySem PySem.Spec PyProof.Rows L2
open Vbrgak (State Body)
theorem kindR_err {s : State} {k : Nat} (h : ¬ kindR s k = 0) : (Vbrgak.noKind s k = true ∧ kindR s k = -5) ∨ (Vbrgak.noKind s k = false ∧ Vbrgak.gone s = true ∧ kindR s k = -9) := by
  unfold kindR at *
  unfold Vbrgak.noKind Vbrgak.kinds
  by_cases c : s.weights.length ≤ k
  · left
    rw [if_pos c]
    exact ⟨decide_eq_true c, rfl⟩
  · right
    rw [if_neg c] at h ⊢
    by_cases g : Vbrgak.gone s = true
    · rw [if_pos g]
      exact ⟨decide_eq_false c, g, rfl⟩
    · rw [if_neg g] at h
      exact absurd rfl h
theorem noKind_f {s : State} {k : Nat} (h : k < s.weights.length) : Vbrgak.noKind s k = false := by
  unfold Vbrgak.noKind Vbrgak.kinds
  exact decide_eq_false (by omega)
/-! ### what the specification says, by the refusals -/
theorem have_eq (s : State) (k n : Nat) : Vbrgak.have_ s k n = { s with pack := s.pack.set k n } := by
  unfold Vbrgak.have_
  rw [setAt_eq]
theorem does_find_err {s : State} {k n : Nat} (wf : WF s) (h : ¬ findR s k n = 0) : Vbrgak.does s (.find k n) = .error (findR s k n) := by
  unfold findR at *
  simp only [Vbrgak.does]
  by_cases c : kindR s k = 0
  · rw [if_pos c] at h ⊢
    obtain ⟨c1, c2⟩ := kindR0 c
    have c3 : k < s.pack.length := by rw [wf.lp]; exact c1
    rw [if_neg (by rw [noKind_f c1]; simp), if_neg (by rw [c2]; simp)]
    unfold roomR at *
    rw [have_eq]
    simp only [nth_set c3]
    by_cases d : 10000 < Vbrgak.nth s.pack k + n
    · rw [if_pos (show Vbrgak.COUNT < _ from d), if_pos d]
    · rw [if_neg (show ¬ Vbrgak.COUNT < _ from d)]
      rw [if_neg d] at h ⊢
      by_cases e : 3 * s.capacity < 2 * (Vbrgak.weight s + n * Vbrgak.nth s.weights k)
      · rw [if_pos e, if_pos]
        unfold Vbrgak.tooMuch Vbrgak.weight at *
        exact decide_eq_true (by simp only [weightOf_more c1 c3]; omega)
      · rw [if_neg e] at h
        exact absurd rfl h
  · rw [if_neg c] at h ⊢
    rcases kindR_err c with ⟨a, e⟩ | ⟨a, b, e⟩
    · rw [if_pos a, e]
    · rw [if_neg (by rw [a]; simp), if_pos b, e]
theorem findR0 {s : State} {k n : Nat} (h : findR s k n = 0) : kindR s k = 0 ∧ Vbrgak.nth s.pack k + n ≤ 10000 ∧ ¬ 3 * s.capacity < 2 * (Vbrgak.weight s + n * Vbrgak.nth s.weights k) := by
  unfold findR roomR at h
  by_cases c : kindR s k = 0
  · rw [if_pos c] at h
    by_cases d : 10000 < Vbrgak.nth s.pack k + n
    · rw [if_pos d] at h; omega
    · rw [if_neg d] at h
      by_cases e : 3 * s.capacity < 2 * (Vbrgak.weight s + n * Vbrgak.nth s.weights k)
      · rw [if_pos e] at h; omega
      · exact ⟨c, by omega, e⟩
  · rw [if_neg c] at h
    exact absurd h c
theorem does_find_ok {s : State} {k n : Nat} (wf : WF s) (h : findR s k n = 0) : Vbrgak.does s (.find k n) = .ok ({ s with pack := s.pack.set k (Vbrgak.nth s.pack k + n) }, [Vbrgak.nat (Vbrgak.nth s.pack k + n)]) := by
  obtain ⟨c, d, e⟩ := findR0 h
  obtain ⟨c1, c2⟩ := kindR0 c
  have c3 : k < s.pack.length := by rw [wf.lp]; exact c1
  simp only [Vbrgak.does]
  rw [if_neg (by rw [noKind_f c1]; simp), if_neg (by rw [c2]; simp), have_eq]
  simp only [nth_set c3]
  rw [if_neg (show ¬ Vbrgak.COUNT < _ from by show ¬ 10000 < _; omega), if_neg]
  unfold Vbrgak.tooMuch Vbrgak.weight at *
  simp only [weightOf_more c1 c3]
  simp
  omega
theorem does_drop_err {s : State} {k n : Nat} (h : ¬ takeR s k n = 0) : Vbrgak.does s (.drop k n) = .error (takeR s k n) := by
  unfold takeR at *
  simp only [Vbrgak.does]
  by_cases c : kindR s k = 0
  · rw [if_pos c] at h ⊢
    obtain ⟨c1, c2⟩ := kindR0 c
    rw [if_neg (by rw [noKind_f c1]; simp), if_neg (by rw [c2]; simp)]
    by_cases d : Vbrgak.nth s.pack k < n
    · rw [if_pos d, if_pos d]
    · rw [if_neg d] at h
      exact absurd rfl h
  · rw [if_neg c] at h ⊢
    rcases kindR_err c with ⟨a, e⟩ | ⟨a, b, e⟩
    · rw [if_pos a, e]
    · rw [if_neg (by rw [a]; simp), if_pos b, e]
theorem does_drop_ok {s : State} {k n : Nat} (wf : WF s) (h : takeR s k n = 0) : Vbrgak.does s (.drop k n) = .ok ({ s with pack := s.pack.set k (Vbrgak.nth s.pack k - n) }, [Vbrgak.nat (Vbrgak.nth s.pack k - n)]) := by
  obtain ⟨c, d⟩ := takeR0 h
  obtain ⟨c1, c2⟩ := kindR0 c
  have c3 : k < s.pack.length := by rw [wf.lp]; exact c1
  simp only [Vbrgak.does]
  rw [if_neg (by rw [noKind_f c1]; simp), if_neg (by rw [c2]; simp), if_neg (by omega), have_eq]
  simp only [nth_set c3]
theorem useR0 {s : State} {k : Nat} {us : List Nat} (h : useR s k us = 0) : takeR s k 1 = 0 ∧ ¬ Vbrgak.nth us k = 0 := by
  unfold useR at h
  by_cases c : takeR s k 1 = 0
  · rw [if_pos c] at h
    by_cases d : Vbrgak.nth us k = 0
    · rw [if_pos d] at h; omega
    · exact ⟨c, d⟩
  · rw [if_neg c] at h
    exact absurd h c
/-- the refusals of eat and of fill, as the specification looks at them -/
theorem use_chain {s : State} {k : Nat} {us : List Nat} {α : Type} {x : Except Int α} : (if Vbrgak.noKind s k = true then .error (-5) else if Vbrgak.gone s = true then .error (-9) else if Vbrgak.nth s.pack k = 0 then .error (-6) else if Vbrgak.nth us k = 0 then .error (-8) else x)
    = if useR s k us = 0 then x else .error (useR s k us) := by
  unfold useR takeR
  by_cases c : kindR s k = 0
  · obtain ⟨c1, c2⟩ := kindR0 c
    rw [if_neg (by rw [noKind_f c1]; simp), if_neg (by rw [c2]; simp), if_pos c]
    by_cases d : Vbrgak.nth s.pack k = 0
    · rw [if_pos d, if_pos (show Vbrgak.nth s.pack k < 1 by omega)]
      rfl
    · rw [if_neg d, if_neg (show ¬ Vbrgak.nth s.pack k < 1 by omega)]
      by_cases e : Vbrgak.nth us k = 0
      · rw [if_pos e]
        simp [e]
      · rw [if_neg e]
        simp [e]
  · simp only [if_neg c]
    rcases kindR_err c with ⟨a, e⟩ | ⟨a, b, e⟩
    · rw [if_pos a, e]; all_goals rfl
    · rw [if_neg (by rw [a]; simp), if_pos b, e]; all_goals rfl
theorem does_eat {s : State} {k : Nat} : Vbrgak.does s (.eat k) = if useR s k s.foods = 0 then .ok ({ Vbrgak.have_ s k (Vbrgak.nth s.pack k - 1) with body := { s.body with fed := min Vbrgak.FULL (s.body.fed + 1000 * Vbrgak.nth s.foods k) } }, [Vbrgak.nat (min Vbrgak.FULL (s.body.fed + 1000 * Vbrgak.nth s.foods k) / 1000)]) else .error (useR s k s.foods) := use_chain
theorem does_fill {s : State} {k : Nat} : Vbrgak.does s (.fill k) = if useR s k s.fuels = 0 then .ok ({ Vbrgak.have_ s k (Vbrgak.nth s.pack k - 1) with body := { s.body with fuel := min Vbrgak.FUEL (s.body.fuel + Vbrgak.nth s.fuels k) } }, [Vbrgak.nat (min Vbrgak.FUEL (s.body.fuel + Vbrgak.nth s.fuels k))]) else .error (useR s k s.fuels) := use_chain
section
variable {P : Program} {w : World} {K : PySem.W.Frag} {mg : Str → Option Value} {base : Heap} {C : Addr}
abbrev spFind (C : Addr) : Sp := spCall2 C (fun _ n => n ≤ 10000) .find
abbrev spDrop (C : Addr) : Sp := spCall2 C (fun _ n => n ≤ 10000) .drop
abbrev spEat (C : Addr) : Sp := spCall1 C (fun _ => True) .eat
abbrev spFill (C : Addr) : Sp := spCall1 C (fun _ => True) .fill
theorem sc_find_things : FnScope ["house", "kind", "n", "refusal"] ["house", "kind", "n"] (defScope (top 34)) := ⟨rfl, rfl, rfl, by decide +kernel, rfl, by decide +kernel, by decide +kernel⟩
theorem ok_find_things (D : Dfs K mg "find_things" (top 34)) (T : Txt K mg C) (h_find_refusal : Has P w K mg base "find_refusal" ["house", "kind", "n"] 3 (spFindR C)) : Has P w K mg base "find_things" ["house", "kind", "n"] 4 (spFind C) := by
  refine mkHas D sc_find_things (fun vs H Q E h => ?_) (fun _ _ _ _ _ _ us hl => match us, hl with | [_, _, _], _ => rfl) (fun f cdv Ar outer sh H vs Q E hr h => ?_)
  · obtain ⟨A, s, k, n, rfl, _⟩ := h
    rfl
  · obtain ⟨A, s, k, n, rfl, hn, h, wf, kk⟩ := h
    refine ⟨_, (pss_cons (ps_set (i := 3) sc_find_things.nd rfl (Or.inl rfl) (pe_has h_find_refusal (hr.mono (by decide)) rfl (pa_cons (pv 0) (pa_cons (pv 1) (pa_cons (pv 2) pa_nil))))) (pss_cons (ps_if (pt_cmpR op_ne (pv 3) (pe_gI rfl T.g_ACCEPTED) (nomark _)) (pss_one (ps_ret (pe_lst (pa_cons (pv 3) pa_nil)))) pss_nil) (pss_cons (ps_augS (pe_fld (pv 0) rfl) (pv 1) get_list (pv 2) ip_add set_list) (pss_one (ps_ret (pe_lst (pa_cons (pe_gI rfl T.g_ACCEPTED) (pa_cons (pe_ix ix_list (pe_fld (pv 0) rfl) (pv 1) (fun _ _ => rfl)) pa_nil)))))))), ?_⟩
    refine ⟨_, rfl, _, rfl, _, rfl, A, s, k, n, rfl, hn, h, wf, ?_⟩
    rintro _ H1 rfl e1
    have h1 := h.same e1
    refine ⟨_, rfl, rfl, _, rfl, ?_⟩
    refine iteN (fun c => ?_) (fun c => ?_)
    · refine ⟨_, rfl, (by show 1 ≤ sizeLine; decide), fun q hq => ?_⟩
      exact kk.err (does_find_err wf c) h1 (Fx.of e1) hq (e1.free hq)
    obtain ⟨c1, c2⟩ := kindR0 (findR0 c).1
    have c3 : k < s.pack.length := by rw [wf.lp]; exact c1
    refine ⟨_, rfl, _, _, _, _, _, rfl, h1.o, T.cl, T.no _ (by decide), rfl, _, rfl, _, _, _, _, rfl, rfl, SqL.of h1.k, at_nL c3, _, rfl, _, _, rfl, rfl, _, _, _, k, rfl, rfl, h1.k, ix_nL c3, ?_⟩
    have h2 := h1.setPack (k := k) (n := Vbrgak.nth s.pack k + n) (v := V.int ((Vbrgak.nth s.pack k : Int) + (n : Int))) (nI_eq (Int.natCast_add _ _).symm)
    have f2 : Fx (foot A) H (upd H1 A.ap (.lst ((nL s.pack).set k (V.int ((Vbrgak.nth s.pack k : Int) + (n : Int)))))) := (Fx.of e1).trans (Fx.upd (by simp [foot]))
    refine ⟨_, rfl, _, _, _, _, _, rfl, h2.o, T.cl, T.no _ (by decide), rfl, _, rfl, _, _, _, _, rfl, rfl, SqL.of h2.k, at_nL (show k < (s.pack.set k _).length by rw [List.length_set]; exact c3), (by show 2 ≤ sizeLine; decide), fun q hq => ?_⟩
    exact kk.ok (does_find_ok wf c) h2 f2 hq (f2.free h2.foot hq) (congrArg (fun v => [V.int 0, nI v]) (nth_set c3))
theorem sc_drop_things : FnScope ["house", "kind", "n", "refusal"] ["house", "kind", "n"] (defScope (top 36)) := ⟨rfl, rfl, rfl, by decide +kernel, rfl, by decide +kernel, by decide +kernel⟩
theorem ok_drop_things (D : Dfs K mg "drop_things" (top 36)) (T : Txt K mg C) (h_taking_refusal : Has P w K mg base "taking_refusal" ["house", "kind", "n"] 3 (spTakeR C)) : Has P w K mg base "drop_things" ["house", "kind", "n"] 4 (spDrop C) := by
  refine mkHas D sc_drop_things (fun vs H Q E h => ?_) (fun _ _ _ _ _ _ us hl => match us, hl with | [_, _, _], _ => rfl) (fun f cdv Ar outer sh H vs Q E hr h => ?_)
  · obtain ⟨A, s, k, n, rfl, _⟩ := h
    rfl
  · obtain ⟨A, s, k, n, rfl, hn, h, wf, kk⟩ := h
    refine ⟨_, (pss_cons (ps_set (i := 3) sc_drop_things.nd rfl (Or.inl rfl) (pe_has h_taking_refusal (hr.mono (by decide)) rfl (pa_cons (pv 0) (pa_cons (pv 1) (pa_cons (pv 2) pa_nil))))) (pss_cons (ps_if (pt_cmpR op_ne (pv 3) (pe_gI rfl T.g_ACCEPTED) (nomark _)) (pss_one (ps_ret (pe_lst (pa_cons (pv 3) pa_nil)))) pss_nil) (pss_cons (ps_augS (pe_fld (pv 0) rfl) (pv 1) get_list (pv 2) ip_sub set_list) (pss_one (ps_ret (pe_lst (pa_cons (pe_gI rfl T.g_ACCEPTED) (pa_cons (pe_ix ix_list (pe_fld (pv 0) rfl) (pv 1) (fun _ _ => rfl)) pa_nil)))))))), ?_⟩
    refine ⟨_, rfl, _, rfl, _, rfl, A, s, k, n, rfl, h, wf, ?_⟩
    rintro _ rfl
    refine ⟨_, rfl, rfl, _, rfl, ?_⟩
    refine iteN (fun c => ?_) (fun c => ?_)
    · refine ⟨_, rfl, (by show 1 ≤ sizeLine; decide), fun q hq => ?_⟩
      exact kk.err (does_drop_err c) h (Fx.refl _ _) hq hq
    obtain ⟨c0, c4⟩ := takeR0 c
    obtain ⟨c1, c2⟩ := kindR0 c0
    have c3 : k < s.pack.length := by rw [wf.lp]; exact c1
    refine ⟨_, rfl, _, _, _, _, _, rfl, h.o, T.cl, T.no _ (by decide), rfl, _, rfl, _, _, _, _, rfl, rfl, SqL.of h.k, at_nL c3, _, rfl, _, _, rfl, rfl, _, _, _, k, rfl, rfl, h.k, ix_nL c3, ?_⟩
    have h2 := h.setPack (k := k) (n := Vbrgak.nth s.pack k - n) (v := V.int ((Vbrgak.nth s.pack k : Int) - (n : Int))) (nI_eq (by omega))
    have f2 : Fx (foot A) H (upd H A.ap (.lst ((nL s.pack).set k (V.int ((Vbrgak.nth s.pack k : Int) - (n : Int)))))) := Fx.upd (by simp [foot])
    refine ⟨_, rfl, _, _, _, _, _, rfl, h2.o, T.cl, T.no _ (by decide), rfl, _, rfl, _, _, _, _, rfl, rfl, SqL.of h2.k, at_nL (show k < (s.pack.set k _).length by rw [List.length_set]; exact c3), (by show 2 ≤ sizeLine; decide), fun q hq => ?_⟩
    exact kk.ok (does_drop_ok wf c) h2 f2 hq (f2.free h2.foot hq) (congrArg (fun v => [V.int 0, nI v]) (nth_set c3))
theorem sc_eat_thing : FnScope ["house", "kind", "refusal"] ["house", "kind"] (defScope (top 38)) := ⟨rfl, rfl, rfl, by decide +kernel, rfl, by decide +kernel, by decide +kernel⟩
theorem ok_eat_thing (D : Dfs K mg "eat_thing" (top 38)) (T : Txt K mg C) (h_use_refusal : Has P w K mg base "use_refusal" ["house", "kind", "uses"] 4 (spUseR C)) : Has P w K mg base "eat_thing" ["house", "kind"] 5 (spEat C) := by
  refine mkHas D sc_eat_thing (fun vs H Q E h => ?_) (fun _ _ _ _ _ _ us hl => match us, hl with | [_, _], _ => rfl) (fun f cdv Ar outer sh H vs Q E hr h => ?_)
  · obtain ⟨A, s, k, rfl, _⟩ := h
    rfl
  · obtain ⟨A, s, k, rfl, hn, h, wf, kk⟩ := h
    refine ⟨_, (pss_cons (ps_set (i := 2) sc_eat_thing.nd rfl (Or.inl rfl) (pe_has h_use_refusal (hr.mono (by decide)) rfl (pa_cons (pv 0) (pa_cons (pv 1) (pa_cons (pe_fld (pv 0) rfl) pa_nil))))) (pss_cons (ps_if (pt_cmpR op_ne (pv 2) (pe_gI rfl T.g_ACCEPTED) (nomark _)) (pss_one (ps_ret (pe_lst (pa_cons (pv 2) pa_nil)))) pss_nil) (pss_cons (ps_augS (pe_fld (pv 0) rfl) (pv 1) get_list pe_int ip_sub set_list) (pss_cons (ps_fld (pv 0) (pe_callB (call_min2 rfl) rfl T.n_min boot_min1 (pa_cons (pe_gI rfl T.g_MOST_FED) (pa_cons (pe_op op_add (pe_fld (pv 0) rfl) (pe_op op_mul pe_int (pe_ix ix_list (pe_fld (pv 0) rfl) (pv 1) (fun _ _ => rfl)))) pa_nil))) rfl) (pss_one (ps_ret (pe_lst (pa_cons (pe_gI rfl T.g_ACCEPTED) (pa_cons (pe_op op_fdiv (pe_fld (pv 0) rfl) pe_int) pa_nil))))))))), ?_⟩
    refine ⟨_, rfl, _, rfl, _, rfl, _, _, _, _, _, rfl, h.o, T.cl, T.no _ (by decide), rfl, A, s, k, A.af, s.foods, rfl, h.f, wf.lf, h, wf, ?_⟩
    rintro _ rfl
    refine ⟨_, rfl, rfl, _, rfl, ?_⟩
    refine iteN (fun c => ?_) (fun c => ?_)
    · refine ⟨_, rfl, (by show 1 ≤ sizeLine; decide), fun q hq => ?_⟩
      exact kk.err (by rw [does_eat, if_neg c]) h (Fx.refl _ _) hq hq
    obtain ⟨cu, c5⟩ := useR0 c
    obtain ⟨c0, c4⟩ := takeR0 cu
    obtain ⟨c1, c2⟩ := kindR0 c0
    have c3 : k < s.pack.length := by rw [wf.lp]; exact c1
    refine ⟨_, rfl, _, _, _, _, _, rfl, h.o, T.cl, T.no _ (by decide), rfl, _, rfl, _, _, _, _, rfl, rfl, SqL.of h.k, at_nL c3, _, _, rfl, rfl, _, _, _, k, rfl, rfl, h.k, ix_nL c3, ?_⟩
    have h2 := h.setPack (k := k) (n := Vbrgak.nth s.pack k - 1) (v := V.int ((Vbrgak.nth s.pack k : Int) - 1)) (nI_eq (by omega))
    have f2 : Fx (foot A) H (upd H A.ap (.lst ((nL s.pack).set k (V.int ((Vbrgak.nth s.pack k : Int) - 1))))) := Fx.upd (by simp [foot])
    refine ⟨_, rfl, _, _, _, _, _, rfl, h2.o, T.cl, T.no _ (by decide), rfl, _, rfl, _, _, _, _, _, rfl, h2.o, T.cl, T.no _ (by decide), rfl, _, rfl, _, _, _, _, rfl, rfl, SqL.of h2.f, at_nL (by show k < s.foods.length; rw [wf.lf]; exact c1), _, _, rfl, rfl, mul_small (by omega) (by omega), _, _, rfl, rfl, _, _, rfl, _, rfl, _, _, _, _, rfl, h2.o, T.cl, T.no _ (by decide), (by show 21 < 1000; decide), ?_⟩
    have h3 := HA.p_fed (s := sPack s (s.pack.set k (Vbrgak.nth s.pack k - 1))) (b := s.body) (n := min 2000000 (s.body.fed + 1000 * Vbrgak.nth s.foods k)) (z := if (s.body.fed : Int) + 1000 * (Vbrgak.nth s.foods k : Int) < 2000000 then (s.body.fed : Int) + 1000 * (Vbrgak.nth s.foods k : Int) else 2000000) h2 (by split <;> omega)
    refine ⟨_, rfl, _, _, _, _, _, rfl, h3.o, T.cl, T.no _ (by decide), rfl, _, _, rfl, rfl, ⟨by decide, by decide⟩, (by show 2 ≤ sizeLine; decide), fun q hq => ?_⟩
    have f3 := f2.trans (Fx.upd (F := foot A) (a := A.p) (o := .ins C A.dx (putF "fed" (V.int (if (s.body.fed : Int) + 1000 * (Vbrgak.nth s.foods k : Int) < 2000000 then (s.body.fed : Int) + 1000 * (Vbrgak.nth s.foods k : Int) else 2000000)) (hf A (sB (sPack s (s.pack.set k (Vbrgak.nth s.pack k - 1))) s.body)))) (by simp [foot]))
    exact kk.ok (by rw [does_eat, if_pos c, have_eq]; rfl) h3 f3 hq (f3.free h3.foot hq) (congrArg (fun v => [V.int 0, v]) (congrArg V.int (div_cast _ 1000)))
theorem sc_fill_light : FnScope ["house", "kind", "refusal"] ["house", "kind"] (defScope (top 39)) := ⟨rfl, rfl, rfl, by decide +kernel, rfl, by decide +kernel, by decide +kernel⟩
theorem ok_fill_light (D : Dfs K mg "fill_light" (top 39)) (T : Txt K mg C) (h_use_refusal : Has P w K mg base "use_refusal" ["house", "kind", "uses"] 4 (spUseR C)) : Has P w K mg base "fill_light" ["house", "kind"] 5 (spFill C) := by
  refine mkHas D sc_fill_light (fun vs H Q E h => ?_) (fun _ _ _ _ _ _ us hl => match us, hl with | [_, _], _ => rfl) (fun f cdv Ar outer sh H vs Q E hr h => ?_)
  · obtain ⟨A, s, k, rfl, _⟩ := h
    rfl
  · obtain ⟨A, s, k, rfl, hn, h, wf, kk⟩ := h
    refine ⟨_, (pss_cons (ps_set (i := 2) sc_fill_light.nd rfl (Or.inl rfl) (pe_has h_use_refusal (hr.mono (by decide)) rfl (pa_cons (pv 0) (pa_cons (pv 1) (pa_cons (pe_fld (pv 0) rfl) pa_nil))))) (pss_cons (ps_if (pt_cmpR op_ne (pv 2) (pe_gI rfl T.g_ACCEPTED) (nomark _)) (pss_one (ps_ret (pe_lst (pa_cons (pv 2) pa_nil)))) pss_nil) (pss_cons (ps_augS (pe_fld (pv 0) rfl) (pv 1) get_list pe_int ip_sub set_list) (pss_cons (ps_fld (pv 0) (pe_callB (call_min2 rfl) rfl T.n_min boot_min1 (pa_cons (pe_gI rfl T.g_MOST_FUEL) (pa_cons (pe_op op_add (pe_fld (pv 0) rfl) (pe_ix ix_list (pe_fld (pv 0) rfl) (pv 1) (fun _ _ => rfl))) pa_nil))) rfl) (pss_one (ps_ret (pe_lst (pa_cons (pe_gI rfl T.g_ACCEPTED) (pa_cons (pe_fld (pv 0) rfl) pa_nil))))))))), ?_⟩
    refine ⟨_, rfl, _, rfl, _, rfl, _, _, _, _, _, rfl, h.o, T.cl, T.no _ (by decide), rfl, A, s, k, A.al, s.fuels, rfl, h.l, wf.ll, h, wf, ?_⟩
    rintro _ rfl
    refine ⟨_, rfl, rfl, _, rfl, ?_⟩
    refine iteN (fun c => ?_) (fun c => ?_)
    · refine ⟨_, rfl, (by show 1 ≤ sizeLine; decide), fun q hq => ?_⟩
      exact kk.err (by rw [does_fill, if_neg c]) h (Fx.refl _ _) hq hq
    obtain ⟨cu, c5⟩ := useR0 c
    obtain ⟨c0, c4⟩ := takeR0 cu
    obtain ⟨c1, c2⟩ := kindR0 c0
    have c3 : k < s.pack.length := by rw [wf.lp]; exact c1
    refine ⟨_, rfl, _, _, _, _, _, rfl, h.o, T.cl, T.no _ (by decide), rfl, _, rfl, _, _, _, _, rfl, rfl, SqL.of h.k, at_nL c3, _, _, rfl, rfl, _, _, _, k, rfl, rfl, h.k, ix_nL c3, ?_⟩
    have h2 := h.setPack (k := k) (n := Vbrgak.nth s.pack k - 1) (v := V.int ((Vbrgak.nth s.pack k : Int) - 1)) (nI_eq (by omega))
    have f2 : Fx (foot A) H (upd H A.ap (.lst ((nL s.pack).set k (V.int ((Vbrgak.nth s.pack k : Int) - 1))))) := Fx.upd (by simp [foot])
    refine ⟨_, rfl, _, _, _, _, _, rfl, h2.o, T.cl, T.no _ (by decide), rfl, _, rfl, _, _, _, _, _, rfl, h2.o, T.cl, T.no _ (by decide), rfl, _, rfl, _, _, _, _, rfl, rfl, SqL.of h2.l, at_nL (by show k < s.fuels.length; rw [wf.ll]; exact c1), _, _, rfl, rfl, _, _, rfl, _, rfl, _, _, _, _, rfl, h2.o, T.cl, T.no _ (by decide), (by show 21 < 1000; decide), ?_⟩
    have h3 := HA.p_fuel (s := sPack s (s.pack.set k (Vbrgak.nth s.pack k - 1))) (b := s.body) (n := min 1000000 (s.body.fuel + Vbrgak.nth s.fuels k)) (z := if (s.body.fuel : Int) + (Vbrgak.nth s.fuels k : Int) < 1000000 then (s.body.fuel : Int) + (Vbrgak.nth s.fuels k : Int) else 1000000) h2 (by split <;> omega)
    refine ⟨_, rfl, _, _, _, _, _, rfl, h3.o, T.cl, T.no _ (by decide), rfl, (by show 2 ≤ sizeLine; decide), fun q hq => ?_⟩
    have f3 := f2.trans (Fx.upd (F := foot A) (a := A.p) (o := .ins C A.dx (putF "fuel" (V.int (if (s.body.fuel : Int) + (Vbrgak.nth s.fuels k : Int) < 1000000 then (s.body.fuel : Int) + (Vbrgak.nth s.fuels k : Int) else 1000000)) (hf A (sB (sPack s (s.pack.set k (Vbrgak.nth s.pack k - 1))) s.body)))) (by simp [foot]))
    exact kk.ok (by rw [does_fill, if_pos c, have_eq]; rfl) h3 f3 hq (f3.free h3.foot hq) rfl
end
end Ho
end
section
set_option Elab.async false
set_option linter.all false
set_option maxRecDepth 100000
set_option maxHeartbeats 2000000
namespace Ho
open PySem PySem.Spec PyProof.Rows L2
open Vbrgak (State Body)
theorem cost_eq (b m n : Nat) : (((b : Int) * (n : Int) * (100 + (m : Int)) + 99) / 100) = ((Vbrgak.cost b m n : Nat) : Int) := by
  unfold Vbrgak.cost Vbrgak.up
  have e : (b : Int) * (n : Int) * (100 + (m : Int)) = ((b * n * (100 + m) : Nat) : Int) := by rw [Int.natCast_mul, Int.natCast_mul, Int.natCast_add]; rfl
  rw [e]
  generalize b * n * (100 + m) = x
  omega
def buyR (s : State) (k n : Nat) : Int :=
  if Vbrgak.nth s.stock k < n then -6 else if s.coins < Vbrgak.cost (Vbrgak.nth s.bases k) s.markup n then -10 else
    roomR s k n (Vbrgak.weightOf s.weights s.pack + n * Vbrgak.nth s.weights k + (s.coins - Vbrgak.cost (Vbrgak.nth s.bases k) s.markup n) / 100)
theorem tooMuch_eq {s t : State} {k n c : Nat} (wf : WF s) (h : k < s.weights.length) (ec : t.capacity = s.capacity) (ew : t.weights = s.weights) (ep : t.pack = s.pack.set k (Vbrgak.nth s.pack k + n)) (eo : t.coins = c) :
    Vbrgak.tooMuch t = decide (3 * s.capacity < 2 * (Vbrgak.weightOf s.weights s.pack + n * Vbrgak.nth s.weights k + c / 100)) := by
  unfold Vbrgak.tooMuch Vbrgak.weight
  rw [ec, ew, ep, eo, weightOf_more h (by rw [wf.lp]; exact h)]
theorem does_buy {s : State} {k n : Nat} (wf : WF s) (hk : kindR s k = 0) : Vbrgak.does s (.buy k n) = if buyR s k n = 0 then .ok ({ s with pack := s.pack.set k (Vbrgak.nth s.pack k + n), coins := s.coins - Vbrgak.cost (Vbrgak.nth s.bases k) s.markup n, till := s.till + Vbrgak.cost (Vbrgak.nth s.bases k) s.markup n, stock := s.stock.set k (Vbrgak.nth s.stock k - n) },
    [Vbrgak.nat (Vbrgak.cost (Vbrgak.nth s.bases k) s.markup n)]) else .error (buyR s k n) := by
  obtain ⟨c1, c2⟩ := kindR0 hk
  have c3 : k < s.pack.length := by rw [wf.lp]; exact c1
  simp only [Vbrgak.does]
  rw [if_neg (by rw [noKind_f c1]; simp), if_neg (by rw [c2]; simp)]
  unfold buyR
  by_cases d : Vbrgak.nth s.stock k < n
  · rw [if_pos d, if_pos d]; rfl
  · rw [if_neg d, if_neg d]
    by_cases e : s.coins < Vbrgak.cost (Vbrgak.nth s.bases k) s.markup n
    · rw [if_pos e, if_pos e]; rfl
    · rw [if_neg e, if_neg e, have_eq, setAt_eq]
      simp only [nth_set c3]
      rw [tooMuch_eq (t := { s with pack := s.pack.set k (Vbrgak.nth s.pack k + n), coins := s.coins - Vbrgak.cost (Vbrgak.nth s.bases k) s.markup n, till := s.till + Vbrgak.cost (Vbrgak.nth s.bases k) s.markup n, stock := s.stock.set k (Vbrgak.nth s.stock k - n) }) (n := n) (c := s.coins - Vbrgak.cost (Vbrgak.nth s.bases k) s.markup n) wf c1 rfl rfl rfl rfl]
      unfold roomR
      by_cases f : 10000 < Vbrgak.nth s.pack k + n
      · rw [if_pos (show Vbrgak.COUNT < _ from f), if_pos f]; rfl
      · rw [if_neg (show ¬ Vbrgak.COUNT < _ from f), if_neg f]
        by_cases g : 3 * s.capacity < 2 * (Vbrgak.weightOf s.weights s.pack + n * Vbrgak.nth s.weights k + (s.coins - Vbrgak.cost (Vbrgak.nth s.bases k) s.markup n) / 100)
        · rw [if_pos (decide_eq_true g), if_pos g]; rfl
        · rw [if_neg (by rw [decide_eq_false g]; simp), if_neg g]; rfl
theorem does_buy_err {s : State} {k n : Nat} (hk : ¬ kindR s k = 0) : Vbrgak.does s (.buy k n) = .error (kindR s k) := by
  simp only [Vbrgak.does]
  rcases kindR_err hk with ⟨a, e⟩ | ⟨a, b, e⟩
  · rw [if_pos a, e]
  · rw [if_neg (by rw [a]; simp), if_pos b, e]
theorem buyR0 {s : State} {k n : Nat} (h : buyR s k n = 0) : n ≤ Vbrgak.nth s.stock k ∧ Vbrgak.cost (Vbrgak.nth s.bases k) s.markup n ≤ s.coins := by
  unfold buyR at h
  by_cases d : Vbrgak.nth s.stock k < n
  · rw [if_pos d] at h; omega
  · rw [if_neg d] at h
    by_cases e : s.coins < Vbrgak.cost (Vbrgak.nth s.bases k) s.markup n
    · rw [if_pos e] at h; omega
    · exact ⟨by omega, by omega⟩
section
variable {P : Program} {w : World} {K : PySem.W.Frag} {mg : Str → Option Value} {base : Heap} {C : Addr}
def spCost (C : Addr) : Sp := fun vs H Q _ => ∃ A s, ∃ k n : Nat, vs = [V.ref A.p, nI k, nI n] ∧ n ≤ 10000 ∧ k < s.weights.length ∧ HA C H A s ∧ WF s ∧ ∀ v, v = nI (Vbrgak.cost (Vbrgak.nth s.bases k) s.markup n) → Q v H
theorem sc_cost_of : FnScope ["house", "kind", "n"] ["house", "kind", "n"] (defScope (top 41)) := ⟨rfl, rfl, rfl, by decide +kernel, rfl, by decide +kernel, by decide +kernel⟩
theorem ok_cost_of (D : Dfs K mg "cost_of" (top 41)) (T : Txt K mg C) : Has P w K mg base "cost_of" ["house", "kind", "n"] 1 (spCost C) := by
  refine mkHas D sc_cost_of (fun vs H Q E h => ?_) (fun _ _ _ _ _ _ us hl => match us, hl with | [_, _, _], _ => rfl) (fun f cdv Ar outer sh H vs Q E hr h => ?_)
  · obtain ⟨A, s, k, n, rfl, _⟩ := h
    rfl
  · obtain ⟨A, s, k, n, rfl, hn, hk, h, wf, kk⟩ := h
    refine ⟨_, (pss_one (ps_ret (pe_op op_fdiv (pe_op op_add (pe_op op_mul (pe_op op_mul (pe_ix ix_list (pe_fld (pv 0) rfl) (pv 1) (fun _ _ => rfl)) (pv 2)) (pe_op op_add pe_int (pe_fld (pv 0) rfl))) pe_int) pe_int))), ?_⟩
    have hm := wf.mku
    refine ⟨_, rfl, _, _, _, _, _, rfl, h.o, T.cl, T.no _ (by decide), rfl, _, rfl, _, _, _, _, rfl, rfl, SqL.of h.b, at_nL (by rw [wf.lb]; exact hk), _, rfl, _, _, rfl, rfl, mul_small2 (by omega) (by omega), _, rfl, _, _, _, _, _, rfl, h.o, T.cl, T.no _ (by decide), rfl, _, _, rfl, rfl, _, _, rfl, rfl, mul_small2 (by omega) (by omega), _, _, rfl, rfl, _, _, rfl, rfl, ⟨by decide, by decide⟩, ?_⟩
    exact kk _ (nI_eq (cost_eq _ _ _))
theorem gain_eq (b p n : Nat) : ((b : Int) * (n : Int) * (p : Int) / 100) = ((Vbrgak.yield b p n : Nat) : Int) := by
  unfold Vbrgak.yield
  have e : (b : Int) * (n : Int) * (p : Int) = ((b * n * p : Nat) : Int) := by rw [Int.natCast_mul, Int.natCast_mul]
  rw [e]
  exact div_cast _ 100
def spGain (C : Addr) : Sp := fun vs H Q _ => ∃ A s, ∃ k n : Nat, vs = [V.ref A.p, nI k, nI n] ∧ n ≤ 10000 ∧ k < s.weights.length ∧ HA C H A s ∧ WF s ∧ ∀ v, v = nI (Vbrgak.yield (Vbrgak.nth s.bases k) s.pays n) → Q v H
theorem sc_gain_of : FnScope ["house", "kind", "n"] ["house", "kind", "n"] (defScope (top 42)) := ⟨rfl, rfl, rfl, by decide +kernel, rfl, by decide +kernel, by decide +kernel⟩
theorem ok_gain_of (D : Dfs K mg "gain_of" (top 42)) (T : Txt K mg C) : Has P w K mg base "gain_of" ["house", "kind", "n"] 1 (spGain C) := by
  refine mkHas D sc_gain_of (fun vs H Q E h => ?_) (fun _ _ _ _ _ _ us hl => match us, hl with | [_, _, _], _ => rfl) (fun f cdv Ar outer sh H vs Q E hr h => ?_)
  · obtain ⟨A, s, k, n, rfl, _⟩ := h
    rfl
  · obtain ⟨A, s, k, n, rfl, hn, hk, h, wf, kk⟩ := h
    refine ⟨_, (pss_one (ps_ret (pe_op op_fdiv (pe_op op_mul (pe_op op_mul (pe_ix ix_list (pe_fld (pv 0) rfl) (pv 1) (fun _ _ => rfl)) (pv 2)) (pe_fld (pv 0) rfl)) pe_int))), ?_⟩
    have hm := wf.pa
    refine ⟨_, rfl, _, _, _, _, _, rfl, h.o, T.cl, T.no _ (by decide), rfl, _, rfl, _, _, _, _, rfl, rfl, SqL.of h.b, at_nL (by rw [wf.lb]; exact hk), _, rfl, _, _, rfl, rfl, mul_small2 (by omega) (by omega), _, rfl, _, _, _, _, _, rfl, h.o, T.cl, T.no _ (by decide), rfl, _, _, rfl, rfl, mul_small2 (by omega) (by omega), _, _, rfl, rfl, ⟨by decide, by decide⟩, ?_⟩
    exact kk _ (nI_eq (gain_eq _ _ _))
/-- the weight behind a deal; where one sells, n and paid are below 0 -/
def spAfter (C : Addr) : Sp := fun vs H Q _ => ∃ A s, ∃ (k : Nat) (n paid : Int), vs = [V.ref A.p, nI k, V.int n, V.int paid] ∧ (-10000 ≤ n ∧ n ≤ 10000) ∧ k < s.weights.length ∧ HA C H A s ∧ WF s ∧
  ∀ v H', v = V.int ((Vbrgak.weightOf s.weights s.pack : Int) + n * (Vbrgak.nth s.weights k : Int) + ((s.coins : Int) - paid) / 100) → Same H H' → Q v H'
theorem sc_weight_after : FnScope ["house", "kind", "n", "paid"] ["house", "kind", "n", "paid"] (defScope (top 43)) := ⟨rfl, rfl, rfl, by decide +kernel, rfl, by decide +kernel, by decide +kernel⟩
theorem ok_weight_after (D : Dfs K mg "weight_after" (top 43)) (T : Txt K mg C) (h_pack_weight : Has P w K mg base "pack_weight" ["house"] 1 (spPackW C)) (h_coins_weight : Has P w K mg base "coins_weight" ["coins"] 1 spCoinsW) : Has P w K mg base "weight_after" ["house", "kind", "n", "paid"] 2 (spAfter C) := by
  refine mkHas D sc_weight_after (fun vs H Q E h => ?_) (fun _ _ _ _ _ _ us hl => match us, hl with | [_, _, _, _], _ => rfl) (fun f cdv Ar outer sh H vs Q E hr h => ?_)
  · obtain ⟨A, s, k, n, paid, rfl, _⟩ := h
    rfl
  · obtain ⟨A, s, k, n, paid, rfl, hn, hk, h, wf, kk⟩ := h
    refine ⟨_, (pss_one (ps_ret (pe_op op_add (pe_op op_add (pe_has h_pack_weight (hr.mono (by decide)) rfl (pa_cons (pv 0) pa_nil)) (pe_op op_mul (pv 2) (pe_ix ix_list (pe_fld (pv 0) rfl) (pv 1) (fun _ _ => rfl)))) (pe_has h_coins_weight (hr.mono (by decide)) rfl (pa_cons (pe_op op_sub (pe_fld (pv 0) rfl) (pv 3)) pa_nil))))), ?_⟩
    refine ⟨_, rfl, A, s, rfl, h, wf, ?_⟩
    rintro _ H1 rfl e1
    have h1 := h.same e1
    refine ⟨_, rfl, _, rfl, _, _, _, _, _, rfl, h1.o, T.cl, T.no _ (by decide), rfl, _, rfl, _, _, _, _, rfl, rfl, SqL.of h1.w, at_nL hk, _, _, rfl, rfl, .inl ⟨by omega, by omega⟩, _, _, rfl, rfl, _, rfl, _, _, _, _, _, rfl, h1.o, T.cl, T.no _ (by decide), rfl, _, rfl, _, _, rfl, rfl, ?_⟩
    refine ⟨_, rfl, ?_⟩
    rintro _ rfl
    refine ⟨_, _, rfl, rfl, ?_⟩
    exact kk _ _ rfl e1
def spDeal (C : Addr) : Sp := fun vs H Q _ => ∃ A s, ∃ (k : Nat) (n paid : Int) (st pk co ti : Nat), vs = [V.ref A.p, nI k, V.int n, V.int paid] ∧ ((Vbrgak.nth s.stock k : Int) - n = st ∧ (Vbrgak.nth s.pack k : Int) + n = pk ∧ (s.coins : Int) - paid = co ∧ (s.till : Int) + paid = ti) ∧ k < s.weights.length ∧ HA C H A s ∧ WF s ∧
  ∀ H', HA C H' A { s with pack := s.pack.set k pk, coins := co, till := ti, stock := s.stock.set k st } → Fx (foot A) H H' → Q .non H'
theorem sc_deal : FnScope ["house", "kind", "n", "paid"] ["house", "kind", "n", "paid"] (defScope (top 44)) := ⟨rfl, rfl, rfl, by decide +kernel, rfl, by decide +kernel, by decide +kernel⟩
theorem ok_deal (D : Dfs K mg "deal" (top 44)) (T : Txt K mg C) : Has P w K mg base "deal" ["house", "kind", "n", "paid"] 1 (spDeal C) := by
  refine mkHas D sc_deal (fun vs H Q E h => ?_) (fun _ _ _ _ _ _ us hl => match us, hl with | [_, _, _, _], _ => rfl) (fun f cdv Ar outer sh H vs Q E hr h => ?_)
  · obtain ⟨A, s, k, n, paid, st, pk, co, ti, rfl, _⟩ := h
    rfl
  · obtain ⟨A, s, k, n, paid, st, pk, co, ti, rfl, ⟨x1, x2, x3, x4⟩, hk, h1, wf, kk⟩ := h
    refine ⟨_, (pss_cons (ps_augS (pe_fld (pv 0) rfl) (pv 1) get_list (pv 2) ip_sub set_list) (pss_cons (ps_augS (pe_fld (pv 0) rfl) (pv 1) get_list (pv 2) ip_add set_list) (pss_cons (ps_fldaug (pv 0) (pv 3) in_sub) (pss_one (ps_fldaug (pv 0) (pv 3) in_add))))), ?_⟩
    have c3 : k < s.pack.length := by rw [wf.lp]; exact hk
    have c4 : k < s.stock.length := by rw [wf.lt]; exact hk
    refine ⟨_, rfl, _, _, _, _, _, rfl, h1.o, T.cl, T.no _ (by decide), rfl, _, rfl, _, _, _, _, rfl, rfl, SqL.of h1.t, at_nL c4, _, rfl, _, _, rfl, rfl, _, _, _, k, rfl, rfl, h1.t, ix_nL c4, ?_⟩
    have h2 := h1.setStock (k := k) (n := st) (v := V.int ((Vbrgak.nth s.stock k : Int) - n)) (nI_eq x1)
    refine ⟨_, rfl, _, _, _, _, _, rfl, h2.o, T.cl, T.no _ (by decide), rfl, _, rfl, _, _, _, _, rfl, rfl, SqL.of h2.k, at_nL c3, _, rfl, _, _, rfl, rfl, _, _, _, k, rfl, rfl, h2.k, ix_nL c3, ?_⟩
    have h3 := h2.setPack (k := k) (n := pk) (v := V.int ((Vbrgak.nth s.pack k : Int) + n)) (nI_eq x2)
    refine ⟨_, rfl, _, _, _, _, _, rfl, h3.o, T.cl, T.no _ (by decide), rfl, _, rfl, _, _, rfl, rfl, _, _, h3.o, (by show 21 < 1000; decide), ?_⟩
    have h4 := h3.p_coins (n := co) (z := (s.coins : Int) - paid) x3
    refine ⟨_, rfl, _, _, _, _, _, rfl, h4.o, T.cl, T.no _ (by decide), rfl, _, rfl, _, _, rfl, rfl, _, _, h4.o, (by show 21 < 1000; decide), ?_⟩
    have h5 := h4.p_shop_coins (n := ti) (z := (s.till : Int) + paid) x4
    exact kk _ h5 ((((Fx.upd (a := A.at_) (by simp [foot]))).trans (Fx.upd (a := A.ap) (by simp [foot]))).trans ((Fx.upd (a := A.p) (by simp [foot])).trans (Fx.upd (a := A.p) (by simp [foot]))))
def spBuyR (C : Addr) : Sp := fun vs H Q _ => ∃ A s, ∃ k n : Nat, vs = [V.ref A.p, nI k, nI n, nI (Vbrgak.cost (Vbrgak.nth s.bases k) s.markup n)] ∧ n ≤ 10000 ∧ k < s.weights.length ∧ HA C H A s ∧ WF s ∧ ∀ v H', v = V.int (buyR s k n) → Same H H' → Q v H'
theorem sc_buy_refusal : FnScope ["house", "kind", "n", "cost"] ["house", "kind", "n", "cost"] (defScope (top 46)) := ⟨rfl, rfl, rfl, by decide +kernel, rfl, by decide +kernel, by decide +kernel⟩
theorem ok_buy_refusal (D : Dfs K mg "buy_refusal" (top 46)) (T : Txt K mg C) (h_weight_after : Has P w K mg base "weight_after" ["house", "kind", "n", "paid"] 2 (spAfter C)) (h_room_refusal : Has P w K mg base "room_refusal" ["house", "kind", "n", "weight"] 2 (spRoomR C)) : Has P w K mg base "buy_refusal" ["house", "kind", "n", "cost"] 3 (spBuyR C) := by
  refine mkHas D sc_buy_refusal (fun vs H Q E h => ?_) (fun _ _ _ _ _ _ us hl => match us, hl with | [_, _, _, _], _ => rfl) (fun f cdv Ar outer sh H vs Q E hr h => ?_)
  · obtain ⟨A, s, k, n, rfl, _⟩ := h
    rfl
  · obtain ⟨A, s, k, n, rfl, hn, hk, h, wf, kk⟩ := h
    refine ⟨_, (pss_cons (ps_if (pt_cmpR op_lt (pe_ix ix_list (pe_fld (pv 0) rfl) (pv 1) (fun _ _ => rfl)) (pv 2) (nomark _)) (pss_one (ps_ret (pe_gI rfl T.g_TOO_FEW))) pss_nil) (pss_cons (ps_if (pt_cmpR op_lt (pe_fld (pv 0) rfl) (pv 3) (nomark _)) (pss_one (ps_ret (pe_gI rfl T.g_TOO_FEW_COINS))) pss_nil) (pss_one (ps_ret (pe_has h_room_refusal (hr.mono (by decide)) rfl (pa_cons (pv 0) (pa_cons (pv 1) (pa_cons (pv 2) (pa_cons (pe_has h_weight_after (hr.mono (by decide)) rfl (pa_cons (pv 0) (pa_cons (pv 1) (pa_cons (pv 2) (pa_cons (pv 3) pa_nil))))) pa_nil))))))))), ?_⟩
    refine ⟨_, rfl, _, _, _, _, _, rfl, h.o, T.cl, T.no _ (by decide), rfl, _, rfl, _, _, _, _, rfl, rfl, SqL.of h.t, at_nL (by rw [wf.lt]; exact hk), _, rfl, _, _, rfl, rfl, _, rfl, ?_⟩
    refine iteD (fun c => ?_) (fun c => ?_)
    · exact kk _ _ (congrArg V.int (by unfold buyR; rw [if_pos (by omega)])) (Same.refl _)
    refine ⟨_, rfl, _, _, _, _, _, rfl, h.o, T.cl, T.no _ (by decide), rfl, _, rfl, _, _, rfl, rfl, _, rfl, ?_⟩
    refine iteD (fun c2 => ?_) (fun c2 => ?_)
    · exact kk _ _ (congrArg V.int (by unfold buyR; rw [if_neg (by omega), if_pos (by omega)])) (Same.refl _)
    refine ⟨_, rfl, _, rfl, _, rfl, _, rfl, _, rfl, _, rfl, _, rfl, A, s, k, _, _, rfl, ⟨by omega, by omega⟩, hk, h, wf, ?_⟩
    rintro _ H1 rfl e1
    have h1 := h.same e1
    refine ⟨A, s, k, n, Vbrgak.weightOf s.weights s.pack + n * Vbrgak.nth s.weights k + (s.coins - Vbrgak.cost (Vbrgak.nth s.bases k) s.markup n) / 100, ?_, h1, by rw [wf.lp]; exact hk, ?_⟩
    · exact congrArg (fun v => [V.ref A.p, nI k, nI n, v]) (nI_eq (by rw [Int.natCast_add, Int.natCast_add, Int.natCast_mul, Int.natCast_ediv, Int.natCast_sub (by omega)]; rfl))
    · rintro _ rfl
      exact kk _ _ (congrArg V.int (by unfold buyR; rw [if_neg (by omega), if_neg (by omega)])) e1
abbrev spBuy (C : Addr) : Sp := spCall2 C (fun _ n => n ≤ 10000) .buy
theorem sc_buy_things : FnScope ["house", "kind", "n", "refusal", "cost"] ["house", "kind", "n"] (defScope (top 47)) := ⟨rfl, rfl, rfl, by decide +kernel, rfl, by decide +kernel, by decide +kernel⟩
theorem ok_buy_things (D : Dfs K mg "buy_things" (top 47)) (T : Txt K mg C) (h_kind_refusal : Has P w K mg base "kind_refusal" ["house", "kind"] 2 (spKindR C)) (h_cost_of : Has P w K mg base "cost_of" ["house", "kind", "n"] 1 (spCost C)) (h_buy_refusal : Has P w K mg base "buy_refusal" ["house", "kind", "n", "cost"] 3 (spBuyR C)) (h_deal : Has P w K mg base "deal" ["house", "kind", "n", "paid"] 1 (spDeal C)) : Has P w K mg base "buy_things" ["house", "kind", "n"] 4 (spBuy C) := by
  refine mkHas D sc_buy_things (fun vs H Q E h => ?_) (fun _ _ _ _ _ _ us hl => match us, hl with | [_, _, _], _ => rfl) (fun f cdv Ar outer sh H vs Q E hr h => ?_)
  · obtain ⟨A, s, k, n, rfl, _⟩ := h
    rfl
  · obtain ⟨A, s, k, n, rfl, hn, h, wf, kk⟩ := h
    refine ⟨_, (pss_cons (ps_set (i := 3) sc_buy_things.nd rfl (Or.inl rfl) (pe_has h_kind_refusal (hr.mono (by decide)) rfl (pa_cons (pv 0) (pa_cons (pv 1) pa_nil)))) (pss_cons (ps_if (pt_cmpR op_ne (pv 3) (pe_gI rfl T.g_ACCEPTED) (nomark _)) (pss_one (ps_ret (pe_lst (pa_cons (pv 3) pa_nil)))) pss_nil) (pss_cons (ps_set (i := 4) sc_buy_things.nd rfl (Or.inl rfl) (pe_has h_cost_of (hr.mono (by decide)) rfl (pa_cons (pv 0) (pa_cons (pv 1) (pa_cons (pv 2) pa_nil))))) (pss_cons (ps_set (i := 3) sc_buy_things.nd rfl (Or.inl rfl) (pe_has h_buy_refusal (hr.mono (by decide)) rfl (pa_cons (pv 0) (pa_cons (pv 1) (pa_cons (pv 2) (pa_cons (pv 4) pa_nil)))))) (pss_cons (ps_if (pt_cmpR op_ne (pv 3) (pe_gI rfl T.g_ACCEPTED) (nomark _)) (pss_one (ps_ret (pe_lst (pa_cons (pv 3) pa_nil)))) pss_nil) (pss_cons (ps_expr (pe_has h_deal (hr.mono (by decide)) rfl (pa_cons (pv 0) (pa_cons (pv 1) (pa_cons (pv 2) (pa_cons (pv 4) pa_nil)))))) (pss_one (ps_ret (pe_lst (pa_cons (pe_gI rfl T.g_ACCEPTED) (pa_cons (pv 4) pa_nil))))))))))), ?_⟩
    refine ⟨_, rfl, _, rfl, A, s, k, rfl, h, ?_⟩
    rintro _ rfl
    refine ⟨_, rfl, rfl, _, rfl, ?_⟩
    refine iteN (fun c => ?_) (fun c => ?_)
    · refine ⟨_, rfl, (by show 1 ≤ sizeLine; decide), fun q hq => ?_⟩
      exact kk.err (does_buy_err c) h (Fx.refl _ _) hq hq
    obtain ⟨c1, c2⟩ := kindR0 c
    refine ⟨_, rfl, _, rfl, _, rfl, A, s, k, n, rfl, hn, c1, h, wf, ?_⟩
    rintro _ rfl
    refine ⟨_, rfl, _, rfl, _, rfl, _, rfl, A, s, k, n, rfl, hn, c1, h, wf, ?_⟩
    rintro _ H1 rfl e1
    have h1 := h.same e1
    refine ⟨_, rfl, rfl, _, rfl, ?_⟩
    refine iteN (fun d => ?_) (fun d => ?_)
    · refine ⟨_, rfl, (by show 1 ≤ sizeLine; decide), fun q hq => ?_⟩
      exact kk.err (by rw [does_buy wf c, if_neg d]) h1 (Fx.of e1) hq (e1.free hq)
    obtain ⟨d1, d2⟩ := buyR0 d
    have hx := does_buy (n := n) wf c
    rw [if_pos d] at hx
    refine ⟨_, rfl, _, rfl, _, rfl, _, rfl, A, s, k, _, _, Vbrgak.nth s.stock k - n, Vbrgak.nth s.pack k + n, s.coins - Vbrgak.cost (Vbrgak.nth s.bases k) s.markup n, s.till + Vbrgak.cost (Vbrgak.nth s.bases k) s.markup n, rfl, ⟨by omega, by omega, by omega, by omega⟩, c1, h1, wf, ?_⟩
    intro H5 h5 f5
    refine ⟨_, rfl, (by show 2 ≤ sizeLine; decide), fun q hq => ?_⟩
    have f6 := (Fx.of (F := foot A) e1).trans f5
    exact kk.ok hx h5 f6 hq (f6.free h5.foot hq) rfl
end
end Ho
end
section
set_option Elab.async false
set_option linter.all false
set_option maxRecDepth 100000
set_option maxHeartbeats 2000000
namespace Ho
open PySem PySem.Spec PyProof.Rows L2
open Vbrgak (State Body)
def stockR (s : State) (k n : Nat) : Int := if 10000 < Vbrgak.nth s.stock k + n then -4 else 0
def sellR (s : State) (k n : Nat) : Int :=
  if s.till < Vbrgak.yield (Vbrgak.nth s.bases k) s.pays n then -10 else if stockR s k n = 0 then (if 3 * s.capacity < 2 * (Vbrgak.weightOf s.weights (s.pack.set k (Vbrgak.nth s.pack k - n)) + (s.coins + Vbrgak.yield (Vbrgak.nth s.bases k) s.pays n) / 100) then -7 else 0) else stockR s k n
theorem does_sell_err {s : State} {k n : Nat} (h : ¬ takeR s k n = 0) : Vbrgak.does s (.sell k n) = .error (takeR s k n) := by
  unfold takeR at *
  simp only [Vbrgak.does]
  by_cases c : kindR s k = 0
  · rw [if_pos c] at h ⊢
    obtain ⟨c1, c2⟩ := kindR0 c
    rw [if_neg (by rw [noKind_f c1]; simp), if_neg (by rw [c2]; simp)]
    by_cases d : Vbrgak.nth s.pack k < n
    · rw [if_pos d, if_pos d]
    · rw [if_neg d] at h
      exact absurd rfl h
  · rw [if_neg c] at h ⊢
    rcases kindR_err c with ⟨a, e⟩ | ⟨a, b, e⟩
    · rw [if_pos a, e]
    · rw [if_neg (by rw [a]; simp), if_pos b, e]
theorem does_sell {s : State} {k n : Nat} (wf : WF s) (hk : takeR s k n = 0) : Vbrgak.does s (.sell k n) = if sellR s k n = 0 then .ok ({ s with pack := s.pack.set k (Vbrgak.nth s.pack k - n), coins := s.coins + Vbrgak.yield (Vbrgak.nth s.bases k) s.pays n, till := s.till - Vbrgak.yield (Vbrgak.nth s.bases k) s.pays n, stock := s.stock.set k (Vbrgak.nth s.stock k + n) },
    [Vbrgak.nat (Vbrgak.yield (Vbrgak.nth s.bases k) s.pays n)]) else .error (sellR s k n) := by
  obtain ⟨c0, c4⟩ := takeR0 hk
  obtain ⟨c1, c2⟩ := kindR0 c0
  have c3 : k < s.stock.length := by rw [wf.lt]; exact c1
  simp only [Vbrgak.does]
  rw [if_neg (by rw [noKind_f c1]; simp), if_neg (by rw [c2]; simp), if_neg (by omega)]
  unfold sellR stockR
  by_cases e : s.till < Vbrgak.yield (Vbrgak.nth s.bases k) s.pays n
  · rw [if_pos e, if_pos e]; rfl
  · rw [if_neg e, if_neg e, have_eq, setAt_eq]
    simp only [nth_set c3]
    by_cases f : 10000 < Vbrgak.nth s.stock k + n
    · rw [if_pos (show Vbrgak.COUNT < _ from f), if_pos f]; rfl
    · rw [if_neg (show ¬ Vbrgak.COUNT < _ from f), if_neg f]
      unfold Vbrgak.tooMuch Vbrgak.weight
      simp only []
      by_cases g : 3 * s.capacity < 2 * (Vbrgak.weightOf s.weights (s.pack.set k (Vbrgak.nth s.pack k - n)) + (s.coins + Vbrgak.yield (Vbrgak.nth s.bases k) s.pays n) / 100)
      · rw [if_pos (decide_eq_true g), if_pos g]; rfl
      · rw [if_neg (by rw [decide_eq_false g]; simp), if_neg g]; rfl
theorem sellR0 {s : State} {k n : Nat} (h : sellR s k n = 0) : Vbrgak.yield (Vbrgak.nth s.bases k) s.pays n ≤ s.till := by
  unfold sellR at h
  by_cases d : s.till < Vbrgak.yield (Vbrgak.nth s.bases k) s.pays n
  · rw [if_pos d] at h; omega
  · omega
section
variable {P : Program} {w : World} {K : PySem.W.Frag} {mg : Str → Option Value} {base : Heap} {C : Addr}
def spStockR (C : Addr) : Sp := fun vs H Q _ => ∃ A s, ∃ k n : Nat, vs = [V.ref A.p, nI k, nI n] ∧ k < s.weights.length ∧ HA C H A s ∧ WF s ∧ ∀ v, v = V.int (stockR s k n) → Q v H
theorem sc_stock_refusal : FnScope ["house", "kind", "n"] ["house", "kind", "n"] (defScope (top 45)) := ⟨rfl, rfl, rfl, by decide +kernel, rfl, by decide +kernel, by decide +kernel⟩
theorem ok_stock_refusal (D : Dfs K mg "stock_refusal" (top 45)) (T : Txt K mg C) : Has P w K mg base "stock_refusal" ["house", "kind", "n"] 1 (spStockR C) := by
  refine mkHas D sc_stock_refusal (fun vs H Q E h => ?_) (fun _ _ _ _ _ _ us hl => match us, hl with | [_, _, _], _ => rfl) (fun f cdv Ar outer sh H vs Q E hr h => ?_)
  · obtain ⟨A, s, k, n, rfl, _⟩ := h
    rfl
  · obtain ⟨A, s, k, n, rfl, hk, h, wf, kk⟩ := h
    refine ⟨_, (pss_cons (ps_if (pt_cmpR op_gt (pe_op op_add (pe_ix ix_list (pe_fld (pv 0) rfl) (pv 1) (fun _ _ => rfl)) (pv 2)) (pe_gI rfl T.g_MOST_OF_A_KIND) (nomark _)) (pss_one (ps_ret (pe_gI rfl T.g_BAD_COUNT))) pss_nil) (pss_one (ps_ret (pe_gI rfl T.g_ACCEPTED)))), ?_⟩
    refine ⟨_, rfl, _, _, _, _, _, rfl, h.o, T.cl, T.no _ (by decide), rfl, _, rfl, _, _, _, _, rfl, rfl, SqL.of h.t, at_nL (by rw [wf.lt]; exact hk), _, rfl, _, _, rfl, rfl, _, _, rfl, rfl, _, rfl, ?_⟩
    refine iteD (fun c => ?_) (fun c => ?_)
    · exact kk _ (congrArg V.int (by unfold stockR; rw [if_pos (by omega)]))
    · exact kk _ (congrArg V.int (by unfold stockR; rw [if_neg (by omega)]))
def spSellR (C : Addr) : Sp := fun vs H Q _ => ∃ A s, ∃ k n : Nat, vs = [V.ref A.p, nI k, nI n, nI (Vbrgak.yield (Vbrgak.nth s.bases k) s.pays n)] ∧ n ≤ 10000 ∧ takeR s k n = 0 ∧ HA C H A s ∧ WF s ∧ ∀ v H', v = V.int (sellR s k n) → Same H H' → Q v H'
theorem sc_sell_refusal : FnScope ["house", "kind", "n", "gain", "refusal"] ["house", "kind", "n", "gain"] (defScope (top 48)) := ⟨rfl, rfl, rfl, by decide +kernel, rfl, by decide +kernel, by decide +kernel⟩
theorem ok_sell_refusal (D : Dfs K mg "sell_refusal" (top 48)) (T : Txt K mg C) (h_stock_refusal : Has P w K mg base "stock_refusal" ["house", "kind", "n"] 1 (spStockR C)) (h_weight_after : Has P w K mg base "weight_after" ["house", "kind", "n", "paid"] 2 (spAfter C)) (h_is_too_much : Has P w K mg base "is_too_much" ["house", "weight"] 1 (spTooMuch C)) : Has P w K mg base "sell_refusal" ["house", "kind", "n", "gain"] 3 (spSellR C) := by
  refine mkHas D sc_sell_refusal (fun vs H Q E h => ?_) (fun _ _ _ _ _ _ us hl => match us, hl with | [_, _, _, _], _ => rfl) (fun f cdv Ar outer sh H vs Q E hr h => ?_)
  · obtain ⟨A, s, k, n, rfl, _⟩ := h
    rfl
  · obtain ⟨A, s, k, n, rfl, hn, ht, h, wf, kk⟩ := h
    obtain ⟨c0, c4⟩ := takeR0 ht
    obtain ⟨hk, c2⟩ := kindR0 c0
    refine ⟨_, (pss_cons (ps_if (pt_cmpR op_lt (pe_fld (pv 0) rfl) (pv 3) (nomark _)) (pss_one (ps_ret (pe_gI rfl T.g_TOO_FEW_COINS))) pss_nil) (pss_cons (ps_set (i := 4) sc_sell_refusal.nd rfl (Or.inl rfl) (pe_has h_stock_refusal (hr.mono (by decide)) rfl (pa_cons (pv 0) (pa_cons (pv 1) (pa_cons (pv 2) pa_nil))))) (pss_cons (ps_if (pt_cmpR op_ne (pv 4) (pe_gI rfl T.g_ACCEPTED) (nomark _)) (pss_one (ps_ret (pv 4))) pss_nil) (pss_cons (ps_if (pt_val (pe_has h_is_too_much (hr.mono (by decide)) rfl (pa_cons (pv 0) (pa_cons (pe_has h_weight_after (hr.mono (by decide)) rfl (pa_cons (pv 0) (pa_cons (pv 1) (pa_cons (pe_un un_neg (pv 2)) (pa_cons (pe_un un_neg (pv 3)) pa_nil))))) pa_nil)))) (pss_one (ps_ret (pe_gI rfl T.g_TOO_HEAVY))) pss_nil) (pss_one (ps_ret (pe_gI rfl T.g_ACCEPTED))))))), ?_⟩
    refine ⟨_, rfl, _, _, _, _, _, rfl, h.o, T.cl, T.no _ (by decide), rfl, _, rfl, _, _, rfl, rfl, _, rfl, ?_⟩
    refine iteD (fun c => ?_) (fun c => ?_)
    · exact kk _ _ (congrArg V.int (by unfold sellR; rw [if_pos (by omega)])) (Same.refl _)
    refine ⟨_, rfl, _, rfl, _, rfl, A, s, k, n, rfl, hk, h, wf, ?_⟩
    rintro _ rfl
    refine ⟨_, rfl, rfl, _, rfl, ?_⟩
    refine iteN (fun d => ?_) (fun d => ?_)
    · refine ⟨_, rfl, ?_⟩
      exact kk _ _ (congrArg V.int (by unfold sellR; rw [if_neg (by omega), if_neg d])) (Same.refl _)
    refine ⟨_, rfl, _, rfl, _, rfl, _, rfl, _, rfl, _, rfl, _, rfl, A, s, k, _, _, rfl, ⟨by omega, by omega⟩, hk, h, wf, ?_⟩
    rintro _ H1 rfl e1
    have h1 := h.same e1
    have wl := weightOf_less (ws := s.weights) (ps := s.pack) (k := k) (n := n) hk (by rw [wf.lp]; exact hk) c4
    refine ⟨A, s, Vbrgak.weightOf s.weights (s.pack.set k (Vbrgak.nth s.pack k - n)) + (s.coins + Vbrgak.yield (Vbrgak.nth s.bases k) s.pays n) / 100, ?_, h1, ?_⟩
    · refine congrArg (fun v => [V.ref A.p, v]) (nI_eq ?_)
      have e : -(n : Int) * (Vbrgak.nth s.weights k : Int) = -((n * Vbrgak.nth s.weights k : Nat) : Int) := by rw [Int.neg_mul, Int.natCast_mul]
      rw [e]
      omega
    · rintro _ rfl
      refine ⟨_, rfl, ?_⟩
      refine iteD (fun c5 => ?_) (fun c5 => ?_)
      · exact kk _ _ (congrArg V.int (by unfold sellR; rw [if_neg (by omega), if_pos d, if_pos c5])) e1
      · exact kk _ _ (congrArg V.int (by unfold sellR; rw [if_neg (by omega), if_pos d, if_neg c5])) e1
abbrev spSell (C : Addr) : Sp := spCall2 C (fun _ n => n ≤ 10000) .sell
theorem sc_sell_things : FnScope ["house", "kind", "n", "refusal", "gain"] ["house", "kind", "n"] (defScope (top 49)) := ⟨rfl, rfl, rfl, by decide +kernel, rfl, by decide +kernel, by decide +kernel⟩
theorem ok_sell_things (D : Dfs K mg "sell_things" (top 49)) (T : Txt K mg C) (h_taking_refusal : Has P w K mg base "taking_refusal" ["house", "kind", "n"] 3 (spTakeR C)) (h_gain_of : Has P w K mg base "gain_of" ["house", "kind", "n"] 1 (spGain C)) (h_sell_refusal : Has P w K mg base "sell_refusal" ["house", "kind", "n", "gain"] 3 (spSellR C)) (h_deal : Has P w K mg base "deal" ["house", "kind", "n", "paid"] 1 (spDeal C)) : Has P w K mg base "sell_things" ["house", "kind", "n"] 4 (spSell C) := by
  refine mkHas D sc_sell_things (fun vs H Q E h => ?_) (fun _ _ _ _ _ _ us hl => match us, hl with | [_, _, _], _ => rfl) (fun f cdv Ar outer sh H vs Q E hr h => ?_)
  · obtain ⟨A, s, k, n, rfl, _⟩ := h
    rfl
  · obtain ⟨A, s, k, n, rfl, hn, h, wf, kk⟩ := h
    refine ⟨_, (pss_cons (ps_set (i := 3) sc_sell_things.nd rfl (Or.inl rfl) (pe_has h_taking_refusal (hr.mono (by decide)) rfl (pa_cons (pv 0) (pa_cons (pv 1) (pa_cons (pv 2) pa_nil))))) (pss_cons (ps_if (pt_cmpR op_ne (pv 3) (pe_gI rfl T.g_ACCEPTED) (nomark _)) (pss_one (ps_ret (pe_lst (pa_cons (pv 3) pa_nil)))) pss_nil) (pss_cons (ps_set (i := 4) sc_sell_things.nd rfl (Or.inl rfl) (pe_has h_gain_of (hr.mono (by decide)) rfl (pa_cons (pv 0) (pa_cons (pv 1) (pa_cons (pv 2) pa_nil))))) (pss_cons (ps_set (i := 3) sc_sell_things.nd rfl (Or.inl rfl) (pe_has h_sell_refusal (hr.mono (by decide)) rfl (pa_cons (pv 0) (pa_cons (pv 1) (pa_cons (pv 2) (pa_cons (pv 4) pa_nil)))))) (pss_cons (ps_if (pt_cmpR op_ne (pv 3) (pe_gI rfl T.g_ACCEPTED) (nomark _)) (pss_one (ps_ret (pe_lst (pa_cons (pv 3) pa_nil)))) pss_nil) (pss_cons (ps_expr (pe_has h_deal (hr.mono (by decide)) rfl (pa_cons (pv 0) (pa_cons (pv 1) (pa_cons (pe_un un_neg (pv 2)) (pa_cons (pe_un un_neg (pv 4)) pa_nil)))))) (pss_one (ps_ret (pe_lst (pa_cons (pe_gI rfl T.g_ACCEPTED) (pa_cons (pv 4) pa_nil))))))))))), ?_⟩
    refine ⟨_, rfl, _, rfl, _, rfl, A, s, k, n, rfl, h, wf, ?_⟩
    rintro _ rfl
    refine ⟨_, rfl, rfl, _, rfl, ?_⟩
    refine iteN (fun c => ?_) (fun c => ?_)
    · refine ⟨_, rfl, (by show 1 ≤ sizeLine; decide), fun q hq => ?_⟩
      exact kk.err (does_sell_err c) h (Fx.refl _ _) hq hq
    obtain ⟨c0, c4⟩ := takeR0 c
    obtain ⟨c1, c2⟩ := kindR0 c0
    refine ⟨_, rfl, _, rfl, _, rfl, A, s, k, n, rfl, hn, c1, h, wf, ?_⟩
    rintro _ rfl
    refine ⟨_, rfl, _, rfl, _, rfl, _, rfl, A, s, k, n, rfl, hn, c, h, wf, ?_⟩
    rintro _ H1 rfl e1
    have h1 := h.same e1
    refine ⟨_, rfl, rfl, _, rfl, ?_⟩
    refine iteN (fun d => ?_) (fun d => ?_)
    · refine ⟨_, rfl, (by show 1 ≤ sizeLine; decide), fun q hq => ?_⟩
      exact kk.err (by rw [does_sell wf c, if_neg d]) h1 (Fx.of e1) hq (e1.free hq)
    have d1 := sellR0 d
    have hx := does_sell (n := n) wf c
    rw [if_pos d] at hx
    refine ⟨_, rfl, _, rfl, _, rfl, _, rfl, _, rfl, _, rfl, A, s, k, _, _, Vbrgak.nth s.stock k + n, Vbrgak.nth s.pack k - n, s.coins + Vbrgak.yield (Vbrgak.nth s.bases k) s.pays n, s.till - Vbrgak.yield (Vbrgak.nth s.bases k) s.pays n, rfl, ⟨by omega, by omega, by omega, by omega⟩, c1, h1, wf, ?_⟩
    intro H5 h5 f5
    refine ⟨_, rfl, (by show 2 ≤ sizeLine; decide), fun q hq => ?_⟩
    have f6 := (Fx.of (F := foot A) e1).trans f5
    exact kk.ok hx h5 f6 hq (f6.free h5.foot hq) rfl
abbrev spStock (C : Addr) : Sp := spCall2 C (fun _ n => n ≤ 10000) .stock
theorem sc_stock_things : FnScope ["house", "kind", "n", "refusal"] ["house", "kind", "n"] (defScope (top 50)) := ⟨rfl, rfl, rfl, by decide +kernel, rfl, by decide +kernel, by decide +kernel⟩
theorem ok_stock_things (D : Dfs K mg "stock_things" (top 50)) (T : Txt K mg C) (h_has_kind : Has P w K mg base "has_kind" ["house", "kind"] 1 (spHasKind C)) (h_stock_refusal : Has P w K mg base "stock_refusal" ["house", "kind", "n"] 1 (spStockR C)) : Has P w K mg base "stock_things" ["house", "kind", "n"] 2 (spStock C) := by
  refine mkHas D sc_stock_things (fun vs H Q E h => ?_) (fun _ _ _ _ _ _ us hl => match us, hl with | [_, _, _], _ => rfl) (fun f cdv Ar outer sh H vs Q E hr h => ?_)
  · obtain ⟨A, s, k, n, rfl, _⟩ := h
    rfl
  · obtain ⟨A, s, k, n, rfl, hn, h, wf, kk⟩ := h
    refine ⟨_, (pss_cons (ps_if (pt_not (pt_val (pe_has h_has_kind (hr.mono (by decide)) rfl (pa_cons (pv 0) (pa_cons (pv 1) pa_nil))))) (pss_one (ps_ret (pe_lst (pa_cons (pe_gI rfl T.g_NO_SUCH_KIND) pa_nil)))) pss_nil) (pss_cons (ps_set (i := 3) sc_stock_things.nd rfl (Or.inl rfl) (pe_has h_stock_refusal (hr.mono (by decide)) rfl (pa_cons (pv 0) (pa_cons (pv 1) (pa_cons (pv 2) pa_nil))))) (pss_cons (ps_if (pt_cmpR op_ne (pv 3) (pe_gI rfl T.g_ACCEPTED) (nomark _)) (pss_one (ps_ret (pe_lst (pa_cons (pv 3) pa_nil)))) pss_nil) (pss_cons (ps_augS (pe_fld (pv 0) rfl) (pv 1) get_list (pv 2) ip_add set_list) (pss_one (ps_ret (pe_lst (pa_cons (pe_gI rfl T.g_ACCEPTED) (pa_cons (pe_ix ix_list (pe_fld (pv 0) rfl) (pv 1) (fun _ _ => rfl)) pa_nil))))))))), ?_⟩
    refine ⟨_, rfl, _, rfl, A, s, k, rfl, h, ?_⟩
    rintro _ rfl
    refine ⟨_, rfl, ?_⟩
    refine iteNB (fun c => ?_) (fun c => ?_)
    · refine ⟨(by show 1 ≤ sizeLine; decide), fun q hq => ?_⟩
      have c := of_decide_eq_false c
      exact kk.err (by simp only [Vbrgak.does]; rw [if_pos (by unfold Vbrgak.noKind Vbrgak.kinds; exact decide_eq_true (by omega))]) h (Fx.refl _ _) hq hq
    have c1 := of_decide_eq_true c
    have c4 : k < s.stock.length := by rw [wf.lt]; exact c1
    refine ⟨_, rfl, _, rfl, _, rfl, A, s, k, n, rfl, c1, h, wf, ?_⟩
    rintro _ rfl
    refine ⟨_, rfl, rfl, _, rfl, ?_⟩
    have hx : Vbrgak.does s (.stock k n) = if stockR s k n = 0 then .ok ({ s with stock := s.stock.set k (Vbrgak.nth s.stock k + n) }, [Vbrgak.nat (Vbrgak.nth s.stock k + n)]) else .error (stockR s k n) := by
      simp only [Vbrgak.does]
      rw [if_neg (by rw [noKind_f c1]; simp), setAt_eq]
      unfold stockR
      by_cases f : 10000 < Vbrgak.nth s.stock k + n
      · rw [if_pos (show Vbrgak.COUNT < _ from f), if_pos f]; rfl
      · rw [if_neg (show ¬ Vbrgak.COUNT < _ from f), if_neg f]; rfl
    refine iteN (fun d => ?_) (fun d => ?_)
    · refine ⟨_, rfl, (by show 1 ≤ sizeLine; decide), fun q hq => ?_⟩
      exact kk.err (by rw [hx, if_neg d]) h (Fx.refl _ _) hq hq
    rw [if_pos d] at hx
    refine ⟨_, rfl, _, _, _, _, _, rfl, h.o, T.cl, T.no _ (by decide), rfl, _, rfl, _, _, _, _, rfl, rfl, SqL.of h.t, at_nL c4, _, rfl, _, _, rfl, rfl, _, _, _, k, rfl, rfl, h.t, ix_nL c4, ?_⟩
    have h2 := h.setStock (k := k) (n := Vbrgak.nth s.stock k + n) (v := V.int ((Vbrgak.nth s.stock k : Int) + (n : Int))) (nI_eq (by omega))
    have f2 : Fx (foot A) H (upd H A.at_ (.lst ((nL s.stock).set k (V.int ((Vbrgak.nth s.stock k : Int) + (n : Int)))))) := Fx.upd (by simp [foot])
    refine ⟨_, rfl, _, _, _, _, _, rfl, h2.o, T.cl, T.no _ (by decide), rfl, _, rfl, _, _, _, _, rfl, rfl, SqL.of h2.t, at_nL (show k < (s.stock.set k _).length by rw [List.length_set]; exact c4), (by show 2 ≤ sizeLine; decide), fun q hq => ?_⟩
    exact kk.ok hx h2 f2 hq (f2.free h2.foot hq) (congrArg (fun v => [V.int 0, nI v]) (nth_set c4))
end
end Ho
end
section
set_option Elab.async false
set_option linter.all false
set_option maxRecDepth 100000
set_option maxHeartbeats 2000000
namespace Ho
open PySem PySem.Spec PyProof.Rows L2
open Vbrgak (State Body)
/-- a call without a number -/
def spCall0 (C : Addr) (c : Vbrgak.Call) : Sp := fun vs H Q _ => ∃ A s, vs = [V.ref A.p] ∧ HA C H A s ∧ WF s ∧ Post C A H Q (res s c)
/-- the answer's list is laid at q; nothing of what there was has changed -/
theorem Post.ask {C : Addr} {A : Ad} {H H1 : Hp} {Q : VK} {s : State} {c : Vbrgak.Call} {l : List Int} {xs : List V} {q : Addr} (k : Post C A H Q (res s c)) (d : Vbrgak.does s c = .ok (s, l)) (h : HA C H A s) (e : Same H H1) (hq : H1 q = none) (ex : xs = V.int 0 :: l.map V.int) :
    Q (.ref q) (upd H1 q (.lst xs)) := k.ok d (h.same e) (Fx.of e) hq (e.free hq) ex
theorem nL_int (l : List Nat) : nL l = (l.map Vbrgak.nat).map V.int := by
  unfold nL
  rw [List.map_map]
  rfl
section
variable {P : Program} {w : World} {K : PySem.W.Frag} {mg : Str → Option Value} {base : Heap} {C : Addr}
theorem sc_tell_status : FnScope ["house", "gone"] ["house"] (defScope (top 59)) := ⟨rfl, rfl, rfl, by decide +kernel, rfl, by decide +kernel, by decide +kernel⟩
theorem ok_tell_status (D : Dfs K mg "tell_status" (top 59)) (T : Txt K mg C) (h_is_gone : Has P w K mg base "is_gone" ["house"] 1 (spGone C)) (h_how_one_is : Has P w K mg base "how_one_is" ["house"] 2 (spHow C)) : Has P w K mg base "tell_status" ["house"] 3 (spCall0 C .status) := by
  refine mkHas D sc_tell_status (fun vs H Q E h => ?_) (fun _ _ _ _ _ _ us hl => match us, hl with | [_], _ => rfl) (fun f cdv Ar outer sh H vs Q E hr h => ?_)
  · obtain ⟨A, s, rfl, _⟩ := h
    rfl
  · obtain ⟨A, s, rfl, h, wf, k⟩ := h
    refine ⟨_, (pss_cons (ps_set (i := 1) sc_tell_status.nd rfl (Or.inl rfl) (pe_ifExp (pt_val (pe_has h_is_gone (hr.mono (by decide)) rfl (pa_cons (pv 0) pa_nil))) pe_int pe_int)) (pss_one (ps_ret (pe_op op_cat (pe_op op_cat (pe_lst (pa_cons (pe_gI rfl T.g_ACCEPTED) pa_nil)) (pe_has h_how_one_is (hr.mono (by decide)) rfl (pa_cons (pv 0) pa_nil))) (pe_lst (pa_cons (pe_fld (pv 0) rfl) (pa_cons (pe_fld (pv 0) rfl) (pa_cons (pe_fld (pv 0) rfl) (pa_cons (pe_fld (pv 0) rfl) (pa_cons (pv 1) pa_nil)))))))))), ?_⟩
    refine ⟨_, rfl, A, s, rfl, h, ?_⟩
    rintro _ rfl
    refine ⟨_, rfl, ?_⟩
    have main : ∀ z : Int, z = Vbrgak.flag (Vbrgak.gone s) → ∀ D : Ends, D.rt = Q → tRet (tOp rCat (tOp rCat (tLst (tCons (tC (.int 0)) tNil)) (tCall (spHow C) [] E0 (tCons (tVar 0) tNil))) (tLst (tCons (tFld K (tVar 0) "most_hits") (tCons (tFld K (tVar 0) "fed") (tCons (tFld K (tVar 0) "healed") (tCons (tFld K (tVar 0) "clock") (tCons (tVar 1) tNil))))))) D [some (.ref A.p), some (.int z)] H := by
      intro z ez D eD
      refine ⟨(by show 1 ≤ sizeLine; decide), fun q1 hq1 => ?_⟩
      have e1 := same_upd (o := .lst [V.int 0]) (Same.refl H) hq1
      refine ⟨_, rfl, A, s, rfl, h.same e1, ?_⟩
      intro q2 hq2
      have e2 := same_upd (o := .lst ((Vbrgak.shown s.body).map V.int)) e1 hq2
      refine ⟨_, _, _, _, rfl, rfl, (by rw [upd_ne (ne_of_none upd_same hq2)]; exact upd_same), upd_same, (by show 6 ≤ sizeLine; decide), fun q3 hq3 => ?_⟩
      have e3 := same_upd (o := .lst (V.int 0 :: (Vbrgak.shown s.body).map V.int)) e2 hq3
      have h3 := h.same e3
      refine ⟨_, rfl, _, _, _, _, _, rfl, h3.o, T.cl, T.no _ (by decide), rfl, _, rfl, _, _, _, _, _, rfl, h3.o, T.cl, T.no _ (by decide), rfl, _, rfl, _, _, _, _, _, rfl, h3.o, T.cl, T.no _ (by decide), rfl, _, rfl, _, _, _, _, _, rfl, h3.o, T.cl, T.no _ (by decide), rfl, _, rfl, (by show 5 ≤ sizeLine; decide), fun q4 hq4 => ?_⟩
      refine ⟨_, _, _, _, rfl, rfl, (by rw [upd_ne (ne_of_none upd_same hq4)]; exact upd_same), upd_same, (by show 11 ≤ sizeLine; decide), fun q hq => ?_⟩
      have e4 := same_upd (o := .lst [nI s.body.most, nI s.body.fed, nI s.body.heal, nI s.clock, .int z]) e3 hq4
      rw [eD]
      exact k.ask rfl h e4 hq (by rw [ez]; rfl)
    refine iteB (fun c => ?_) (fun c => ?_)
    · exact main 1 (by rw [c]; rfl) _ rfl
    · exact main 0 (by rw [c]; rfl) _ rfl
theorem sc_tell_price : FnScope ["house", "kind", "n"] ["house", "kind", "n"] (defScope (top 60)) := ⟨rfl, rfl, rfl, by decide +kernel, rfl, by decide +kernel, by decide +kernel⟩
theorem ok_tell_price (D : Dfs K mg "tell_price" (top 60)) (T : Txt K mg C) (h_has_kind : Has P w K mg base "has_kind" ["house", "kind"] 1 (spHasKind C)) (h_cost_of : Has P w K mg base "cost_of" ["house", "kind", "n"] 1 (spCost C)) (h_gain_of : Has P w K mg base "gain_of" ["house", "kind", "n"] 1 (spGain C)) : Has P w K mg base "tell_price" ["house", "kind", "n"] 2 (spCall2 C (fun _ n => n ≤ 10000) .price) := by
  refine mkHas D sc_tell_price (fun vs H Q E h => ?_) (fun _ _ _ _ _ _ us hl => match us, hl with | [_, _, _], _ => rfl) (fun f cdv Ar outer sh H vs Q E hr h => ?_)
  · obtain ⟨A, s, k, n, rfl, _⟩ := h
    rfl
  · obtain ⟨A, s, k, n, rfl, hn, h, wf, kk⟩ := h
    refine ⟨_, (pss_cons (ps_if (pt_not (pt_val (pe_has h_has_kind (hr.mono (by decide)) rfl (pa_cons (pv 0) (pa_cons (pv 1) pa_nil))))) (pss_one (ps_ret (pe_lst (pa_cons (pe_gI rfl T.g_NO_SUCH_KIND) pa_nil)))) pss_nil) (pss_one (ps_ret (pe_lst (pa_cons (pe_gI rfl T.g_ACCEPTED) (pa_cons (pe_has h_cost_of (hr.mono (by decide)) rfl (pa_cons (pv 0) (pa_cons (pv 1) (pa_cons (pv 2) pa_nil)))) (pa_cons (pe_has h_gain_of (hr.mono (by decide)) rfl (pa_cons (pv 0) (pa_cons (pv 1) (pa_cons (pv 2) pa_nil)))) pa_nil))))))), ?_⟩
    refine ⟨_, rfl, _, rfl, A, s, k, rfl, h, ?_⟩
    rintro _ rfl
    refine ⟨_, rfl, ?_⟩
    refine iteNB (fun c => ?_) (fun c => ?_)
    · refine ⟨(by show 1 ≤ sizeLine; decide), fun q hq => ?_⟩
      have c := of_decide_eq_false c
      exact kk.err (by simp only [Vbrgak.does]; rw [if_pos (by unfold Vbrgak.noKind Vbrgak.kinds; exact decide_eq_true (by omega))]) h (Fx.refl _ _) hq hq
    have c1 := of_decide_eq_true c
    refine ⟨_, rfl, _, rfl, _, rfl, A, s, k, n, rfl, hn, c1, h, wf, ?_⟩
    rintro _ rfl
    refine ⟨_, rfl, _, rfl, _, rfl, A, s, k, n, rfl, hn, c1, h, wf, ?_⟩
    rintro _ rfl
    refine ⟨(by show 3 ≤ sizeLine; decide), fun q hq => ?_⟩
    exact kk.ask (by simp only [Vbrgak.does]; rw [if_neg (by rw [noKind_f c1]; simp)]) h (Same.refl _) hq rfl
def spUntil (C : Addr) : Sp := fun vs H Q _ => ∃ A s, ∃ f : Nat, vs = [V.ref A.p, nI f] ∧ HA C H A s ∧ WF s ∧ ∀ v H', v = nI (Vbrgak.up (s.body.fed - f) (Vbrgak.rate s)) → Same H H' → Q v H'
theorem sc_ticks_until : FnScope ["house", "fed", "rate"] ["house", "fed"] (defScope (top 61)) := ⟨rfl, rfl, rfl, by decide +kernel, rfl, by decide +kernel, by decide +kernel⟩
theorem ok_ticks_until (D : Dfs K mg "ticks_until" (top 61)) (T : Txt K mg C) (h_rate_of : Has P w K mg base "rate_of" ["house"] 4 (spRate C)) : Has P w K mg base "ticks_until" ["house", "fed"] 5 (spUntil C) := by
  refine mkHas D sc_ticks_until (fun vs H Q E h => ?_) (fun _ _ _ _ _ _ us hl => match us, hl with | [_, _], _ => rfl) (fun f cdv Ar outer sh H vs Q E hr h => ?_)
  · obtain ⟨A, s, n, rfl, _⟩ := h
    rfl
  · obtain ⟨A, s, n, rfl, h, wf, k⟩ := h
    refine ⟨_, (pss_cons (ps_set (i := 2) sc_ticks_until.nd rfl (Or.inl rfl) (pe_has h_rate_of (hr.mono (by decide)) rfl (pa_cons (pv 0) pa_nil))) (pss_one (ps_ret (pe_op op_fdiv (pe_op op_sub (pe_op op_add (pe_callB (call_max2 rfl) rfl T.n_max boot_max1 (pa_cons pe_int (pa_cons (pe_op op_sub (pe_fld (pv 0) rfl) (pv 1)) pa_nil))) (pv 2)) pe_int) (pv 2))))), ?_⟩
    refine ⟨_, rfl, A, s, rfl, h, wf, ?_⟩
    rintro _ H1 rfl e1
    have h1 := h.same e1
    obtain ⟨r1, r2⟩ := rate_le wf
    refine ⟨_, rfl, _, _, _, _, _, rfl, h1.o, T.cl, T.no _ (by decide), rfl, _, rfl, _, _, rfl, rfl, _, _, rfl, _, rfl, _, _, rfl, rfl, _, _, rfl, rfl, _, rfl, _, _, rfl, rfl, ⟨by omega, by omega⟩, ?_⟩
    refine k _ _ (nI_eq ?_) e1
    unfold Vbrgak.up
    rw [Int.natCast_ediv]
    refine congrArg (fun x : Int => x / (Vbrgak.rate s : Int)) ?_
    split <;> omega
theorem sc_tell_when : FnScope ["house", "moods"] ["house"] (defScope (top 62)) := ⟨rfl, rfl, rfl, by decide +kernel, rfl, by decide +kernel, by decide +kernel⟩
theorem ok_tell_when (D : Dfs K mg "tell_when" (top 62)) (T : Txt K mg C) (h_ticks_until : Has P w K mg base "ticks_until" ["house", "fed"] 5 (spUntil C)) : Has P w K mg base "tell_when" ["house"] 6 (spCall0 C .when_) := by
  refine mkHas D sc_tell_when (fun vs H Q E h => ?_) (fun _ _ _ _ _ _ us hl => match us, hl with | [_], _ => rfl) (fun f cdv Ar outer sh H vs Q E hr h => ?_)
  · obtain ⟨A, s, rfl, _⟩ := h
    rfl
  · obtain ⟨A, s, rfl, h, wf, k⟩ := h
    refine ⟨_, (pss_cons (ps_set (i := 1) sc_tell_when.nd rfl (Or.inl rfl) (pe_lst (pa_cons (pe_has h_ticks_until (hr.mono (by decide)) rfl (pa_cons (pv 0) (pa_cons (pe_gI rfl T.g_HUNGRY_FED) pa_nil))) (pa_cons (pe_has h_ticks_until (hr.mono (by decide)) rfl (pa_cons (pv 0) (pa_cons (pe_gI rfl T.g_WEAK_FED) pa_nil))) (pa_cons (pe_has h_ticks_until (hr.mono (by decide)) rfl (pa_cons (pv 0) (pa_cons pe_int pa_nil))) pa_nil))))) (pss_one (ps_ret (pe_op op_cat (pe_op op_cat (pe_lst (pa_cons (pe_gI rfl T.g_ACCEPTED) pa_nil)) (pv 1)) (pe_lst (pa_cons (pe_ifExp (pt_val (pe_fld (pv 0) rfl)) (pe_fld (pv 0) rfl) (pe_gI rfl T.g_UNLIT)) pa_nil)))))), ?_⟩
    refine ⟨_, rfl, A, s, 300000, rfl, h, wf, ?_⟩
    rintro _ H1 rfl e1
    refine ⟨_, rfl, A, s, 100000, rfl, h.same e1, wf, ?_⟩
    rintro _ H2 rfl e2
    have e2 := e1.trans e2
    refine ⟨_, rfl, A, s, 0, rfl, h.same e2, wf, ?_⟩
    rintro _ H3 rfl e3
    have e3 := e2.trans e3
    refine ⟨(by show 3 ≤ sizeLine; decide), fun q1 hq1 => ?_⟩
    have e4 := same_upd (o := .lst [nI (Vbrgak.up (s.body.fed - 300000) (Vbrgak.rate s)), nI (Vbrgak.up (s.body.fed - 100000) (Vbrgak.rate s)), nI (Vbrgak.up (s.body.fed - 0) (Vbrgak.rate s))]) e3 hq1
    refine ⟨(by show 1 ≤ sizeLine; decide), fun q2 hq2 => ?_⟩
    have e5 := same_upd (o := .lst [V.int 0]) e4 hq2
    refine ⟨_, rfl, _, _, _, _, rfl, rfl, upd_same, (by rw [upd_ne (ne_of_none upd_same hq2)]; exact upd_same), (by show 4 ≤ sizeLine; decide), fun q3 hq3 => ?_⟩
    have e6 := same_upd (o := .lst [V.int 0, nI (Vbrgak.up (s.body.fed - 300000) (Vbrgak.rate s)), nI (Vbrgak.up (s.body.fed - 100000) (Vbrgak.rate s)), nI (Vbrgak.up (s.body.fed - 0) (Vbrgak.rate s))]) e5 hq3
    have h6 := h.same e6
    have fin : ∀ (z : Int) (q4 q : Addr) (H7 H8 : Hp), z = (if s.body.lit = true then Vbrgak.nat s.body.fuel else -1) → Same H H8 → H8 q = none → Q (.ref q) (upd H8 q (.lst [V.int 0, nI (Vbrgak.up (s.body.fed - 300000) (Vbrgak.rate s)), nI (Vbrgak.up (s.body.fed - 100000) (Vbrgak.rate s)), nI (Vbrgak.up (s.body.fed - 0) (Vbrgak.rate s)), V.int z])) := by
      intro z q4 q H7 H8 ez e8 hq
      subst ez
      exact k.ask rfl h e8 hq rfl
    refine ⟨_, rfl, _, _, _, _, _, rfl, h6.o, T.cl, T.no _ (by decide), rfl, _, rfl, ?_⟩
    refine iteB (fun c => ?_) (fun c => ?_)
    · refine ⟨_, rfl, _, _, _, _, _, rfl, h6.o, T.cl, T.no _ (by decide), rfl, (by show 1 ≤ sizeLine; decide), fun q4 hq4 => ?_⟩
      refine ⟨_, _, _, _, rfl, rfl, (by rw [upd_ne (ne_of_none upd_same hq4)]; exact upd_same), upd_same, (by show 5 ≤ sizeLine; decide), fun q hq => ?_⟩
      exact fin _ q4 q H _ (by rw [if_pos c]; all_goals rfl) (same_upd e6 hq4) hq
    · refine ⟨(by show 1 ≤ sizeLine; decide), fun q4 hq4 => ?_⟩
      refine ⟨_, _, _, _, rfl, rfl, (by rw [upd_ne (ne_of_none upd_same hq4)]; exact upd_same), upd_same, (by show 5 ≤ sizeLine; decide), fun q hq => ?_⟩
      exact fin _ q4 q H _ (by rw [if_neg (by rw [c]; simp)]) (same_upd e6 hq4) hq
theorem sc_tell_pack : FnScope ["house"] ["house"] (defScope (top 63)) := ⟨rfl, rfl, rfl, by decide +kernel, rfl, by decide +kernel, by decide +kernel⟩
theorem ok_tell_pack (D : Dfs K mg "tell_pack" (top 63)) (T : Txt K mg C) : Has P w K mg base "tell_pack" ["house"] 1 (spCall0 C .pack) := by
  refine mkHas D sc_tell_pack (fun vs H Q E h => ?_) (fun _ _ _ _ _ _ us hl => match us, hl with | [_], _ => rfl) (fun f cdv Ar outer sh H vs Q E hr h => ?_)
  · obtain ⟨A, s, rfl, _⟩ := h
    rfl
  · obtain ⟨A, s, rfl, h, wf, k⟩ := h
    refine ⟨_, (pss_one (ps_ret (pe_op op_cat (pe_lst (pa_cons (pe_gI rfl T.g_ACCEPTED) pa_nil)) (pe_fld (pv 0) rfl)))), ?_⟩
    refine ⟨(by show 1 ≤ sizeLine; decide), fun q1 hq1 => ?_⟩
    have e1 := same_upd (o := .lst [V.int 0]) (Same.refl H) hq1
    have h1 := h.same e1
    have l1 : 1 + (nL s.pack).length ≤ 1000 := by rw [nL_len, wf.lp]; have := wf.kk; omega
    refine ⟨_, rfl, _, _, _, _, _, rfl, h1.o, T.cl, T.no _ (by decide), rfl, _, _, _, _, rfl, rfl, upd_same, h1.k, Nat.le_trans l1 (by decide), fun q hq => ?_⟩
    exact k.ask rfl h e1 hq (congrArg (fun l => V.int 0 :: l) (nL_int _))
theorem sc_tell_burden : FnScope ["house"] ["house"] (defScope (top 64)) := ⟨rfl, rfl, rfl, by decide +kernel, rfl, by decide +kernel, by decide +kernel⟩
theorem ok_tell_burden (D : Dfs K mg "tell_burden" (top 64)) (T : Txt K mg C) (h_weight_of : Has P w K mg base "weight_of" ["house"] 2 (spWeight C)) (h_load_of : Has P w K mg base "load_of" ["house"] 3 (spLoad C)) (h_rate_of : Has P w K mg base "rate_of" ["house"] 4 (spRate C)) : Has P w K mg base "tell_burden" ["house"] 5 (spCall0 C .burden) := by
  refine mkHas D sc_tell_burden (fun vs H Q E h => ?_) (fun _ _ _ _ _ _ us hl => match us, hl with | [_], _ => rfl) (fun f cdv Ar outer sh H vs Q E hr h => ?_)
  · obtain ⟨A, s, rfl, _⟩ := h
    rfl
  · obtain ⟨A, s, rfl, h, wf, k⟩ := h
    refine ⟨_, (pss_one (ps_ret (pe_lst (pa_cons (pe_gI rfl T.g_ACCEPTED) (pa_cons (pe_has h_weight_of (hr.mono (by decide)) rfl (pa_cons (pv 0) pa_nil)) (pa_cons (pe_has h_load_of (hr.mono (by decide)) rfl (pa_cons (pv 0) pa_nil)) (pa_cons (pe_has h_rate_of (hr.mono (by decide)) rfl (pa_cons (pv 0) pa_nil)) pa_nil))))))), ?_⟩
    refine ⟨_, rfl, A, s, rfl, h, wf, ?_⟩
    rintro _ H1 rfl e1
    refine ⟨_, rfl, A, s, rfl, h.same e1, wf, ?_⟩
    rintro _ H2 rfl e2
    have e2 := e1.trans e2
    refine ⟨_, rfl, A, s, rfl, h.same e2, wf, ?_⟩
    rintro _ H3 rfl e3
    have e3 := e2.trans e3
    refine ⟨(by show 4 ≤ sizeLine; decide), fun q hq => ?_⟩
    exact k.ask rfl h e3 hq rfl
theorem sc_tell_worth : FnScope ["house", "worth", "count", "price"] ["house"] (defScope (top 65)) := ⟨rfl, rfl, rfl, by decide +kernel, rfl, by decide +kernel, by decide +kernel⟩
theorem ok_tell_worth (D : Dfs K mg "tell_worth" (top 65)) (T : Txt K mg C) : Has P w K mg base "tell_worth" ["house"] 1 (spCall0 C .worth) := by
  refine mkHas D sc_tell_worth (fun vs H Q E h => ?_) (fun _ _ _ _ _ _ us hl => match us, hl with | [_], _ => rfl) (fun f cdv Ar outer sh H vs Q E hr h => ?_)
  · obtain ⟨A, s, rfl, _⟩ := h
    rfl
  · obtain ⟨A, s, rfl, h, wf, k⟩ := h
    refine ⟨_, (pss_cons (ps_set (i := 1) sc_tell_worth.nd rfl (Or.inl rfl) (pe_fld (pv 0) rfl)) (pss_cons (ps_for PassesOwn.never rfl (pi_zip rfl T.n_zip (pa_cons (pe_fld (pv 0) rfl) (pa_cons (pe_fld (pv 0) rfl) pa_nil))) (pg_tup rfl (pgs_cons (pg_name (i := 2) sc_tell_worth.nd rfl (Or.inl rfl)) (pgs_cons (pg_name (i := 3) sc_tell_worth.nd rfl (Or.inl rfl)) pgs_nil))) (pss_one (ps_aug (i := 1) sc_tell_worth.nd rfl (Or.inl rfl) (pe_op op_mul (pv 2) (pv 3)) ip_add))) (pss_one (ps_ret (pe_lst (pa_cons (pe_gI rfl T.g_ACCEPTED) (pa_cons (pv 1) (pa_cons (pe_fld (pv 0) rfl) pa_nil)))))))), ?_⟩
    refine ⟨_, rfl, _, _, _, _, _, rfl, h.o, T.cl, T.no _ (by decide), rfl, _, rfl, _, _, _, _, _, rfl, h.o, T.cl, T.no _ (by decide), rfl, _, rfl, _, _, _, _, _, rfl, h.o, T.cl, T.no _ (by decide), rfl, A.ap, A.ab, _, _, rfl, SqL.of h.k, SqL.of h.b, ?_⟩
    refine for_zip (K := K) (a := A.ap) (b := A.ab) (xs := nL s.pack) (ys := nL s.bases) (fun i σ H' => ∃ v2 v3 : Option V, σ = [some (.ref A.p), some (nI (s.coins + Vbrgak.weightOf (s.bases.take i) (s.pack.take i))), v2, v3] ∧ Same H H')
      ⟨none, none, rfl, Same.refl H⟩ (fun i σ H' ⟨_, _, _, e⟩ => ⟨SqL.of (e _ _ h.k), SqL.of (e _ _ h.b)⟩) (by rw [nL_len, nL_len, wf.lb]; exact wf.lp) ?_ ?_
    · rintro i x y t σ H' hx hy ht ⟨v2, v3, rfl, e⟩
      obtain ⟨n, hn, rfl⟩ := get_nL hx
      obtain ⟨m, hm, rfl⟩ := get_nL hy
      refine ⟨t, _, rfl, SqT.of upd_same, rfl, _, _, rfl, _, _, rfl, rfl, ?_⟩
      have bn := wf.pk n (List.mem_of_getElem? hn)
      refine ⟨_, rfl, _, rfl, _, rfl, _, _, rfl, rfl, mul_small (by omega) (by omega), _, _, rfl, rfl, ?_⟩
      refine ⟨some (nI n), some (nI m), ?_, same_upd e ht⟩
      have q := weightOf_succ hm hn
      rw [Nat.mul_comm] at q
      rw [show nI (s.coins + Vbrgak.weightOf (s.bases.take (i + 1)) (s.pack.take (i + 1))) = V.int (((s.coins + Vbrgak.weightOf (s.bases.take i) (s.pack.take i) : Nat) : Int) + n * m) from congrArg V.int (by rw [q, ← Nat.add_assoc]; exact Int.natCast_add _ _)]
      rfl
    · rintro σ H' ⟨v2, v3, rfl, e⟩
      rw [nL_len, List.take_length, wf.lp, ← wf.lb, List.take_length]
      have h1 := h.same e
      refine ⟨_, rfl, _, rfl, _, _, _, _, _, rfl, h1.o, T.cl, T.no _ (by decide), rfl, (by show 3 ≤ sizeLine; decide), fun q hq => ?_⟩
      exact k.ask rfl h e hq rfl
theorem sc_tell_shop : FnScope ["house"] ["house"] (defScope (top 66)) := ⟨rfl, rfl, rfl, by decide +kernel, rfl, by decide +kernel, by decide +kernel⟩
theorem ok_tell_shop (D : Dfs K mg "tell_shop" (top 66)) (T : Txt K mg C) : Has P w K mg base "tell_shop" ["house"] 1 (spCall0 C .shop) := by
  refine mkHas D sc_tell_shop (fun vs H Q E h => ?_) (fun _ _ _ _ _ _ us hl => match us, hl with | [_], _ => rfl) (fun f cdv Ar outer sh H vs Q E hr h => ?_)
  · obtain ⟨A, s, rfl, _⟩ := h
    rfl
  · obtain ⟨A, s, rfl, h, wf, k⟩ := h
    refine ⟨_, (pss_one (ps_ret (pe_op op_cat (pe_lst (pa_cons (pe_gI rfl T.g_ACCEPTED) (pa_cons (pe_fld (pv 0) rfl) pa_nil))) (pe_fld (pv 0) rfl)))), ?_⟩
    refine ⟨_, rfl, _, _, _, _, _, rfl, h.o, T.cl, T.no _ (by decide), rfl, (by show 2 ≤ sizeLine; decide), fun q1 hq1 => ?_⟩
    have e1 := same_upd (o := .lst [V.int 0, nI s.till]) (Same.refl H) hq1
    have h1 := h.same e1
    have l1 : 2 + (nL s.stock).length ≤ 1000 := by rw [nL_len, wf.lt]; have := wf.kk; omega
    refine ⟨_, rfl, _, _, _, _, _, rfl, h1.o, T.cl, T.no _ (by decide), rfl, _, _, _, _, rfl, rfl, upd_same, h1.t, Nat.le_trans l1 (by decide), fun q hq => ?_⟩
    exact k.ask rfl h e1 hq (congrArg (fun l => V.int 0 :: nI s.till :: l) (nL_int _))
end
end Ho
end
section
set_option Elab.async false
set_option linter.all false
set_option maxRecDepth 100000
set_option maxHeartbeats 2000000
namespace Ho
open PySem PySem.Spec PyProof.Rows L2
open Vbrgak (State Body)
/-! ### classes -/
/-- a method of the text -/
def DfsM (K : PySem.W.Frag) (C : Addr) (m qual : Str) (st : Stmt) : Prop := ∃ f fd, Fun K m qual st f fd ∧ PySem.W.findIn K (.ref C) m = some (some (.ref f)) ∧ PySem.W.isFn K (.ref f) = true
structure ClsG (K : PySem.W.Frag) (mg : Str → Option Value) (x : Str) (C : Addr) : Prop where
  g : mg x = some (.ref C)
  mks : PySem.W.makesIn K C = true
  kp : PySem.W.keepIn K (.ref C) = true
def Made (P : Program) (w : World) (K : PySem.W.Frag) (mg : Str → Option Value) (base : Heap) (x : Str) (C : Addr) (ps : List Str) (k : Nat) (sp : Sp) : Prop :=
  ∃ f fd, Mk K C f ∧ FnOk P w K mg base CX0 k f fd ps sp ∧ mg x = some (.ref C) ∧ Binds K fd ps []
def HasM (P : Program) (w : World) (K : PySem.W.Frag) (mg : Str → Option Value) (base : Heap) (C : Addr) (m : Str) (ps : List Str) (k : Nat) (sp : Sp) : Prop :=
  ∃ f fd, Meth K C m f ∧ FnOk P w K mg base CX0 k f fd ps sp ∧ Binds K fd ps []
section
variable {X : Cx} {x m : Str} {C : Addr} {ps : List Str} {k : Nat} {sp : Sp} {e o : Expr} {es : List Expr} {t : TA} {ta : TE} {p pos apos : Pos}
theorem pe_mk0 (h : Made X.prog X.w X.K X.mg X.base x C ps k sp) (hr : Room (k + 1) X.A) (hg : Gl X x) (hdb : (x == ("__debug__" : Str)) = false := by decide) : PE X (.Call (.Name x p) [] [] pos) (tMake C sp [] E0 tNil) := by
  obtain ⟨f, fd, M, F, hm, hb⟩ := h
  exact pe_make0 M F hr hg hm hb .nil pass0 hdb
theorem pe_mk1 (h : Made X.prog X.w X.K X.mg X.base x C ps k sp) (hr : Room (k + 1) X.A) (hg : Gl X x) (ha : PA X (e :: es) t)
    (hdb : (x == ("__debug__" : Str)) = false := by decide) (he : starEach (e :: es) X.env = (false, eval e X.env) :: starEach es X.env := by rfl) (hpl : (backTo pos (starEach es X.env)).any (·.1) = false := by rfl) : PE X (.Call (.Name x p) (e :: es) [] pos) (tMake C sp [] E0 t) := by
  obtain ⟨f, fd, M, F, hm, hb⟩ := h
  exact pe_make M F hr hg hm hb .nil pass0 ha hdb he hpl
theorem pe_hasM {pl : Sem Bool} (he : PE X o ta) (c : Cls X.K C) (h : HasM X.prog X.w X.K X.mg X.base C m ps k sp) (hr : Room k X.A) (ha : PA X (e :: es) t)
    (hst : starEach (e :: es) X.env = (false, eval e X.env) :: starEach es X.env := by rfl) (hpl : (backTo pos (starEach es X.env)).any (·.1) = false := by rfl)
    (ht : eval (.Call (.Attribute o m apos) (e :: es) [] pos) X.env = (do
      let ov ← eval o X.env
      standAt apos.atName
      let (f, first) ← holding [ov] (getMethod ov m pl)
      callWith pos f first (backTo pos (starEach (e :: es) X.env)) (backToKw pos (keywordEach [] X.env))) := by rfl) :
    PE X (.Call (.Attribute o m apos) (e :: es) [] pos) (tMeth C m sp [] E0 ta t) := by
  obtain ⟨f, fd, M, F, hb⟩ := h
  exact pe_meth he c M F hr hb .nil pass0 ha hst hpl ht
theorem pe_hasM0 {pl : Sem Bool} (he : PE X o ta) (c : Cls X.K C) (h : HasM X.prog X.w X.K X.mg X.base C m ps k sp) (hr : Room k X.A)
    (ht : eval (.Call (.Attribute o m apos) [] [] pos) X.env = (do
      let ov ← eval o X.env
      standAt apos.atName
      let (f, first) ← holding [ov] (getMethod ov m pl)
      callWith pos f first (backTo pos (starEach [] X.env)) (backToKw pos (keywordEach [] X.env))) := by rfl) :
    PE X (.Call (.Attribute o m apos) [] [] pos) (tMeth C m sp [] E0 ta tNil) := by
  obtain ⟨f, fd, M, F, hb⟩ := h
  exact pe_meth0 he c M F hr hb .nil pass0 ht
end
section
variable {P : Program} {w : World} {K : PySem.W.Frag} {mg : Str → Option Value} {base : Heap} {C : Addr}
theorem mkMade {x qual : Str} {st : Stmt} {N ps : List Str} {k : Nat} {sp : Sp} (D : DfsM K C "__init__" qual st) (G : ClsG K mg x C) (S : FnScope N ps (defScope st)) (len : ∀ vs H Q E, sp vs H Q E → vs.length = ps.length)
    (hb : ∀ (kV doc pm : Value) (an : Option Addr) (cdv ct : Value) (us : List Value), us.length = ps.length → bindArgs (PySem.W.fnOf "__init__" qual (defArgs st) (defBody st) (defScope st) .none kV doc pm an cdv ct) ⟨us, []⟩ = pure (ps.zip us))
    (hbody : ∀ (f : Addr) (cdv : Value) (A : Around) (outer : List Env) (s : Shared) (H : Hp) (vs : List V) (Q : VK) (E : XK), Room k (A.deeper (envOfC qual (defScope st) s.heap.objs.size f cdv)) → sp vs H Q E →
      ∃ t, PSs (cxOf CX0 P w K mg base N qual (defScope st) f cdv A outer s H E).nox (defBody st) t ∧ t { nx := fun _ H' => Q .non H', rt := Q } (start N vs) H) : Made P w K mg base x C ps (k + 1) sp := by
  obtain ⟨f, fd, F, ha, hf⟩ := D
  exact ⟨f, fd, ⟨G.mks, ha, hf, G.kp⟩, F.ok S len (hbody f), G.g, F.binds hb⟩
theorem mkHasM {m qual : Str} {st : Stmt} {N ps : List Str} {k : Nat} {sp : Sp} (D : DfsM K C m qual st) (S : FnScope N ps (defScope st)) (len : ∀ vs H Q E, sp vs H Q E → vs.length = ps.length)
    (hb : ∀ (kV doc pm : Value) (an : Option Addr) (cdv ct : Value) (us : List Value), us.length = ps.length → bindArgs (PySem.W.fnOf m qual (defArgs st) (defBody st) (defScope st) .none kV doc pm an cdv ct) ⟨us, []⟩ = pure (ps.zip us))
    (hbody : ∀ (f : Addr) (cdv : Value) (A : Around) (outer : List Env) (s : Shared) (H : Hp) (vs : List V) (Q : VK) (E : XK), Room k (A.deeper (envOfC qual (defScope st) s.heap.objs.size f cdv)) → sp vs H Q E →
      ∃ t, PSs (cxOf CX0 P w K mg base N qual (defScope st) f cdv A outer s H E).nox (defBody st) t ∧ t { nx := fun _ H' => Q .non H', rt := Q } (start N vs) H) : HasM P w K mg base C m ps (k + 1) sp := by
  obtain ⟨f, fd, F, ha, hf⟩ := D
  exact ⟨f, fd, ⟨ha, hf, F.kp⟩, F.ok S len (hbody f), F.binds hb⟩
/-! ### an instance that is being filled -/
/-- the instance at p has the attributes fs; the new lists ls; the rest of H0 is as it was -/
structure Cp (C : Addr) (H0 H : Hp) (p dx : Addr) (fs : List (Str × V)) (ls : List (Addr × List V)) : Prop where
  o : H p = some (.ins C dx fs)
  k : ∀ b o, H0 b = some o → b ≠ p → H b = some o
  l : ∀ a ∈ ls, H a.1 = some (.lst a.2)
  nd : (ls.map (·.1)).Nodup
  fr : ∀ a ∈ ls, H0 a.1 = none
theorem Cp.put {H0 H : Hp} {p dx : Addr} {fs fs' : List (Str × V)} {ls : List (Addr × List V)} {f : Str} {y : V} (c : Cp C H0 H p dx fs ls) (e : putF f y fs = fs') : Cp C H0 (upd H p (.ins C dx (putF f y fs))) p dx fs' ls :=
  ⟨by rw [upd_same, e], fun b o h n => by rw [upd_ne n]; exact c.k b o h n, fun a m => by rw [upd_ne (ne_of (c.l a m) c.o (by intro z; cases z))]; exact c.l a m, c.nd, c.fr⟩
theorem Cp.new {H0 H : Hp} {p dx l : Addr} {fs : List (Str × V)} {ls : List (Addr × List V)} {xs : List V} (c : Cp C H0 H p dx fs ls) (hl : H l = none) : Cp C H0 (upd H l (.lst xs)) p dx fs (ls ++ [(l, xs)]) := by
  have h0 : H0 l = none := by
    cases e : H0 l with
    | none => rfl
    | some o =>
      rw [c.k l o e (ne_of_none c.o hl).symm] at hl
      cases hl
  refine ⟨by rw [upd_ne (ne_of_none c.o hl)]; exact c.o, fun b o h n => ?_, fun a m => ?_, ?_, fun a m => ?_⟩
  · rw [upd_ne (ne_of_none (c.k b o h n) hl)]
    exact c.k b o h n
  · rcases List.mem_append.mp m with q | q
    · rw [upd_ne (ne_of_none (c.l a q) hl)]
      exact c.l a q
    · have e : a = (l, xs) := by simpa using q
      subst e
      exact upd_same
  · rw [List.map_append, List.nodup_append]
    refine ⟨c.nd, by simp, fun a ma b mb => ?_⟩
    obtain ⟨x, mx, rfl⟩ := List.mem_map.mp ma
    have e : b = l := by simpa using mb
    subst e
    exact ne_of_none (c.l x mx) hl
  · rcases List.mem_append.mp m with q | q
    · exact c.fr a q
    · have e : a = (l, xs) := by simpa using q
      subst e
      exact h0
theorem Cp.ha {H0 H : Hp} {p dx : Addr} {fs : List (Str × V)} {ls : List (Addr × List V)} {A : Ad} {s : State} (c : Cp C H0 H p dx fs ls) (h : HA C H0 A s) (ne : ∀ b ∈ [A.p, A.aw, A.ab, A.af, A.al, A.ap, A.at_], b ≠ p) : HA C H A s := h.frame fun b o e m => c.k b o e (ne b m)
/-- a house as it's made -/
def s0 : State := ⟨false, [], [], [], [], 0, 0, 0, 0, 0, 0, ⟨900000, 0, 0, 0, 0, false⟩, [], 0, [], 0⟩
def spHouse (C : Addr) : Sp := fun vs H Q _ => ∃ p dx, vs = [V.ref p] ∧ H p = some (.ins C dx []) ∧ ∀ B H', B.p = p → B.dx = dx → HA C H' B s0 → (∀ b ∈ [B.aw, B.ab, B.af, B.al, B.ap, B.at_], H b = none) → (∀ b o, H b = some o → b ≠ p → H' b = some o) → Q .non H'
theorem sc_House___init__ : FnScope ["self"] ["self"] (defScope (inClass (top 14) 0)) := ⟨rfl, rfl, rfl, by decide +kernel, rfl, by decide +kernel, by decide +kernel⟩
theorem mk_House (D : DfsM K C "__init__" "House.__init__" (inClass (top 14) 0)) (G : ClsG K mg "House" C) (T : Txt K mg C) : Made P w K mg base "House" C ["self"] 1 (spHouse C) := by
  refine mkMade D G sc_House___init__ (fun vs H Q E h => ?_) (fun _ _ _ _ _ _ us hl => match us, hl with | [_], _ => rfl) (fun f cdv Ar outer sh H vs Q E hr h => ?_)
  · obtain ⟨p, dx, rfl, _⟩ := h
    rfl
  · obtain ⟨p, dx, rfl, hp, kk⟩ := h
    refine ⟨_, (pss_cons (ps_fld (pv 0) pe_bl rfl) (pss_cons (ps_fld (pv 0) pe_int rfl) (pss_cons (ps_fld (pv 0) pe_int rfl) (pss_cons (ps_fld (pv 0) pe_int rfl) (pss_cons (ps_fld (pv 0) pe_int rfl) (pss_cons (ps_fld (pv 0) pe_int rfl) (pss_cons (ps_fld (pv 0) pe_int rfl) (pss_cons (ps_fld (pv 0) pe_int rfl) (pss_cons (ps_fld (pv 0) (pe_lst pa_nil) rfl) (pss_cons (ps_fld (pv 0) (pe_lst pa_nil) rfl) (pss_cons (ps_fld (pv 0) (pe_lst pa_nil) rfl) (pss_cons (ps_fld (pv 0) (pe_lst pa_nil) rfl) (pss_cons (ps_fld (pv 0) (pe_lst pa_nil) rfl) (pss_cons (ps_fld (pv 0) (pe_lst pa_nil) rfl) (pss_cons (ps_fld (pv 0) pe_int rfl) (pss_cons (ps_fld (pv 0) pe_int rfl) (pss_cons (ps_fld (pv 0) pe_int rfl) (pss_cons (ps_fld (pv 0) pe_int rfl) (pss_cons (ps_fld (pv 0) pe_bl rfl) (pss_cons (ps_fld (pv 0) pe_int rfl) (pss_one (ps_fld (pv 0) pe_int rfl)))))))))))))))))))))), ?_⟩
    have c : Cp C H H p dx [] [] := ⟨hp, fun b o h _ => h, fun a m => by simp at m, by simp, fun a m => by simp at m⟩
    refine ⟨_, rfl, p, C, dx, _, rfl, c.o, T.cl, T.no _ (by decide), (by show 0 < 1000; decide), ?_⟩
    have c := c.put (fs' := [("opened", .bl false)]) (f := "opened") (y := .bl false) rfl
    refine ⟨_, rfl, p, C, dx, _, rfl, c.o, T.cl, T.no _ (by decide), (by show 1 < 1000; decide), ?_⟩
    have c := c.put (fs' := [("opened", .bl false), ("capacity", .int 0)]) (f := "capacity") (y := .int 0) rfl
    refine ⟨_, rfl, p, C, dx, _, rfl, c.o, T.cl, T.no _ (by decide), (by show 2 < 1000; decide), ?_⟩
    have c := c.put (fs' := [("opened", .bl false), ("capacity", .int 0), ("markup", .int 0)]) (f := "markup") (y := .int 0) rfl
    refine ⟨_, rfl, p, C, dx, _, rfl, c.o, T.cl, T.no _ (by decide), (by show 3 < 1000; decide), ?_⟩
    have c := c.put (fs' := [("opened", .bl false), ("capacity", .int 0), ("markup", .int 0), ("pays", .int 0)]) (f := "pays") (y := .int 0) rfl
    refine ⟨_, rfl, p, C, dx, _, rfl, c.o, T.cl, T.no _ (by decide), (by show 4 < 1000; decide), ?_⟩
    have c := c.put (fs' := [("opened", .bl false), ("capacity", .int 0), ("markup", .int 0), ("pays", .int 0), ("regen", .int 0)]) (f := "regen") (y := .int 0) rfl
    refine ⟨_, rfl, p, C, dx, _, rfl, c.o, T.cl, T.no _ (by decide), (by show 5 < 1000; decide), ?_⟩
    have c := c.put (fs' := [("opened", .bl false), ("capacity", .int 0), ("markup", .int 0), ("pays", .int 0), ("regen", .int 0), ("most_hits", .int 0)]) (f := "most_hits") (y := .int 0) rfl
    refine ⟨_, rfl, p, C, dx, _, rfl, c.o, T.cl, T.no _ (by decide), (by show 6 < 1000; decide), ?_⟩
    have c := c.put (fs' := [("opened", .bl false), ("capacity", .int 0), ("markup", .int 0), ("pays", .int 0), ("regen", .int 0), ("most_hits", .int 0), ("coins", .int 0)]) (f := "coins") (y := .int 0) rfl
    refine ⟨_, rfl, p, C, dx, _, rfl, c.o, T.cl, T.no _ (by decide), (by show 7 < 1000; decide), ?_⟩
    have c := c.put (fs' := [("opened", .bl false), ("capacity", .int 0), ("markup", .int 0), ("pays", .int 0), ("regen", .int 0), ("most_hits", .int 0), ("coins", .int 0), ("shop_coins", .int 0)]) (f := "shop_coins") (y := .int 0) rfl
    refine ⟨(by show 0 ≤ sizeLine; decide), fun l1 hl1 => ?_⟩
    have c := c.new (xs := []) hl1
    refine ⟨_, rfl, p, C, dx, _, rfl, c.o, T.cl, T.no _ (by decide), (by show 8 < 1000; decide), ?_⟩
    have c := c.put (fs' := [("opened", .bl false), ("capacity", .int 0), ("markup", .int 0), ("pays", .int 0), ("regen", .int 0), ("most_hits", .int 0), ("coins", .int 0), ("shop_coins", .int 0), ("weights", .ref l1)]) (f := "weights") (y := .ref l1) rfl
    refine ⟨(by show 0 ≤ sizeLine; decide), fun l2 hl2 => ?_⟩
    have c := c.new (xs := []) hl2
    refine ⟨_, rfl, p, C, dx, _, rfl, c.o, T.cl, T.no _ (by decide), (by show 9 < 1000; decide), ?_⟩
    have c := c.put (fs' := [("opened", .bl false), ("capacity", .int 0), ("markup", .int 0), ("pays", .int 0), ("regen", .int 0), ("most_hits", .int 0), ("coins", .int 0), ("shop_coins", .int 0), ("weights", .ref l1), ("prices", .ref l2)]) (f := "prices") (y := .ref l2) rfl
    refine ⟨(by show 0 ≤ sizeLine; decide), fun l3 hl3 => ?_⟩
    have c := c.new (xs := []) hl3
    refine ⟨_, rfl, p, C, dx, _, rfl, c.o, T.cl, T.no _ (by decide), (by show 10 < 1000; decide), ?_⟩
    have c := c.put (fs' := [("opened", .bl false), ("capacity", .int 0), ("markup", .int 0), ("pays", .int 0), ("regen", .int 0), ("most_hits", .int 0), ("coins", .int 0), ("shop_coins", .int 0), ("weights", .ref l1), ("prices", .ref l2), ("foods", .ref l3)]) (f := "foods") (y := .ref l3) rfl
    refine ⟨(by show 0 ≤ sizeLine; decide), fun l4 hl4 => ?_⟩
    have c := c.new (xs := []) hl4
    refine ⟨_, rfl, p, C, dx, _, rfl, c.o, T.cl, T.no _ (by decide), (by show 11 < 1000; decide), ?_⟩
    have c := c.put (fs' := [("opened", .bl false), ("capacity", .int 0), ("markup", .int 0), ("pays", .int 0), ("regen", .int 0), ("most_hits", .int 0), ("coins", .int 0), ("shop_coins", .int 0), ("weights", .ref l1), ("prices", .ref l2), ("foods", .ref l3), ("fuels", .ref l4)]) (f := "fuels") (y := .ref l4) rfl
    refine ⟨(by show 0 ≤ sizeLine; decide), fun l5 hl5 => ?_⟩
    have c := c.new (xs := []) hl5
    refine ⟨_, rfl, p, C, dx, _, rfl, c.o, T.cl, T.no _ (by decide), (by show 12 < 1000; decide), ?_⟩
    have c := c.put (fs' := [("opened", .bl false), ("capacity", .int 0), ("markup", .int 0), ("pays", .int 0), ("regen", .int 0), ("most_hits", .int 0), ("coins", .int 0), ("shop_coins", .int 0), ("weights", .ref l1), ("prices", .ref l2), ("foods", .ref l3), ("fuels", .ref l4), ("pack", .ref l5)]) (f := "pack") (y := .ref l5) rfl
    refine ⟨(by show 0 ≤ sizeLine; decide), fun l6 hl6 => ?_⟩
    have c := c.new (xs := []) hl6
    refine ⟨_, rfl, p, C, dx, _, rfl, c.o, T.cl, T.no _ (by decide), (by show 13 < 1000; decide), ?_⟩
    have c := c.put (fs' := [("opened", .bl false), ("capacity", .int 0), ("markup", .int 0), ("pays", .int 0), ("regen", .int 0), ("most_hits", .int 0), ("coins", .int 0), ("shop_coins", .int 0), ("weights", .ref l1), ("prices", .ref l2), ("foods", .ref l3), ("fuels", .ref l4), ("pack", .ref l5), ("stock", .ref l6)]) (f := "stock") (y := .ref l6) rfl
    refine ⟨_, rfl, p, C, dx, _, rfl, c.o, T.cl, T.no _ (by decide), (by show 14 < 1000; decide), ?_⟩
    have c := c.put (fs' := [("opened", .bl false), ("capacity", .int 0), ("markup", .int 0), ("pays", .int 0), ("regen", .int 0), ("most_hits", .int 0), ("coins", .int 0), ("shop_coins", .int 0), ("weights", .ref l1), ("prices", .ref l2), ("foods", .ref l3), ("fuels", .ref l4), ("pack", .ref l5), ("stock", .ref l6), ("fed", .int 900000)]) (f := "fed") (y := .int 900000) rfl
    refine ⟨_, rfl, p, C, dx, _, rfl, c.o, T.cl, T.no _ (by decide), (by show 15 < 1000; decide), ?_⟩
    have c := c.put (fs' := [("opened", .bl false), ("capacity", .int 0), ("markup", .int 0), ("pays", .int 0), ("regen", .int 0), ("most_hits", .int 0), ("coins", .int 0), ("shop_coins", .int 0), ("weights", .ref l1), ("prices", .ref l2), ("foods", .ref l3), ("fuels", .ref l4), ("pack", .ref l5), ("stock", .ref l6), ("fed", .int 900000), ("hits", .int 0)]) (f := "hits") (y := .int 0) rfl
    refine ⟨_, rfl, p, C, dx, _, rfl, c.o, T.cl, T.no _ (by decide), (by show 16 < 1000; decide), ?_⟩
    have c := c.put (fs' := [("opened", .bl false), ("capacity", .int 0), ("markup", .int 0), ("pays", .int 0), ("regen", .int 0), ("most_hits", .int 0), ("coins", .int 0), ("shop_coins", .int 0), ("weights", .ref l1), ("prices", .ref l2), ("foods", .ref l3), ("fuels", .ref l4), ("pack", .ref l5), ("stock", .ref l6), ("fed", .int 900000), ("hits", .int 0), ("healed", .int 0)]) (f := "healed") (y := .int 0) rfl
    refine ⟨_, rfl, p, C, dx, _, rfl, c.o, T.cl, T.no _ (by decide), (by show 17 < 1000; decide), ?_⟩
    have c := c.put (fs' := [("opened", .bl false), ("capacity", .int 0), ("markup", .int 0), ("pays", .int 0), ("regen", .int 0), ("most_hits", .int 0), ("coins", .int 0), ("shop_coins", .int 0), ("weights", .ref l1), ("prices", .ref l2), ("foods", .ref l3), ("fuels", .ref l4), ("pack", .ref l5), ("stock", .ref l6), ("fed", .int 900000), ("hits", .int 0), ("healed", .int 0), ("fuel", .int 0)]) (f := "fuel") (y := .int 0) rfl
    refine ⟨_, rfl, p, C, dx, _, rfl, c.o, T.cl, T.no _ (by decide), (by show 18 < 1000; decide), ?_⟩
    have c := c.put (fs' := [("opened", .bl false), ("capacity", .int 0), ("markup", .int 0), ("pays", .int 0), ("regen", .int 0), ("most_hits", .int 0), ("coins", .int 0), ("shop_coins", .int 0), ("weights", .ref l1), ("prices", .ref l2), ("foods", .ref l3), ("fuels", .ref l4), ("pack", .ref l5), ("stock", .ref l6), ("fed", .int 900000), ("hits", .int 0), ("healed", .int 0), ("fuel", .int 0), ("lit", .bl false)]) (f := "lit") (y := .bl false) rfl
    refine ⟨_, rfl, p, C, dx, _, rfl, c.o, T.cl, T.no _ (by decide), (by show 19 < 1000; decide), ?_⟩
    have c := c.put (fs' := [("opened", .bl false), ("capacity", .int 0), ("markup", .int 0), ("pays", .int 0), ("regen", .int 0), ("most_hits", .int 0), ("coins", .int 0), ("shop_coins", .int 0), ("weights", .ref l1), ("prices", .ref l2), ("foods", .ref l3), ("fuels", .ref l4), ("pack", .ref l5), ("stock", .ref l6), ("fed", .int 900000), ("hits", .int 0), ("healed", .int 0), ("fuel", .int 0), ("lit", .bl false), ("drain", .int 0)]) (f := "drain") (y := .int 0) rfl
    refine ⟨_, rfl, p, C, dx, _, rfl, c.o, T.cl, T.no _ (by decide), (by show 20 < 1000; decide), ?_⟩
    have c := c.put (fs' := [("opened", .bl false), ("capacity", .int 0), ("markup", .int 0), ("pays", .int 0), ("regen", .int 0), ("most_hits", .int 0), ("coins", .int 0), ("shop_coins", .int 0), ("weights", .ref l1), ("prices", .ref l2), ("foods", .ref l3), ("fuels", .ref l4), ("pack", .ref l5), ("stock", .ref l6), ("fed", .int 900000), ("hits", .int 0), ("healed", .int 0), ("fuel", .int 0), ("lit", .bl false), ("drain", .int 0), ("clock", .int 0)]) (f := "clock") (y := .int 0) rfl
    have nd := c.nd
    refine kk ⟨p, dx, l1, l2, l3, l4, l5, l6⟩ _ rfl rfl ⟨c.o, c.l (l1, []) (by simp), c.l (l2, []) (by simp), c.l (l3, []) (by simp), c.l (l4, []) (by simp), c.l (l5, []) (by simp), c.l (l6, []) (by simp), nd⟩ (fun b m => ?_) c.k
    have e : b = l1 ∨ b = l2 ∨ b = l3 ∨ b = l4 ∨ b = l5 ∨ b = l6 := by simpa using m
    rcases e with rfl | rfl | rfl | rfl | rfl | rfl <;> exact c.fr (b, []) (by simp)
/-- a copy: its own record, pack and stock -/
def spCopy (C : Addr) : Sp := fun vs H Q _ => ∃ A s, vs = [V.ref A.p] ∧ HA C H A s ∧ ∀ B H', HA C H' B s → H B.p = none → Same H H' → Q (.ref B.p) H'
theorem sc_copy_of : FnScope ["house", "other"] ["house"] (defScope (top 15)) := ⟨rfl, rfl, rfl, by decide +kernel, rfl, by decide +kernel, by decide +kernel⟩
theorem ok_copy_of (D : Dfs K mg "copy_of" (top 15)) (T : Txt K mg C) (m_House : Made P w K mg base "House" C ["self"] 1 (spHouse C)) : Has P w K mg base "copy_of" ["house"] 3 (spCopy C) := by
  refine mkHas D sc_copy_of (fun vs H Q E h => ?_) (fun _ _ _ _ _ _ us hl => match us, hl with | [_], _ => rfl) (fun f cdv Ar outer sh H vs Q E hr h => ?_)
  · obtain ⟨A, s, rfl, _⟩ := h
    rfl
  · obtain ⟨A, s, rfl, h, kk⟩ := h
    refine ⟨_, (pss_cons (ps_set (i := 1) sc_copy_of.nd rfl (Or.inl rfl) (pe_mk0 m_House (hr.mono (by decide)) rfl)) (pss_cons (ps_fld (pv 1) (pe_fld (pv 0) rfl) rfl) (pss_cons (ps_fld (pv 1) (pe_fld (pv 0) rfl) rfl) (pss_cons (ps_fld (pv 1) (pe_fld (pv 0) rfl) rfl) (pss_cons (ps_fld (pv 1) (pe_fld (pv 0) rfl) rfl) (pss_cons (ps_fld (pv 1) (pe_fld (pv 0) rfl) rfl) (pss_cons (ps_fld (pv 1) (pe_fld (pv 0) rfl) rfl) (pss_cons (ps_fld (pv 1) (pe_fld (pv 0) rfl) rfl) (pss_cons (ps_fld (pv 1) (pe_fld (pv 0) rfl) rfl) (pss_cons (ps_fld (pv 1) (pe_fld (pv 0) rfl) rfl) (pss_cons (ps_fld (pv 1) (pe_fld (pv 0) rfl) rfl) (pss_cons (ps_fld (pv 1) (pe_fld (pv 0) rfl) rfl) (pss_cons (ps_fld (pv 1) (pe_fld (pv 0) rfl) rfl) (pss_cons (ps_fld (pv 1) (pe_callTy call_list_of rfl T.n_list boot_list1 (pa_cons (pe_fld (pv 0) rfl) pa_nil)) rfl) (pss_cons (ps_fld (pv 1) (pe_callTy call_list_of rfl T.n_list boot_list1 (pa_cons (pe_fld (pv 0) rfl) pa_nil)) rfl) (pss_cons (ps_fld (pv 1) (pe_fld (pv 0) rfl) rfl) (pss_cons (ps_fld (pv 1) (pe_fld (pv 0) rfl) rfl) (pss_cons (ps_fld (pv 1) (pe_fld (pv 0) rfl) rfl) (pss_cons (ps_fld (pv 1) (pe_fld (pv 0) rfl) rfl) (pss_cons (ps_fld (pv 1) (pe_fld (pv 0) rfl) rfl) (pss_cons (ps_fld (pv 1) (pe_fld (pv 0) rfl) rfl) (pss_cons (ps_fld (pv 1) (pe_fld (pv 0) rfl) rfl) (pss_one (ps_ret (pv 1))))))))))))))))))))))))), ?_⟩
    intro x dx nx ndx nex
    refine ⟨x, dx, rfl, upd_same, fun B H1 eB1 eB2 hB frB kp => ⟨rfl, ?_⟩⟩
    have sm : Same H H1 := Same.made nx ndx kp
    have h1 : HA C H1 A s := h.same sm
    subst eB1 eB2
    have ne : ∀ b ∈ [A.p, A.aw, A.ab, A.af, A.al, A.ap, A.at_], b ≠ B.p := by
      intro b m
      simp only [List.mem_cons, List.not_mem_nil, or_false] at m
      rcases m with rfl | rfl | rfl | rfl | rfl | rfl | rfl
      · exact ne_of_none h.o nx
      · exact ne_of_none h.w nx
      · exact ne_of_none h.b nx
      · exact ne_of_none h.f nx
      · exact ne_of_none h.l nx
      · exact ne_of_none h.k nx
      · exact ne_of_none h.t nx
    have c : Cp C H1 H1 B.p B.dx (hf B s0) [] := ⟨hB.o, fun b o h _ => h, fun a m => by simp at m, by simp, fun a m => by simp at m⟩
    have g := c.ha h1 ne
    refine ⟨_, rfl, _, _, _, _, _, rfl, g.o, T.cl, T.no _ (by decide), rfl, _, rfl, _, _, _, _, rfl, c.o, T.cl, T.no _ (by decide), (by show 21 < 1000; decide), ?_⟩
    have c := c.put (fs' := [("opened", .bl s.opened), ("capacity", .int 0), ("markup", .int 0), ("pays", .int 0), ("regen", .int 0), ("most_hits", .int 0), ("coins", .int 0), ("shop_coins", .int 0), ("weights", .ref B.aw), ("prices", .ref B.ab), ("foods", .ref B.af), ("fuels", .ref B.al), ("pack", .ref B.ap), ("stock", .ref B.at_), ("fed", .int 900000), ("hits", .int 0), ("healed", .int 0), ("fuel", .int 0), ("lit", .bl false), ("drain", .int 0), ("clock", .int 0)]) (f := "opened") (y := .bl s.opened) rfl
    have g := c.ha h1 ne
    refine ⟨_, rfl, _, _, _, _, _, rfl, g.o, T.cl, T.no _ (by decide), rfl, _, rfl, _, _, _, _, rfl, c.o, T.cl, T.no _ (by decide), (by show 21 < 1000; decide), ?_⟩
    have c := c.put (fs' := [("opened", .bl s.opened), ("capacity", nI s.capacity), ("markup", .int 0), ("pays", .int 0), ("regen", .int 0), ("most_hits", .int 0), ("coins", .int 0), ("shop_coins", .int 0), ("weights", .ref B.aw), ("prices", .ref B.ab), ("foods", .ref B.af), ("fuels", .ref B.al), ("pack", .ref B.ap), ("stock", .ref B.at_), ("fed", .int 900000), ("hits", .int 0), ("healed", .int 0), ("fuel", .int 0), ("lit", .bl false), ("drain", .int 0), ("clock", .int 0)]) (f := "capacity") (y := nI s.capacity) rfl
    have g := c.ha h1 ne
    refine ⟨_, rfl, _, _, _, _, _, rfl, g.o, T.cl, T.no _ (by decide), rfl, _, rfl, _, _, _, _, rfl, c.o, T.cl, T.no _ (by decide), (by show 21 < 1000; decide), ?_⟩
    have c := c.put (fs' := [("opened", .bl s.opened), ("capacity", nI s.capacity), ("markup", nI s.markup), ("pays", .int 0), ("regen", .int 0), ("most_hits", .int 0), ("coins", .int 0), ("shop_coins", .int 0), ("weights", .ref B.aw), ("prices", .ref B.ab), ("foods", .ref B.af), ("fuels", .ref B.al), ("pack", .ref B.ap), ("stock", .ref B.at_), ("fed", .int 900000), ("hits", .int 0), ("healed", .int 0), ("fuel", .int 0), ("lit", .bl false), ("drain", .int 0), ("clock", .int 0)]) (f := "markup") (y := nI s.markup) rfl
    have g := c.ha h1 ne
    refine ⟨_, rfl, _, _, _, _, _, rfl, g.o, T.cl, T.no _ (by decide), rfl, _, rfl, _, _, _, _, rfl, c.o, T.cl, T.no _ (by decide), (by show 21 < 1000; decide), ?_⟩
    have c := c.put (fs' := [("opened", .bl s.opened), ("capacity", nI s.capacity), ("markup", nI s.markup), ("pays", nI s.pays), ("regen", .int 0), ("most_hits", .int 0), ("coins", .int 0), ("shop_coins", .int 0), ("weights", .ref B.aw), ("prices", .ref B.ab), ("foods", .ref B.af), ("fuels", .ref B.al), ("pack", .ref B.ap), ("stock", .ref B.at_), ("fed", .int 900000), ("hits", .int 0), ("healed", .int 0), ("fuel", .int 0), ("lit", .bl false), ("drain", .int 0), ("clock", .int 0)]) (f := "pays") (y := nI s.pays) rfl
    have g := c.ha h1 ne
    refine ⟨_, rfl, _, _, _, _, _, rfl, g.o, T.cl, T.no _ (by decide), rfl, _, rfl, _, _, _, _, rfl, c.o, T.cl, T.no _ (by decide), (by show 21 < 1000; decide), ?_⟩
    have c := c.put (fs' := [("opened", .bl s.opened), ("capacity", nI s.capacity), ("markup", nI s.markup), ("pays", nI s.pays), ("regen", nI s.regen), ("most_hits", .int 0), ("coins", .int 0), ("shop_coins", .int 0), ("weights", .ref B.aw), ("prices", .ref B.ab), ("foods", .ref B.af), ("fuels", .ref B.al), ("pack", .ref B.ap), ("stock", .ref B.at_), ("fed", .int 900000), ("hits", .int 0), ("healed", .int 0), ("fuel", .int 0), ("lit", .bl false), ("drain", .int 0), ("clock", .int 0)]) (f := "regen") (y := nI s.regen) rfl
    have g := c.ha h1 ne
    refine ⟨_, rfl, _, _, _, _, _, rfl, g.o, T.cl, T.no _ (by decide), rfl, _, rfl, _, _, _, _, rfl, c.o, T.cl, T.no _ (by decide), (by show 21 < 1000; decide), ?_⟩
    have c := c.put (fs' := [("opened", .bl s.opened), ("capacity", nI s.capacity), ("markup", nI s.markup), ("pays", nI s.pays), ("regen", nI s.regen), ("most_hits", nI s.body.most), ("coins", .int 0), ("shop_coins", .int 0), ("weights", .ref B.aw), ("prices", .ref B.ab), ("foods", .ref B.af), ("fuels", .ref B.al), ("pack", .ref B.ap), ("stock", .ref B.at_), ("fed", .int 900000), ("hits", .int 0), ("healed", .int 0), ("fuel", .int 0), ("lit", .bl false), ("drain", .int 0), ("clock", .int 0)]) (f := "most_hits") (y := nI s.body.most) rfl
    have g := c.ha h1 ne
    refine ⟨_, rfl, _, _, _, _, _, rfl, g.o, T.cl, T.no _ (by decide), rfl, _, rfl, _, _, _, _, rfl, c.o, T.cl, T.no _ (by decide), (by show 21 < 1000; decide), ?_⟩
    have c := c.put (fs' := [("opened", .bl s.opened), ("capacity", nI s.capacity), ("markup", nI s.markup), ("pays", nI s.pays), ("regen", nI s.regen), ("most_hits", nI s.body.most), ("coins", nI s.coins), ("shop_coins", .int 0), ("weights", .ref B.aw), ("prices", .ref B.ab), ("foods", .ref B.af), ("fuels", .ref B.al), ("pack", .ref B.ap), ("stock", .ref B.at_), ("fed", .int 900000), ("hits", .int 0), ("healed", .int 0), ("fuel", .int 0), ("lit", .bl false), ("drain", .int 0), ("clock", .int 0)]) (f := "coins") (y := nI s.coins) rfl
    have g := c.ha h1 ne
    refine ⟨_, rfl, _, _, _, _, _, rfl, g.o, T.cl, T.no _ (by decide), rfl, _, rfl, _, _, _, _, rfl, c.o, T.cl, T.no _ (by decide), (by show 21 < 1000; decide), ?_⟩
    have c := c.put (fs' := [("opened", .bl s.opened), ("capacity", nI s.capacity), ("markup", nI s.markup), ("pays", nI s.pays), ("regen", nI s.regen), ("most_hits", nI s.body.most), ("coins", nI s.coins), ("shop_coins", nI s.till), ("weights", .ref B.aw), ("prices", .ref B.ab), ("foods", .ref B.af), ("fuels", .ref B.al), ("pack", .ref B.ap), ("stock", .ref B.at_), ("fed", .int 900000), ("hits", .int 0), ("healed", .int 0), ("fuel", .int 0), ("lit", .bl false), ("drain", .int 0), ("clock", .int 0)]) (f := "shop_coins") (y := nI s.till) rfl
    have g := c.ha h1 ne
    refine ⟨_, rfl, _, _, _, _, _, rfl, g.o, T.cl, T.no _ (by decide), rfl, _, rfl, _, _, _, _, rfl, c.o, T.cl, T.no _ (by decide), (by show 21 < 1000; decide), ?_⟩
    have c := c.put (fs' := [("opened", .bl s.opened), ("capacity", nI s.capacity), ("markup", nI s.markup), ("pays", nI s.pays), ("regen", nI s.regen), ("most_hits", nI s.body.most), ("coins", nI s.coins), ("shop_coins", nI s.till), ("weights", .ref A.aw), ("prices", .ref B.ab), ("foods", .ref B.af), ("fuels", .ref B.al), ("pack", .ref B.ap), ("stock", .ref B.at_), ("fed", .int 900000), ("hits", .int 0), ("healed", .int 0), ("fuel", .int 0), ("lit", .bl false), ("drain", .int 0), ("clock", .int 0)]) (f := "weights") (y := .ref A.aw) rfl
    have g := c.ha h1 ne
    refine ⟨_, rfl, _, _, _, _, _, rfl, g.o, T.cl, T.no _ (by decide), rfl, _, rfl, _, _, _, _, rfl, c.o, T.cl, T.no _ (by decide), (by show 21 < 1000; decide), ?_⟩
    have c := c.put (fs' := [("opened", .bl s.opened), ("capacity", nI s.capacity), ("markup", nI s.markup), ("pays", nI s.pays), ("regen", nI s.regen), ("most_hits", nI s.body.most), ("coins", nI s.coins), ("shop_coins", nI s.till), ("weights", .ref A.aw), ("prices", .ref A.ab), ("foods", .ref B.af), ("fuels", .ref B.al), ("pack", .ref B.ap), ("stock", .ref B.at_), ("fed", .int 900000), ("hits", .int 0), ("healed", .int 0), ("fuel", .int 0), ("lit", .bl false), ("drain", .int 0), ("clock", .int 0)]) (f := "prices") (y := .ref A.ab) rfl
    have g := c.ha h1 ne
    refine ⟨_, rfl, _, _, _, _, _, rfl, g.o, T.cl, T.no _ (by decide), rfl, _, rfl, _, _, _, _, rfl, c.o, T.cl, T.no _ (by decide), (by show 21 < 1000; decide), ?_⟩
    have c := c.put (fs' := [("opened", .bl s.opened), ("capacity", nI s.capacity), ("markup", nI s.markup), ("pays", nI s.pays), ("regen", nI s.regen), ("most_hits", nI s.body.most), ("coins", nI s.coins), ("shop_coins", nI s.till), ("weights", .ref A.aw), ("prices", .ref A.ab), ("foods", .ref A.af), ("fuels", .ref B.al), ("pack", .ref B.ap), ("stock", .ref B.at_), ("fed", .int 900000), ("hits", .int 0), ("healed", .int 0), ("fuel", .int 0), ("lit", .bl false), ("drain", .int 0), ("clock", .int 0)]) (f := "foods") (y := .ref A.af) rfl
    have g := c.ha h1 ne
    refine ⟨_, rfl, _, _, _, _, _, rfl, g.o, T.cl, T.no _ (by decide), rfl, _, rfl, _, _, _, _, rfl, c.o, T.cl, T.no _ (by decide), (by show 21 < 1000; decide), ?_⟩
    have c := c.put (fs' := [("opened", .bl s.opened), ("capacity", nI s.capacity), ("markup", nI s.markup), ("pays", nI s.pays), ("regen", nI s.regen), ("most_hits", nI s.body.most), ("coins", nI s.coins), ("shop_coins", nI s.till), ("weights", .ref A.aw), ("prices", .ref A.ab), ("foods", .ref A.af), ("fuels", .ref A.al), ("pack", .ref B.ap), ("stock", .ref B.at_), ("fed", .int 900000), ("hits", .int 0), ("healed", .int 0), ("fuel", .int 0), ("lit", .bl false), ("drain", .int 0), ("clock", .int 0)]) (f := "fuels") (y := .ref A.al) rfl
    have g := c.ha h1 ne
    refine ⟨_, rfl, _, _, _, _, _, rfl, g.o, T.cl, T.no _ (by decide), rfl, _, _, rfl, .inl (SqL.of g.k), fun l1 hl1 => ?_⟩
    have c := c.new (xs := nL s.pack) hl1
    have g := c.ha h1 ne
    refine ⟨_, rfl, _, _, _, _, rfl, c.o, T.cl, T.no _ (by decide), (by show 21 < 1000; decide), ?_⟩
    have c := c.put (fs' := [("opened", .bl s.opened), ("capacity", nI s.capacity), ("markup", nI s.markup), ("pays", nI s.pays), ("regen", nI s.regen), ("most_hits", nI s.body.most), ("coins", nI s.coins), ("shop_coins", nI s.till), ("weights", .ref A.aw), ("prices", .ref A.ab), ("foods", .ref A.af), ("fuels", .ref A.al), ("pack", .ref l1), ("stock", .ref B.at_), ("fed", .int 900000), ("hits", .int 0), ("healed", .int 0), ("fuel", .int 0), ("lit", .bl false), ("drain", .int 0), ("clock", .int 0)]) (f := "pack") (y := .ref l1) rfl
    have g := c.ha h1 ne
    refine ⟨_, rfl, _, _, _, _, _, rfl, g.o, T.cl, T.no _ (by decide), rfl, _, _, rfl, .inl (SqL.of g.t), fun l2 hl2 => ?_⟩
    have c := c.new (xs := nL s.stock) hl2
    have g := c.ha h1 ne
    refine ⟨_, rfl, _, _, _, _, rfl, c.o, T.cl, T.no _ (by decide), (by show 21 < 1000; decide), ?_⟩
    have c := c.put (fs' := [("opened", .bl s.opened), ("capacity", nI s.capacity), ("markup", nI s.markup), ("pays", nI s.pays), ("regen", nI s.regen), ("most_hits", nI s.body.most), ("coins", nI s.coins), ("shop_coins", nI s.till), ("weights", .ref A.aw), ("prices", .ref A.ab), ("foods", .ref A.af), ("fuels", .ref A.al), ("pack", .ref l1), ("stock", .ref l2), ("fed", .int 900000), ("hits", .int 0), ("healed", .int 0), ("fuel", .int 0), ("lit", .bl false), ("drain", .int 0), ("clock", .int 0)]) (f := "stock") (y := .ref l2) rfl
    have g := c.ha h1 ne
    refine ⟨_, rfl, _, _, _, _, _, rfl, g.o, T.cl, T.no _ (by decide), rfl, _, rfl, _, _, _, _, rfl, c.o, T.cl, T.no _ (by decide), (by show 21 < 1000; decide), ?_⟩
    have c := c.put (fs' := [("opened", .bl s.opened), ("capacity", nI s.capacity), ("markup", nI s.markup), ("pays", nI s.pays), ("regen", nI s.regen), ("most_hits", nI s.body.most), ("coins", nI s.coins), ("shop_coins", nI s.till), ("weights", .ref A.aw), ("prices", .ref A.ab), ("foods", .ref A.af), ("fuels", .ref A.al), ("pack", .ref l1), ("stock", .ref l2), ("fed", nI s.body.fed), ("hits", .int 0), ("healed", .int 0), ("fuel", .int 0), ("lit", .bl false), ("drain", .int 0), ("clock", .int 0)]) (f := "fed") (y := nI s.body.fed) rfl
    have g := c.ha h1 ne
    refine ⟨_, rfl, _, _, _, _, _, rfl, g.o, T.cl, T.no _ (by decide), rfl, _, rfl, _, _, _, _, rfl, c.o, T.cl, T.no _ (by decide), (by show 21 < 1000; decide), ?_⟩
    have c := c.put (fs' := [("opened", .bl s.opened), ("capacity", nI s.capacity), ("markup", nI s.markup), ("pays", nI s.pays), ("regen", nI s.regen), ("most_hits", nI s.body.most), ("coins", nI s.coins), ("shop_coins", nI s.till), ("weights", .ref A.aw), ("prices", .ref A.ab), ("foods", .ref A.af), ("fuels", .ref A.al), ("pack", .ref l1), ("stock", .ref l2), ("fed", nI s.body.fed), ("hits", nI s.body.hp), ("healed", .int 0), ("fuel", .int 0), ("lit", .bl false), ("drain", .int 0), ("clock", .int 0)]) (f := "hits") (y := nI s.body.hp) rfl
    have g := c.ha h1 ne
    refine ⟨_, rfl, _, _, _, _, _, rfl, g.o, T.cl, T.no _ (by decide), rfl, _, rfl, _, _, _, _, rfl, c.o, T.cl, T.no _ (by decide), (by show 21 < 1000; decide), ?_⟩
    have c := c.put (fs' := [("opened", .bl s.opened), ("capacity", nI s.capacity), ("markup", nI s.markup), ("pays", nI s.pays), ("regen", nI s.regen), ("most_hits", nI s.body.most), ("coins", nI s.coins), ("shop_coins", nI s.till), ("weights", .ref A.aw), ("prices", .ref A.ab), ("foods", .ref A.af), ("fuels", .ref A.al), ("pack", .ref l1), ("stock", .ref l2), ("fed", nI s.body.fed), ("hits", nI s.body.hp), ("healed", nI s.body.heal), ("fuel", .int 0), ("lit", .bl false), ("drain", .int 0), ("clock", .int 0)]) (f := "healed") (y := nI s.body.heal) rfl
    have g := c.ha h1 ne
    refine ⟨_, rfl, _, _, _, _, _, rfl, g.o, T.cl, T.no _ (by decide), rfl, _, rfl, _, _, _, _, rfl, c.o, T.cl, T.no _ (by decide), (by show 21 < 1000; decide), ?_⟩
    have c := c.put (fs' := [("opened", .bl s.opened), ("capacity", nI s.capacity), ("markup", nI s.markup), ("pays", nI s.pays), ("regen", nI s.regen), ("most_hits", nI s.body.most), ("coins", nI s.coins), ("shop_coins", nI s.till), ("weights", .ref A.aw), ("prices", .ref A.ab), ("foods", .ref A.af), ("fuels", .ref A.al), ("pack", .ref l1), ("stock", .ref l2), ("fed", nI s.body.fed), ("hits", nI s.body.hp), ("healed", nI s.body.heal), ("fuel", nI s.body.fuel), ("lit", .bl false), ("drain", .int 0), ("clock", .int 0)]) (f := "fuel") (y := nI s.body.fuel) rfl
    have g := c.ha h1 ne
    refine ⟨_, rfl, _, _, _, _, _, rfl, g.o, T.cl, T.no _ (by decide), rfl, _, rfl, _, _, _, _, rfl, c.o, T.cl, T.no _ (by decide), (by show 21 < 1000; decide), ?_⟩
    have c := c.put (fs' := [("opened", .bl s.opened), ("capacity", nI s.capacity), ("markup", nI s.markup), ("pays", nI s.pays), ("regen", nI s.regen), ("most_hits", nI s.body.most), ("coins", nI s.coins), ("shop_coins", nI s.till), ("weights", .ref A.aw), ("prices", .ref A.ab), ("foods", .ref A.af), ("fuels", .ref A.al), ("pack", .ref l1), ("stock", .ref l2), ("fed", nI s.body.fed), ("hits", nI s.body.hp), ("healed", nI s.body.heal), ("fuel", nI s.body.fuel), ("lit", .bl s.body.lit), ("drain", .int 0), ("clock", .int 0)]) (f := "lit") (y := .bl s.body.lit) rfl
    have g := c.ha h1 ne
    refine ⟨_, rfl, _, _, _, _, _, rfl, g.o, T.cl, T.no _ (by decide), rfl, _, rfl, _, _, _, _, rfl, c.o, T.cl, T.no _ (by decide), (by show 21 < 1000; decide), ?_⟩
    have c := c.put (fs' := [("opened", .bl s.opened), ("capacity", nI s.capacity), ("markup", nI s.markup), ("pays", nI s.pays), ("regen", nI s.regen), ("most_hits", nI s.body.most), ("coins", nI s.coins), ("shop_coins", nI s.till), ("weights", .ref A.aw), ("prices", .ref A.ab), ("foods", .ref A.af), ("fuels", .ref A.al), ("pack", .ref l1), ("stock", .ref l2), ("fed", nI s.body.fed), ("hits", nI s.body.hp), ("healed", nI s.body.heal), ("fuel", nI s.body.fuel), ("lit", .bl s.body.lit), ("drain", nI s.drain), ("clock", .int 0)]) (f := "drain") (y := nI s.drain) rfl
    have g := c.ha h1 ne
    refine ⟨_, rfl, _, _, _, _, _, rfl, g.o, T.cl, T.no _ (by decide), rfl, _, rfl, _, _, _, _, rfl, c.o, T.cl, T.no _ (by decide), (by show 21 < 1000; decide), ?_⟩
    have c := c.put (fs' := [("opened", .bl s.opened), ("capacity", nI s.capacity), ("markup", nI s.markup), ("pays", nI s.pays), ("regen", nI s.regen), ("most_hits", nI s.body.most), ("coins", nI s.coins), ("shop_coins", nI s.till), ("weights", .ref A.aw), ("prices", .ref A.ab), ("foods", .ref A.af), ("fuels", .ref A.al), ("pack", .ref l1), ("stock", .ref l2), ("fed", nI s.body.fed), ("hits", nI s.body.hp), ("healed", nI s.body.heal), ("fuel", nI s.body.fuel), ("lit", .bl s.body.lit), ("drain", nI s.drain), ("clock", nI s.clock)]) (f := "clock") (y := nI s.clock) rfl
    have g := c.ha h1 ne
    refine ⟨_, rfl, ?_⟩
    refine kk ⟨B.p, B.dx, A.aw, A.ab, A.af, A.al, l1, l2⟩ _ ⟨c.o, g.w, g.b, g.f, g.l, c.l (l1, nL s.pack) (by simp), c.l (l2, nL s.stock) (by simp), ?_⟩ nx (fun b o e => c.k b o (sm b o e) (ne_of_none e nx))
    have nd := h.nd
    have nl : l1 ≠ l2 := by have q := c.nd; simpa using q
    have f1 : H1 l1 = none := c.fr (l1, nL s.pack) (by simp)
    have f2 : H1 l2 = none := c.fr (l2, nL s.stock) (by simp)
    have w1 := ne_of_none h1.w f1
    have w2 := ne_of_none h1.w f2
    have b1 := ne_of_none h1.b f1
    have b2 := ne_of_none h1.b f2
    have f1' := ne_of_none h1.f f1
    have f2' := ne_of_none h1.f f2
    have l1' := ne_of_none h1.l f1
    have l2' := ne_of_none h1.l f2
    simp only [List.nodup_cons, List.mem_cons, List.not_mem_nil, or_false, not_or, not_false_eq_true, and_true, List.nodup_nil] at nd ⊢
    obtain ⟨⟨n1, n2, n3, n4, n5⟩, ⟨m2, m3, m4, m5⟩, ⟨o3, o4, o5⟩, ⟨p4, p5⟩, q5⟩ := nd
    exact ⟨⟨n1, n2, n3, w1, w2⟩, ⟨m2, m3, b1, b2⟩, ⟨o3, f1', f2'⟩, ⟨l1', l2'⟩, nl⟩
theorem sc_tell_ahead : FnScope ["house", "ticks", "later", "passed"] ["house", "ticks"] (defScope (top 67)) := ⟨rfl, rfl, rfl, by decide +kernel, rfl, by decide +kernel, by decide +kernel⟩
theorem ok_tell_ahead (D : Dfs K mg "tell_ahead" (top 67)) (T : Txt K mg C) (h_copy_of : Has P w K mg base "copy_of" ["house"] 3 (spCopy C)) (h_pass_ticks : Has P w K mg base "pass_ticks" ["house", "ticks"] 5 (spPass C)) (h_how_one_is : Has P w K mg base "how_one_is" ["house"] 2 (spHow C)) : Has P w K mg base "tell_ahead" ["house", "ticks"] 6 (spCall1 C (fun _ => True) .ahead) := by
  refine mkHas D sc_tell_ahead (fun vs H Q E h => ?_) (fun _ _ _ _ _ _ us hl => match us, hl with | [_, _], _ => rfl) (fun f cdv Ar outer sh H vs Q E hr h => ?_)
  · obtain ⟨A, s, n, rfl, _⟩ := h
    rfl
  · obtain ⟨A, s, n, rfl, hn, h, wf, k⟩ := h
    refine ⟨_, (pss_cons (ps_set (i := 2) sc_tell_ahead.nd rfl (Or.inl rfl) (pe_has h_copy_of (hr.mono (by decide)) rfl (pa_cons (pv 0) pa_nil))) (pss_cons (ps_set (i := 3) sc_tell_ahead.nd rfl (Or.inl rfl) (pe_has h_pass_ticks (hr.mono (by decide)) rfl (pa_cons (pv 2) (pa_cons (pv 1) pa_nil)))) (pss_one (ps_ret (pe_op op_cat (pe_lst (pa_cons (pe_gI rfl T.g_ACCEPTED) (pa_cons (pv 3) pa_nil))) (pe_has h_how_one_is (hr.mono (by decide)) rfl (pa_cons (pv 2) pa_nil))))))), ?_⟩
    refine ⟨_, rfl, A, s, rfl, h, ?_⟩
    intro B H1 hB nB e1
    refine ⟨_, rfl, _, rfl, B, s, n, rfl, hB, wf, ?_⟩
    intro H2 h2 f2
    rw [run_rate wf]
    have h2 : HA C H2 B { s with body := (HM.run (Vbrgak.rate s) s.regen n s.body).1, clock := s.clock + (HM.run (Vbrgak.rate s) s.regen n s.body).2 } := h2
    rw [run_rate wf] at h2
    have e2 : Same H H2 := fun b o e => f2 b o (e1 b o e) (by
      have q := ne_of_none e nB
      simpa using q)
    refine ⟨_, rfl, (by show 2 ≤ sizeLine; decide), fun q1 hq1 => ?_⟩
    have e3 := same_upd (o := .lst [V.int 0, nI (Vbrgak.passed (Vbrgak.rate s) s.regen n s.body).2]) (Same.refl H2) hq1
    refine ⟨_, rfl, B, _, rfl, h2.same e3, ?_⟩
    intro q2 hq2
    have e4 := same_upd (o := .lst ((Vbrgak.shown (Vbrgak.passed (Vbrgak.rate s) s.regen n s.body).1).map V.int)) e3 hq2
    refine ⟨_, _, _, _, rfl, rfl, (by rw [upd_ne (ne_of_none upd_same hq2)]; exact upd_same), upd_same, (by show 7 ≤ sizeLine; decide), fun q hq => ?_⟩
    exact k.ask rfl h (e2.trans e4) hq rfl
end
end Ho
end
section
set_option Elab.async false
set_option linter.all false
set_option maxRecDepth 100000
set_option maxHeartbeats 2000000
namespace Ho
open PySem PySem.Spec PyProof.Rows L2
open Vbrgak (State Body)
def iL (l : List Int) : List V := l.map V.int
theorem iL_len (l : List Int) : (iL l).length = l.length := List.length_map _
theorem get_map {α : Type} {g : α → V} {l : List α} {i : Nat} {x : V} (h : (l.map g)[i]? = some x) : ∃ n, l[i]? = some n ∧ x = g n := by
  rw [List.getElem?_map] at h
  cases e : l[i]? with
  | none =>
    rw [e] at h
    cases h
  | some n =>
    rw [e] at h
    exact ⟨n, rfl, (Option.some.inj h).symm⟩
/-- each number within its pair -/
def inAll : List Int → List (Int × Int) → Bool
  | n :: ns, p :: ps => Vbrgak.inside n p.1 p.2 && inAll ns ps
  | _, _ => true
theorem inAll_t : ∀ (ns : List Int) (ps : List (Int × Int)), (∀ (i : Nat) n (p : Int × Int), ns[i]? = some n → ps[i]? = some p → Vbrgak.inside n p.1 p.2 = true) → inAll ns ps = true
  | [], _, _ => by simp [inAll]
  | _ :: _, [], _ => by simp [inAll]
  | n :: ns, p :: ps, h => by
    show (Vbrgak.inside n p.1 p.2 && inAll ns ps) = true
    rw [h 0 n p rfl rfl, inAll_t ns ps fun i n' p' a b => h (i + 1) n' p' a b]
    rfl
theorem inAll_f : ∀ (ns : List Int) (ps : List (Int × Int)) (i : Nat) (n : Int) (p : Int × Int), ns[i]? = some n → ps[i]? = some p → Vbrgak.inside n p.1 p.2 = false → inAll ns ps = false
  | [], _, i, n, p, h, _, _ => by simp at h
  | _ :: _, [], i, n, p, _, h, _ => by simp at h
  | a :: ns, b :: ps, 0, n, p, h1, h2, h3 => by
    cases h1
    cases h2
    show (Vbrgak.inside a b.1 b.2 && inAll ns ps) = false
    rw [h3]
    rfl
  | a :: ns, b :: ps, i + 1, n, p, h1, h2, h3 => by
    show (Vbrgak.inside a b.1 b.2 && inAll ns ps) = false
    rw [inAll_f ns ps i n p h1 h2 h3, Bool.and_false]
/-- each row within its pair -/
def rowsAll : List (List Int) → List (Int × Int) → Bool
  | n :: ns, p :: ps => Vbrgak.isRow n p.1 p.2 && rowsAll ns ps
  | _, _ => true
theorem rowsAll_t : ∀ (ns : List (List Int)) (ps : List (Int × Int)), (∀ (i : Nat) n (p : Int × Int), ns[i]? = some n → ps[i]? = some p → Vbrgak.isRow n p.1 p.2 = true) → rowsAll ns ps = true
  | [], _, _ => by simp [rowsAll]
  | _ :: _, [], _ => by simp [rowsAll]
  | n :: ns, p :: ps, h => by
    show (Vbrgak.isRow n p.1 p.2 && rowsAll ns ps) = true
    rw [h 0 n p rfl rfl, rowsAll_t ns ps fun i n' p' a b => h (i + 1) n' p' a b]
    rfl
theorem rowsAll_f : ∀ (ns : List (List Int)) (ps : List (Int × Int)) (i : Nat) (n : List Int) (p : Int × Int), ns[i]? = some n → ps[i]? = some p → Vbrgak.isRow n p.1 p.2 = false → rowsAll ns ps = false
  | [], _, i, n, p, h, _, _ => by simp at h
  | _ :: _, [], i, n, p, _, h, _ => by simp at h
  | a :: ns, b :: ps, 0, n, p, h1, h2, h3 => by
    cases h1
    cases h2
    show (Vbrgak.isRow a b.1 b.2 && rowsAll ns ps) = false
    rw [h3]
    rfl
  | a :: ns, b :: ps, i + 1, n, p, h1, h2, h3 => by
    show (Vbrgak.isRow a b.1 b.2 && rowsAll ns ps) = false
    rw [rowsAll_f ns ps i n p h1 h2 h3, Bool.and_false]
section
variable {P : Program} {w : World} {K : PySem.W.Frag} {mg : Str → Option Value} {base : Heap} {C : Addr}
def spWithin (K : PySem.W.Frag) : Sp := fun vs H Q _ => ∃ (i : Int) (b : Addr) (p : Int × Int), vs = [V.int i, V.ref b] ∧ PairK K b p ∧ ∀ v, v = V.bl (Vbrgak.inside i p.1 p.2) → Q v H
theorem sc_is_within : FnScope ["number", "bounds"] ["number", "bounds"] (defScope (top 82)) := ⟨rfl, rfl, rfl, by decide +kernel, rfl, by decide +kernel, by decide +kernel⟩
theorem ok_is_within (D : Dfs K mg "is_within" (top 82)) (T : Txt K mg C) : Has P w K mg base "is_within" ["number", "bounds"] 1 (spWithin K) := by
  refine mkHas D sc_is_within (fun vs H Q E h => ?_) (fun _ _ _ _ _ _ us hl => match us, hl with | [_, _], _ => rfl) (fun f cdv Ar outer sh H vs Q E hr h => ?_)
  · obtain ⟨i, b, p, rfl, _⟩ := h
    rfl
  · obtain ⟨i, b, p, rfl, hb, k⟩ := h
    refine ⟨_, (pss_one (ps_ret (pe_chain op_le op_le (pe_ix ix_tup (pv 1) pe_int (fun _ _ => rfl)) (pv 0) (pe_ix ix_tup (pv 1) pe_int (fun _ _ => rfl))))), ?_⟩
    refine ⟨_, rfl, b, _, _, _, rfl, rfl, hb _, atI_nat (j := 0) rfl, _, rfl, _, _, rfl, rfl, _, rfl, ?_⟩
    refine iteD (fun c => ?_) (fun c => ?_)
    · refine ⟨_, rfl, b, _, _, _, rfl, rfl, hb _, atI_nat (j := 1) rfl, _, _, rfl, rfl, ?_⟩
      refine k _ (congrArg V.bl ?_)
      unfold Vbrgak.inside
      rw [decide_eq_true c]
      rfl
    · refine k _ (congrArg V.bl ?_)
      unfold Vbrgak.inside
      rw [decide_eq_false c]
      rfl
/-- the numbers of a call against the table -/
def spNums (K : PySem.W.Frag) : Sp := fun vs H Q _ => ∃ (c : Int) (q : Addr) (ns : List Int) (ps : List (Int × Int)), vs = [V.int c, V.ref q] ∧ H q = some (.lst (iL ns)) ∧ valT tabl c = some ps ∧ ns.length ≤ ps.length ∧ ∀ v H', v = V.bl (inAll ns ps) → Same H H' → Q v H'
theorem sc_are_numbers_within : FnScope ["call", "numbers", "number", "bounds"] ["call", "numbers"] (defScope (top 83)) := ⟨rfl, rfl, rfl, by decide +kernel, rfl, by decide +kernel, by decide +kernel⟩
theorem ok_are_numbers_within (D : Dfs K mg "are_numbers_within" (top 83)) (T : Txt K mg C) (h_is_within : Has P w K mg base "is_within" ["number", "bounds"] 1 (spWithin K)) : Has P w K mg base "are_numbers_within" ["call", "numbers"] 2 (spNums K) := by
  refine mkHas D sc_are_numbers_within (fun vs H Q E h => ?_) (fun _ _ _ _ _ _ us hl => match us, hl with | [_, _], _ => rfl) (fun f cdv Ar outer sh H vs Q E hr h => ?_)
  · obtain ⟨c, q, ns, ps, rfl, _⟩ := h
    rfl
  · obtain ⟨c, q, ns, ps, rfl, hq, hv, hl, k⟩ := h
    refine ⟨_, (pss_cons (ps_for PassesOwn.never rfl (pi_zipT rfl T.n_zip (pa_cons (pv 1) (pa_cons (pe_tab rfl T.g_NUMBER_RANGES (pv 0) (fun _ _ => rfl)) pa_nil))) (pg_tup rfl (pgs_cons (pg_name (i := 2) sc_are_numbers_within.nd rfl (Or.inl rfl)) (pgs_cons (pg_name (i := 3) sc_are_numbers_within.nd rfl (Or.inl rfl)) pgs_nil))) (pss_one (ps_if (pt_not (pt_val (pe_has h_is_within (hr.mono (by decide)) rfl (pa_cons (pv 2) (pa_cons (pv 3) pa_nil))))) (pss_one (ps_ret pe_bl)) pss_nil))) (pss_one (ps_ret pe_bl))), ?_⟩
    refine ⟨_, rfl, _, rfl, c, ps, rfl, hv, fun a ra => ?_⟩
    obtain ⟨bs, sq, hbl, pk⟩ := ra
    refine ⟨q, a, _, _, rfl, SqL.of hq, sq _, ?_⟩
    refine for_zipT (K := K) (a := q) (b := a) (xs := iL ns) (ys := bs.map V.ref) (fun i σ H' => ∃ v2 v3 : Option V, σ = [some (.int c), some (.ref q), v2, v3] ∧ Same H H' ∧ ∀ (j : Nat) n (p : Int × Int), j < i → ns[j]? = some n → ps[j]? = some p → Vbrgak.inside n p.1 p.2 = true)
      ⟨none, none, rfl, Same.refl H, fun j n p h => by omega⟩ (fun i σ H' ⟨_, _, _, e, _⟩ => ⟨SqL.of (e _ _ hq), sq _⟩) (by rw [iL_len, List.length_map, hbl]; exact hl) ?_ ?_
    · rintro i x y t σ H' hx hy ht ⟨v2, v3, rfl, e, hall⟩
      obtain ⟨n, hn, rfl⟩ := get_map hx
      obtain ⟨b, hb, rfl⟩ := get_map hy
      obtain ⟨p, hp⟩ : ∃ p, ps[i]? = some p := by
        obtain ⟨h1, _⟩ := List.getElem?_eq_some_iff.mp hb
        exact ⟨_, List.getElem?_eq_getElem (by omega)⟩
      have pb := pk i b p hb hp
      refine ⟨t, _, rfl, SqT.of upd_same, rfl, _, _, rfl, _, _, rfl, rfl, ?_⟩
      refine ⟨_, rfl, _, rfl, n, b, p, rfl, pb, ?_⟩
      rintro _ rfl
      refine ⟨_, rfl, ?_⟩
      have e2 := same_upd (o := .tup [V.int n, V.ref b]) e ht
      refine iteNB (fun c2 => ?_) (fun c2 => ?_)
      · exact k _ _ (congrArg V.bl (inAll_f ns ps i n p hn hp c2).symm) e2
      · refine ⟨some (.int n), some (.ref b), rfl, e2, fun j n' p' hj h1 h2 => ?_⟩
        by_cases ej : j = i
        · subst ej
          rw [hn] at h1
          rw [hp] at h2
          cases h1
          cases h2
          exact c2
        · exact hall j n' p' (by omega) h1 h2
    · rintro σ H' ⟨v2, v3, rfl, e, hall⟩
      refine k _ _ (congrArg V.bl (inAll_t ns ps fun i n p h1 h2 => hall i n p ?_ h1 h2).symm) e
      rw [iL_len]
      exact (List.getElem?_eq_some_iff.mp h1).1
/-- a row against its pair -/
def spRow (K : PySem.W.Frag) : Sp := fun vs H Q _ => ∃ (q b : Addr) (ns : List Int) (p : Int × Int), vs = [V.ref q, V.ref b] ∧ H q = some (.lst (iL ns)) ∧ PairK K b p ∧ ∀ v, v = V.bl (Vbrgak.isRow ns p.1 p.2) → Q v H
theorem sc_is_row_within : FnScope ["row", "bounds", "number"] ["row", "bounds"] (defScope (top 84)) := ⟨rfl, rfl, rfl, by decide +kernel, rfl, by decide +kernel, by decide +kernel⟩
theorem ok_is_row_within (D : Dfs K mg "is_row_within" (top 84)) (T : Txt K mg C) (h_is_within : Has P w K mg base "is_within" ["number", "bounds"] 1 (spWithin K)) : Has P w K mg base "is_row_within" ["row", "bounds"] 2 (spRow K) := by
  refine mkHas D sc_is_row_within (fun vs H Q E h => ?_) (fun _ _ _ _ _ _ us hl => match us, hl with | [_, _], _ => rfl) (fun f cdv Ar outer sh H vs Q E hr h => ?_)
  · obtain ⟨q, b, ns, p, rfl, _⟩ := h
    rfl
  · obtain ⟨q, b, ns, p, rfl, hq, hb, k⟩ := h
    refine ⟨_, (pss_cons (ps_if (pt_cmpR op_gt (pe_callB call_len_seq rfl T.n_len PySem.boot_len (pa_cons (pv 0) pa_nil)) (pe_gI rfl T.g_LONGEST_ROW) (nomark _)) (pss_one (ps_ret pe_bl)) pss_nil) (pss_cons (ps_for PassesOwn.never rfl (pi_list (pv 0)) (pg_name (i := 2) sc_is_row_within.nd rfl (Or.inl rfl)) (pss_one (ps_if (pt_not (pt_val (pe_has h_is_within (hr.mono (by decide)) rfl (pa_cons (pv 2) (pa_cons (pv 1) pa_nil))))) (pss_one (ps_ret pe_bl)) pss_nil))) (pss_one (ps_ret pe_bl)))), ?_⟩
    refine ⟨_, rfl, _, _, rfl, .inl (SqL.of hq), _, _, rfl, rfl, _, rfl, ?_⟩
    rw [iL_len]
    refine iteD (fun c => ?_) (fun c => ?_)
    · refine k _ (congrArg V.bl ?_)
      unfold Vbrgak.isRow
      rw [decide_eq_false (by omega)]
      rfl
    refine ⟨_, rfl, q, rfl, ⟨_, SqL.of hq⟩, ?_⟩
    refine for_list (K := K) (a := q) (xs := iL ns) (fun i σ H' => ∃ v2 : Option V, σ = [some (.ref q), some (.ref b), v2] ∧ H' = H ∧ ∀ j n, j < i → ns[j]? = some n → Vbrgak.inside n p.1 p.2 = true)
      ⟨none, rfl, rfl, fun j n h => by omega⟩ (fun i σ H' _ ⟨_, _, e, _⟩ => by rw [e]; exact SqL.of hq) ?_ ?_
    · rintro i x σ H' hx ⟨v2, rfl, rfl, hall⟩
      obtain ⟨n, hn, rfl⟩ := get_map hx
      refine ⟨_, rfl, _, rfl, n, b, p, rfl, hb, ?_⟩
      rintro _ rfl
      refine ⟨_, rfl, ?_⟩
      refine iteNB (fun c2 => ?_) (fun c2 => ?_)
      · refine k _ (congrArg V.bl ?_)
        unfold Vbrgak.isRow
        rw [decide_eq_true (by omega)]
        have q : (ns.all fun x => Vbrgak.inside x p.1 p.2) = false := by
          rw [List.all_eq_false]
          exact ⟨n, List.mem_of_getElem? hn, by rw [c2]; simp⟩
        rw [q]
        rfl
      · refine ⟨some (.int n), rfl, rfl, fun j n' hj h1 => ?_⟩
        by_cases ej : j = i
        · subst ej
          rw [hn] at h1
          cases h1
          exact c2
        · exact hall j n' (by omega) h1
    · rintro σ H' ⟨v2, rfl, rfl, hall⟩
      refine k _ (congrArg V.bl ?_)
      unfold Vbrgak.isRow
      rw [decide_eq_true (by omega)]
      have q : (ns.all fun x => Vbrgak.inside x p.1 p.2) = true := by
        rw [List.all_eq_true]
        intro x mx
        obtain ⟨i, hi⟩ := List.mem_iff_getElem?.mp mx
        exact hall i x (by rw [iL_len]; exact (List.getElem?_eq_some_iff.mp hi).1) hi
      rw [q]
      rfl
/-- a list of rows at q, each a list of ints -/
structure RowsAt (H : Hp) (q : Addr) (rs : List Addr) (ns : List (List Int)) : Prop where
  l : H q = some (.lst (rs.map V.ref))
  len : rs.length = ns.length
  r : ∀ (i : Nat) (a : Addr) (n : List Int), rs[i]? = some a → ns[i]? = some n → H a = some (.lst (iL n))
theorem RowsAt.same {H H' : Hp} {q : Addr} {rs : List Addr} {ns : List (List Int)} (h : RowsAt H q rs ns) (e : Same H H') : RowsAt H' q rs ns := ⟨e _ _ h.l, h.len, fun i a n h1 h2 => e _ _ (h.r i a n h1 h2)⟩
def spRows (K : PySem.W.Frag) : Sp := fun vs H Q _ => ∃ (q : Addr) (rs : List Addr) (ns : List (List Int)), vs = [V.ref q] ∧ RowsAt H q rs ns ∧ ns.length ≤ 4 ∧ ∀ v H', v = V.bl (rowsAll ns rowsT) → Same H H' → Q v H'
theorem sc_are_rows_within : FnScope ["rows", "row", "bounds"] ["rows"] (defScope (top 85)) := ⟨rfl, rfl, rfl, by decide +kernel, rfl, by decide +kernel, by decide +kernel⟩
theorem ok_are_rows_within (D : Dfs K mg "are_rows_within" (top 85)) (T : Txt K mg C) (h_is_row_within : Has P w K mg base "is_row_within" ["row", "bounds"] 2 (spRow K)) : Has P w K mg base "are_rows_within" ["rows"] 3 (spRows K) := by
  refine mkHas D sc_are_rows_within (fun vs H Q E h => ?_) (fun _ _ _ _ _ _ us hl => match us, hl with | [_], _ => rfl) (fun f cdv Ar outer sh H vs Q E hr h => ?_)
  · obtain ⟨q, rs, ns, rfl, _⟩ := h
    rfl
  · obtain ⟨q, rs, ns, rfl, hR, hl, k⟩ := h
    refine ⟨_, (pss_cons (ps_for PassesOwn.never rfl (pi_zipT rfl T.n_zip (pa_cons (pv 0) (pa_cons (pe_gR rfl T.g_ROW_RANGES) pa_nil))) (pg_tup rfl (pgs_cons (pg_name (i := 1) sc_are_rows_within.nd rfl (Or.inl rfl)) (pgs_cons (pg_name (i := 2) sc_are_rows_within.nd rfl (Or.inl rfl)) pgs_nil))) (pss_one (ps_if (pt_not (pt_val (pe_has h_is_row_within (hr.mono (by decide)) rfl (pa_cons (pv 1) (pa_cons (pv 2) pa_nil))))) (pss_one (ps_ret pe_bl)) pss_nil))) (pss_one (ps_ret pe_bl))), ?_⟩
    refine ⟨_, rfl, fun a ra => ?_⟩
    obtain ⟨bs, sq, hbl, pk⟩ := ra
    refine ⟨q, a, _, _, rfl, SqL.of hR.l, sq _, ?_⟩
    refine for_zipT (K := K) (a := q) (b := a) (xs := rs.map V.ref) (ys := bs.map V.ref) (fun i σ H' => ∃ v2 v3 : Option V, σ = [some (.ref q), v2, v3] ∧ Same H H' ∧ ∀ (j : Nat) n (p : Int × Int), j < i → ns[j]? = some n → rowsT[j]? = some p → Vbrgak.isRow n p.1 p.2 = true)
      ⟨none, none, rfl, Same.refl H, fun j n p h => by omega⟩ (fun i σ H' ⟨_, _, _, e, _⟩ => ⟨SqL.of (e _ _ hR.l), sq _⟩) (by rw [List.length_map, List.length_map, hbl, hR.len]; exact hl) ?_ ?_
    · rintro i x y t σ H' hx hy ht ⟨v2, v3, rfl, e, hall⟩
      obtain ⟨r, hr', rfl⟩ := get_map hx
      obtain ⟨b, hb, rfl⟩ := get_map hy
      obtain ⟨p, hp⟩ : ∃ p, rowsT[i]? = some p := by
        obtain ⟨h1, _⟩ := List.getElem?_eq_some_iff.mp hb
        exact ⟨_, List.getElem?_eq_getElem (by omega)⟩
      obtain ⟨n, hn⟩ : ∃ n, ns[i]? = some n := by
        obtain ⟨h1, _⟩ := List.getElem?_eq_some_iff.mp hr'
        exact ⟨_, List.getElem?_eq_getElem (by have := hR.len; omega)⟩
      have pb := pk i b p hb hp
      have e2 := same_upd (o := .tup [V.ref r, V.ref b]) e ht
      refine ⟨t, _, rfl, SqT.of upd_same, rfl, _, _, rfl, _, _, rfl, rfl, ?_⟩
      refine ⟨_, rfl, _, rfl, r, b, n, p, rfl, e2 _ _ (hR.r i r n hr' hn), pb, ?_⟩
      rintro _ rfl
      refine ⟨_, rfl, ?_⟩
      refine iteNB (fun c2 => ?_) (fun c2 => ?_)
      · exact k _ _ (congrArg V.bl (rowsAll_f ns rowsT i n p hn hp c2).symm) e2
      · refine ⟨some (.ref r), some (.ref b), rfl, e2, fun j n' p' hj h1 h2 => ?_⟩
        by_cases ej : j = i
        · subst ej
          rw [hn] at h1
          rw [hp] at h2
          cases h1
          cases h2
          exact c2
        · exact hall j n' p' (by omega) h1 h2
    · rintro σ H' ⟨v2, v3, rfl, e, hall⟩
      refine k _ _ (congrArg V.bl (rowsAll_t ns rowsT fun i n p h1 h2 => hall i n p ?_ h1 h2).symm) e
      rw [List.length_map, hR.len]
      exact (List.getElem?_eq_some_iff.mp h1).1
end
end Ho
end
section
set_option Elab.async false
set_option linter.all false
set_option maxRecDepth 100000
set_option maxHeartbeats 2000000
namespace Ho
open PySem PySem.Spec PyProof.Rows L2
open Vbrgak (State Body)
structure TxtR (K : PySem.W.Frag) (mg : Str → Option Value) (R : Addr) : Prop where
  cl : Cls K R
  no : ∀ x ∈ (["calls", "place"] : List Str), NoAttr K R x
def rf (a : Addr) (i : Nat) : List (Str × V) := [("calls", .ref a), ("place", nI i)]
/-- a reader of the list l at a, at its place i -/
structure RA (K : PySem.W.Frag) (R : Addr) (H : Hp) (r dr a : Addr) (l : List Int) (i : Nat) : Prop where
  o : H r = some (.ins R dr (rf a i))
  c : SqL K H a (iL l)
  le : i ≤ l.length
theorem sq_frame {K : PySem.W.Frag} {H H' : Hp} {a : Addr} {xs : List V} (h : SqL K H a xs) (e : ∀ o, H a = some o → H' a = some o) : SqL K H' a xs := by
  rcases h with (h | ⟨o, h⟩) | h
  · exact .inl (.inl (e _ h))
  · exact .inl (.inr ⟨o, e _ h⟩)
  · exact .inr h
/-- a list is never the instance -/
theorem sq_at_ins {K : PySem.W.Frag} {H H' : Hp} {a r C dx : Addr} {xs : List V} {fs : List (Str × V)} (h : SqL K H a xs) (ho : H r = some (.ins C dx fs)) (e : ∀ o, H a = some o → a ≠ r → H' a = some o) : SqL K H' a xs := by
  rcases h with (h | ⟨o, h⟩) | h
  · exact .inl (.inl (e _ h (ne_of h ho (by intro z; cases z))))
  · exact .inl (.inr ⟨o, e _ h (ne_of h ho (by intro z; cases z))⟩)
  · exact .inr h
theorem RA.move {K : PySem.W.Frag} {R : Addr} {H : Hp} {r dr a : Addr} {l : List Int} {i j : Nat} {fs : List (Str × V)} (h : RA K R H r dr a l i) (e : fs = rf a j) (le : j ≤ l.length) : RA K R (upd H r (.ins R dr fs)) r dr a l j :=
  ⟨by rw [upd_same, e], sq_at_ins h.c h.o fun o q n => by rw [upd_ne n]; exact q, le⟩
theorem RA.same {K : PySem.W.Frag} {R : Addr} {H H' : Hp} {r dr a : Addr} {l : List Int} {i : Nat} (h : RA K R H r dr a l i) (e : Same H H') : RA K R H' r dr a l i := ⟨e _ _ h.o, e.seq h.c, h.le⟩
theorem cut_iL (l : List Int) (i m : Nat) (h : i + m ≤ l.length) (x y : Int) (hx : x = (i : Int)) (hy : y = ((i + m : Nat) : Int)) : cutV (iL l) (some x) (some y) = iL ((l.drop i).take m) := by
  unfold cutV
  rw [hx, hy, HT.sIx_nat, HT.sIx_nat, iL_len]
  unfold iL
  rw [← List.map_drop, ← List.map_take, Nat.min_eq_left h, Nat.min_eq_left (show i ≤ l.length by omega)]
  congr 2
  omega
section
variable {P : Program} {w : World} {K : PySem.W.Frag} {mg : Str → Option Value} {base : Heap} {C R : Addr}
def spReader (R : Addr) : Sp := fun vs H Q _ => ∃ p dx a, vs = [V.ref p, V.ref a] ∧ H p = some (.ins R dx []) ∧ ∀ H', H' p = some (.ins R dx (rf a 0)) → (∀ b o, H b = some o → b ≠ p → H' b = some o) → Q .non H'
theorem sc_Reader___init__ : FnScope ["self", "calls"] ["self", "calls"] (defScope (inClass (top 87) 0)) := ⟨rfl, rfl, rfl, by decide +kernel, rfl, by decide +kernel, by decide +kernel⟩
theorem mk_Reader (D : DfsM K R "__init__" "Reader.__init__" (inClass (top 87) 0)) (G : ClsG K mg "Reader" R) (TR : TxtR K mg R) : Made P w K mg base "Reader" R ["self", "calls"] 1 (spReader R) := by
  refine mkMade D G sc_Reader___init__ (fun vs H Q E h => ?_) (fun _ _ _ _ _ _ us hl => match us, hl with | [_, _], _ => rfl) (fun f cdv Ar outer sh H vs Q E hr h => ?_)
  · obtain ⟨p, dx, a, rfl, _⟩ := h
    rfl
  · obtain ⟨p, dx, a, rfl, hp, kk⟩ := h
    refine ⟨_, (pss_cons (ps_fld (pv 0) (pv 1) rfl) (pss_one (ps_fld (pv 0) pe_int rfl))), ?_⟩
    refine ⟨_, rfl, _, rfl, p, R, dx, _, rfl, hp, TR.cl, TR.no _ (by decide), (by show 0 < 1000; decide), ?_⟩
    refine ⟨_, rfl, p, R, dx, _, rfl, upd_same, TR.cl, TR.no _ (by decide), (by show 1 < 1000; decide), ?_⟩
    exact kk _ (by rw [upd_same]; rfl) fun b o e n => by rw [upd_ne n, upd_ne n]; exact e
def spMore (K : PySem.W.Frag) (R : Addr) : Sp := fun vs H Q _ => ∃ r dr a l i, vs = [V.ref r] ∧ RA K R H r dr a l i ∧ ∀ v, v = V.bl (decide (i < l.length)) → Q v H
theorem sc_Reader_has_more : FnScope ["self"] ["self"] (defScope (inClass (top 87) 1)) := ⟨rfl, rfl, rfl, by decide +kernel, rfl, by decide +kernel, by decide +kernel⟩
theorem ok_has_more (D : DfsM K R "has_more" "Reader.has_more" (inClass (top 87) 1)) (T : Txt K mg C) (TR : TxtR K mg R) : HasM P w K mg base R "has_more" ["self"] 1 (spMore K R) := by
  refine mkHasM D sc_Reader_has_more (fun vs H Q E h => ?_) (fun _ _ _ _ _ _ us hl => match us, hl with | [_], _ => rfl) (fun f cdv Ar outer sh H vs Q E hr h => ?_)
  · obtain ⟨r, dr, a, l, i, rfl, _⟩ := h
    rfl
  · obtain ⟨r, dr, a, l, i, rfl, h, kk⟩ := h
    refine ⟨_, (pss_one (ps_ret (pe_cmpR op_lt (pe_fld (pv 0) rfl) (pe_callB call_len_seq rfl T.n_len PySem.boot_len (pa_cons (pe_fld (pv 0) rfl) pa_nil)) (nomark _)))), ?_⟩
    refine ⟨_, rfl, _, _, _, _, _, rfl, h.o, TR.cl, TR.no _ (by decide), rfl, _, rfl, _, _, _, _, _, rfl, h.o, TR.cl, TR.no _ (by decide), rfl, _, _, rfl, .inl h.c, _, _, rfl, rfl, ?_⟩
    rw [iL_len]
    exact kk _ (congrArg V.bl (decide_eq_decide.mpr (by omega)))
def spTake1 (K : PySem.W.Frag) (R : Addr) : Sp := fun vs H Q _ => ∃ r dr a l i z, vs = [V.ref r] ∧ RA K R H r dr a l i ∧ l[i]? = some z ∧ ∀ H', RA K R H' r dr a l (i + 1) → Fx [r] H H' → Q (.int z) H'
theorem sc_Reader_take_number : FnScope ["self", "number"] ["self"] (defScope (inClass (top 87) 2)) := ⟨rfl, rfl, rfl, by decide +kernel, rfl, by decide +kernel, by decide +kernel⟩
theorem ok_take_number (D : DfsM K R "take_number" "Reader.take_number" (inClass (top 87) 2)) (T : Txt K mg C) (TR : TxtR K mg R) : HasM P w K mg base R "take_number" ["self"] 1 (spTake1 K R) := by
  refine mkHasM D sc_Reader_take_number (fun vs H Q E h => ?_) (fun _ _ _ _ _ _ us hl => match us, hl with | [_], _ => rfl) (fun f cdv Ar outer sh H vs Q E hr h => ?_)
  · obtain ⟨r, dr, a, l, i, z, rfl, _⟩ := h
    rfl
  · obtain ⟨r, dr, a, l, i, z, rfl, h, hz, kk⟩ := h
    refine ⟨_, (pss_cons (ps_set (i := 1) sc_Reader_take_number.nd rfl (Or.inl rfl) (pe_ix ix_list (pe_fld (pv 0) rfl) (pe_fld (pv 0) rfl) (fun _ _ => rfl))) (pss_cons (ps_fldaug (pv 0) pe_int in_add) (pss_one (ps_ret (pv 1))))), ?_⟩
    have hi : i < l.length := (List.getElem?_eq_some_iff.mp hz).1
    refine ⟨_, rfl, _, _, _, _, _, rfl, h.o, TR.cl, TR.no _ (by decide), rfl, _, rfl, _, _, _, _, _, rfl, h.o, TR.cl, TR.no _ (by decide), rfl, _, _, _, _, rfl, rfl, h.c, atI_nat (j := i) (v := V.int z) (by unfold iL; rw [List.getElem?_map, hz]; rfl), ?_⟩
    refine ⟨_, rfl, _, _, _, _, _, rfl, h.o, TR.cl, TR.no _ (by decide), rfl, _, _, rfl, rfl, _, _, h.o, (by show 2 < 1000; decide), ?_⟩
    refine ⟨_, rfl, ?_⟩
    exact kk _ (h.move (j := i + 1) rfl hi) (Fx.upd (by simp))
/-- what is wanted behind a taking of m numbers -/
def Taken (K : PySem.W.Frag) (R : Addr) (H : Hp) (Q : VK) (r dr a : Addr) (l : List Int) (i m : Nat) : Prop := ∀ H' q, RA K R H' r dr a l (i + m) → H' q = some (.lst (iL ((l.drop i).take m))) → H q = none → Fx [r] H H' → Q (.ref q) H'
def spTakes (K : PySem.W.Frag) (R : Addr) : Sp := fun vs H Q _ => ∃ r dr a l i m, vs = [V.ref r, nI m] ∧ RA K R H r dr a l i ∧ i + m ≤ l.length ∧ Taken K R H Q r dr a l i m
theorem sc_Reader_take_numbers : FnScope ["self", "many", "start"] ["self", "many"] (defScope (inClass (top 87) 3)) := ⟨rfl, rfl, rfl, by decide +kernel, rfl, by decide +kernel, by decide +kernel⟩
theorem ok_take_numbers (D : DfsM K R "take_numbers" "Reader.take_numbers" (inClass (top 87) 3)) (T : Txt K mg C) (TR : TxtR K mg R) : HasM P w K mg base R "take_numbers" ["self", "many"] 1 (spTakes K R) := by
  refine mkHasM D sc_Reader_take_numbers (fun vs H Q E h => ?_) (fun _ _ _ _ _ _ us hl => match us, hl with | [_, _], _ => rfl) (fun f cdv Ar outer sh H vs Q E hr h => ?_)
  · obtain ⟨r, dr, a, l, i, m, rfl, _⟩ := h
    rfl
  · obtain ⟨r, dr, a, l, i, m, rfl, h, hm, kk⟩ := h
    refine ⟨_, (pss_cons (ps_set (i := 2) sc_Reader_take_numbers.nd rfl (Or.inl rfl) (pe_fld (pv 0) rfl)) (pss_cons (ps_fld (pv 0) (pe_op op_add (pv 2) (pv 1)) rfl) (pss_one (ps_ret (pe_slice sl_list (pe_fld (pv 0) rfl) (po_some (pv 2)) (po_some (pe_fld (pv 0) rfl))))))), ?_⟩
    refine ⟨_, rfl, _, _, _, _, _, rfl, h.o, TR.cl, TR.no _ (by decide), rfl, ?_⟩
    refine ⟨_, rfl, _, rfl, _, _, rfl, rfl, _, rfl, _, _, _, _, rfl, h.o, TR.cl, TR.no _ (by decide), (by show 2 < 1000; decide), ?_⟩
    have h1 := h.move (fs := putF "place" (V.int ((i : Int) + (m : Int))) (rf a i)) (j := i + m) rfl hm
    refine ⟨_, rfl, _, _, _, _, _, rfl, h1.o, TR.cl, TR.no _ (by decide), rfl, _, rfl, _, rfl, _, rfl, _, _, _, _, _, rfl, h1.o, TR.cl, TR.no _ (by decide), rfl, _, rfl, _, _, rfl, h1.c, fun q hq => ?_⟩
    have ho : H r = some (.ins R dr (rf a i)) := h.o
    rw [cut_iL l i m hm _ _ rfl rfl]
    refine kk _ q (h1.same (same_upd (Same.refl _) hq)) upd_same ?_ ((Fx.upd (by simp)).trans (Fx.new hq))
    have nq : q ≠ r := fun e => by
      rw [e, upd_same] at hq
      cases hq
    rw [upd_ne nq] at hq
    exact hq
def spReadN (K : PySem.W.Frag) (R : Addr) : Sp := fun vs H Q _ => ∃ r dr a l i c ps, vs = [V.ref r, V.int c] ∧ RA K R H r dr a l i ∧ valT tabl c = some ps ∧ i + ps.length ≤ l.length ∧ Taken K R H Q r dr a l i ps.length
theorem sc_read_numbers : FnScope ["reader", "call"] ["reader", "call"] (defScope (top 88)) := ⟨rfl, rfl, rfl, by decide +kernel, rfl, by decide +kernel, by decide +kernel⟩
theorem ok_read_numbers (D : Dfs K mg "read_numbers" (top 88)) (T : Txt K mg C) (TR : TxtR K mg R) (h_take_numbers : HasM P w K mg base R "take_numbers" ["self", "many"] 1 (spTakes K R)) : Has P w K mg base "read_numbers" ["reader", "call"] 2 (spReadN K R) := by
  refine mkHas D sc_read_numbers (fun vs H Q E h => ?_) (fun _ _ _ _ _ _ us hl => match us, hl with | [_, _], _ => rfl) (fun f cdv Ar outer sh H vs Q E hr h => ?_)
  · obtain ⟨r, dr, a, l, i, c, ps, rfl, _⟩ := h
    rfl
  · obtain ⟨r, dr, a, l, i, c, ps, rfl, h, hv, hm, kk⟩ := h
    refine ⟨_, (pss_one (ps_ret (pe_hasM (pv 0) TR.cl h_take_numbers (hr.mono (by decide)) (pa_cons (pe_callB call_len_seq rfl T.n_len PySem.boot_len (pa_cons (pe_tab rfl T.g_NUMBER_RANGES (pv 1) (fun _ _ => rfl)) pa_nil)) pa_nil)))), ?_⟩
    refine ⟨_, rfl, r, dr, _, rfl, h.o, rfl, _, rfl, c, ps, rfl, hv, fun b rb => ?_⟩
    obtain ⟨bs, sq, hbl, pk⟩ := rb
    refine ⟨_, _, rfl, .inr (sq _), ?_⟩
    exact ⟨r, dr, a, l, i, ps.length, congrArg (fun v => [V.ref r, v]) (nI_eq (by rw [List.length_map, hbl])), h, hm, kk⟩
end
end Ho
end
section
set_option Elab.async false
set_option linter.all false
set_option maxRecDepth 100000
set_option maxHeartbeats 2000000
namespace Ho
open PySem PySem.Spec PyProof.Rows L2
open Vbrgak (State Body)
theorem Fx.at_new {F : List Addr} {H H' : Hp} {q : Addr} {o : HO} (f : Fx F H H') (hq : H q = none) : Fx F H (L2.upd H' q o) := fun b u e n => by
  rw [upd_ne (ne_of_none e hq)]
  exact f b u e n
theorem rows_succ {k : Nat} {r : List Int} {xs : List (List Int)} {t : List Int} (h : PyFlat.rows (k + 1) r = some (xs, t)) :
    ∃ n r' xs', r = n :: r' ∧ 0 ≤ n ∧ n.toNat ≤ r'.length ∧ xs = r'.take n.toNat :: xs' ∧ PyFlat.rows k (r'.drop n.toNat) = some (xs', t) := by
  unfold PyFlat.rows at h
  cases r with
  | nil => simp [PyFlat.row] at h
  | cons n r' =>
    simp only [PyFlat.row] at h
    by_cases c : 0 ≤ n ∧ n.toNat ≤ r'.length
    · rw [if_pos c] at h
      simp only [] at h
      cases e : PyFlat.rows k (r'.drop n.toNat) with
      | none =>
        rw [e] at h
        cases h
      | some y =>
        obtain ⟨ys, t'⟩ := y
        rw [e] at h
        cases h
        exact ⟨n, r', ys, rfl, c.1, c.2, rfl, e⟩
    · rw [if_neg c] at h
      cases h
theorem drop_cons {l r : List Int} {j : Nat} {n : Int} (h : l.drop j = n :: r) : l[j]? = some n ∧ l.drop (j + 1) = r ∧ j < l.length := by
  have hl : j < l.length := by
    rcases Nat.lt_or_ge j l.length with q | q
    · exact q
    · rw [List.drop_eq_nil_of_le q] at h
      cases h
  rw [List.drop_eq_getElem_cons hl] at h
  injection h with h1 h2
  exact ⟨by rw [List.getElem?_eq_getElem hl, h1], h2, hl⟩
section
variable {P : Program} {w : World} {K : PySem.W.Frag} {mg : Str → Option Value} {base : Heap} {C R : Addr}
def spRead4 (K : PySem.W.Frag) (R : Addr) : Sp := fun vs H Q _ => ∃ r dr a l i xs t, vs = [V.ref r] ∧ RA K R H r dr a l i ∧ PyFlat.rows 4 (l.drop i) = some (xs, t) ∧
  ∀ H' q rs j, RA K R H' r dr a l j → l.drop j = t → RowsAt H' q rs xs → H q = none → Fx [r] H H' → Q (.ref q) H'
theorem sc_read_rows : FnScope ["reader", "rows", "many"] ["reader"] (defScope (top 89)) := ⟨rfl, rfl, rfl, by decide +kernel, rfl, by decide +kernel, by decide +kernel⟩
theorem ok_read_rows (D : Dfs K mg "read_rows" (top 89)) (T : Txt K mg C) (TR : TxtR K mg R) (h_take_number : HasM P w K mg base R "take_number" ["self"] 1 (spTake1 K R)) (h_take_numbers : HasM P w K mg base R "take_numbers" ["self", "many"] 1 (spTakes K R)) :
    Has P w K mg base "read_rows" ["reader"] 2 (spRead4 K R) := by
  refine mkHas D sc_read_rows (fun vs H Q E h => ?_) (fun _ _ _ _ _ _ us hl => match us, hl with | [_], _ => rfl) (fun f cdv Ar outer sh H vs Q E hr h => ?_)
  · obtain ⟨r, dr, a, l, i, xs, t, rfl, _⟩ := h
    rfl
  · obtain ⟨r, dr, a, l, i, xs, t, rfl, h, hx, kk⟩ := h
    refine ⟨_, (pss_cons (ps_set (i := 1) sc_read_rows.nd rfl (Or.inl rfl) (pe_lst pa_nil)) (pss_cons (ps_while PassesOwn.never (pt_cmpR op_lt (pe_callB call_len_seq rfl T.n_len PySem.boot_len (pa_cons (pv 1) pa_nil)) (pe_callB call_len_seq rfl T.n_len PySem.boot_len (pa_cons (pe_gR rfl T.g_ROW_RANGES) pa_nil)) (nomark _)) (pss_cons (ps_set (i := 2) sc_read_rows.nd rfl (Or.inl rfl) (pe_hasM0 (pv 0) TR.cl h_take_number (hr.mono (by decide)))) (pss_one (ps_expr (pe_bm PySem.F.plainAttrs_list PySem.F.slot_list_append PySem.F.type_list_append mt_append (pv 1) (pa_cons (pe_hasM (pv 0) TR.cl h_take_numbers (hr.mono (by decide)) (pa_cons (pv 2) pa_nil)) pa_nil)))))) (pss_one (ps_ret (pv 1))))), ?_⟩
    refine ⟨(by show 0 ≤ sizeLine; decide), fun q hq => ?_⟩
    have e0 := same_upd (o := .lst []) (Same.refl H) hq
    refine ⟨fun m σ H' => ∃ (k j : Nat) (done rest : List (List Int)) (rs : List Addr) (v2 : Option V), m = 4 - k ∧ k ≤ 4 ∧ done.length = k ∧ σ = [some (.ref r), some (.ref q), v2] ∧ RA K R H' r dr a l j ∧ RowsAt H' q rs done ∧ (∀ b ∈ rs, b ≠ q) ∧
        PyFlat.rows (4 - k) (l.drop j) = some (rest, t) ∧ done ++ rest = xs ∧ Fx [r] H H',
      ⟨_, 0, i, [], xs, [], none, rfl, by omega, rfl, rfl, h.same e0, ⟨upd_same, rfl, fun i a n h => by simp at h⟩, by simp, hx, rfl, Fx.of e0⟩, ?_⟩
    rintro m σ H1 ⟨k, j, done, rest, rs, v2, rfl, hk, hd, rfl, h1, hR, nq, hrow, hxs, f1⟩
    refine ⟨_, rfl, _, _, rfl, .inl (SqL.of hR.l), fun b rb => ?_⟩
    obtain ⟨bs, sq, hbl, pk⟩ := rb
    refine ⟨_, _, rfl, .inr (sq _), _, _, rfl, rfl, _, rfl, ?_⟩
    rw [List.length_map, List.length_map, hbl, hR.len, hd]
    have h4 : rowsT.length = 4 := rfl
    rw [h4]
    refine iteD (fun c => ?_) (fun c => ?_)
    · have c : k < 4 := by omega
      refine ⟨_, fun _ _ h => h, ?_⟩
      have ek : 4 - k = (4 - (k + 1)) + 1 := by omega
      rw [ek] at hrow
      obtain ⟨n, r', xs', ed, n0, nle, rfl, hrow'⟩ := rows_succ hrow
      obtain ⟨hz, ed2, hjl⟩ := drop_cons ed
      refine ⟨_, rfl, r, dr, _, rfl, h1.o, rfl, r, dr, a, l, j, n, rfl, h1, hz, ?_⟩
      intro H2 h2 f2
      have q2 : H2 q = some (.lst (rs.map V.ref)) := f2 _ _ hR.l (by
        have z := ne_of hR.l h1.o (by intro z; cases z)
        simpa using z)
      have ln : j + 1 + n.toNat ≤ l.length := by
        have e := congrArg List.length ed2
        rw [List.length_drop] at e
        omega
      refine ⟨_, rfl, .inl ⟨rfl, _, SqL.of q2⟩, _, rfl, r, dr, _, rfl, h2.o, rfl, _, rfl, r, dr, a, l, j + 1, n.toNat, congrArg (fun v => [V.ref r, v]) (nI_eq (by omega)), h2, ln, ?_⟩
      intro H3 p h3 hp np f3
      have q3 : H3 q = some (.lst (rs.map V.ref)) := f3 _ _ q2 (by
        have z := ne_of q2 h2.o (by intro z; cases z)
        simpa using z)
      refine ⟨q, _, _, rfl, rfl, q3, (by rw [List.length_map, hR.len, hd]; exact Nat.lt_of_lt_of_le c (by decide)), ?_⟩
      have hpq : p ≠ q := (ne_of_none q2 np).symm
      have fN : Fx [r] H (upd H3 q (.lst (rs.map V.ref ++ [V.ref p]))) := ((f1.trans f2).trans f3).at_new hq
      refine ⟨4 - (k + 1), by omega, k + 1, j + 1 + n.toNat, done ++ [r'.take n.toNat], xs', rs ++ [p], some (.int n), rfl, by omega, by rw [List.length_append, hd]; rfl, rfl, ?_, ⟨?_, ?_, ?_⟩, ?_, ?_, ?_, ?_⟩
      · exact ⟨by rw [upd_ne (ne_of q3 h3.o (by intro z; cases z)).symm]; exact h3.o, sq_at_ins h.c h.o fun o ho n => fN a o ho (by simpa using n), h3.le⟩
      · rw [upd_same, List.map_append]; rfl
      · rw [List.length_append, List.length_append, hR.len]; rfl
      · intro i' b' n' hb' hn'
        by_cases hi' : i' < rs.length
        · rw [List.getElem?_append_left hi'] at hb'
          rw [List.getElem?_append_left (by rw [← hR.len]; exact hi')] at hn'
          have z := hR.r i' b' n' hb' hn'
          have zr : b' ≠ r := ne_of z h1.o (by intro y; cases y)
          rw [upd_ne (nq b' (List.mem_of_getElem? hb'))]
          exact f3 _ _ (f2 _ _ z (by simpa using zr)) (by simpa using zr)
        · have hi2 : rs.length ≤ i' := by omega
          rw [List.getElem?_append_right hi2] at hb'
          rw [List.getElem?_append_right (by rw [← hR.len]; exact hi2)] at hn'
          have e0 : i' - rs.length = 0 := by
            have z := (List.getElem?_eq_some_iff.mp hb').1
            simp at z
            omega
          rw [e0] at hb'
          rw [← hR.len, e0] at hn'
          cases hb'
          cases hn'
          rw [upd_ne hpq]
          rw [← ed2]
          exact hp
      · intro b hb
        rcases List.mem_append.mp hb with z | z
        · exact nq b z
        · have e : b = p := by simpa using z
          rw [e]; exact hpq
      · rw [← List.drop_drop, ed2]; exact hrow'
      · rw [List.append_assoc]; exact hxs
      · exact fN
    · have ek : k = 4 := by omega
      subst ek
      have e : some (([] : List (List Int)), l.drop j) = some (rest, t) := hrow
      cases e
      rw [List.append_nil] at hxs
      subst hxs
      refine ⟨_, rfl, ?_⟩
      exact kk H1 q rs j h1 rfl hR hq f1
end
end Ho
end
section
set_option Elab.async false
set_option linter.all false
set_option maxRecDepth 100000
set_option maxHeartbeats 2000000
namespace Ho
open PySem PySem.Spec PyProof.Rows L2
open Vbrgak (State Body)
/-- open's four rows -/
structure R4 (H : Hp) (q r0 r1 r2 r3 : Addr) (x0 x1 x2 x3 : List Nat) : Prop where
  l : H q = some (.lst [.ref r0, .ref r1, .ref r2, .ref r3])
  a0 : H r0 = some (.lst (nL x0))
  a1 : H r1 = some (.lst (nL x1))
  a2 : H r2 = some (.lst (nL x2))
  a3 : H r3 = some (.lst (nL x3))
theorem R4.frame {H H' : Hp} {q r0 r1 r2 r3 : Addr} {x0 x1 x2 x3 : List Nat} (h : R4 H q r0 r1 r2 r3 x0 x1 x2 x3) (e : ∀ b xs, H b = some (.lst xs) → H' b = some (.lst xs)) : R4 H' q r0 r1 r2 r3 x0 x1 x2 x3 := ⟨e _ _ h.l, e _ _ h.a0, e _ _ h.a1, e _ _ h.a2, e _ _ h.a3⟩
theorem R4.fx {H H' : Hp} {q r0 r1 r2 r3 p C dx : Addr} {x0 x1 x2 x3 : List Nat} {fs : List (Str × V)} (h : R4 H q r0 r1 r2 r3 x0 x1 x2 x3) (ho : H p = some (.ins C dx fs)) (e : ∀ b o, H b = some o → b ≠ p → H' b = some o) : R4 H' q r0 r1 r2 r3 x0 x1 x2 x3 :=
  h.frame fun b xs hb => e b _ hb (ne_of hb ho (by intro z; cases z))
def openR (o : Bool) (x0 x1 x2 x3 : List Nat) : Int := if o = true then -3 else if x0.length = 0 then -4 else if x1.length = x0.length ∧ x2.length = x0.length ∧ x3.length = x0.length then 0 else -4
section
variable {P : Program} {w : World} {K : PySem.W.Frag} {mg : Str → Option Value} {base : Heap} {C R : Addr}
def spOpenR (C : Addr) : Sp := fun vs H Q _ => ∃ A s q r0 r1 r2 r3 x0 x1 x2 x3, vs = [V.ref A.p, V.ref q] ∧ HA C H A s ∧ R4 H q r0 r1 r2 r3 x0 x1 x2 x3 ∧ ∀ v, v = V.int (openR s.opened x0 x1 x2 x3) → Q v H
theorem sc_opening_refusal : FnScope ["house", "rows", "kinds", "row"] ["house", "rows"] (defScope (top 74)) := ⟨rfl, rfl, rfl, by decide +kernel, rfl, by decide +kernel, by decide +kernel⟩
theorem ok_opening_refusal (D : Dfs K mg "opening_refusal" (top 74)) (T : Txt K mg C) : Has P w K mg base "opening_refusal" ["house", "rows"] 1 (spOpenR C) := by
  refine mkHas D sc_opening_refusal (fun vs H Q E h => ?_) (fun _ _ _ _ _ _ us hl => match us, hl with | [_, _], _ => rfl) (fun f cdv Ar outer sh H vs Q E hr h => ?_)
  · obtain ⟨A, s, q, r0, r1, r2, r3, x0, x1, x2, x3, rfl, _⟩ := h
    rfl
  · obtain ⟨A, s, q, r0, r1, r2, r3, x0, x1, x2, x3, rfl, h, hR, k⟩ := h
    refine ⟨_, (pss_cons (ps_if (pt_val (pe_fld (pv 0) rfl)) (pss_one (ps_ret (pe_gI rfl T.g_ALREADY_OPEN))) pss_nil) (pss_cons (ps_set (i := 2) sc_opening_refusal.nd rfl (Or.inl rfl) (pe_callB call_len_seq rfl T.n_len PySem.boot_len (pa_cons (pe_ix ix_list (pv 1) pe_int (fun _ _ => rfl)) pa_nil))) (pss_cons (ps_if (pt_cmpR op_eq (pv 2) pe_int (nomark _)) (pss_one (ps_ret (pe_gI rfl T.g_BAD_COUNT))) pss_nil) (pss_cons (ps_for PassesOwn.never rfl (pi_list (pv 1)) (pg_name (i := 3) sc_opening_refusal.nd rfl (Or.inl rfl)) (pss_one (ps_if (pt_cmpR op_ne (pe_callB call_len_seq rfl T.n_len PySem.boot_len (pa_cons (pv 3) pa_nil)) (pv 2) (nomark _)) (pss_one (ps_ret (pe_gI rfl T.g_BAD_COUNT))) pss_nil))) (pss_one (ps_ret (pe_gI rfl T.g_ACCEPTED))))))), ?_⟩
    refine ⟨_, rfl, _, _, _, _, _, rfl, h.o, T.cl, T.no _ (by decide), rfl, _, rfl, ?_⟩
    refine iteB (fun c => ?_) (fun c => ?_)
    · exact k _ (congrArg V.int (by unfold openR; rw [if_pos c]))
    have c : ¬ s.opened = true := by rw [c]; simp
    refine ⟨_, rfl, q, _, _, _, rfl, rfl, SqL.of hR.l, atI_nat (j := 0) rfl, _, _, rfl, .inl (SqL.of hR.a0), ?_⟩
    rw [nL_len]
    refine ⟨_, rfl, rfl, _, rfl, ?_⟩
    refine iteE (fun c2 => ?_) (fun c2 => ?_)
    · exact k _ (congrArg V.int (by unfold openR; rw [if_neg c, if_pos (by omega)]))
    refine ⟨_, rfl, q, rfl, ⟨_, SqL.of hR.l⟩, ?_⟩
    have at_ : ∀ (i : Nat) x, ([V.ref r0, V.ref r1, V.ref r2, V.ref r3] : List V)[i]? = some x → ∃ b n, x = V.ref b ∧ H b = some (.lst (nL n)) ∧ [x0, x1, x2, x3][i]? = some n := by
      intro i x hx
      match i, hx with
      | 0, hx => cases hx; exact ⟨_, _, rfl, hR.a0, rfl⟩
      | 1, hx => cases hx; exact ⟨_, _, rfl, hR.a1, rfl⟩
      | 2, hx => cases hx; exact ⟨_, _, rfl, hR.a2, rfl⟩
      | 3, hx => cases hx; exact ⟨_, _, rfl, hR.a3, rfl⟩
      | j + 4, hx => simp at hx
    refine for_list (K := K) (a := q) (xs := [V.ref r0, V.ref r1, V.ref r2, V.ref r3]) (fun i σ H' => ∃ v3 : Option V, σ = [some (.ref A.p), some (.ref q), some (.int x0.length), v3] ∧ H' = H ∧ ∀ (j : Nat) n, j < i → [x0, x1, x2, x3][j]? = some n → n.length = x0.length)
      ⟨none, rfl, rfl, fun j n h => by omega⟩ (fun i σ H' _ ⟨_, _, e, _⟩ => by rw [e]; exact SqL.of hR.l) ?_ ?_
    · rintro i x σ H' hx ⟨v3, rfl, rfl, hall⟩
      obtain ⟨b, n, rfl, hb, hn⟩ := at_ i x hx
      refine ⟨_, rfl, _, _, rfl, .inl (SqL.of hb), _, rfl, rfl, _, rfl, ?_⟩
      rw [nL_len]
      refine iteN (fun c3 => ?_) (fun c3 => ?_)
      · refine k _ (congrArg V.int ?_)
        unfold openR
        rw [if_neg c, if_neg (by omega), if_neg]
        rintro ⟨y1, y2, y3⟩
        match i, hn with
        | 0, hn => cases hn; exact c3 rfl
        | 1, hn => cases hn; exact c3 (by rw [y1])
        | 2, hn => cases hn; exact c3 (by rw [y2])
        | 3, hn => cases hn; exact c3 (by rw [y3])
        | j + 4, hn => simp at hn
      · refine ⟨some (.ref b), rfl, rfl, fun j n' hj h1 => ?_⟩
        by_cases ej : j = i
        · subst ej
          rw [hn] at h1
          cases h1
          omega
        · exact hall j n' (by omega) h1
    · rintro σ H' ⟨v3, rfl, rfl, hall⟩
      refine k _ (congrArg V.int ?_)
      unfold openR
      rw [if_neg c, if_neg (by omega), if_pos]
      exact ⟨hall 1 x1 (by show 1 < 4; decide) rfl, hall 2 x2 (by show 2 < 4; decide) rfl, hall 3 x3 (by show 3 < 4; decide) rfl⟩
/-- open's seven numbers put down -/
def sNums (s : State) (n0 n1 n2 n3 n4 n5 n6 : Nat) : State := { s with capacity := n0, markup := n1, pays := n2, regen := n3, body := { s.body with most := n4 }, coins := n5, till := n6 }
def spKeepN (C : Addr) : Sp := fun vs H Q _ => ∃ A s q n0 n1 n2 n3 n4 n5 n6, vs = [V.ref A.p, V.ref q] ∧ HA C H A s ∧ H q = some (.lst [nI n0, nI n1, nI n2, nI n3, nI n4, nI n5, nI n6]) ∧ ∀ H', HA C H' A (sNums s n0 n1 n2 n3 n4 n5 n6) → (∀ b o, H b = some o → b ≠ A.p → H' b = some o) → Q .non H'
theorem sc_keep_numbers : FnScope ["house", "numbers"] ["house", "numbers"] (defScope (top 75)) := ⟨rfl, rfl, rfl, by decide +kernel, rfl, by decide +kernel, by decide +kernel⟩
theorem ok_keep_numbers (D : Dfs K mg "keep_numbers" (top 75)) (T : Txt K mg C) : Has P w K mg base "keep_numbers" ["house", "numbers"] 1 (spKeepN C) := by
  refine mkHas D sc_keep_numbers (fun vs H Q E h => ?_) (fun _ _ _ _ _ _ us hl => match us, hl with | [_, _], _ => rfl) (fun f cdv Ar outer sh H vs Q E hr h => ?_)
  · obtain ⟨A, s, q, n0, n1, n2, n3, n4, n5, n6, rfl, _⟩ := h
    rfl
  · obtain ⟨A, s, q, n0, n1, n2, n3, n4, n5, n6, rfl, h0, q0, k⟩ := h
    refine ⟨_, (pss_cons (ps_fld (pv 0) (pe_ix ix_list (pv 1) pe_int (fun _ _ => rfl)) rfl) (pss_cons (ps_fld (pv 0) (pe_ix ix_list (pv 1) pe_int (fun _ _ => rfl)) rfl) (pss_cons (ps_fld (pv 0) (pe_ix ix_list (pv 1) pe_int (fun _ _ => rfl)) rfl) (pss_cons (ps_fld (pv 0) (pe_ix ix_list (pv 1) pe_int (fun _ _ => rfl)) rfl) (pss_cons (ps_fld (pv 0) (pe_ix ix_list (pv 1) pe_int (fun _ _ => rfl)) rfl) (pss_cons (ps_fld (pv 0) (pe_ix ix_list (pv 1) pe_int (fun _ _ => rfl)) rfl) (pss_one (ps_fld (pv 0) (pe_ix ix_list (pv 1) pe_int (fun _ _ => rfl)) rfl)))))))), ?_⟩
    have nq : q ≠ A.p := ne_of q0 h0.o (by intro z; cases z)
    refine ⟨_, rfl, q, _, _, _, rfl, rfl, SqL.of q0, atI_nat (j := 0) rfl, _, rfl, _, _, _, _, rfl, h0.o, T.cl, T.no _ (by decide), (by show 21 < 1000; decide), ?_⟩
    have h1 := h0.p_capacity (n := n0) rfl
    have q1 : _ = some (HO.lst [nI n0, nI n1, nI n2, nI n3, nI n4, nI n5, nI n6]) := (upd_ne (o := .ins C A.dx (putF "capacity" (nI n0) (hf A s))) nq).trans q0
    refine ⟨_, rfl, q, _, _, _, rfl, rfl, SqL.of q1, atI_nat (j := 1) rfl, _, rfl, _, _, _, _, rfl, h1.o, T.cl, T.no _ (by decide), (by show 21 < 1000; decide), ?_⟩
    have h2 := h1.p_markup (n := n1) rfl
    have q2 : _ = some (HO.lst [nI n0, nI n1, nI n2, nI n3, nI n4, nI n5, nI n6]) := (upd_ne (o := .ins C A.dx (putF "markup" (nI n1) (hf A (sCap s n0)))) nq).trans q1
    refine ⟨_, rfl, q, _, _, _, rfl, rfl, SqL.of q2, atI_nat (j := 2) rfl, _, rfl, _, _, _, _, rfl, h2.o, T.cl, T.no _ (by decide), (by show 21 < 1000; decide), ?_⟩
    have h3 := h2.p_pays (n := n2) rfl
    have q3 : _ = some (HO.lst [nI n0, nI n1, nI n2, nI n3, nI n4, nI n5, nI n6]) := (upd_ne (o := .ins C A.dx (putF "pays" (nI n2) (hf A (sMarkup (sCap s n0) n1)))) nq).trans q2
    refine ⟨_, rfl, q, _, _, _, rfl, rfl, SqL.of q3, atI_nat (j := 3) rfl, _, rfl, _, _, _, _, rfl, h3.o, T.cl, T.no _ (by decide), (by show 21 < 1000; decide), ?_⟩
    have h4 := h3.p_regen (n := n3) rfl
    have q4 : _ = some (HO.lst [nI n0, nI n1, nI n2, nI n3, nI n4, nI n5, nI n6]) := (upd_ne (o := .ins C A.dx (putF "regen" (nI n3) (hf A (sPays (sMarkup (sCap s n0) n1) n2)))) nq).trans q3
    refine ⟨_, rfl, q, _, _, _, rfl, rfl, SqL.of q4, atI_nat (j := 4) rfl, _, rfl, _, _, _, _, rfl, h4.o, T.cl, T.no _ (by decide), (by show 21 < 1000; decide), ?_⟩
    have h5 := HA.p_most_hits (s := sRegen (sPays (sMarkup (sCap s n0) n1) n2) n3) (b := s.body) (n := n4) h4 rfl
    have q5 : _ = some (HO.lst [nI n0, nI n1, nI n2, nI n3, nI n4, nI n5, nI n6]) := (upd_ne (o := .ins C A.dx (putF "most_hits" (nI n4) (hf A (sRegen (sPays (sMarkup (sCap s n0) n1) n2) n3)))) nq).trans q4
    refine ⟨_, rfl, q, _, _, _, rfl, rfl, SqL.of q5, atI_nat (j := 5) rfl, _, rfl, _, _, _, _, rfl, h5.o, T.cl, T.no _ (by decide), (by show 21 < 1000; decide), ?_⟩
    have h6 := h5.p_coins (n := n5) rfl
    have q6 : _ = some (HO.lst [nI n0, nI n1, nI n2, nI n3, nI n4, nI n5, nI n6]) := (upd_ne (o := .ins C A.dx (putF "coins" (nI n5) (hf A (sB (sRegen (sPays (sMarkup (sCap s n0) n1) n2) n3) { s.body with most := n4 })))) nq).trans q5
    refine ⟨_, rfl, q, _, _, _, rfl, rfl, SqL.of q6, atI_nat (j := 6) rfl, _, rfl, _, _, _, _, rfl, h6.o, T.cl, T.no _ (by decide), (by show 21 < 1000; decide), ?_⟩
    have h7 := h6.p_shop_coins (n := n6) rfl
    exact k _ h7 fun b o e n => by rw [upd_ne n, upd_ne n, upd_ne n, upd_ne n, upd_ne n, upd_ne n, upd_ne n]; exact e
theorem Cp.skip {H0 H : Hp} {p dx l : Addr} {fs : List (Str × V)} {ls : List (Addr × List V)} {o : HO} (c : Cp C H0 H p dx fs ls) (hl : H l = none) : Cp C H0 (upd H l o) p dx fs ls :=
  ⟨by rw [upd_ne (ne_of_none c.o hl)]; exact c.o, fun b u h n => by rw [upd_ne (ne_of_none (c.k b u h n) hl)]; exact c.k b u h n, fun a m => by rw [upd_ne (ne_of_none (c.l a m) hl)]; exact c.l a m, c.nd, c.fr⟩
theorem Cp.free {H0 H : Hp} {p dx l : Addr} {fs : List (Str × V)} {ls : List (Addr × List V)} (c : Cp C H0 H p dx fs ls) (hl : H l = none) : H0 l = none := by
  cases e : H0 l with
  | none => rfl
  | some o =>
    rw [c.k l o e (ne_of_none c.o hl).symm] at hl
    cases hl
def adR (A : Ad) (aw ab af al : Addr) : Ad := { A with aw := aw, ab := ab, af := af, al := al }
def spKeepR (C : Addr) : Sp := fun vs H Q _ => ∃ A s q r0 r1 r2 r3 x0 x1 x2 x3, vs = [V.ref A.p, V.ref q] ∧ H A.p = some (.ins C A.dx (hf A s)) ∧ R4 H q r0 r1 r2 r3 x0 x1 x2 x3 ∧
  ∀ H' aw ab af al, Cp C H H' A.p A.dx (hf (adR A aw ab af al) s) [(aw, nL x0), (ab, nL x1), (af, nL x2), (al, nL x3)] → Q .non H'
theorem sc_keep_rows : FnScope ["house", "rows"] ["house", "rows"] (defScope (top 76)) := ⟨rfl, rfl, rfl, by decide +kernel, rfl, by decide +kernel, by decide +kernel⟩
theorem ok_keep_rows (D : Dfs K mg "keep_rows" (top 76)) (T : Txt K mg C) : Has P w K mg base "keep_rows" ["house", "rows"] 1 (spKeepR C) := by
  refine mkHas D sc_keep_rows (fun vs H Q E h => ?_) (fun _ _ _ _ _ _ us hl => match us, hl with | [_, _], _ => rfl) (fun f cdv Ar outer sh H vs Q E hr h => ?_)
  · obtain ⟨A, s, q, r0, r1, r2, r3, x0, x1, x2, x3, rfl, _⟩ := h
    rfl
  · obtain ⟨A, s, q, r0, r1, r2, r3, x0, x1, x2, x3, rfl, ho, hR, k⟩ := h
    refine ⟨_, (pss_cons (ps_fld (pv 0) (pe_callTy call_list_of rfl T.n_list boot_list1 (pa_cons (pe_ix ix_list (pv 1) pe_int (fun _ _ => rfl)) pa_nil)) rfl) (pss_cons (ps_fld (pv 0) (pe_callTy call_list_of rfl T.n_list boot_list1 (pa_cons (pe_ix ix_list (pv 1) pe_int (fun _ _ => rfl)) pa_nil)) rfl) (pss_cons (ps_fld (pv 0) (pe_callTy call_list_of rfl T.n_list boot_list1 (pa_cons (pe_ix ix_list (pv 1) pe_int (fun _ _ => rfl)) pa_nil)) rfl) (pss_one (ps_fld (pv 0) (pe_callTy call_list_of rfl T.n_list boot_list1 (pa_cons (pe_ix ix_list (pv 1) pe_int (fun _ _ => rfl)) pa_nil)) rfl))))), ?_⟩
    have c : Cp C H H A.p A.dx (hf A s) [] := ⟨ho, fun b o h _ => h, fun a m => by simp at m, by simp, fun a m => by simp at m⟩
    have hR0 := hR
    refine ⟨_, rfl, q, _, _, _, rfl, rfl, SqL.of hR.l, atI_nat (j := 0) rfl, _, _, rfl, .inl (SqL.of hR.a0), fun l0 hl0 => ?_⟩
    have c := c.new (xs := nL x0) hl0
    refine ⟨_, rfl, _, _, _, _, rfl, c.o, T.cl, T.no _ (by decide), (by show 21 < 1000; decide), ?_⟩
    have c := c.put (f := "weights") (y := .ref l0) (fs' := hf { A with aw := l0 } s) rfl
    have hR := hR0.fx ho c.k
    refine ⟨_, rfl, q, _, _, _, rfl, rfl, SqL.of hR.l, atI_nat (j := 1) rfl, _, _, rfl, .inl (SqL.of hR.a1), fun l1 hl1 => ?_⟩
    have c := c.new (xs := nL x1) hl1
    refine ⟨_, rfl, _, _, _, _, rfl, c.o, T.cl, T.no _ (by decide), (by show 21 < 1000; decide), ?_⟩
    have c := c.put (f := "prices") (y := .ref l1) (fs' := hf { A with aw := l0, ab := l1 } s) rfl
    have hR := hR0.fx ho c.k
    refine ⟨_, rfl, q, _, _, _, rfl, rfl, SqL.of hR.l, atI_nat (j := 2) rfl, _, _, rfl, .inl (SqL.of hR.a2), fun l2 hl2 => ?_⟩
    have c := c.new (xs := nL x2) hl2
    refine ⟨_, rfl, _, _, _, _, rfl, c.o, T.cl, T.no _ (by decide), (by show 21 < 1000; decide), ?_⟩
    have c := c.put (f := "foods") (y := .ref l2) (fs' := hf { A with aw := l0, ab := l1, af := l2 } s) rfl
    have hR := hR0.fx ho c.k
    refine ⟨_, rfl, q, _, _, _, rfl, rfl, SqL.of hR.l, atI_nat (j := 3) rfl, _, _, rfl, .inl (SqL.of hR.a3), fun l3 hl3 => ?_⟩
    have c := c.new (xs := nL x3) hl3
    refine ⟨_, rfl, _, _, _, _, rfl, c.o, T.cl, T.no _ (by decide), (by show 21 < 1000; decide), ?_⟩
    have c := c.put (f := "fuels") (y := .ref l3) (fs' := hf (adR A l0 l1 l2 l3) s) rfl
    exact k _ l0 l1 l2 l3 c
/-- what is wanted behind a call that may open -/
def adl (A : Ad) : List Addr := [A.aw, A.ab, A.af, A.al, A.ap, A.at_]
def PostA (C : Addr) (A : Ad) (H : Hp) (Q : VK) (r : State × List Int) : Prop := ∀ H' q A', A'.p = A.p → HA C H' A' r.1 → (∀ b ∈ adl A', b ∈ adl A ∨ H b = none) → H' q = some (.lst (r.2.map V.int)) → H q = none → Fx (foot A) H H' → Q (.ref q) H'
theorem PostA.post {A : Ad} {H : Hp} {Q : VK} {r : State × List Int} (k : PostA C A H Q r) : Post C A H Q r := fun H' q a b c d => k H' q A rfl a (fun _ m => .inl m) b c d
/-- the house as open leaves it -/
def opened (n0 n1 n2 n3 n4 n5 n6 : Nat) (x0 x1 x2 x3 : List Nat) : State :=
  ⟨true, x0, x1, x2, x3, n0, n1, n2, n3, 0, 0, ⟨900000, n4, n4, 0, 0, false⟩, x0.map fun _ => 0, n5, x0.map fun _ => 0, n6⟩
theorem rep0 : ∀ (x : List Nat), (List.replicate x.length [V.int 0]).flatten = nL (x.map fun _ => 0)
  | [] => rfl
  | _ :: x => by
    show V.int 0 :: (List.replicate x.length [V.int 0]).flatten = V.int 0 :: nL (x.map fun _ => 0)
    rw [rep0 x]
/-- open: a house that isn't open is as it was made -/
def spOpen (C : Addr) : Sp := fun vs H Q _ => ∃ A s q r0 r1 r2 r3 x0 x1 x2 x3 qn n0 n1 n2 n3 n4 n5 n6, vs = [V.ref A.p, V.ref qn, V.ref q] ∧ HA C H A s ∧ (s.opened = true ∨ s = s0) ∧ R4 H q r0 r1 r2 r3 x0 x1 x2 x3 ∧ x0.length ≤ 16 ∧ H qn = some (.lst [nI n0, nI n1, nI n2, nI n3, nI n4, nI n5, nI n6]) ∧
  PostA C A H Q (if openR s.opened x0 x1 x2 x3 = 0 then (opened n0 n1 n2 n3 n4 n5 n6 x0 x1 x2 x3, [0]) else (s, [openR s.opened x0 x1 x2 x3]))
theorem sc_open_house : FnScope ["house", "numbers", "rows", "refusal"] ["house", "numbers", "rows"] (defScope (top 77)) := ⟨rfl, rfl, rfl, by decide +kernel, rfl, by decide +kernel, by decide +kernel⟩
theorem ok_open_house (D : Dfs K mg "open_house" (top 77)) (T : Txt K mg C) (h_opening_refusal : Has P w K mg base "opening_refusal" ["house", "rows"] 1 (spOpenR C)) (h_keep_numbers : Has P w K mg base "keep_numbers" ["house", "numbers"] 1 (spKeepN C)) (h_keep_rows : Has P w K mg base "keep_rows" ["house", "rows"] 1 (spKeepR C)) : Has P w K mg base "open_house" ["house", "numbers", "rows"] 2 (spOpen C) := by
  refine mkHas D sc_open_house (fun vs H Q E h => ?_) (fun _ _ _ _ _ _ us hl => match us, hl with | [_, _, _], _ => rfl) (fun f cdv Ar outer sh H vs Q E hr h => ?_)
  · obtain ⟨A, s, q, r0, r1, r2, r3, x0, x1, x2, x3, qn, n0, n1, n2, n3, n4, n5, n6, rfl, _⟩ := h
    rfl
  · obtain ⟨A, s, q, r0, r1, r2, r3, x0, x1, x2, x3, qn, n0, n1, n2, n3, n4, n5, n6, rfl, h, hs, hR, hx, hn, k⟩ := h
    refine ⟨_, (pss_cons (ps_set (i := 3) sc_open_house.nd rfl (Or.inl rfl) (pe_has h_opening_refusal (hr.mono (by decide)) rfl (pa_cons (pv 0) (pa_cons (pv 2) pa_nil)))) (pss_cons (ps_if (pt_cmpR op_ne (pv 3) (pe_gI rfl T.g_ACCEPTED) (nomark _)) (pss_one (ps_ret (pe_lst (pa_cons (pv 3) pa_nil)))) pss_nil) (pss_cons (ps_expr (pe_has h_keep_numbers (hr.mono (by decide)) rfl (pa_cons (pv 0) (pa_cons (pv 1) pa_nil)))) (pss_cons (ps_expr (pe_has h_keep_rows (hr.mono (by decide)) rfl (pa_cons (pv 0) (pa_cons (pv 2) pa_nil)))) (pss_cons (ps_fld (pv 0) (pe_op op_rep (pe_lst (pa_cons pe_int pa_nil)) (pe_callB call_len_seq rfl T.n_len PySem.boot_len (pa_cons (pe_ix ix_list (pv 2) pe_int (fun _ _ => rfl)) pa_nil))) rfl) (pss_cons (ps_fld (pv 0) (pe_op op_rep (pe_lst (pa_cons pe_int pa_nil)) (pe_callB call_len_seq rfl T.n_len PySem.boot_len (pa_cons (pe_ix ix_list (pv 2) pe_int (fun _ _ => rfl)) pa_nil))) rfl) (pss_cons (ps_fld (pv 0) (pe_fld (pv 0) rfl) rfl) (pss_cons (ps_fld (pv 0) pe_bl rfl) (pss_one (ps_ret (pe_lst (pa_cons (pe_gI rfl T.g_ACCEPTED) pa_nil)))))))))))), ?_⟩
    refine ⟨_, rfl, _, rfl, A, s, q, r0, r1, r2, r3, x0, x1, x2, x3, rfl, h, hR, ?_⟩
    rintro _ rfl
    refine ⟨_, rfl, rfl, _, rfl, ?_⟩
    refine iteN (fun c => ?_) (fun c => ?_)
    · refine ⟨_, rfl, (by show 1 ≤ sizeLine; decide), fun z hz => ?_⟩
      rw [if_neg c] at k
      have e := same_upd (o := .lst [V.int (openR s.opened x0 x1 x2 x3)]) (Same.refl H) hz
      exact k _ z A rfl (h.same e) (fun _ m => .inl m) upd_same hz (Fx.of e)
    rw [if_pos c] at k
    have hs : s = s0 := by
      rcases hs with z | z
      · unfold openR at c
        rw [if_pos z] at c
        omega
      · exact z
    subst hs
    refine ⟨_, rfl, _, rfl, A, s0, qn, n0, n1, n2, n3, n4, n5, n6, rfl, h, hn, ?_⟩
    intro H1 h1 k1
    have hR1 := hR.fx h.o k1
    refine ⟨_, rfl, _, rfl, A, _, q, r0, r1, r2, r3, x0, x1, x2, x3, rfl, h1.o, hR1, ?_⟩
    intro H2 aw ab af al c
    have hR2 := hR1.fx h1.o c.k
    refine ⟨(by show 1 ≤ sizeLine; decide), fun t1 ht1 => ?_⟩
    have c := c.skip (o := .lst [V.int 0]) ht1
    have hR2 := hR1.fx h1.o c.k
    have hxl : ([V.int 0] : List V).length * x0.length ≤ 16 := by show 1 * x0.length ≤ 16; omega
    refine ⟨_, rfl, q, _, _, _, rfl, rfl, SqL.of hR2.l, atI_nat (j := 0) rfl, _, _, rfl, .inl (SqL.of hR2.a0), _, _, _, rfl, rfl, upd_same, (by rw [nL_len]; omega), (by rw [nL_len]; omega), (by rw [nL_len]; exact Nat.le_trans hxl (by decide)), fun l1 hl1 => ?_⟩
    rw [nL_len] at *
    have er : (List.replicate (x0.length : Int).toNat [V.int 0]).flatten = nL (x0.map fun _ => 0) := rep0 x0
    rw [er]
    have c := c.new (xs := nL (x0.map fun _ => 0)) hl1
    refine ⟨_, rfl, _, _, _, _, rfl, c.o, T.cl, T.no _ (by decide), (by show 21 < 1000; decide), ?_⟩
    have c := c.put (f := "pack") (y := .ref l1) (fs' := hf { adR A aw ab af al with ap := l1 } (sNums s0 n0 n1 n2 n3 n4 n5 n6)) rfl
    refine ⟨(by show 1 ≤ sizeLine; decide), fun t2 ht2 => ?_⟩
    have c := c.skip (o := .lst [V.int 0]) ht2
    have hR3 := hR1.fx h1.o c.k
    refine ⟨_, rfl, q, _, _, _, rfl, rfl, SqL.of hR3.l, atI_nat (j := 0) rfl, _, _, rfl, .inl (SqL.of hR3.a0), _, _, _, rfl, rfl, upd_same, (by rw [nL_len]; omega), (by rw [nL_len]; omega), (by rw [nL_len]; exact Nat.le_trans hxl (by decide)), fun l2 hl2 => ?_⟩
    rw [nL_len] at *
    rw [er]
    have c := c.new (xs := nL (x0.map fun _ => 0)) hl2
    refine ⟨_, rfl, _, _, _, _, rfl, c.o, T.cl, T.no _ (by decide), (by show 21 < 1000; decide), ?_⟩
    have c := c.put (f := "stock") (y := .ref l2) (fs' := hf ⟨A.p, A.dx, aw, ab, af, al, l1, l2⟩ (sNums s0 n0 n1 n2 n3 n4 n5 n6)) rfl
    refine ⟨_, rfl, _, _, _, _, _, rfl, c.o, T.cl, T.no _ (by decide), rfl, _, rfl, _, _, _, _, rfl, c.o, T.cl, T.no _ (by decide), (by show 21 < 1000; decide), ?_⟩
    have c := c.put (f := "hits") (y := nI n4) (fs' := hf ⟨A.p, A.dx, aw, ab, af, al, l1, l2⟩ (sB (sNums s0 n0 n1 n2 n3 n4 n5 n6) ⟨900000, n4, n4, 0, 0, false⟩)) rfl
    refine ⟨_, rfl, _, _, _, _, rfl, c.o, T.cl, T.no _ (by decide), (by show 21 < 1000; decide), ?_⟩
    have c := c.put (f := "opened") (y := .bl true) (fs' := hf ⟨A.p, A.dx, aw, ab, af, al, l1, l2⟩ (opened n0 n1 n2 n3 n4 n5 n6 x0 x1 x2 x3)) rfl
    refine ⟨(by show 1 ≤ sizeLine; decide), fun z hz => ?_⟩
    have hz1 := c.free hz
    have c := c.skip (o := .lst [V.int 0]) hz
    have fr : ∀ b, H1 b = none → H b = none := fun b hb => by
      cases e : H b with
      | none => rfl
      | some o =>
        by_cases eb : b = A.p
        · rw [eb, h1.o] at hb
          cases hb
        · rw [k1 b o e eb] at hb
          cases hb
    have fF : Fx (foot A) H _ := fun b o e n => c.k b o (k1 b o e fun q => n (by rw [q]; simp [foot])) fun q => n (by rw [q]; simp [foot])
    have hzH := fr _ hz1
    have nd := c.nd
    refine k _ z ⟨A.p, A.dx, aw, ab, af, al, l1, l2⟩ rfl ⟨c.o, c.l (aw, nL x0) (by simp), c.l (ab, nL x1) (by simp), c.l (af, nL x2) (by simp), c.l (al, nL x3) (by simp), c.l (l1, nL (x0.map fun _ => 0)) (by simp), c.l (l2, nL (x0.map fun _ => 0)) (by simp), nd⟩ (fun b m => .inr (fr b ?_)) upd_same hzH fF
    have m : b = aw ∨ b = ab ∨ b = af ∨ b = al ∨ b = l1 ∨ b = l2 := by simpa [adl] using m
    rcases m with rfl | rfl | rfl | rfl | rfl | rfl
    · exact c.fr (b, nL x0) (by simp)
    · exact c.fr (b, nL x1) (by simp)
    · exact c.fr (b, nL x2) (by simp)
    · exact c.fr (b, nL x3) (by simp)
    · exact c.fr (b, nL (x0.map fun _ => 0)) (by simp)
    · exact c.fr (b, nL (x0.map fun _ => 0)) (by simp)
end
end Ho
end
section
set_option Elab.async false
set_option linter.all false
set_option maxRecDepth 100000
set_option maxHeartbeats 2000000
namespace Ho
open PySem PySem.Spec PyProof.Rows L2
open Vbrgak (State Body)
/-- the call of the number c with the numbers ns -/
def mkCall : Nat → List Int → Vbrgak.Call
  | 1, [a, b] => .find a.toNat b.toNat
  | 2, [a, b] => .drop a.toNat b.toNat
  | 3, [a] => .eat a.toNat
  | 4, [a] => .fill a.toNat
  | 5, [a] => .light (a == 1)
  | 6, [a] => .wait a.toNat
  | 7, [a] => .drain a.toNat
  | 8, [a] => .hurt a.toNat
  | 9, [a, b] => .buy a.toNat b.toNat
  | 10, [a, b] => .sell a.toNat b.toNat
  | 11, [a, b] => .stock a.toNat b.toNat
  | 12, [] => .status
  | 13, [a, b] => .price a.toNat b.toNat
  | 14, [] => .when_
  | 15, [] => .pack
  | 16, [] => .burden
  | 17, [] => .worth
  | 18, [] => .shop
  | 19, [a] => .ahead a.toNat
  | _, _ => .status
/-- the ranges of the call's numbers -/
def rng (c : Nat) : List (Int × Int) := (valT tabl (c : Int)).getD []
theorem inside_iff {n lo hi : Int} : Vbrgak.inside n lo hi = true ↔ lo ≤ n ∧ n ≤ hi := by
  unfold Vbrgak.inside
  simp
theorem two_of {ns : List Int} (hl : ns.length = 2) (ha : inAll ns [(0, 15), (1, 10000)] = true) : ∃ k n : Nat, ns = [(k : Int), (n : Int)] ∧ n ≤ 10000 := by
  match ns, hl with
  | [a, b], _ =>
    have ha : (Vbrgak.inside a 0 15 && (Vbrgak.inside b 1 10000 && true)) = true := ha
    rw [Bool.and_eq_true, Bool.and_eq_true, inside_iff, inside_iff] at ha
    refine ⟨a.toNat, b.toNat, ?_, by omega⟩
    rw [Int.toNat_of_nonneg (by omega), Int.toNat_of_nonneg (by omega)]
theorem one_of {ns : List Int} {lo hi : Int} (hl : ns.length = 1) (ha : inAll ns [(lo, hi)] = true) (h0 : 0 ≤ lo) : ∃ n : Nat, ns = [(n : Int)] ∧ lo ≤ n ∧ (n : Int) ≤ hi := by
  match ns, hl with
  | [a], _ =>
    have ha : (Vbrgak.inside a lo hi && true) = true := ha
    rw [Bool.and_eq_true, inside_iff] at ha
    refine ⟨a.toNat, ?_, by omega, by omega⟩
    rw [Int.toNat_of_nonneg (by omega)]
/-- a call of an open house, by its number and numbers within their ranges -/
def spNum (C : Addr) (lo hi : Nat) : Sp := fun vs H Q _ => ∃ A s qn, ∃ (c : Nat) (ns : List Int), vs = [V.ref A.p, nI c, V.ref qn] ∧ (lo ≤ c ∧ c ≤ hi) ∧ H qn = some (.lst (iL ns)) ∧ ns.length = (rng c).length ∧ inAll ns (rng c) = true ∧ HA C H A s ∧ WF s ∧ Post C A H Q (res s (mkCall c ns))
section
variable {P : Program} {w : World} {K : PySem.W.Frag} {mg : Str → Option Value} {base : Heap} {C R : Addr}
theorem sc_answer_doing : FnScope ["house", "call", "numbers"] ["house", "call", "numbers"] (defScope (top 110)) := ⟨rfl, rfl, rfl, by decide +kernel, rfl, by decide +kernel, by decide +kernel⟩
theorem ok_answer_doing (D : Dfs K mg "answer_doing" (top 110)) (T : Txt K mg C) (h_find_things : Has P w K mg base "find_things" ["house", "kind", "n"] 4 (spFind C)) (h_drop_things : Has P w K mg base "drop_things" ["house", "kind", "n"] 4 (spDrop C)) (h_eat_thing : Has P w K mg base "eat_thing" ["house", "kind"] 5 (spEat C)) (h_fill_light : Has P w K mg base "fill_light" ["house", "kind"] 5 (spFill C)) (h_switch_light : Has P w K mg base "switch_light" ["house", "on"] 2 (spLight C)) (h_wait_ticks : Has P w K mg base "wait_ticks" ["house", "ticks"] 6 (spWait C)) (h_set_drain : Has P w K mg base "set_drain" ["house", "drain"] 5 (spDrain C)) (h_hurt_one : Has P w K mg base "hurt_one" ["house", "hits"] 2 (spHurt C)) (h_buy_things : Has P w K mg base "buy_things" ["house", "kind", "n"] 4 (spBuy C)) (h_sell_things : Has P w K mg base "sell_things" ["house", "kind", "n"] 4 (spSell C)) (h_stock_things : Has P w K mg base "stock_things" ["house", "kind", "n"] 2 (spStock C)) : Has P w K mg base "answer_doing" ["house", "call", "numbers"] 7 (spNum C 1 11) := by
  refine mkHas D sc_answer_doing (fun vs H Q E h => ?_) (fun _ _ _ _ _ _ us hl => match us, hl with | [_, _, _], _ => rfl) (fun f cdv Ar outer sh H vs Q E hr h => ?_)
  · obtain ⟨A, s, qn, c, ns, rfl, _⟩ := h
    rfl
  · obtain ⟨A, s, qn, c, ns, rfl, hc, hn, hl, ha, h, wf, kk⟩ := h
    refine ⟨_, (pss_cons (ps_if (pt_cmpR op_eq (pv 1) (pe_gI rfl T.g_FIND) (nomark _)) (pss_one (ps_ret (pe_has h_find_things (hr.mono (by decide)) rfl (pa_cons (pv 0) (pa_cons (pe_ix ix_list (pv 2) pe_int (fun _ _ => rfl)) (pa_cons (pe_ix ix_list (pv 2) pe_int (fun _ _ => rfl)) pa_nil)))))) pss_nil) (pss_cons (ps_if (pt_cmpR op_eq (pv 1) (pe_gI rfl T.g_DROP) (nomark _)) (pss_one (ps_ret (pe_has h_drop_things (hr.mono (by decide)) rfl (pa_cons (pv 0) (pa_cons (pe_ix ix_list (pv 2) pe_int (fun _ _ => rfl)) (pa_cons (pe_ix ix_list (pv 2) pe_int (fun _ _ => rfl)) pa_nil)))))) pss_nil) (pss_cons (ps_if (pt_cmpR op_eq (pv 1) (pe_gI rfl T.g_EAT) (nomark _)) (pss_one (ps_ret (pe_has h_eat_thing (hr.mono (by decide)) rfl (pa_cons (pv 0) (pa_cons (pe_ix ix_list (pv 2) pe_int (fun _ _ => rfl)) pa_nil))))) pss_nil) (pss_cons (ps_if (pt_cmpR op_eq (pv 1) (pe_gI rfl T.g_FILL) (nomark _)) (pss_one (ps_ret (pe_has h_fill_light (hr.mono (by decide)) rfl (pa_cons (pv 0) (pa_cons (pe_ix ix_list (pv 2) pe_int (fun _ _ => rfl)) pa_nil))))) pss_nil) (pss_cons (ps_if (pt_cmpR op_eq (pv 1) (pe_gI rfl T.g_LIGHT) (nomark _)) (pss_one (ps_ret (pe_has h_switch_light (hr.mono (by decide)) rfl (pa_cons (pv 0) (pa_cons (pe_ix ix_list (pv 2) pe_int (fun _ _ => rfl)) pa_nil))))) pss_nil) (pss_cons (ps_if (pt_cmpR op_eq (pv 1) (pe_gI rfl T.g_WAIT) (nomark _)) (pss_one (ps_ret (pe_has h_wait_ticks (hr.mono (by decide)) rfl (pa_cons (pv 0) (pa_cons (pe_ix ix_list (pv 2) pe_int (fun _ _ => rfl)) pa_nil))))) pss_nil) (pss_cons (ps_if (pt_cmpR op_eq (pv 1) (pe_gI rfl T.g_DRAIN) (nomark _)) (pss_one (ps_ret (pe_has h_set_drain (hr.mono (by decide)) rfl (pa_cons (pv 0) (pa_cons (pe_ix ix_list (pv 2) pe_int (fun _ _ => rfl)) pa_nil))))) pss_nil) (pss_cons (ps_if (pt_cmpR op_eq (pv 1) (pe_gI rfl T.g_HURT) (nomark _)) (pss_one (ps_ret (pe_has h_hurt_one (hr.mono (by decide)) rfl (pa_cons (pv 0) (pa_cons (pe_ix ix_list (pv 2) pe_int (fun _ _ => rfl)) pa_nil))))) pss_nil) (pss_cons (ps_if (pt_cmpR op_eq (pv 1) (pe_gI rfl T.g_BUY) (nomark _)) (pss_one (ps_ret (pe_has h_buy_things (hr.mono (by decide)) rfl (pa_cons (pv 0) (pa_cons (pe_ix ix_list (pv 2) pe_int (fun _ _ => rfl)) (pa_cons (pe_ix ix_list (pv 2) pe_int (fun _ _ => rfl)) pa_nil)))))) pss_nil) (pss_cons (ps_if (pt_cmpR op_eq (pv 1) (pe_gI rfl T.g_SELL) (nomark _)) (pss_one (ps_ret (pe_has h_sell_things (hr.mono (by decide)) rfl (pa_cons (pv 0) (pa_cons (pe_ix ix_list (pv 2) pe_int (fun _ _ => rfl)) (pa_cons (pe_ix ix_list (pv 2) pe_int (fun _ _ => rfl)) pa_nil)))))) pss_nil) (pss_one (ps_ret (pe_has h_stock_things (hr.mono (by decide)) rfl (pa_cons (pv 0) (pa_cons (pe_ix ix_list (pv 2) pe_int (fun _ _ => rfl)) (pa_cons (pe_ix ix_list (pv 2) pe_int (fun _ _ => rfl)) pa_nil)))))))))))))))), ?_⟩
    refine ⟨_, rfl, rfl, _, rfl, ?_⟩
    refine iteE (fun e => ?_) (fun e1 => ?_)
    · have ec : c = 1 := by omega
      subst ec
      obtain ⟨k, n, rfl, hn2⟩ := two_of (ns := ns) hl ha
      exact ⟨_, rfl, _, rfl, qn, _, _, _, rfl, rfl, SqL.of hn, atI_nat (j := 0) rfl, _, rfl, qn, _, _, _, rfl, rfl, SqL.of hn, atI_nat (j := 1) rfl, A, s, k, n, rfl, hn2, h, wf, kk⟩
    refine ⟨_, rfl, rfl, _, rfl, ?_⟩
    refine iteE (fun e => ?_) (fun e2 => ?_)
    · have ec : c = 2 := by omega
      subst ec
      obtain ⟨k, n, rfl, hn2⟩ := two_of (ns := ns) hl ha
      exact ⟨_, rfl, _, rfl, qn, _, _, _, rfl, rfl, SqL.of hn, atI_nat (j := 0) rfl, _, rfl, qn, _, _, _, rfl, rfl, SqL.of hn, atI_nat (j := 1) rfl, A, s, k, n, rfl, hn2, h, wf, kk⟩
    refine ⟨_, rfl, rfl, _, rfl, ?_⟩
    refine iteE (fun e => ?_) (fun e3 => ?_)
    · have ec : c = 3 := by omega
      subst ec
      obtain ⟨n, rfl, n0, n1⟩ := one_of (ns := ns) hl ha (by decide)
      exact ⟨_, rfl, _, rfl, qn, _, _, _, rfl, rfl, SqL.of hn, atI_nat (j := 0) rfl, A, s, n, rfl, trivial, h, wf, kk⟩
    refine ⟨_, rfl, rfl, _, rfl, ?_⟩
    refine iteE (fun e => ?_) (fun e4 => ?_)
    · have ec : c = 4 := by omega
      subst ec
      obtain ⟨n, rfl, n0, n1⟩ := one_of (ns := ns) hl ha (by decide)
      exact ⟨_, rfl, _, rfl, qn, _, _, _, rfl, rfl, SqL.of hn, atI_nat (j := 0) rfl, A, s, n, rfl, trivial, h, wf, kk⟩
    refine ⟨_, rfl, rfl, _, rfl, ?_⟩
    refine iteE (fun e => ?_) (fun e5 => ?_)
    · have ec : c = 5 := by omega
      subst ec
      obtain ⟨n, rfl, n0, n1⟩ := one_of (ns := ns) hl ha (by decide)
      have el : Vbrgak.Call.light (((n : Nat) : Int) == 1) = Vbrgak.Call.light (n == 1) := congrArg _ (by have : n = 0 ∨ n = 1 := (by omega); rcases this with rfl | rfl <;> rfl)
      have kk : Post C A H Q (res s (Vbrgak.Call.light (((n : Nat) : Int) == 1))) := kk
      rw [el] at kk
      exact ⟨_, rfl, _, rfl, qn, _, _, _, rfl, rfl, SqL.of hn, atI_nat (j := 0) rfl, A, s, n, rfl, (by omega), h, wf, kk⟩
    refine ⟨_, rfl, rfl, _, rfl, ?_⟩
    refine iteE (fun e => ?_) (fun e6 => ?_)
    · have ec : c = 6 := by omega
      subst ec
      obtain ⟨n, rfl, n0, n1⟩ := one_of (ns := ns) hl ha (by decide)
      exact ⟨_, rfl, _, rfl, qn, _, _, _, rfl, rfl, SqL.of hn, atI_nat (j := 0) rfl, A, s, n, rfl, trivial, h, wf, kk⟩
    refine ⟨_, rfl, rfl, _, rfl, ?_⟩
    refine iteE (fun e => ?_) (fun e7 => ?_)
    · have ec : c = 7 := by omega
      subst ec
      obtain ⟨n, rfl, n0, n1⟩ := one_of (ns := ns) hl ha (by decide)
      exact ⟨_, rfl, _, rfl, qn, _, _, _, rfl, rfl, SqL.of hn, atI_nat (j := 0) rfl, A, s, n, rfl, (by omega), h, wf, kk⟩
    refine ⟨_, rfl, rfl, _, rfl, ?_⟩
    refine iteE (fun e => ?_) (fun e8 => ?_)
    · have ec : c = 8 := by omega
      subst ec
      obtain ⟨n, rfl, n0, n1⟩ := one_of (ns := ns) hl ha (by decide)
      exact ⟨_, rfl, _, rfl, qn, _, _, _, rfl, rfl, SqL.of hn, atI_nat (j := 0) rfl, A, s, n, rfl, trivial, h, wf, kk⟩
    refine ⟨_, rfl, rfl, _, rfl, ?_⟩
    refine iteE (fun e => ?_) (fun e9 => ?_)
    · have ec : c = 9 := by omega
      subst ec
      obtain ⟨k, n, rfl, hn2⟩ := two_of (ns := ns) hl ha
      exact ⟨_, rfl, _, rfl, qn, _, _, _, rfl, rfl, SqL.of hn, atI_nat (j := 0) rfl, _, rfl, qn, _, _, _, rfl, rfl, SqL.of hn, atI_nat (j := 1) rfl, A, s, k, n, rfl, hn2, h, wf, kk⟩
    refine ⟨_, rfl, rfl, _, rfl, ?_⟩
    refine iteE (fun e => ?_) (fun e10 => ?_)
    · have ec : c = 10 := by omega
      subst ec
      obtain ⟨k, n, rfl, hn2⟩ := two_of (ns := ns) hl ha
      exact ⟨_, rfl, _, rfl, qn, _, _, _, rfl, rfl, SqL.of hn, atI_nat (j := 0) rfl, _, rfl, qn, _, _, _, rfl, rfl, SqL.of hn, atI_nat (j := 1) rfl, A, s, k, n, rfl, hn2, h, wf, kk⟩
    have ec : c = 11 := by omega
    subst ec
    obtain ⟨k, n, rfl, hn2⟩ := two_of (ns := ns) hl ha
    exact ⟨_, rfl, _, rfl, qn, _, _, _, rfl, rfl, SqL.of hn, atI_nat (j := 0) rfl, _, rfl, qn, _, _, _, rfl, rfl, SqL.of hn, atI_nat (j := 1) rfl, A, s, k, n, rfl, hn2, h, wf, kk⟩
theorem sc_answer_asking : FnScope ["house", "call", "numbers"] ["house", "call", "numbers"] (defScope (top 111)) := ⟨rfl, rfl, rfl, by decide +kernel, rfl, by decide +kernel, by decide +kernel⟩
theorem ok_answer_asking (D : Dfs K mg "answer_asking" (top 111)) (T : Txt K mg C) (h_tell_status : Has P w K mg base "tell_status" ["house"] 3 (spCall0 C .status)) (h_tell_price : Has P w K mg base "tell_price" ["house", "kind", "n"] 2 (spCall2 C (fun _ n => n ≤ 10000) .price)) (h_tell_when : Has P w K mg base "tell_when" ["house"] 6 (spCall0 C .when_)) (h_tell_pack : Has P w K mg base "tell_pack" ["house"] 1 (spCall0 C .pack)) (h_tell_burden : Has P w K mg base "tell_burden" ["house"] 5 (spCall0 C .burden)) (h_tell_worth : Has P w K mg base "tell_worth" ["house"] 1 (spCall0 C .worth)) (h_tell_shop : Has P w K mg base "tell_shop" ["house"] 1 (spCall0 C .shop)) (h_tell_ahead : Has P w K mg base "tell_ahead" ["house", "ticks"] 6 (spCall1 C (fun _ => True) .ahead)) : Has P w K mg base "answer_asking" ["house", "call", "numbers"] 7 (spNum C 12 19) := by
  refine mkHas D sc_answer_asking (fun vs H Q E h => ?_) (fun _ _ _ _ _ _ us hl => match us, hl with | [_, _, _], _ => rfl) (fun f cdv Ar outer sh H vs Q E hr h => ?_)
  · obtain ⟨A, s, qn, c, ns, rfl, _⟩ := h
    rfl
  · obtain ⟨A, s, qn, c, ns, rfl, hc, hn, hl, ha, h, wf, kk⟩ := h
    refine ⟨_, (pss_cons (ps_if (pt_cmpR op_eq (pv 1) (pe_gI rfl T.g_STATUS) (nomark _)) (pss_one (ps_ret (pe_has h_tell_status (hr.mono (by decide)) rfl (pa_cons (pv 0) pa_nil)))) pss_nil) (pss_cons (ps_if (pt_cmpR op_eq (pv 1) (pe_gI rfl T.g_PRICE) (nomark _)) (pss_one (ps_ret (pe_has h_tell_price (hr.mono (by decide)) rfl (pa_cons (pv 0) (pa_cons (pe_ix ix_list (pv 2) pe_int (fun _ _ => rfl)) (pa_cons (pe_ix ix_list (pv 2) pe_int (fun _ _ => rfl)) pa_nil)))))) pss_nil) (pss_cons (ps_if (pt_cmpR op_eq (pv 1) (pe_gI rfl T.g_WHEN) (nomark _)) (pss_one (ps_ret (pe_has h_tell_when (hr.mono (by decide)) rfl (pa_cons (pv 0) pa_nil)))) pss_nil) (pss_cons (ps_if (pt_cmpR op_eq (pv 1) (pe_gI rfl T.g_PACK) (nomark _)) (pss_one (ps_ret (pe_has h_tell_pack (hr.mono (by decide)) rfl (pa_cons (pv 0) pa_nil)))) pss_nil) (pss_cons (ps_if (pt_cmpR op_eq (pv 1) (pe_gI rfl T.g_BURDEN) (nomark _)) (pss_one (ps_ret (pe_has h_tell_burden (hr.mono (by decide)) rfl (pa_cons (pv 0) pa_nil)))) pss_nil) (pss_cons (ps_if (pt_cmpR op_eq (pv 1) (pe_gI rfl T.g_WORTH) (nomark _)) (pss_one (ps_ret (pe_has h_tell_worth (hr.mono (by decide)) rfl (pa_cons (pv 0) pa_nil)))) pss_nil) (pss_cons (ps_if (pt_cmpR op_eq (pv 1) (pe_gI rfl T.g_SHOP) (nomark _)) (pss_one (ps_ret (pe_has h_tell_shop (hr.mono (by decide)) rfl (pa_cons (pv 0) pa_nil)))) pss_nil) (pss_one (ps_ret (pe_has h_tell_ahead (hr.mono (by decide)) rfl (pa_cons (pv 0) (pa_cons (pe_ix ix_list (pv 2) pe_int (fun _ _ => rfl)) pa_nil)))))))))))), ?_⟩
    refine ⟨_, rfl, rfl, _, rfl, ?_⟩
    refine iteE (fun e => ?_) (fun e12 => ?_)
    · have ec : c = 12 := by omega
      subst ec
      have e0 : ns = [] := List.eq_nil_of_length_eq_zero hl
      subst e0
      exact ⟨_, rfl, A, s, rfl, h, wf, kk⟩
    refine ⟨_, rfl, rfl, _, rfl, ?_⟩
    refine iteE (fun e => ?_) (fun e13 => ?_)
    · have ec : c = 13 := by omega
      subst ec
      obtain ⟨k, n, rfl, hn2⟩ := two_of (ns := ns) hl ha
      exact ⟨_, rfl, _, rfl, qn, _, _, _, rfl, rfl, SqL.of hn, atI_nat (j := 0) rfl, _, rfl, qn, _, _, _, rfl, rfl, SqL.of hn, atI_nat (j := 1) rfl, A, s, k, n, rfl, hn2, h, wf, kk⟩
    refine ⟨_, rfl, rfl, _, rfl, ?_⟩
    refine iteE (fun e => ?_) (fun e14 => ?_)
    · have ec : c = 14 := by omega
      subst ec
      have e0 : ns = [] := List.eq_nil_of_length_eq_zero hl
      subst e0
      exact ⟨_, rfl, A, s, rfl, h, wf, kk⟩
    refine ⟨_, rfl, rfl, _, rfl, ?_⟩
    refine iteE (fun e => ?_) (fun e15 => ?_)
    · have ec : c = 15 := by omega
      subst ec
      have e0 : ns = [] := List.eq_nil_of_length_eq_zero hl
      subst e0
      exact ⟨_, rfl, A, s, rfl, h, wf, kk⟩
    refine ⟨_, rfl, rfl, _, rfl, ?_⟩
    refine iteE (fun e => ?_) (fun e16 => ?_)
    · have ec : c = 16 := by omega
      subst ec
      have e0 : ns = [] := List.eq_nil_of_length_eq_zero hl
      subst e0
      exact ⟨_, rfl, A, s, rfl, h, wf, kk⟩
    refine ⟨_, rfl, rfl, _, rfl, ?_⟩
    refine iteE (fun e => ?_) (fun e17 => ?_)
    · have ec : c = 17 := by omega
      subst ec
      have e0 : ns = [] := List.eq_nil_of_length_eq_zero hl
      subst e0
      exact ⟨_, rfl, A, s, rfl, h, wf, kk⟩
    refine ⟨_, rfl, rfl, _, rfl, ?_⟩
    refine iteE (fun e => ?_) (fun e18 => ?_)
    · have ec : c = 18 := by omega
      subst ec
      have e0 : ns = [] := List.eq_nil_of_length_eq_zero hl
      subst e0
      exact ⟨_, rfl, A, s, rfl, h, wf, kk⟩
    have ec : c = 19 := by omega
    subst ec
    obtain ⟨n, rfl, n0, n1⟩ := one_of (ns := ns) hl ha (by decide)
    exact ⟨_, rfl, _, rfl, qn, _, _, _, rfl, rfl, SqL.of hn, atI_nat (j := 0) rfl, A, s, n, rfl, trivial, h, wf, kk⟩
theorem sc_answer_opened : FnScope ["house", "call", "numbers"] ["house", "call", "numbers"] (defScope (top 112)) := ⟨rfl, rfl, rfl, by decide +kernel, rfl, by decide +kernel, by decide +kernel⟩
theorem ok_answer_opened (D : Dfs K mg "answer_opened" (top 112)) (T : Txt K mg C) (h_answer_doing : Has P w K mg base "answer_doing" ["house", "call", "numbers"] 7 (spNum C 1 11)) (h_answer_asking : Has P w K mg base "answer_asking" ["house", "call", "numbers"] 7 (spNum C 12 19)) : Has P w K mg base "answer_opened" ["house", "call", "numbers"] 8 (spNum C 1 19) := by
  refine mkHas D sc_answer_opened (fun vs H Q E h => ?_) (fun _ _ _ _ _ _ us hl => match us, hl with | [_, _, _], _ => rfl) (fun f cdv Ar outer sh H vs Q E hr h => ?_)
  · obtain ⟨A, s, qn, c, ns, rfl, _⟩ := h
    rfl
  · obtain ⟨A, s, qn, c, ns, rfl, hc, hn, hl, ha, h, wf, kk⟩ := h
    refine ⟨_, (pss_cons (ps_if (pt_cmpR op_le (pv 1) (pe_gI rfl T.g_STOCK) (nomark _)) (pss_one (ps_ret (pe_has h_answer_doing (hr.mono (by decide)) rfl (pa_cons (pv 0) (pa_cons (pv 1) (pa_cons (pv 2) pa_nil)))))) pss_nil) (pss_one (ps_ret (pe_has h_answer_asking (hr.mono (by decide)) rfl (pa_cons (pv 0) (pa_cons (pv 1) (pa_cons (pv 2) pa_nil))))))), ?_⟩
    refine ⟨_, rfl, _, _, rfl, rfl, _, rfl, ?_⟩
    refine iteD (fun e => ?_) (fun e => ?_)
    · exact ⟨_, rfl, _, rfl, _, rfl, A, s, qn, c, ns, rfl, by omega, hn, hl, ha, h, wf, kk⟩
    · exact ⟨_, rfl, _, rfl, _, rfl, A, s, qn, c, ns, rfl, by omega, hn, hl, ha, h, wf, kk⟩
end
end Ho
end
section
set_option Elab.async false
set_option linter.all false
set_option maxRecDepth 100000
set_option maxHeartbeats 2000000
namespace Ho
open PySem PySem.Spec PyProof.Rows L2
open Vbrgak (State Body)
/-! ### the specification's reading of a call -/
theorem by19 : ∀ {c : Nat}, 1 ≤ c ∧ c ≤ 19 → c = 1 ∨ c = 2 ∨ c = 3 ∨ c = 4 ∨ c = 5 ∨ c = 6 ∨ c = 7 ∨ c = 8 ∨ c = 9 ∨ c = 10 ∨ c = 11 ∨ c = 12 ∨ c = 13 ∨ c = 14 ∨ c = 15 ∨ c = 16 ∨ c = 17 ∨ c = 18 ∨ c = 19
  | 0, h => absurd h.1 (by decide)
  | 1, _ => .inl rfl
  | 2, _ => .inr (.inl rfl)
  | 3, _ => .inr (.inr (.inl rfl))
  | 4, _ => .inr (.inr (.inr (.inl rfl)))
  | 5, _ => .inr (.inr (.inr (.inr (.inl rfl))))
  | 6, _ => .inr (.inr (.inr (.inr (.inr (.inl rfl)))))
  | 7, _ => .inr (.inr (.inr (.inr (.inr (.inr (.inl rfl))))))
  | 8, _ => .inr (.inr (.inr (.inr (.inr (.inr (.inr (.inl rfl)))))))
  | 9, _ => .inr (.inr (.inr (.inr (.inr (.inr (.inr (.inr (.inl rfl))))))))
  | 10, _ => .inr (.inr (.inr (.inr (.inr (.inr (.inr (.inr (.inr (.inl rfl)))))))))
  | 11, _ => .inr (.inr (.inr (.inr (.inr (.inr (.inr (.inr (.inr (.inr (.inl rfl))))))))))
  | 12, _ => .inr (.inr (.inr (.inr (.inr (.inr (.inr (.inr (.inr (.inr (.inr (.inl rfl)))))))))))
  | 13, _ => .inr (.inr (.inr (.inr (.inr (.inr (.inr (.inr (.inr (.inr (.inr (.inr (.inl rfl))))))))))))
  | 14, _ => .inr (.inr (.inr (.inr (.inr (.inr (.inr (.inr (.inr (.inr (.inr (.inr (.inr (.inl rfl)))))))))))))
  | 15, _ => .inr (.inr (.inr (.inr (.inr (.inr (.inr (.inr (.inr (.inr (.inr (.inr (.inr (.inr (.inl rfl))))))))))))))
  | 16, _ => .inr (.inr (.inr (.inr (.inr (.inr (.inr (.inr (.inr (.inr (.inr (.inr (.inr (.inr (.inr (.inl rfl)))))))))))))))
  | 17, _ => .inr (.inr (.inr (.inr (.inr (.inr (.inr (.inr (.inr (.inr (.inr (.inr (.inr (.inr (.inr (.inr (.inl rfl))))))))))))))))
  | 18, _ => .inr (.inr (.inr (.inr (.inr (.inr (.inr (.inr (.inr (.inr (.inr (.inr (.inr (.inr (.inr (.inr (.inr (.inl rfl)))))))))))))))))
  | 19, _ => .inr (.inr (.inr (.inr (.inr (.inr (.inr (.inr (.inr (.inr (.inr (.inr (.inr (.inr (.inr (.inr (.inr (.inr (rfl))))))))))))))))))
  | n + 20, h => absurd h.2 (by omega)
theorem dec_num {c : Nat} {ns : List Int} (hc : 1 ≤ c ∧ c ≤ 19) (hl : ns.length = (rng c).length) : Vbrgak.decode [(c : Int) :: ns] = if inAll ns (rng c) = true then some (mkCall c ns) else none := by
  rcases by19 hc with rfl | rfl | rfl | rfl | rfl | rfl | rfl | rfl | rfl | rfl | rfl | rfl | rfl | rfl | rfl | rfl | rfl | rfl | rfl
  · match ns, hl with
    | [a, b], _ =>
      show Vbrgak.guard (Vbrgak.isK a && Vbrgak.isN b) _ = if (Vbrgak.inside a 0 15 && (Vbrgak.inside b 1 10000 && true)) = true then _ else _
      rw [Bool.and_true]
      rfl
  · match ns, hl with
    | [a, b], _ =>
      show Vbrgak.guard (Vbrgak.isK a && Vbrgak.isN b) _ = if (Vbrgak.inside a 0 15 && (Vbrgak.inside b 1 10000 && true)) = true then _ else _
      rw [Bool.and_true]
      rfl
  · match ns, hl with
    | [a], _ =>
      show _ = if (Vbrgak.inside a _ _ && true) = true then _ else _
      rw [Bool.and_true]
      rfl
  · match ns, hl with
    | [a], _ =>
      show _ = if (Vbrgak.inside a _ _ && true) = true then _ else _
      rw [Bool.and_true]
      rfl
  · match ns, hl with
    | [a], _ =>
      show _ = if (Vbrgak.inside a _ _ && true) = true then _ else _
      rw [Bool.and_true]
      rfl
  · match ns, hl with
    | [a], _ =>
      show _ = if (Vbrgak.inside a _ _ && true) = true then _ else _
      rw [Bool.and_true]
      rfl
  · match ns, hl with
    | [a], _ =>
      show _ = if (Vbrgak.inside a _ _ && true) = true then _ else _
      rw [Bool.and_true]
      rfl
  · match ns, hl with
    | [a], _ =>
      show _ = if (Vbrgak.inside a _ _ && true) = true then _ else _
      rw [Bool.and_true]
      rfl
  · match ns, hl with
    | [a, b], _ =>
      show Vbrgak.guard (Vbrgak.isK a && Vbrgak.isN b) _ = if (Vbrgak.inside a 0 15 && (Vbrgak.inside b 1 10000 && true)) = true then _ else _
      rw [Bool.and_true]
      rfl
  · match ns, hl with
    | [a, b], _ =>
      show Vbrgak.guard (Vbrgak.isK a && Vbrgak.isN b) _ = if (Vbrgak.inside a 0 15 && (Vbrgak.inside b 1 10000 && true)) = true then _ else _
      rw [Bool.and_true]
      rfl
  · match ns, hl with
    | [a, b], _ =>
      show Vbrgak.guard (Vbrgak.isK a && Vbrgak.isN b) _ = if (Vbrgak.inside a 0 15 && (Vbrgak.inside b 1 10000 && true)) = true then _ else _
      rw [Bool.and_true]
      rfl
  · have e0 : ns = [] := List.eq_nil_of_length_eq_zero hl
    subst e0
    rfl
  · match ns, hl with
    | [a, b], _ =>
      show Vbrgak.guard (Vbrgak.isK a && Vbrgak.isN b) _ = if (Vbrgak.inside a 0 15 && (Vbrgak.inside b 1 10000 && true)) = true then _ else _
      rw [Bool.and_true]
      rfl
  · have e0 : ns = [] := List.eq_nil_of_length_eq_zero hl
    subst e0
    rfl
  · have e0 : ns = [] := List.eq_nil_of_length_eq_zero hl
    subst e0
    rfl
  · have e0 : ns = [] := List.eq_nil_of_length_eq_zero hl
    subst e0
    rfl
  · have e0 : ns = [] := List.eq_nil_of_length_eq_zero hl
    subst e0
    rfl
  · have e0 : ns = [] := List.eq_nil_of_length_eq_zero hl
    subst e0
    rfl
  · match ns, hl with
    | [a], _ =>
      show _ = if (Vbrgak.inside a _ _ && true) = true then _ else _
      rw [Bool.and_true]
      rfl
theorem dec_open {ns x0 x1 x2 x3 : List Int} (hl : ns.length = 7) : Vbrgak.decode [(0 : Int) :: ns, x0, x1, x2, x3] = if (inAll ns (rng 0) && rowsAll [x0, x1, x2, x3] rowsT) = true then
    some (.opens (ns.getD 0 0).toNat (ns.getD 1 0).toNat (ns.getD 2 0).toNat (ns.getD 3 0).toNat (ns.getD 4 0).toNat (ns.getD 5 0).toNat (ns.getD 6 0).toNat (Vbrgak.nats x0) (Vbrgak.nats x1) (Vbrgak.nats x2) (Vbrgak.nats x3)) else none := by
  match ns, hl with
  | [a, b, c, d, e, f, g], _ =>
    show Vbrgak.guard (Vbrgak.inside a 1 100000 && (Vbrgak.inside b 0 400 && (Vbrgak.inside c 0 100 && (Vbrgak.inside d 0 10000 && (Vbrgak.inside e 1 10000 && (Vbrgak.inside f 0 Vbrgak.COINS && (Vbrgak.inside g 0 Vbrgak.COINS && (Vbrgak.isRow x0 0 1000 && (Vbrgak.isRow x1 1 1000000 && (Vbrgak.isRow x2 0 2000 && Vbrgak.isRow x3 0 100000)))))))))) _ =
      if ((Vbrgak.inside a 1 100000 && (Vbrgak.inside b 0 400 && (Vbrgak.inside c 0 100 && (Vbrgak.inside d 0 10000 && (Vbrgak.inside e 1 10000 && (Vbrgak.inside f 0 Vbrgak.COINS && (Vbrgak.inside g 0 Vbrgak.COINS && true))))))) && (Vbrgak.isRow x0 0 1000 && (Vbrgak.isRow x1 1 1000000 && (Vbrgak.isRow x2 0 2000 && (Vbrgak.isRow x3 0 100000 && true))))) = true then _ else _
    simp only [Bool.and_true, Bool.and_assoc]
    rfl
/-! ### WF stays -/
theorem wf_set {l : List Nat} {k n : Nat} (h : ∀ x ∈ l, x ≤ 10000) (hn : n ≤ 10000) : ∀ x ∈ l.set k n, x ≤ 10000 := fun x m => mem_set (P := fun x => x ≤ 10000) h hn m
theorem WF.body {s : State} (wf : WF s) {b : Body} (h : HM.WB b) : WF { s with body := b } := ⟨wf.lp, wf.lt, wf.lb, wf.lf, wf.ll, wf.kk, wf.pk, wf.st, wf.ws, wf.bs, wf.mku, wf.pa, wf.dr, h⟩
theorem WF.packed {s : State} (wf : WF s) {k n : Nat} (hn : n ≤ 10000) : WF { s with pack := s.pack.set k n } := ⟨by rw [List.length_set]; exact wf.lp, wf.lt, wf.lb, wf.lf, wf.ll, wf.kk, wf_set wf.pk hn, wf.st, wf.ws, wf.bs, wf.mku, wf.pa, wf.dr, wf.wb⟩
theorem WF.stocked {s : State} (wf : WF s) {k n : Nat} (hn : n ≤ 10000) : WF { s with stock := s.stock.set k n } := ⟨wf.lp, by rw [List.length_set]; exact wf.lt, wf.lb, wf.lf, wf.ll, wf.kk, wf.pk, wf_set wf.st hn, wf.ws, wf.bs, wf.mku, wf.pa, wf.dr, wf.wb⟩
theorem WF.money {s : State} (wf : WF s) {c t : Nat} : WF { s with coins := c, till := t } := ⟨wf.lp, wf.lt, wf.lb, wf.lf, wf.ll, wf.kk, wf.pk, wf.st, wf.ws, wf.bs, wf.mku, wf.pa, wf.dr, wf.wb⟩
theorem WF.timed {s : State} (wf : WF s) {c : Nat} : WF { s with clock := c } := ⟨wf.lp, wf.lt, wf.lb, wf.lf, wf.ll, wf.kk, wf.pk, wf.st, wf.ws, wf.bs, wf.mku, wf.pa, wf.dr, wf.wb⟩
def Good (s : State) : Prop := s.opened = true ∧ WF s
theorem pk_le {s : State} (wf : WF s) {k : Nat} (h : k < s.weights.length) : Vbrgak.nth s.pack k ≤ 10000 := wf.pk _ (nth_mem (by rw [wf.lp]; exact h))
theorem st_le {s : State} (wf : WF s) {k : Nat} (h : k < s.weights.length) : Vbrgak.nth s.stock k ≤ 10000 := wf.st _ (nth_mem (by rw [wf.lt]; exact h))
theorem res_same {s : State} {c : Vbrgak.Call} {e : Int} (g : Good s) (h : Vbrgak.does s c = .error e) : Good (res s c).1 := by rw [res_err h]; exact g
theorem wf_find {s : State} (g : Good s) {k n : Nat} : Good (res s (.find k n)).1 := by
  by_cases c : findR s k n = 0
  · rw [res_ok (does_find_ok g.2 c)]
    exact ⟨g.1, g.2.packed (findR0 c).2.1⟩
  · exact res_same g (does_find_err g.2 c)
theorem wf_drop {s : State} (g : Good s) {k n : Nat} : Good (res s (.drop k n)).1 := by
  by_cases c : takeR s k n = 0
  · rw [res_ok (does_drop_ok g.2 c)]
    have q := pk_le g.2 (kindR0 (takeR0 c).1).1
    exact ⟨g.1, g.2.packed (by omega)⟩
  · exact res_same g (does_drop_err c)
theorem wf_eat {s : State} (g : Good s) {k : Nat} : Good (res s (.eat k)).1 := by
  by_cases c : useR s k s.foods = 0
  · rw [res_ok (by rw [does_eat, if_pos c, have_eq])]
    have q := pk_le g.2 (kindR0 (takeR0 (useR0 c).1).1).1
    exact ⟨g.1, (g.2.packed (k := k) (n := Vbrgak.nth s.pack k - 1) (by omega)).body ⟨g.2.wb.hp, g.2.wb.heal, g.2.wb.full, g.2.wb.lit⟩⟩
  · exact res_same g (by rw [does_eat, if_neg c])
theorem wf_fill {s : State} (g : Good s) {k : Nat} : Good (res s (.fill k)).1 := by
  by_cases c : useR s k s.fuels = 0
  · rw [res_ok (by rw [does_fill, if_pos c, have_eq])]
    have q := pk_le g.2 (kindR0 (takeR0 (useR0 c).1).1).1
    exact ⟨g.1, (g.2.packed (k := k) (n := Vbrgak.nth s.pack k - 1) (by omega)).body ⟨g.2.wb.hp, g.2.wb.heal, g.2.wb.full, fun hl => by
      have z := g.2.wb.lit hl
      show 0 < min 1000000 (s.body.fuel + Vbrgak.nth s.fuels k)
      omega⟩⟩
  · exact res_same g (by rw [does_fill, if_neg c])
theorem wf_light {s : State} (g : Good s) {b : Bool} : Good (res s (.light b)).1 := by
  by_cases c : Vbrgak.gone s = true
  · exact res_same g (by simp only [Vbrgak.does]; rw [if_pos c])
  · by_cases d : b = true ∧ s.body.fuel = 0
    · exact res_same g (by simp only [Vbrgak.does]; rw [if_neg c, if_pos d])
    · rw [res_ok (by simp only [Vbrgak.does]; rw [if_neg c, if_neg d])]
      exact ⟨g.1, g.2.body ⟨g.2.wb.hp, g.2.wb.heal, g.2.wb.full, fun hl => by
        have hl : b = true := hl
        show 0 < s.body.fuel
        rcases Nat.eq_zero_or_pos s.body.fuel with z | z
        · exact absurd ⟨hl, z⟩ d
        · exact z⟩⟩
theorem wf_wait {s : State} (g : Good s) {n : Nat} : Good (res s (.wait n)).1 := by
  by_cases c : Vbrgak.gone s = true
  · exact res_same g (by simp only [Vbrgak.does]; rw [if_pos c])
  · rw [res_ok (by simp only [Vbrgak.does]; rw [if_neg c])]
    have q := HM.run_wb (d := Vbrgak.rate s) (r := s.regen) n s.body g.2.wb
    rw [run_rate g.2] at q
    exact ⟨g.1, (g.2.body q).timed⟩
theorem wf_drain {s : State} (g : Good s) {n : Nat} (h : n ≤ 5000) : Good (res s (.drain n)).1 :=
  ⟨g.1, g.2.lp, g.2.lt, g.2.lb, g.2.lf, g.2.ll, g.2.kk, g.2.pk, g.2.st, g.2.ws, g.2.bs, g.2.mku, g.2.pa, h, g.2.wb⟩
theorem wf_hurt {s : State} (g : Good s) {n : Nat} (h : 1 ≤ n) : Good (res s (.hurt n)).1 := by
  by_cases c : Vbrgak.gone s = true
  · exact res_same g (by simp only [Vbrgak.does]; rw [if_pos c])
  · rw [res_ok (by simp only [Vbrgak.does]; rw [if_neg c])]
    have w := g.2.wb
    have w1 := w.hp
    refine ⟨g.1, g.2.body ⟨by show s.body.hp - n ≤ s.body.most; omega, w.heal, fun e => ?_, w.lit⟩⟩
    have e : s.body.hp - n = s.body.most := e
    exact w.full (by omega)
theorem wf_buy {s : State} (g : Good s) {k n : Nat} : Good (res s (.buy k n)).1 := by
  by_cases c : kindR s k = 0
  · have hx := does_buy (n := n) g.2 c
    by_cases d : buyR s k n = 0
    · rw [if_pos d] at hx
      rw [res_ok hx]
      obtain ⟨c1, c2⟩ := kindR0 c
      have q := st_le g.2 c1
      have r : Vbrgak.nth s.pack k + n ≤ 10000 := by
        unfold buyR roomR at d
        by_cases e1 : Vbrgak.nth s.stock k < n
        · rw [if_pos e1] at d; omega
        · rw [if_neg e1] at d
          by_cases e2 : s.coins < Vbrgak.cost (Vbrgak.nth s.bases k) s.markup n
          · rw [if_pos e2] at d; omega
          · rw [if_neg e2] at d
            by_cases e3 : 10000 < Vbrgak.nth s.pack k + n
            · rw [if_pos e3] at d; omega
            · omega
      exact ⟨g.1, ((g.2.packed (k := k) r).stocked (k := k) (n := Vbrgak.nth s.stock k - n) (by omega)).money⟩
    · rw [if_neg d] at hx
      exact res_same g hx
  · exact res_same g (does_buy_err c)
theorem wf_sell {s : State} (g : Good s) {k n : Nat} : Good (res s (.sell k n)).1 := by
  by_cases c : takeR s k n = 0
  · have hx := does_sell (n := n) g.2 c
    by_cases d : sellR s k n = 0
    · rw [if_pos d] at hx
      rw [res_ok hx]
      obtain ⟨c1, c2⟩ := kindR0 (takeR0 c).1
      have q := pk_le g.2 c1
      have r : Vbrgak.nth s.stock k + n ≤ 10000 := by
        unfold sellR stockR at d
        by_cases e1 : s.till < Vbrgak.yield (Vbrgak.nth s.bases k) s.pays n
        · rw [if_pos e1] at d; omega
        · rw [if_neg e1] at d
          by_cases e3 : 10000 < Vbrgak.nth s.stock k + n
          · rw [if_pos e3] at d
            simp at d
          · omega
      exact ⟨g.1, ((g.2.packed (k := k) (n := Vbrgak.nth s.pack k - n) (by omega)).stocked (k := k) r).money⟩
    · rw [if_neg d] at hx
      exact res_same g hx
  · exact res_same g (does_sell_err c)
theorem wf_stock {s : State} (g : Good s) {k n : Nat} : Good (res s (.stock k n)).1 := by
  by_cases c : Vbrgak.noKind s k = true
  · exact res_same g (by simp only [Vbrgak.does]; rw [if_pos c])
  · by_cases d : Vbrgak.COUNT < Vbrgak.nth s.stock k + n
    · exact res_same g (by simp only [Vbrgak.does]; rw [if_neg c, if_pos d])
    · rw [res_ok (by simp only [Vbrgak.does]; rw [if_neg c, if_neg d, setAt_eq])]
      have d : ¬ 10000 < Vbrgak.nth s.stock k + n := d
      exact ⟨g.1, g.2.stocked (by omega)⟩
theorem wf_price {s : State} (g : Good s) {k n : Nat} : Good (res s (.price k n)).1 := by
  by_cases c : Vbrgak.noKind s k = true
  · exact res_same g (by simp only [Vbrgak.does]; rw [if_pos c])
  · rw [res_ok (by simp only [Vbrgak.does]; rw [if_neg c])]
    exact g
theorem wf_call {s : State} (g : Good s) {c : Nat} {ns : List Int} (hc : 1 ≤ c ∧ c ≤ 19) (hl : ns.length = (rng c).length) (ha : inAll ns (rng c) = true) : Good (res s (mkCall c ns)).1 := by
  rcases by19 hc with rfl | rfl | rfl | rfl | rfl | rfl | rfl | rfl | rfl | rfl | rfl | rfl | rfl | rfl | rfl | rfl | rfl | rfl | rfl
  · obtain ⟨k, n, rfl, hn2⟩ := two_of (ns := ns) hl ha
    exact wf_find g
  · obtain ⟨k, n, rfl, hn2⟩ := two_of (ns := ns) hl ha
    exact wf_drop g
  · obtain ⟨n, rfl, n0, n1⟩ := one_of (ns := ns) hl ha (by decide)
    exact wf_eat g
  · obtain ⟨n, rfl, n0, n1⟩ := one_of (ns := ns) hl ha (by decide)
    exact wf_fill g
  · obtain ⟨n, rfl, n0, n1⟩ := one_of (ns := ns) hl ha (by decide)
    exact wf_light g
  · obtain ⟨n, rfl, n0, n1⟩ := one_of (ns := ns) hl ha (by decide)
    exact wf_wait g
  · obtain ⟨n, rfl, n0, n1⟩ := one_of (ns := ns) hl ha (by decide)
    exact wf_drain g (by show n ≤ 5000; omega)
  · obtain ⟨n, rfl, n0, n1⟩ := one_of (ns := ns) hl ha (by decide)
    exact wf_hurt g (by show 1 ≤ n; omega)
  · obtain ⟨k, n, rfl, hn2⟩ := two_of (ns := ns) hl ha
    exact wf_buy g
  · obtain ⟨k, n, rfl, hn2⟩ := two_of (ns := ns) hl ha
    exact wf_sell g
  · obtain ⟨k, n, rfl, hn2⟩ := two_of (ns := ns) hl ha
    exact wf_stock g
  · have e0 : ns = [] := List.eq_nil_of_length_eq_zero hl
    subst e0
    exact g
  · obtain ⟨k, n, rfl, hn2⟩ := two_of (ns := ns) hl ha
    exact wf_price g
  · have e0 : ns = [] := List.eq_nil_of_length_eq_zero hl
    subst e0
    exact g
  · have e0 : ns = [] := List.eq_nil_of_length_eq_zero hl
    subst e0
    exact g
  · have e0 : ns = [] := List.eq_nil_of_length_eq_zero hl
    subst e0
    exact g
  · have e0 : ns = [] := List.eq_nil_of_length_eq_zero hl
    subst e0
    exact g
  · have e0 : ns = [] := List.eq_nil_of_length_eq_zero hl
    subst e0
    exact g
  · obtain ⟨n, rfl, n0, n1⟩ := one_of (ns := ns) hl ha (by decide)
    exact g
end Ho
end
section
set_option Elab.async false
set_option linter.all false
set_option maxRecDepth 100000
set_option maxHeartbeats 2000000
namespace Ho
open PySem PySem.Spec PyProof.Rows L2
open Vbrgak (State Body)
/-- the program's house against the specification's: the same when it's open, else each as it's made -/
def sRel (s σ : State) : Prop := (s = σ ∧ Good σ) ∨ (s = s0 ∧ σ = Vbrgak.start)
def PostB (C : Addr) (A : Ad) (H : Hp) (Q : VK) (σ : State) (l : List Int) : Prop := ∀ H' q A' s', sRel s' σ → A'.p = A.p → HA C H' A' s' → (∀ b ∈ adl A', b ∈ adl A ∨ H b = none) → H' q = some (.lst (l.map V.int)) → H q = none → Fx (foot A) H H' → Q (.ref q) H'
theorem val_all : ∀ c : Fin 20, valT tabl (c.val : Int) = some (rng c.val) := by decide +kernel
theorem val_rng {c : Nat} (h : c ≤ 19) : valT tabl (c : Int) = some (rng c) := val_all ⟨c, by omega⟩
theorem nats_iL {l : List Int} {lo hi : Int} (h : Vbrgak.isRow l lo hi = true) (h0 : 0 ≤ lo) : iL l = nL (Vbrgak.nats l) ∧ l.length ≤ 16 ∧ (∀ n ∈ Vbrgak.nats l, (n : Int) ≤ hi) := by
  unfold Vbrgak.isRow at h
  rw [Bool.and_eq_true, List.all_eq_true, decide_eq_true_eq] at h
  obtain ⟨h1, h2⟩ := h
  refine ⟨?_, h1, fun n hn => ?_⟩
  · unfold iL nL Vbrgak.nats
    rw [List.map_map]
    refine List.map_congr_left fun x hx => ?_
    have q := inside_iff.mp (h2 x hx)
    show V.int x = V.int (x.toNat : Int)
    rw [Int.toNat_of_nonneg (by omega)]
  · unfold Vbrgak.nats at hn
    obtain ⟨x, hx, rfl⟩ := List.mem_map.mp hn
    have q := inside_iff.mp (h2 x hx)
    rw [Int.toNat_of_nonneg (by omega)]
    exact q.2
theorem nats_len (l : List Int) : (Vbrgak.nats l).length = l.length := List.length_map _
def callOf (c : Nat) (ns : List Int) (xs : List (List Int)) : Vbrgak.Call := if c = 0 then .opens (ns.getD 0 0).toNat (ns.getD 1 0).toNat (ns.getD 2 0).toNat (ns.getD 3 0).toNat (ns.getD 4 0).toNat (ns.getD 5 0).toNat (ns.getD 6 0).toNat (Vbrgak.nats (xs.getD 0 [])) (Vbrgak.nats (xs.getD 1 [])) (Vbrgak.nats (xs.getD 2 [])) (Vbrgak.nats (xs.getD 3 []))
  else mkCall c ns
theorem dec_all {c : Nat} {ns : List Int} {xs : List (List Int)} (hc : c ≤ 19) (hl : ns.length = (rng c).length) (hx : xs.length = (if c = 0 then 4 else 0)) : Vbrgak.decode (((c : Int) :: ns) :: xs) = if (inAll ns (rng c) && rowsAll xs rowsT) = true then some (callOf c ns xs) else none := by
  by_cases h0 : c = 0
  · subst h0
    match xs, hx with
    | [x0, x1, x2, x3], _ => exact dec_open (x0 := x0) (x1 := x1) (x2 := x2) (x3 := x3) hl
  · rw [if_neg h0] at hx
    have ex : xs = [] := List.eq_nil_of_length_eq_zero hx
    subst ex
    rw [dec_num (by omega) hl]
    unfold callOf
    rw [if_neg h0]
    show _ = if (inAll ns (rng c) && true) = true then _ else _
    rw [Bool.and_true]
theorem not_opens {c : Nat} {ns : List Int} (hc : 1 ≤ c ∧ c ≤ 19) (hl : ns.length = (rng c).length) : Vbrgak.isOpens (mkCall c ns) = false := by
  rcases by19 hc with rfl | rfl | rfl | rfl | rfl | rfl | rfl | rfl | rfl | rfl | rfl | rfl | rfl | rfl | rfl | rfl | rfl | rfl | rfl
  · match ns, hl with | [_, _], _ => rfl
  · match ns, hl with | [_, _], _ => rfl
  · match ns, hl with | [_], _ => rfl
  · match ns, hl with | [_], _ => rfl
  · match ns, hl with | [_], _ => rfl
  · match ns, hl with | [_], _ => rfl
  · match ns, hl with | [_], _ => rfl
  · match ns, hl with | [_], _ => rfl
  · match ns, hl with | [_, _], _ => rfl
  · match ns, hl with | [_, _], _ => rfl
  · match ns, hl with | [_, _], _ => rfl
  · match ns, hl with | [], _ => rfl
  · match ns, hl with | [_, _], _ => rfl
  · match ns, hl with | [], _ => rfl
  · match ns, hl with | [], _ => rfl
  · match ns, hl with | [], _ => rfl
  · match ns, hl with | [], _ => rfl
  · match ns, hl with | [], _ => rfl
  · match ns, hl with | [_], _ => rfl
theorem step_open {σ : State} {c : Vbrgak.Call} (h : σ.opened = true ∨ Vbrgak.isOpens c = true) : Vbrgak.step σ c = res σ c := by
  unfold Vbrgak.step
  rw [if_neg]
  · rfl
  · rintro ⟨a, b⟩
    rcases h with h | h
    · rw [h] at a; cases a
    · rw [h] at b; cases b
theorem step_shut {c : Nat} {ns : List Int} (hc : 1 ≤ c ∧ c ≤ 19) (hl : ns.length = (rng c).length) : Vbrgak.step Vbrgak.start (mkCall c ns) = (Vbrgak.start, [-2]) := by
  unfold Vbrgak.step
  rw [if_pos ⟨rfl, not_opens hc hl⟩]
theorem PostB.postA {C : Addr} {A : Ad} {H H1 : Hp} {Q : VK} {σ s : State} {l : List Int} (kk : PostB C A H Q σ l) (hr : sRel s σ) (e : Same H H1) : PostA C A H1 Q (s, l) := fun H' q A' ep hA ha hq hq0 f =>
  kk H' q A' s hr ep hA (fun b m => (ha b m).imp id e.free) hq (e.free hq0) ((Fx.of e).trans f)
theorem house_t {x0 x1 x2 x3 : List Nat} (h : x0.length ≤ 16) (c : openR false x0 x1 x2 x3 = 0) : Vbrgak.isHouse x0 x1 x2 x3 = true := by
  unfold openR at c
  rw [if_neg (by simp)] at c
  by_cases c1 : x0.length = 0
  · rw [if_pos c1] at c; omega
  · rw [if_neg c1] at c
    by_cases c2 : x1.length = x0.length ∧ x2.length = x0.length ∧ x3.length = x0.length
    · unfold Vbrgak.isHouse Vbrgak.KINDS
      simp only [Bool.and_eq_true, decide_eq_true_eq]
      exact ⟨by omega, h, c2⟩
    · rw [if_neg c2] at c; omega
theorem house_f {x0 x1 x2 x3 : List Nat} (c : ¬ openR false x0 x1 x2 x3 = 0) : Vbrgak.isHouse x0 x1 x2 x3 = false ∧ openR false x0 x1 x2 x3 = -4 := by
  unfold openR at *
  rw [if_neg (by simp)] at c ⊢
  by_cases c1 : x0.length = 0
  · rw [if_pos c1]
    refine ⟨?_, rfl⟩
    unfold Vbrgak.isHouse
    rw [decide_eq_false (by omega)]
    rfl
  · rw [if_neg c1] at c ⊢
    by_cases c2 : x1.length = x0.length ∧ x2.length = x0.length ∧ x3.length = x0.length
    · rw [if_pos c2] at c
      exact absurd rfl c
    · rw [if_neg c2]
      refine ⟨?_, rfl⟩
      cases e : Vbrgak.isHouse x0 x1 x2 x3 with
      | false => rfl
      | true =>
        unfold Vbrgak.isHouse at e
        simp only [Bool.and_eq_true, decide_eq_true_eq] at e
        exact absurd e.2.2 c2
theorem opened_good {n0 n1 n2 n3 n4 n5 n6 : Nat} {x0 x1 x2 x3 : List Nat} (c : openR false x0 x1 x2 x3 = 0) (h16 : x0.length ≤ 16) (h1 : n1 ≤ 400) (h2 : n2 ≤ 100) (w0 : ∀ n ∈ x0, n ≤ 1000) (w1 : ∀ n ∈ x1, n ≤ 1000000) : Good (opened n0 n1 n2 n3 n4 n5 n6 x0 x1 x2 x3) := by
  unfold openR at c
  rw [if_neg (by simp)] at c
  by_cases c1 : x0.length = 0
  · rw [if_pos c1] at c; omega
  · rw [if_neg c1] at c
    by_cases c2 : x1.length = x0.length ∧ x2.length = x0.length ∧ x3.length = x0.length
    · have z : ∀ n ∈ (x0.map fun _ => 0), n ≤ 10000 := fun n hn => by
        obtain ⟨_, _, rfl⟩ := List.mem_map.mp hn
        omega
      exact ⟨rfl, List.length_map _, List.length_map _, c2.1, c2.2.1, c2.2.2, h16, z, z, w0, w1, h1, h2, by show 0 ≤ 5000; omega, ⟨Nat.le_refl _, by show 0 < 1000; omega, fun _ => rfl, fun q => by cases q⟩⟩
    · rw [if_neg c2] at c; omega
theorem inside_of {ns : List Int} {c : Nat} {i : Nat} {lo hi n : Int} (h : inAll ns (rng c) = true) (hn : ns[i]? = some n) (hp : (rng c)[i]? = some (lo, hi)) : lo ≤ n ∧ n ≤ hi := by
  cases e : Vbrgak.inside n lo hi with
  | true => exact inside_iff.mp e
  | false =>
    rw [inAll_f ns (rng c) i n (lo, hi) hn hp e] at h
    cases h
section
variable {P : Program} {w : World} {K : PySem.W.Frag} {mg : Str → Option Value} {base : Heap} {C R : Addr}
def spCallB (C : Addr) : Sp := fun vs H Q _ => ∃ A s σ qn qr rs, ∃ (c : Nat) (ns : List Int) (xs : List (List Int)), vs = [V.ref A.p, nI c, V.ref qn, V.ref qr] ∧ c ≤ 19 ∧ H qn = some (.lst (iL ns)) ∧ ns.length = (rng c).length ∧ RowsAt H qr rs xs ∧ xs.length = (if c = 0 then 4 else 0) ∧ sRel s σ ∧ HA C H A s ∧
  PostB C A H Q (Vbrgak.stepNumbers σ (((c : Int) :: ns) :: xs)).1 (Vbrgak.stepNumbers σ (((c : Int) :: ns) :: xs)).2
theorem sc_answer_call : FnScope ["house", "call", "numbers", "rows"] ["house", "call", "numbers", "rows"] (defScope (top 113)) := ⟨rfl, rfl, rfl, by decide +kernel, rfl, by decide +kernel, by decide +kernel⟩
theorem ok_answer_call (D : Dfs K mg "answer_call" (top 113)) (T : Txt K mg C) (h_are_numbers_within : Has P w K mg base "are_numbers_within" ["call", "numbers"] 2 (spNums K)) (h_are_rows_within : Has P w K mg base "are_rows_within" ["rows"] 3 (spRows K)) (h_open_house : Has P w K mg base "open_house" ["house", "numbers", "rows"] 2 (spOpen C)) (h_answer_opened : Has P w K mg base "answer_opened" ["house", "call", "numbers"] 8 (spNum C 1 19)) : Has P w K mg base "answer_call" ["house", "call", "numbers", "rows"] 9 (spCallB C) := by
  refine mkHas D sc_answer_call (fun vs H Q E h => ?_) (fun _ _ _ _ _ _ us hl => match us, hl with | [_, _, _, _], _ => rfl) (fun f cdv Ar outer sh H vs Q E hr h => ?_)
  · obtain ⟨A, s, σ, qn, qr, rs, c, ns, xs, rfl, _⟩ := h
    rfl
  · obtain ⟨A, s, σ, qn, qr, rs, c, ns, xs, rfl, hc, hn, hl, hR, hxl, hrel, h, kk⟩ := h
    refine ⟨_, (pss_cons (ps_if (PW.pt (pw_or (pt_not (pt_val (pe_has h_are_numbers_within (hr.mono (by decide)) rfl (pa_cons (pv 1) (pa_cons (pv 2) pa_nil))))) (pw_or1 (pt_not (pt_val (pe_has h_are_rows_within (hr.mono (by decide)) rfl (pa_cons (pv 3) pa_nil))))))) (pss_one (ps_ret (pe_lst (pa_cons (pe_gI rfl T.g_OUT_OF_RANGE) pa_nil)))) pss_nil) (pss_cons (ps_if (pt_cmpR op_eq (pv 1) (pe_gI rfl T.g_OPEN) (nomark _)) (pss_one (ps_ret (pe_has h_open_house (hr.mono (by decide)) rfl (pa_cons (pv 0) (pa_cons (pv 2) (pa_cons (pv 3) pa_nil)))))) pss_nil) (pss_cons (ps_if (pt_not (pt_val (pe_fld (pv 0) rfl))) (pss_one (ps_ret (pe_lst (pa_cons (pe_gI rfl T.g_NOT_OPEN) pa_nil)))) pss_nil) (pss_one (ps_ret (pe_has h_answer_opened (hr.mono (by decide)) rfl (pa_cons (pv 0) (pa_cons (pv 1) (pa_cons (pv 2) pa_nil))))))))), ?_⟩
    have hd := dec_all hc hl hxl
    have bad : (inAll ns (rng c) && rowsAll xs rowsT) = false → ∀ H1, Same H H1 → ∀ q, H1 q = none → Q (.ref q) (upd H1 q (.lst [.int (-1)])) := by
      intro hb H1 e1 q hq
      rw [hb, if_neg (by simp)] at hd
      unfold Vbrgak.stepNumbers at kk
      rw [hd] at kk
      have e2 := same_upd (o := .lst [.int (-1)]) e1 hq
      exact kk _ q A s hrel rfl (h.same e2) (fun _ m => .inl m) upd_same (e1.free hq) (Fx.of e2)
    refine ⟨_, rfl, _, rfl, (c : Int), qn, ns, rng c, rfl, hn, val_rng hc, by omega, ?_⟩
    rintro _ H1 rfl e1
    refine ⟨_, rfl, ?_⟩
    refine iteNB (fun c1 => ?_) (fun c1 => ?_)
    · refine iteT ?_
      refine ⟨(by show 1 ≤ sizeLine; decide), fun q hq => ?_⟩
      exact bad (by rw [c1]; rfl) H1 e1 q hq
    refine ⟨_, rfl, qr, rs, xs, rfl, hR.same e1, (by rw [hxl]; split <;> omega), ?_⟩
    rintro _ H2 rfl e2
    have e2 := e1.trans e2
    refine ⟨_, rfl, ?_⟩
    refine iteNB (fun c2 => ?_) (fun c2 => ?_)
    · refine ⟨(by show 1 ≤ sizeLine; decide), fun q hq => ?_⟩
      exact bad (by rw [c1, c2]; rfl) H2 e2 q hq
    have hs : Vbrgak.stepNumbers σ (((c : Int) :: ns) :: xs) = Vbrgak.step σ (callOf c ns xs) := by
      unfold Vbrgak.stepNumbers
      rw [hd, c1, c2]
      rfl
    rw [hs] at kk
    have h2 := h.same e2
    refine ⟨_, rfl, rfl, _, rfl, ?_⟩
    refine iteE (fun c3 => ?_) (fun c3 => ?_)
    · have c3 : c = 0 := by omega
      subst c3
      have hxl : xs.length = 4 := hxl
      have hl : ns.length = 7 := hl
      match xs, hxl, rs, hR.len, ns, hl with
      | [x0, x1, x2, x3], _, [r0, r1, r2, r3], _, [a0, a1, a2, a3, a4, a5, a6], _ =>
        have i0 := inside_of (i := 0) c1 rfl rfl
        have i1 := inside_of (i := 1) c1 rfl rfl
        have i2 := inside_of (i := 2) c1 rfl rfl
        have i3 := inside_of (i := 3) c1 rfl rfl
        have i4 := inside_of (i := 4) c1 rfl rfl
        have i5 := inside_of (i := 5) c1 rfl rfl
        have i6 := inside_of (i := 6) c1 rfl rfl
        have cr : (Vbrgak.isRow x0 0 1000 && (Vbrgak.isRow x1 1 1000000 && (Vbrgak.isRow x2 0 2000 && (Vbrgak.isRow x3 0 100000 && true)))) = true := c2
        simp only [Bool.and_eq_true, and_true] at cr
        obtain ⟨g0, g1, g2, g3⟩ := cr
        obtain ⟨y0, z0, w0⟩ := nats_iL g0 (by decide)
        obtain ⟨y1, z1, w1⟩ := nats_iL g1 (by decide)
        obtain ⟨y2, z2, w2⟩ := nats_iL g2 (by decide)
        obtain ⟨y3, z3, w3⟩ := nats_iL g3 (by decide)
        have hR2 := hR.same e2
        have R : R4 H2 qr r0 r1 r2 r3 (Vbrgak.nats x0) (Vbrgak.nats x1) (Vbrgak.nats x2) (Vbrgak.nats x3) := ⟨hR2.l, by rw [← y0]; exact hR2.r 0 r0 x0 rfl rfl, by rw [← y1]; exact hR2.r 1 r1 x1 rfl rfl, by rw [← y2]; exact hR2.r 2 r2 x2 rfl rfl, by rw [← y3]; exact hR2.r 3 r3 x3 rfl rfl⟩
        have hq : H2 qn = some (.lst [nI a0.toNat, nI a1.toNat, nI a2.toNat, nI a3.toNat, nI a4.toNat, nI a5.toNat, nI a6.toNat]) := by
          rw [e2 _ _ hn]
          have t : ∀ {a : Int}, 0 ≤ a → V.int a = nI a.toNat := fun h => nI_eq (Int.toNat_of_nonneg h).symm
          show some (HO.lst [V.int a0, V.int a1, V.int a2, V.int a3, V.int a4, V.int a5, V.int a6]) = _
          rw [t (a := a0) (by omega), t (a := a1) (by omega), t (a := a2) (by omega), t (a := a3) (by omega), t (a := a4) (by omega), t (a := a5) (by omega), t (a := a6) (by omega)]
        have kk : PostB C A H Q (res σ (.opens a0.toNat a1.toNat a2.toNat a3.toNat a4.toNat a5.toNat a6.toNat (Vbrgak.nats x0) (Vbrgak.nats x1) (Vbrgak.nats x2) (Vbrgak.nats x3))).1 (res σ (.opens a0.toNat a1.toNat a2.toNat a3.toNat a4.toNat a5.toNat a6.toNat (Vbrgak.nats x0) (Vbrgak.nats x1) (Vbrgak.nats x2) (Vbrgak.nats x3))).2 := by
          have q := step_open (σ := σ) (c := callOf 0 [a0, a1, a2, a3, a4, a5, a6] [x0, x1, x2, x3]) (.inr rfl)
          rw [q] at kk
          exact kk
        refine ⟨_, rfl, _, rfl, _, rfl, A, s, qr, r0, r1, r2, r3, Vbrgak.nats x0, Vbrgak.nats x1, Vbrgak.nats x2, Vbrgak.nats x3, qn, a0.toNat, a1.toNat, a2.toNat, a3.toNat, a4.toNat, a5.toNat, a6.toNat, rfl, h2, ?_, R, by rw [nats_len]; exact z0, hq, ?_⟩
        · rcases hrel with ⟨es, g⟩ | ⟨es, _⟩
          · exact .inl (by rw [es]; exact g.1)
          · exact .inr es
        · rcases hrel with ⟨es, g⟩ | ⟨es, eσ⟩
          · subst es
            have eo : openR s.opened (Vbrgak.nats x0) (Vbrgak.nats x1) (Vbrgak.nats x2) (Vbrgak.nats x3) = -3 := by
              unfold openR
              rw [if_pos g.1]
            rw [eo, if_neg (by decide)]
            rw [res_err (e := -3) (by simp only [Vbrgak.does]; rw [if_pos g.1])] at kk
            exact kk.postA (.inl ⟨rfl, g⟩) e2
          · subst es eσ
            show PostA C A H2 Q (if openR false (Vbrgak.nats x0) (Vbrgak.nats x1) (Vbrgak.nats x2) (Vbrgak.nats x3) = 0 then _ else (s0, [openR false (Vbrgak.nats x0) (Vbrgak.nats x1) (Vbrgak.nats x2) (Vbrgak.nats x3)]))
            by_cases co : openR false (Vbrgak.nats x0) (Vbrgak.nats x1) (Vbrgak.nats x2) (Vbrgak.nats x3) = 0
            · rw [if_pos co]
              have ht := house_t (by rw [nats_len]; exact z0) co
              rw [res_ok (t := opened a0.toNat a1.toNat a2.toNat a3.toNat a4.toNat a5.toNat a6.toNat (Vbrgak.nats x0) (Vbrgak.nats x1) (Vbrgak.nats x2) (Vbrgak.nats x3)) (l := []) (by
                simp only [Vbrgak.does]
                rw [if_neg (by show ¬ false = true; simp), if_neg (by rw [ht]; simp)]
                rfl)] at kk
              exact kk.postA (.inl ⟨rfl, opened_good co (by rw [nats_len]; exact z0) (by omega) (by omega) (fun n hn => by have := w0 n hn; omega) (fun n hn => by have := w1 n hn; omega)⟩) e2
            · rw [if_neg co]
              obtain ⟨hf1, hf2⟩ := house_f co
              rw [hf2]
              rw [res_err (e := -4) (by
                simp only [Vbrgak.does]
                rw [if_neg (by show ¬ false = true; simp), if_pos hf1])] at kk
              exact kk.postA (.inr ⟨rfl, rfl⟩) e2
    · have c3 : ¬ c = 0 := by omega
      have ec : callOf c ns xs = mkCall c ns := by
        unfold callOf
        rw [if_neg c3]
      rw [ec] at kk
      refine ⟨_, rfl, _, _, _, _, _, rfl, h2.o, T.cl, T.no _ (by decide), rfl, _, rfl, ?_⟩
      rcases hrel with ⟨es, g⟩ | ⟨es, eσ⟩
      · subst es
        rw [step_open (.inl g.1)] at kk
        refine iteNB (fun c4 => ?_) (fun c4 => ?_)
        · rw [g.1] at c4
          cases c4
        refine ⟨_, rfl, _, rfl, _, rfl, A, s, qn, c, ns, rfl, by omega, e2 _ _ hn, hl, c1, h2, g.2, ?_⟩
        exact (kk.postA (.inl ⟨rfl, wf_call g (by omega) hl c1⟩) e2).post
      · subst es eσ
        rw [step_shut (by omega) hl] at kk
        refine iteNB (fun c4 => ?_) (fun c4 => ?_)
        · refine ⟨(by show 1 ≤ sizeLine; decide), fun q hq => ?_⟩
          have e3 := same_upd (o := .lst [.int (-2)]) e2 hq
          exact kk _ q A s0 (.inr ⟨rfl, rfl⟩) rfl (h.same e3) (fun _ m => .inl m) upd_same (e2.free hq) (Fx.of e3)
        · cases c4
end
end Ho
end
section
set_option Elab.async false
set_option linter.all false
set_option maxRecDepth 100000
set_option maxHeartbeats 2000000
namespace Ho
open PySem PySem.Spec PyProof.Rows L2
open Vbrgak (State Body)
/-! ### the list of calls, as the specification reads it -/
theorem shape_some {p : Int} {x : Nat × Nat} (h : PyVbrgak.shape p = some x) : ∃ c : Nat, p = (c : Int) ∧ c ≤ 19 ∧ x.1 = (rng c).length ∧ x.2 = (if c = 0 then 4 else 0) := by
  unfold PyVbrgak.shape at h
  by_cases h0 : p = 0
  · rw [if_pos h0] at h
    cases h
    exact ⟨0, h0, by omega, rfl, rfl⟩
  rw [if_neg h0] at h
  by_cases h1 : p = 1
  · rw [if_pos h1] at h
    cases h
    exact ⟨1, h1, by omega, rfl, rfl⟩
  rw [if_neg h1] at h
  by_cases h2 : p = 2
  · rw [if_pos h2] at h
    cases h
    exact ⟨2, h2, by omega, rfl, rfl⟩
  rw [if_neg h2] at h
  by_cases h3 : p = 3
  · rw [if_pos h3] at h
    cases h
    exact ⟨3, h3, by omega, rfl, rfl⟩
  rw [if_neg h3] at h
  by_cases h4 : p = 4
  · rw [if_pos h4] at h
    cases h
    exact ⟨4, h4, by omega, rfl, rfl⟩
  rw [if_neg h4] at h
  by_cases h5 : p = 5
  · rw [if_pos h5] at h
    cases h
    exact ⟨5, h5, by omega, rfl, rfl⟩
  rw [if_neg h5] at h
  by_cases h6 : p = 6
  · rw [if_pos h6] at h
    cases h
    exact ⟨6, h6, by omega, rfl, rfl⟩
  rw [if_neg h6] at h
  by_cases h7 : p = 7
  · rw [if_pos h7] at h
    cases h
    exact ⟨7, h7, by omega, rfl, rfl⟩
  rw [if_neg h7] at h
  by_cases h8 : p = 8
  · rw [if_pos h8] at h
    cases h
    exact ⟨8, h8, by omega, rfl, rfl⟩
  rw [if_neg h8] at h
  by_cases h9 : p = 9
  · rw [if_pos h9] at h
    cases h
    exact ⟨9, h9, by omega, rfl, rfl⟩
  rw [if_neg h9] at h
  by_cases h10 : p = 10
  · rw [if_pos h10] at h
    cases h
    exact ⟨10, h10, by omega, rfl, rfl⟩
  rw [if_neg h10] at h
  by_cases h11 : p = 11
  · rw [if_pos h11] at h
    cases h
    exact ⟨11, h11, by omega, rfl, rfl⟩
  rw [if_neg h11] at h
  by_cases h12 : p = 12
  · rw [if_pos h12] at h
    cases h
    exact ⟨12, h12, by omega, rfl, rfl⟩
  rw [if_neg h12] at h
  by_cases h13 : p = 13
  · rw [if_pos h13] at h
    cases h
    exact ⟨13, h13, by omega, rfl, rfl⟩
  rw [if_neg h13] at h
  by_cases h14 : p = 14
  · rw [if_pos h14] at h
    cases h
    exact ⟨14, h14, by omega, rfl, rfl⟩
  rw [if_neg h14] at h
  by_cases h15 : p = 15
  · rw [if_pos h15] at h
    cases h
    exact ⟨15, h15, by omega, rfl, rfl⟩
  rw [if_neg h15] at h
  by_cases h16 : p = 16
  · rw [if_pos h16] at h
    cases h
    exact ⟨16, h16, by omega, rfl, rfl⟩
  rw [if_neg h16] at h
  by_cases h17 : p = 17
  · rw [if_pos h17] at h
    cases h
    exact ⟨17, h17, by omega, rfl, rfl⟩
  rw [if_neg h17] at h
  by_cases h18 : p = 18
  · rw [if_pos h18] at h
    cases h
    exact ⟨18, h18, by omega, rfl, rfl⟩
  rw [if_neg h18] at h
  by_cases h19 : p = 19
  · rw [if_pos h19] at h
    cases h
    exact ⟨19, h19, by omega, rfl, rfl⟩
  rw [if_neg h19] at h
  cases h
theorem rows_len : ∀ {k : Nat} {r : List Int} {xs : List (List Int)} {t : List Int}, PyFlat.rows k r = some (xs, t) → xs.length = k
  | 0, r, xs, t, h => by
    have e : some (([] : List (List Int)), r) = some (xs, t) := h
    cases e
    rfl
  | k + 1, r, xs, t, h => by
    obtain ⟨n, r', xs', _, _, _, rfl, h'⟩ := rows_succ h
    rw [List.length_cons, rows_len h']
theorem call_some {p : Int} {r : List Int} {c : List (List Int)} {t : List Int} (h : PyFlat.call PyVbrgak.shape (p :: r) = some (c, t)) :
    ∃ k : Nat, p = (k : Int) ∧ k ≤ 19 ∧ (rng k).length ≤ r.length ∧ ∃ xs, PyFlat.rows (if k = 0 then 4 else 0) (r.drop (rng k).length) = some (xs, t) ∧ c = (p :: r.take (rng k).length) :: xs := by
  unfold PyFlat.call at h
  cases e : PyVbrgak.shape p with
  | none =>
    simp only [e] at h
    cases h
  | some x =>
    obtain ⟨n, k⟩ := x
    obtain ⟨c0, h1, h2, h3, h4⟩ := shape_some e
    simp only [e] at h
    have h3 : n = (rng c0).length := h3
    have h4 : k = (if c0 = 0 then 4 else 0) := h4
    by_cases hl : r.length < n
    · rw [if_pos hl] at h
      cases h
    · rw [if_neg hl] at h
      cases e2 : PyFlat.rows k (r.drop n) with
      | none =>
        simp only [e2] at h
        cases h
      | some y =>
        obtain ⟨xs, t'⟩ := y
        simp only [e2] at h
        cases h
        refine ⟨c0, h1, h2, by omega, xs, ?_, by rw [h3]⟩
        rw [← h3, ← h4]
        exact e2
theorem calls_cons {f : Nat} {p : Int} {r : List Int} {cs : List (List (List Int))} (h : PyFlat.calls PyVbrgak.shape f (p :: r) = some cs) : ∃ f' c t cs', PyFlat.call PyVbrgak.shape (p :: r) = some (c, t) ∧ PyFlat.calls PyVbrgak.shape f' t = some cs' ∧ cs = c :: cs' := by
  cases f with
  | zero => cases h
  | succ f =>
    unfold PyFlat.calls at h
    cases e : PyFlat.call PyVbrgak.shape (p :: r) with
    | none =>
      simp only [e] at h
      cases h
    | some x =>
      obtain ⟨c, t⟩ := x
      simp only [e] at h
      cases e2 : PyFlat.calls PyVbrgak.shape f t with
      | none =>
        simp only [e2] at h
        cases h
      | some cs' =>
        simp only [e2] at h
        cases h
        exact ⟨f, c, t, cs', rfl, e2, rfl⟩
theorem calls_nil {f : Nat} {cs : List (List (List Int))} (h : PyFlat.calls PyVbrgak.shape f [] = some cs) : cs = [] := by
  have e : some ([] : List (List (List Int))) = some cs := by
    rw [← h]
    cases f <;> rfl
  cases e
  rfl
theorem whole_call {c : Nat} {ns : List Int} {xs : List (List Int)} (hc : c ≤ 19) (hl : ns.length = (rng c).length) (hx : xs.length = (if c = 0 then 4 else 0)) : PyVbrgak.whole (((c : Int) :: ns) :: xs) = ((c : Int) :: ns) :: xs := by
  by_cases h0 : c = 0
  · subst h0
    match ns, hl, xs, hx with
    | [_, _, _, _, _, _, _], _, [_, _, _, _], _ => rfl
  · rw [if_neg h0] at hx
    have ex : xs = [] := List.eq_nil_of_length_eq_zero hx
    subst ex
    rcases by19 (show 1 ≤ c ∧ c ≤ 19 by omega) with rfl | rfl | rfl | rfl | rfl | rfl | rfl | rfl | rfl | rfl | rfl | rfl | rfl | rfl | rfl | rfl | rfl | rfl | rfl
    · match ns, hl with | [_, _], _ => rfl
    · match ns, hl with | [_, _], _ => rfl
    · match ns, hl with | [_], _ => rfl
    · match ns, hl with | [_], _ => rfl
    · match ns, hl with | [_], _ => rfl
    · match ns, hl with | [_], _ => rfl
    · match ns, hl with | [_], _ => rfl
    · match ns, hl with | [_], _ => rfl
    · match ns, hl with | [_, _], _ => rfl
    · match ns, hl with | [_, _], _ => rfl
    · match ns, hl with | [_, _], _ => rfl
    · match ns, hl with | [], _ => rfl
    · match ns, hl with | [_, _], _ => rfl
    · match ns, hl with | [], _ => rfl
    · match ns, hl with | [], _ => rfl
    · match ns, hl with | [], _ => rfl
    · match ns, hl with | [], _ => rfl
    · match ns, hl with | [], _ => rfl
    · match ns, hl with | [_], _ => rfl
/-! ### an answer is short -/
theorem wf_start : WF Vbrgak.start := ⟨rfl, rfl, rfl, rfl, rfl, by decide, fun n h => (by cases h), fun n h => (by cases h), fun n h => (by cases h), fun n h => (by cases h), by decide, by decide, by decide, ⟨by decide, by decide, fun _ => rfl, fun h => (by cases h)⟩⟩
theorem does_len {s t : State} {c : Vbrgak.Call} {l : List Int} (wf : WF s) (h : Vbrgak.does s c = .ok (t, l)) : l.length ≤ 40 := by
  have k1 := wf.kk
  have k2 := wf.lp
  have k3 := wf.lt
  cases c <;> simp only [Vbrgak.does] at h <;> (repeat' split at h) <;> first | (cases h; done) | (cases h; simp [Vbrgak.shown]; done) | (cases h; simp [Vbrgak.shown]; omega)
theorem ans_len {s : State} {c : List (List Int)} (wf : WF s) : (Vbrgak.stepNumbers s c).2.length ≤ 41 := by
  unfold Vbrgak.stepNumbers
  cases e : Vbrgak.decode c with
  | none => simp
  | some c =>
    show (Vbrgak.step s c).2.length ≤ 41
    unfold Vbrgak.step
    by_cases h : s.opened = false ∧ Vbrgak.isOpens c = false
    · rw [if_pos h]
      simp
    · rw [if_neg h]
      cases e2 : Vbrgak.does s c with
      | error z => simp
      | ok x =>
        obtain ⟨t, l⟩ := x
        have q := does_len wf e2
        show (0 :: l).length ≤ 41
        rw [List.length_cons]
        omega
theorem rel_wf {s σ : State} (h : sRel s σ) : WF σ := by
  rcases h with ⟨_, g⟩ | ⟨_, e⟩
  · exact g.2
  · rw [e]; exact wf_start
end Ho
end
section
set_option Elab.async false
set_option linter.all false
set_option maxRecDepth 100000
set_option maxHeartbeats 4000000
namespace Ho
open PySem PySem.Spec PyProof.Rows L2
open Vbrgak (State Body)
theorem made_free {H : Hp} {x dx b : Addr} {o o' : HO} (h : upd (upd H dx o) x o' b = none) : H b = none := by
  by_cases e : b = x
  · rw [e, upd_same] at h
    cases h
  · rw [upd_ne e] at h
    by_cases e2 : b = dx
    · rw [e2, upd_same] at h
      cases h
    · rw [upd_ne e2] at h
      exact h
/-- what stays while the calls are answered: i numbers are read, done is answered, cs are left -/
structure Loop (K : PySem.W.Frag) (C R : Addr) (H0 : Hp) (a : Addr) (l : List Int) (r dr qa : Addr) (W : List Int) (H : Hp) (A : Ad) (s σ : State) (i : Nat) (done : List Int) (cs : List (List (List Int))) (f n : Nat) : Prop where
  ra : RA K R H r dr a l i
  ha : HA C H A s
  rel : sRel s σ
  hqa : H qa = some (.lst (iL done))
  sm : Same H0 H
  rp : r ≠ A.p
  ql : ∀ b ∈ adl A, b ≠ qa
  fp : H0 A.p = none
  fl : ∀ b ∈ adl A, H0 b = none
  hcs : PyFlat.calls PyVbrgak.shape f (l.drop i) = some cs
  hw : done ++ PyFlat.told (PyFlat.played VbrgakNeutral.step σ (cs.map PyVbrgak.whole)) = W
  len : done.length ≤ 100 * n
  cnt : n + cs.length ≤ 400
theorem HA.off {C : Addr} {H H' : Hp} {A : Ad} {s : State} {r dr R : Addr} {fs : List (Str × V)} (h : HA C H A s) (ho : H r = some (.ins R dr fs)) (rp : r ≠ A.p) (f : Fx [r] H H') : HA C H' A s := by
  have nr : ∀ {b : Addr} {xs : List V}, H b = some (.lst xs) → b ∉ [r] := by
    intro b xs hb m
    have e : b = r := by simpa using m
    exact ne_of hb ho (by intro z; cases z) e
  exact ⟨f _ _ h.o (by simpa using rp.symm), f _ _ h.w (nr h.w), f _ _ h.b (nr h.b), f _ _ h.f (nr h.f), f _ _ h.l (nr h.l), f _ _ h.k (nr h.k), f _ _ h.t (nr h.t), h.nd⟩
theorem lst_off {H H' : Hp} {q r dr R : Addr} {xs : List V} {fs : List (Str × V)} (h : H q = some (.lst xs)) (ho : H r = some (.ins R dr fs)) (f : Fx [r] H H') : H' q = some (.lst xs) := f _ _ h (by
  have z := ne_of h ho (by intro z; cases z)
  simpa using z)
theorem same_off {H0 H H' : Hp} {r : Addr} (e : Same H0 H) (h0 : H0 r = none) (f : Fx [r] H H') : Same H0 H' := fun b o hb => f b o (e b o hb) (by
  have z := ne_of_none hb h0
  simpa using z)
section
variable {P : Program} {w : World} {K : PySem.W.Frag} {mg : Str → Option Value} {base : Heap} {C R : Addr}
def spAns (K : PySem.W.Frag) : Sp := fun vs H Q _ => ∃ (a : Addr) (l : List Int), vs = [V.ref a] ∧ SqL K H a (iL l) ∧ PyVbrgak.answers_asked l = true ∧ ∀ (H' : Hp) (p : Addr), H' p = some (.lst (iL (PyVbrgak.answers l))) → Q (.ref p) H'
theorem sc_answers : FnScope ["calls", "house", "reader", "answered", "call", "numbers", "rows", "answer"] ["calls"] (defScope (top 114)) := ⟨rfl, rfl, rfl, by decide +kernel, rfl, by decide +kernel, by decide +kernel⟩
theorem fn_answers {f : Addr} {fd : FuncData} (F : Fun K "answers" "answers" (top 114) f fd) (T : Txt K mg C) (TR : TxtR K mg R) (m_House : Made P w K mg base "House" C ["self"] 1 (spHouse C)) (m_Reader : Made P w K mg base "Reader" R ["self", "calls"] 1 (spReader R))
    (h_has_more : HasM P w K mg base R "has_more" ["self"] 1 (spMore K R)) (h_take_number : HasM P w K mg base R "take_number" ["self"] 1 (spTake1 K R))
    (h_read_numbers : Has P w K mg base "read_numbers" ["reader", "call"] 2 (spReadN K R)) (h_read_rows : Has P w K mg base "read_rows" ["reader"] 2 (spRead4 K R))
    (h_answer_call : Has P w K mg base "answer_call" ["house", "call", "numbers", "rows"] 9 (spCallB C)) : FnOk P w K mg base CX0 10 f fd ["calls"] (spAns K) := by
  refine F.ok sc_answers (fun vs H Q E h => ?_) (fun cdv Ar outer sh H0 vs Q E hr h => ?_)
  · obtain ⟨a, l, rfl, _⟩ := h
    rfl
  · obtain ⟨a, l, rfl, hS, hask, kk⟩ := h
    refine ⟨_, (pss_cons (ps_set (i := 1) sc_answers.nd rfl (Or.inl rfl) (pe_mk0 m_House (hr.mono (by decide)) rfl)) (pss_cons (ps_set (i := 2) sc_answers.nd rfl (Or.inl rfl) (pe_mk1 m_Reader (hr.mono (by decide)) rfl (pa_cons (pv 0) pa_nil))) (pss_cons (ps_set (i := 3) sc_answers.nd rfl (Or.inl rfl) (pe_lst pa_nil)) (pss_cons (ps_while PassesOwn.never (pt_val (pe_hasM0 (pv 2) TR.cl h_has_more (hr.mono (by decide)))) (pss_cons (ps_set (i := 4) sc_answers.nd rfl (Or.inl rfl) (pe_hasM0 (pv 2) TR.cl h_take_number (hr.mono (by decide)))) (pss_cons (ps_set (i := 5) sc_answers.nd rfl (Or.inl rfl) (pe_has h_read_numbers (hr.mono (by decide)) rfl (pa_cons (pv 2) (pa_cons (pv 4) pa_nil)))) (pss_cons (ps_set (i := 6) sc_answers.nd rfl (Or.inl rfl) (pe_ifExp (pt_cmpR op_eq (pv 4) (pe_gI rfl T.g_OPEN) (nomark _)) (pe_has h_read_rows (hr.mono (by decide)) rfl (pa_cons (pv 2) pa_nil)) (pe_lst pa_nil))) (pss_cons (ps_set (i := 7) sc_answers.nd rfl (Or.inl rfl) (pe_has h_answer_call (hr.mono (by decide)) rfl (pa_cons (pv 1) (pa_cons (pv 4) (pa_cons (pv 5) (pa_cons (pv 6) pa_nil)))))) (pss_cons (ps_expr (pe_bm PySem.F.plainAttrs_list PySem.F.slot_list_append PySem.F.type_list_append mt_append (pv 3) (pa_cons (pe_callB call_len_seq rfl T.n_len PySem.boot_len (pa_cons (pv 7) pa_nil)) pa_nil))) (pss_one (ps_expr (pe_bm PySem.F.plainAttrs_list PySem.F.slot_list_extend PySem.F.type_list_extend mt_extend (pv 3) (pa_cons (pv 7) pa_nil)))))))))) (pss_one (ps_ret (pv 3))))))), ?_⟩
    -- what's asked
    obtain ⟨cs0, hcs0, hlen0, hW⟩ : ∃ cs, PyFlat.calls PyVbrgak.shape l.length l = some cs ∧ cs.length ≤ 400 ∧ PyVbrgak.answers l = PyFlat.told (PyFlat.played VbrgakNeutral.step Vbrgak.start (cs.map PyVbrgak.whole)) := by
      unfold PyVbrgak.answers_asked PyVbrgak.calls at hask
      unfold PyVbrgak.answers PyVbrgak.calls
      cases e : PyFlat.calls PyVbrgak.shape l.length l with
      | none =>
        simp only [e] at hask
        cases hask
      | some cs =>
        simp only [e] at hask
        rw [Bool.and_eq_true] at hask
        have q := of_decide_eq_true hask.1
        rw [List.length_map] at q
        exact ⟨cs, rfl, q, rfl⟩
    -- house = House(); reader = Reader(calls); answered = []
    intro x dx nx ndx nex
    refine ⟨x, dx, rfl, upd_same, fun B H1 eB1 eB2 hB frB kp => ⟨rfl, ?_⟩⟩
    have sm1 : Same H0 H1 := Same.made nx ndx kp
    refine ⟨_, rfl, ?_⟩
    intro r dr nr ndr ner
    refine ⟨r, dr, a, rfl, upd_same, fun H2 o2 kp2 => ⟨rfl, ?_⟩⟩
    have sm2 : Same H1 H2 := Same.made nr ndr kp2
    refine ⟨(by show 0 ≤ sizeLine; decide), fun qa hqa => ?_⟩
    subst eB1 eB2
    have sm3 : Same H2 (upd H2 qa (.lst [])) := same_upd (Same.refl _) hqa
    have hB2 := hB.same sm2
    have hr0 : H0 r = none := sm1.free nr
    have hqa0 : H0 qa = none := (sm1.trans sm2).free hqa
    have sm : Same H0 (upd H2 qa (.lst [])) := (sm1.trans sm2).trans sm3
    have neq : ∀ b ∈ adl B, b ≠ qa := by
      intro b m
      have m : b = B.aw ∨ b = B.ab ∨ b = B.af ∨ b = B.al ∨ b = B.ap ∨ b = B.at_ := by simpa [adl] using m
      rcases m with rfl | rfl | rfl | rfl | rfl | rfl
      · exact ne_of_none hB2.w hqa
      · exact ne_of_none hB2.b hqa
      · exact ne_of_none hB2.f hqa
      · exact ne_of_none hB2.l hqa
      · exact ne_of_none hB2.k hqa
      · exact ne_of_none hB2.t hqa
    have L0 : Loop K C R H0 a l r dr qa (PyVbrgak.answers l) (upd H2 qa (.lst [])) B s0 Vbrgak.start 0 [] cs0 l.length 0 :=
      ⟨⟨by rw [upd_ne (ne_of_none o2 hqa)]; exact o2, sm.seq hS, Nat.zero_le _⟩, hB2.same sm3, .inr ⟨rfl, rfl⟩, upd_same, sm, fun e => (ne_of_none hB.o nr) e.symm, neq, nx, fun b m => made_free (frB b m), hcs0, by rw [hW]; rfl, Nat.zero_le _, by omega⟩
    refine ⟨fun m σ H' => ∃ (A : Ad) (s st : State) (i : Nat) (done : List Int) (cs : List (List (List Int))) (fu n : Nat) (v4 v5 v6 v7 : Option V), m = cs.length ∧ A.p = B.p ∧ σ = [some (.ref a), some (.ref B.p), some (.ref r), some (.ref qa), v4, v5, v6, v7] ∧ Loop K C R H0 a l r dr qa (PyVbrgak.answers l) H' A s st i done cs fu n,
      ⟨_, B, s0, Vbrgak.start, 0, [], cs0, l.length, 0, none, none, none, none, rfl, rfl, rfl, L0⟩, ?_⟩
    rintro m σ H3 ⟨A, s, st, i, done, cs, fu, n, v4, v5, v6, v7, rfl, eA, rfl, L⟩
    refine ⟨_, rfl, r, dr, _, rfl, L.ra.o, rfl, r, dr, a, l, i, rfl, L.ra, ?_⟩
    rintro _ rfl
    refine ⟨_, rfl, ?_⟩
    refine iteD (fun hi => ?_) (fun hi => ?_)
    · refine ⟨_, fun _ _ h => h, ?_⟩
      have hdr : l.drop i = l[i] :: l.drop (i + 1) := List.drop_eq_getElem_cons hi
      have hcs := L.hcs
      rw [hdr] at hcs
      obtain ⟨fu', c0, t, cs', hcall, hcs', rfl⟩ := calls_cons hcs
      obtain ⟨k, hk, hk19, hkl, xs, hrows, rfl⟩ := call_some hcall
      have hz : l[i]? = some (k : Int) := by rw [List.getElem?_eq_getElem hi, hk]
      -- call = reader.take_number()
      refine ⟨_, rfl, r, dr, _, rfl, L.ra.o, rfl, r, dr, a, l, i, (k : Int), rfl, L.ra, hz, ?_⟩
      intro H4 ra4 f4
      rw [List.length_drop] at hkl
      -- numbers = read_numbers(reader, call)
      refine ⟨_, rfl, _, rfl, r, dr, a, l, i + 1, (k : Int), rng k, rfl, ra4, val_rng hk19, by omega, ?_⟩
      intro H5 qn ra5 hqn nqn f5
      have f35 : Fx [r] H3 H5 := f4.trans f5
      have nl : ((l.drop (i + 1)).take (rng k).length).length = (rng k).length := by
        rw [List.length_take, List.length_drop]
        omega
      -- rows = read_rows(reader) if call == OPEN else []
      refine ⟨_, rfl, rfl, _, rfl, ?_⟩
      refine iteE (fun c0 => ?_) (fun c0 => ?_)
      · have k0 : k = 0 := by omega
        have hrows4 : PyFlat.rows 4 (l.drop (i + 1 + (rng k).length)) = some (xs, t) := by
          rw [if_pos k0] at hrows
          rw [← List.drop_drop]
          exact hrows
        refine ⟨_, rfl, r, dr, a, l, i + 1 + (rng k).length, xs, t, rfl, ra5, hrows4, ?_⟩
        intro H6 qr rs j ra6 ej hR nqr f6
        have ha6 := L.ha.off L.ra.o L.rp (f35.trans f6)
        have qa6 := lst_off L.hqa L.ra.o (f35.trans f6)
        have sm6 := same_off L.sm hr0 (f35.trans f6)
        have qn6 := lst_off hqn ra5.o f6
        refine ⟨_, rfl, _, rfl, _, rfl, _, rfl, A, s, st, qn, qr, rs, k, (l.drop (i + 1)).take (rng k).length, xs, (by rw [eA]; rfl), hk19, qn6, nl, hR, rows_len hrows, L.rel, ha6, ?_⟩
        intro H7 q A' s' rel' ep hA' hadl hq nq fx
        have ec : l[i] = (k : Int) := hk
        have nfq : qa ∉ foot A := fun m => by
          have m : qa = A.p ∨ qa = A.ap ∨ qa = A.at_ := by simpa [foot] using m
          rcases m with e | e | e
          · exact ne_of qa6 ha6.o (by intro z; cases z) e
          · exact L.ql A.ap (by simp [adl]) e.symm
          · exact L.ql A.at_ (by simp [adl]) e.symm
        have nfr : r ∉ foot A := fun m => by
          have m : r = A.p ∨ r = A.ap ∨ r = A.at_ := by simpa [foot] using m
          rcases m with e | e | e
          · exact L.rp e
          · exact ne_of ra6.o ha6.k (by intro z; cases z) e
          · exact ne_of ra6.o ha6.t (by intro z; cases z) e
        have qa7 := fx _ _ qa6 nfq
        have r7 := fx _ _ ra6.o nfr
        have nqq : q ≠ qa := (ne_of_none qa6 nq).symm
        have sm7 : Same H0 H7 := fun b o hb => fx b o (sm6 b o hb) fun m => by
          have m : b = A.p ∨ b = A.ap ∨ b = A.at_ := by simpa [foot] using m
          rcases m with e | e | e
          · rw [e, L.fp] at hb; cases hb
          · rw [e, L.fl A.ap (by simp [adl])] at hb; cases hb
          · rw [e, L.fl A.at_ (by simp [adl])] at hb; cases hb
        have al := ans_len (c := ((k : Int) :: (l.drop (i + 1)).take (rng k).length) :: xs) (rel_wf L.rel)
        have est : VbrgakNeutral.step st (((k : Int) :: (l.drop (i + 1)).take (rng k).length) :: xs) = Vbrgak.stepNumbers st (((k : Int) :: (l.drop (i + 1)).take (rng k).length) :: xs) := rfl
        have hwl := L.hw
        rw [List.map_cons, hk, whole_call hk19 nl (rows_len hrows), ← hk] at hwl
        have hwl : done ++ ((((VbrgakNeutral.step st ((l[i] :: (l.drop (i + 1)).take (rng k).length) :: xs)).2.length : Int) :: (VbrgakNeutral.step st ((l[i] :: (l.drop (i + 1)).take (rng k).length) :: xs)).2) ++ PyFlat.told (PyFlat.played VbrgakNeutral.step (VbrgakNeutral.step st ((l[i] :: (l.drop (i + 1)).take (rng k).length) :: xs)).1 (cs'.map PyVbrgak.whole))) = PyVbrgak.answers l := hwl
        rw [ec, est] at hwl
        generalize (Vbrgak.stepNumbers st (((k : Int) :: (l.drop (i + 1)).take (rng k).length) :: xs)).1 = st' at rel' hwl
        generalize (Vbrgak.stepNumbers st (((k : Int) :: (l.drop (i + 1)).take (rng k).length) :: xs)).2 = ans at hq hwl al
        have dl := L.len
        have cn := L.cnt
        rw [List.length_cons] at cn
        refine ⟨_, rfl, .inl ⟨rfl, _, SqL.of qa7⟩, _, rfl, _, _, rfl, .inl (SqL.of hq), qa, _, _, rfl, rfl, qa7, (by rw [iL_len]; exact Nat.lt_of_le_of_lt (show done.length ≤ 100000 by omega) (by decide)), ?_⟩
        refine ⟨_, rfl, .inl ⟨rfl, _, SqL.of upd_same⟩, _, rfl, qa, q, _, _, rfl, rfl, upd_same, (by rw [upd_ne nqq]; exact hq), (by rw [List.length_append, iL_len, List.length_map]; exact Nat.le_trans (show done.length + 1 + ans.length ≤ 100000 by omega) (by decide)), ?_⟩
        refine ⟨cs'.length, by rw [List.length_cons]; omega, A', s', st', j, done ++ ((ans.length : Int) :: ans), cs', fu', n + 1, _, _, _, _, rfl, ep.trans eA, rfl, ?_⟩
        have n9 : ∀ b o, H7 b = some o → b ≠ qa → (upd (upd H7 qa (.lst (iL done ++ [V.int ((ans.map V.int).length : Int)]))) qa (.lst (iL done ++ [V.int ((ans.map V.int).length : Int)] ++ ans.map V.int))) b = some o := fun b o hb nb => by
          rw [upd_ne nb, upd_ne nb]
          exact hb
        have sm9 : Same H0 (upd (upd H7 qa (.lst (iL done ++ [V.int ((ans.map V.int).length : Int)]))) qa (.lst (iL done ++ [V.int ((ans.map V.int).length : Int)] ++ ans.map V.int))) := fun b o hb => n9 b o (sm7 b o hb) (ne_of_none hb hqa0)
        have nql : ∀ b ∈ adl A', b ≠ qa := fun b m => by
          rcases hadl b m with z | z
          · exact L.ql b z
          · exact (ne_of_none qa6 z).symm
        refine ⟨⟨n9 _ _ r7 (ne_of r7 qa7 (by intro z; cases z)), sm9.seq hS, ra6.le⟩, hA'.frame (fun b o hb m => n9 b o hb ?_), rel', ?_, sm9, by rw [ep]; exact L.rp, nql, by rw [ep]; exact L.fp, ?_, by rw [ej]; exact hcs', ?_, ?_, by omega⟩
        · have m : b = A'.p ∨ b ∈ adl A' := by simpa [adl] using m
          rcases m with e | e
          · rw [e]
            exact ne_of hA'.o qa7 (by intro z; cases z)
          · exact nql b e
        · rw [upd_same, List.length_map]
          unfold iL
          simp
        · intro b m
          rcases hadl b m with z | z
          · exact L.fl b z
          · exact sm6.free z
        · rw [List.append_assoc]
          exact hwl
        · rw [List.length_append, List.length_cons]
          omega
      · have k0 : ¬ k = 0 := by omega
        rw [if_neg k0] at hrows
        have hr0' : some (([] : List (List Int)), (l.drop (i + 1)).drop (rng k).length) = some (xs, t) := hrows
        cases hr0'
        refine ⟨(by show 0 ≤ sizeLine; decide), fun qr hqr => ?_⟩
        obtain ⟨H6, eH6⟩ : ∃ H6, H6 = upd H5 qr (.lst []) := ⟨_, rfl⟩
        rw [← eH6]
        have f6 : Fx [r] H5 H6 := by rw [eH6]; exact Fx.new hqr
        have ra6 : RA K R H6 r dr a l (i + 1 + (rng k).length) := by rw [eH6]; exact ra5.same (same_upd (Same.refl _) hqr)
        obtain ⟨j, ejj⟩ : ∃ j, j = i + 1 + (rng k).length := ⟨_, rfl⟩
        rw [← ejj] at ra6
        have ej : l.drop j = (l.drop (i + 1)).drop (rng k).length := by rw [ejj, List.drop_drop]
        obtain ⟨xs, exs⟩ : ∃ xs : List (List Int), xs = [] := ⟨_, rfl⟩
        have hrows : PyFlat.rows (if k = 0 then 4 else 0) ((l.drop (i + 1)).drop (rng k).length) = some (xs, (l.drop (i + 1)).drop (rng k).length) := by rw [if_neg k0, exs]; rfl
        have hR : RowsAt H6 qr [] xs := by rw [eH6, exs]; exact ⟨upd_same, rfl, fun i a n h => by simp at h⟩
        obtain ⟨rs, ers⟩ : ∃ rs : List Addr, rs = [] := ⟨_, rfl⟩
        rw [← ers] at hR
        rw [← exs] at L hcs
        have ha6 := L.ha.off L.ra.o L.rp (f35.trans f6)
        have qa6 := lst_off L.hqa L.ra.o (f35.trans f6)
        have sm6 := same_off L.sm hr0 (f35.trans f6)
        have qn6 := lst_off hqn ra5.o f6
        refine ⟨_, rfl, _, rfl, _, rfl, _, rfl, A, s, st, qn, qr, rs, k, (l.drop (i + 1)).take (rng k).length, xs, (by rw [eA]; rfl), hk19, qn6, nl, hR, rows_len hrows, L.rel, ha6, ?_⟩
        intro H7 q A' s' rel' ep hA' hadl hq nq fx
        have ec : l[i] = (k : Int) := hk
        have nfq : qa ∉ foot A := fun m => by
          have m : qa = A.p ∨ qa = A.ap ∨ qa = A.at_ := by simpa [foot] using m
          rcases m with e | e | e
          · exact ne_of qa6 ha6.o (by intro z; cases z) e
          · exact L.ql A.ap (by simp [adl]) e.symm
          · exact L.ql A.at_ (by simp [adl]) e.symm
        have nfr : r ∉ foot A := fun m => by
          have m : r = A.p ∨ r = A.ap ∨ r = A.at_ := by simpa [foot] using m
          rcases m with e | e | e
          · exact L.rp e
          · exact ne_of ra6.o ha6.k (by intro z; cases z) e
          · exact ne_of ra6.o ha6.t (by intro z; cases z) e
        have qa7 := fx _ _ qa6 nfq
        have r7 := fx _ _ ra6.o nfr
        have nqq : q ≠ qa := (ne_of_none qa6 nq).symm
        have sm7 : Same H0 H7 := fun b o hb => fx b o (sm6 b o hb) fun m => by
          have m : b = A.p ∨ b = A.ap ∨ b = A.at_ := by simpa [foot] using m
          rcases m with e | e | e
          · rw [e, L.fp] at hb; cases hb
          · rw [e, L.fl A.ap (by simp [adl])] at hb; cases hb
          · rw [e, L.fl A.at_ (by simp [adl])] at hb; cases hb
        have al := ans_len (c := ((k : Int) :: (l.drop (i + 1)).take (rng k).length) :: xs) (rel_wf L.rel)
        have est : VbrgakNeutral.step st (((k : Int) :: (l.drop (i + 1)).take (rng k).length) :: xs) = Vbrgak.stepNumbers st (((k : Int) :: (l.drop (i + 1)).take (rng k).length) :: xs) := rfl
        have hwl := L.hw
        rw [List.map_cons, hk, whole_call hk19 nl (rows_len hrows), ← hk] at hwl
        have hwl : done ++ ((((VbrgakNeutral.step st ((l[i] :: (l.drop (i + 1)).take (rng k).length) :: xs)).2.length : Int) :: (VbrgakNeutral.step st ((l[i] :: (l.drop (i + 1)).take (rng k).length) :: xs)).2) ++ PyFlat.told (PyFlat.played VbrgakNeutral.step (VbrgakNeutral.step st ((l[i] :: (l.drop (i + 1)).take (rng k).length) :: xs)).1 (cs'.map PyVbrgak.whole))) = PyVbrgak.answers l := hwl
        rw [ec, est] at hwl
        generalize (Vbrgak.stepNumbers st (((k : Int) :: (l.drop (i + 1)).take (rng k).length) :: xs)).1 = st' at rel' hwl
        generalize (Vbrgak.stepNumbers st (((k : Int) :: (l.drop (i + 1)).take (rng k).length) :: xs)).2 = ans at hq hwl al
        have dl := L.len
        have cn := L.cnt
        rw [List.length_cons] at cn
        refine ⟨_, rfl, .inl ⟨rfl, _, SqL.of qa7⟩, _, rfl, _, _, rfl, .inl (SqL.of hq), qa, _, _, rfl, rfl, qa7, (by rw [iL_len]; exact Nat.lt_of_le_of_lt (show done.length ≤ 100000 by omega) (by decide)), ?_⟩
        refine ⟨_, rfl, .inl ⟨rfl, _, SqL.of upd_same⟩, _, rfl, qa, q, _, _, rfl, rfl, upd_same, (by rw [upd_ne nqq]; exact hq), (by rw [List.length_append, iL_len, List.length_map]; exact Nat.le_trans (show done.length + 1 + ans.length ≤ 100000 by omega) (by decide)), ?_⟩
        refine ⟨cs'.length, by rw [List.length_cons]; omega, A', s', st', j, done ++ ((ans.length : Int) :: ans), cs', fu', n + 1, _, _, _, _, rfl, ep.trans eA, rfl, ?_⟩
        have n9 : ∀ b o, H7 b = some o → b ≠ qa → (upd (upd H7 qa (.lst (iL done ++ [V.int ((ans.map V.int).length : Int)]))) qa (.lst (iL done ++ [V.int ((ans.map V.int).length : Int)] ++ ans.map V.int))) b = some o := fun b o hb nb => by
          rw [upd_ne nb, upd_ne nb]
          exact hb
        have sm9 : Same H0 (upd (upd H7 qa (.lst (iL done ++ [V.int ((ans.map V.int).length : Int)]))) qa (.lst (iL done ++ [V.int ((ans.map V.int).length : Int)] ++ ans.map V.int))) := fun b o hb => n9 b o (sm7 b o hb) (ne_of_none hb hqa0)
        have nql : ∀ b ∈ adl A', b ≠ qa := fun b m => by
          rcases hadl b m with z | z
          · exact L.ql b z
          · exact (ne_of_none qa6 z).symm
        refine ⟨⟨n9 _ _ r7 (ne_of r7 qa7 (by intro z; cases z)), sm9.seq hS, ra6.le⟩, hA'.frame (fun b o hb m => n9 b o hb ?_), rel', ?_, sm9, by rw [ep]; exact L.rp, nql, by rw [ep]; exact L.fp, ?_, by rw [ej]; exact hcs', ?_, ?_, by omega⟩
        · have m : b = A'.p ∨ b ∈ adl A' := by simpa [adl] using m
          rcases m with e | e
          · rw [e]
            exact ne_of hA'.o qa7 (by intro z; cases z)
          · exact nql b e
        · rw [upd_same, List.length_map]
          unfold iL
          simp
        · intro b m
          rcases hadl b m with z | z
          · exact L.fl b z
          · exact sm6.free z
        · rw [List.append_assoc]
          exact hwl
        · rw [List.length_append, List.length_cons]
          omega
    · have hl : l.drop i = [] := List.drop_eq_nil_of_le (by omega)
      have hcs := L.hcs
      rw [hl] at hcs
      have ec := calls_nil hcs
      subst ec
      refine ⟨_, rfl, ?_⟩
      have hw := L.hw
      have hw : done ++ [] = PyVbrgak.answers l := hw
      rw [List.append_nil] at hw
      exact kk H3 qa (by rw [← hw]; exact L.hqa)
end
end Ho
end
section
set_option linter.all false
section
set_option Elab.async false
set_option linter.all false
set_option maxRecDepth 100000
set_option maxHeartbeats 2000000
namespace L2
open PySem PySem.Spec PyProof.Rows
open PySem.W (WData Codec OpenSpec Well WellAll ReadsW ReadsAllW)
/-! ### an answer as data -/
mutual
/-- x stands for the datum d, lists and tuples all the way -/
inductive Dw (K : PySem.W.Frag) (H : Hp) : V → WData → Prop
  | non : Dw K H .non .none
  | bl (b : Bool) : Dw K H (.bl b) (.bool b)
  | int (i : Int) : Dw K H (.int i) (.int i)
  | str (x : Str) : Dw K H (.str x) (.str x)
  | byt (b : Array UInt8) : Dw K H (.byt b) (.bytes b.toList)
  | lst {a : Addr} {xs : List V} {ds : List WData} : SqL K H a xs → DwAll K H xs ds → Dw K H (.ref a) (.list ds)
  | tup {a : Addr} {xs : List V} {ds : List WData} : SqT K H a xs → DwAll K H xs ds → Dw K H (.ref a) (.tuple ds)
inductive DwAll (K : PySem.W.Frag) (H : Hp) : List V → List WData → Prop
  | nil : DwAll K H [] []
  | cons {v : V} {vs : List V} {d : WData} {ds : List WData} : Dw K H v d → DwAll K H vs ds → DwAll K H (v :: vs) (d :: ds)
end
theorem dw_ints {K : PySem.W.Frag} {H : Hp} : ∀ ns : List Int, DwAll K H (ns.map V.int) (ns.map WData.int)
  | [] => .nil
  | n :: r => .cons (.int n) (dw_ints r)
theorem ints_dw {K : PySem.W.Frag} {H : Hp} : ∀ (ns : List Int) (xs : List V), DwAll K H xs (ns.map WData.int) → xs = ns.map V.int
  | [], xs, h => by
    cases h
    rfl
  | n :: r, xs, h => by
    cases h with
    | cons h1 h2 =>
      cases h1
      rw [ints_dw r _ h2] <;> rfl
section
variable {P : Program} {w : World} {K : PySem.W.Frag} {H : Hp} {h : Heap} {R : PySem.W.WRecords} {cl : Str → Option Addr}
theorem sqL_at {a : Addr} {xs : List V} (hok : HOk P w H h) (KX : K.In h) (q : SqL K H a xs) : ∃ (its : List Value) (o : Obj) (n : Nat), Vals xs its ∧ h.get? a = some o ∧ o.cls = .type "list" ∧ o.data = .seq its.toArray n := by
  rcases q with q | ⟨o, its, n, e, hc, _, hd, _, hv⟩
  · obtain ⟨_, its, n, hv, e⟩ := (show ObjOk P w H h a (.lst xs) from q.ok hok)
    exact ⟨its, _, n, hv, e, rfl, rfl⟩
  · exact ⟨its.toList, o, n, hv, KX _ _ e, hc, by simp [hd]⟩
theorem sqT_at {a : Addr} {xs : List V} (hok : HOk P w H h) (KX : K.In h) (q : SqT K H a xs) : ∃ (its : List Value) (o : Obj) (n : Nat), Vals xs its ∧ h.get? a = some o ∧ o.cls = .type "tuple" ∧ o.data = .seq its.toArray n := by
  rcases q with q | ⟨o, its, n, e, hc, hd, _, hv⟩
  · obtain ⟨_, its, hv, o, e, hc, n, hd⟩ := (show ObjOk P w H h a (.tup xs) from q.ok hok)
    exact ⟨its, o, n, hv, e, hc, hd⟩
  · exact ⟨its.toList, o, n, hv, KX _ _ e, hc, by simp [hd]⟩
mutual
theorem Dw.reads (hok : HOk P w H h) (KX : K.In h) : ∀ (d : WData) (v : V) (u : Value), Dw K H v d → RelV v u → ∃ as, ReadsW R cl h u d as
  | .none, _, _, x, r => by
    cases x
    cases r
    exact ⟨_, ReadsW.none⟩
  | .bool b, _, _, x, r => by
    cases x
    cases r
    exact ⟨_, ReadsW.bool b⟩
  | .int i, _, _, x, r => by
    cases x
    obtain ⟨t, rfl⟩ := r
    exact ⟨_, ReadsW.int i t⟩
  | .str s, _, _, x, r => by
    cases x
    obtain ⟨t, rfl⟩ := r
    exact ⟨_, ReadsW.str s t⟩
  | .bytes b, _, _, x, r => by
    cases x
    obtain ⟨t, rfl⟩ := r
    exact ⟨_, ReadsW.bytes _ t⟩
  | .list ds, _, _, x, r => by
    cases x with
    | lst hs ha =>
      cases r
      obtain ⟨its, o, n, rv, ho, hc, hd⟩ := sqL_at hok KX hs
      obtain ⟨as, hr⟩ := Dw.readsAll hok KX ds _ its ha rv
      exact ⟨_, ReadsW.list ho hc hd hr⟩
  | .tuple ds, _, _, x, r => by
    cases x with
    | tup hs ha =>
      cases r
      obtain ⟨its, o, n, rv, ho, hc, hd⟩ := sqT_at hok KX hs
      obtain ⟨as, hr⟩ := Dw.readsAll hok KX ds _ its ha rv
      exact ⟨_, ReadsW.tuple ho hc hd hr⟩
  | .float _, _, _, x, _ => by cases x
  | .dict _, _, _, x, _ => by cases x
  | .bytearray _, _, _, x, _ => by cases x
  | .set _, _, _, x, _ => by cases x
  | .frozenset _, _, _, x, _ => by cases x
  | .obj _ _, _, _, x, _ => by cases x
theorem Dw.readsAll (hok : HOk P w H h) (KX : K.In h) : ∀ (ds : List WData) (vs : List V) (us : List Value), DwAll K H vs ds → Vals vs us → ∃ as, ReadsAllW R cl h us ds as
  | [], _, _, x, r => by
    cases x
    cases r
    exact ⟨_, ReadsAllW.nil⟩
  | d :: ds, _, _, x, r => by
    cases x with
    | cons h1 h2 =>
      cases r with
      | cons r1 r2 =>
        obtain ⟨as, q1⟩ := Dw.reads hok KX d _ _ h1 r1
        obtain ⟨bs, q2⟩ := Dw.readsAll hok KX ds _ _ h2 r2
        exact ⟨_, ReadsAllW.cons q1 q2⟩
end
end
/-! ### the arguments -/
mutual
/-- data that a codec tells -/
def plW : WData → Bool
  | .none => true
  | .bool _ => true
  | .int _ => true
  | .str _ => true
  | .bytes _ => true
  | .list xs => plWs xs
  | .tuple xs => plWs xs
  | _ => false
def plWs : List WData → Bool
  | [] => true
  | x :: r => plW x && plWs r
end
theorem plWs_map {α : Type} {f : α → WData} (h : ∀ a, plW (f a) = true) : ∀ l : List α, plWs (l.map f) = true
  | [] => rfl
  | x :: r => by
    show (plW (f x) && plWs (r.map f)) = true
    rw [h x, plWs_map h r] <;> rfl
theorem pl_enc : ∀ (c : Codec) (a : c.denote), plW (c.enc a) = true
  | .unit, _ => rfl
  | .bool, _ => rfl
  | .int _ _, _ => rfl
  | .nat _ _, _ => rfl
  | .u8, _ => rfl
  | .bytes _ _, _ => rfl
  | .text _ _ _ _, _ => rfl
  | .list _ _ c, a => plWs_map (fun x => pl_enc c x) a
  | .pair c d, a => by
    show (plW (c.enc a.1) && (plW (d.enc a.2) && true)) = true
    rw [pl_enc c a.1, pl_enc d a.2] <;> rfl
  | .triple c d e, a => by
    show (plW (c.enc a.1) && (plW (d.enc a.2.1) && (plW (e.enc a.2.2) && true))) = true
    rw [pl_enc c a.1, pl_enc d a.2.1, pl_enc e a.2.2] <;> rfl
  | .option c, none => rfl
  | .option c, some x => pl_enc c x
theorem pl_encAll : ∀ (cs : List Codec) (a : Codec.denoteAll cs), plWs (Codec.encAll cs a) = true
  | [], _ => rfl
  | c :: cs, a => by
    show (plW (c.enc a.1) && plWs (Codec.encAll cs a.2)) = true
    rw [pl_enc c a.1, pl_encAll cs a.2] <;> rfl
theorem weight_mem : ∀ {xs : List WData} {d : WData}, d ∈ xs → d.weight ≤ WData.weightAll xs
  | [], d, h => absurd h (by simp)
  | x :: r, d, h => by
    show d.weight ≤ x.weight + 1 + WData.weightAll r
    rcases List.mem_cons.mp h with e | m
    · rw [e]
      omega
    · have z := weight_mem m
      omega
def toV : Value → V
  | .none => .non
  | .bool b => .bl b
  | .int i _ => .int i
  | .str x _ => .str x
  | .bytes b _ => .byt b
  | .ref a => .ref a
  | _ => .non
/-- a value of the arguments, its objects among A -/
def OkU (A : List Addr) : Value → Prop
  | .none => True
  | .bool _ => True
  | .int _ _ => True
  | .str _ _ => True
  | .bytes _ _ => True
  | .ref a => a ∈ A
  | _ => False
theorem OkU.mono {A B : List Addr} (h : ∀ a ∈ A, a ∈ B) : ∀ {u : Value}, OkU A u → OkU B u := fun {u} x => by
  cases u with
  | ref a => exact h a x
  | none => trivial
  | bool b => trivial
  | int i t => trivial
  | str s t => trivial
  | bytes b t => trivial
  | _ => exact False.elim x
theorem relV_toV {A : List Addr} {u : Value} (x : OkU A u) : RelV (toV u) u := by
  cases u with
  | ref a => rfl
  | none => rfl
  | bool b => rfl
  | int i t => exact ⟨t, rfl⟩
  | str s t => exact ⟨t, rfl⟩
  | bytes b t => exact ⟨t, rfl⟩
  | _ => exact False.elim x
theorem vals_toV {A : List Addr} : ∀ {vs : List Value}, (∀ u ∈ vs, OkU A u) → Vals (vs.map toV) vs
  | [], _ => .nil
  | u :: r, h => .cons (relV_toV (h u (List.mem_cons_self ..))) (vals_toV fun x hx => h x (List.mem_cons_of_mem _ hx))
/-- an object of the arguments -/
def ArgOb (h : Heap) (A : List Addr) (a : Addr) : Prop := ∃ vs : List Value, vs.length ≤ sizeLine ∧ (∀ u ∈ vs, OkU A u) ∧
  (h.get? a = some { cls := .type "list", data := .seq vs.toArray } ∨ h.get? a = some { cls := .type "tuple", data := .seq vs.toArray })
theorem ArgOb.mono {h : Heap} {A B : List Addr} {a : Addr} (k : ∀ a ∈ A, a ∈ B) (x : ArgOb h A a) : ArgOb h B a := by
  obtain ⟨vs, h1, h2, h3⟩ := x
  exact ⟨vs, h1, fun u hu => (h2 u hu).mono k, h3⟩
theorem wellAll_len {P : Params} {h : Heap} : ∀ {vs : List Value} {ds : List WData}, WellAll P h vs ds → vs.length = ds.length
  | _, _, .nil => rfl
  | _, _, .cons _ b => by
    show _ + 1 = _ + 1
    rw [wellAll_len b]
theorem well_list {P : Params} {h : Heap} {v : Value} {ds : List WData} (x : Well P h v (.list ds)) : ∃ (a : Addr) (vs : List Value), v = .ref a ∧ h.get? a = some { cls := .type "list", data := .seq vs.toArray } ∧ WellAll P h vs ds := by
  cases x with
  | list ho hall => exact ⟨_, _, rfl, ho, hall⟩
theorem well_tuple {P : Params} {h : Heap} {v : Value} {ds : List WData} (x : Well P h v (.tuple ds)) : ∃ (a : Addr) (vs : List Value), v = .ref a ∧ h.get? a = some { cls := .type "tuple", data := .seq vs.toArray } ∧ WellAll P h vs ds := by
  cases x with
  | tuple ho hall => exact ⟨_, _, rfl, ho, hall⟩
theorem well_cons {P : Params} {h : Heap} {us : List Value} {d : WData} {ds : List WData} (x : WellAll P h us (d :: ds)) : ∃ (v : Value) (vs : List Value), us = v :: vs ∧ Well P h v d ∧ WellAll P h vs ds := by
  cases x with
  | cons a b => exact ⟨_, _, rfl, a, b⟩
theorem line_of {n : Nat} (h : n ≤ 1048576) : n ≤ sizeLine := Nat.le_trans h (by decide)
section
variable {P : Params} {h : Heap}
mutual
theorem area_one : ∀ (d : WData) (v : Value), Well P h v d → plW d = true → d.weight ≤ 1048576 → ∃ A : List Addr, OkU A v ∧ ∀ a ∈ A, ArgOb h A a
  | .none, _, x, _, _ => by
    cases x
    exact ⟨[], trivial, fun a m => absurd m (by simp)⟩
  | .bool b, _, x, _, _ => by
    cases x
    exact ⟨[], trivial, fun a m => absurd m (by simp)⟩
  | .int i, _, x, _, _ => by
    cases x
    exact ⟨[], trivial, fun a m => absurd m (by simp)⟩
  | .str s, _, x, _, _ => by
    cases x
    exact ⟨[], trivial, fun a m => absurd m (by simp)⟩
  | .bytes b, _, x, _, _ => by
    cases x
    exact ⟨[], trivial, fun a m => absurd m (by simp)⟩
  | .list ds, _, x, p, z => by
    obtain ⟨a, vs, rfl, ho, hall⟩ := well_list x
    have z2 : WData.weightAll ds ≤ 1048576 := z
    obtain ⟨A, h1, h2⟩ := area_all ds _ hall p fun d hd => Nat.le_trans (weight_mem hd) z2
    have k : ∀ b ∈ A, b ∈ a :: A := fun b hb => List.mem_cons_of_mem _ hb
    refine ⟨a :: A, List.mem_cons_self .., fun b hb => ?_⟩
    rcases List.mem_cons.mp hb with e | m
    · rw [e]
      exact ⟨vs, line_of (by rw [wellAll_len hall]; exact Nat.le_trans (PySem.W.length_le_weightAllW ds) z2), fun u hu => (h1 u hu).mono k, .inl ho⟩
    · exact (h2 b m).mono k
  | .tuple ds, _, x, p, z => by
    obtain ⟨a, vs, rfl, ho, hall⟩ := well_tuple x
    have z2 : WData.weightAll ds ≤ 1048576 := z
    obtain ⟨A, h1, h2⟩ := area_all ds _ hall p fun d hd => Nat.le_trans (weight_mem hd) z2
    have k : ∀ b ∈ A, b ∈ a :: A := fun b hb => List.mem_cons_of_mem _ hb
    refine ⟨a :: A, List.mem_cons_self .., fun b hb => ?_⟩
    rcases List.mem_cons.mp hb with e | m
    · rw [e]
      exact ⟨vs, line_of (by rw [wellAll_len hall]; exact Nat.le_trans (PySem.W.length_le_weightAllW ds) z2), fun u hu => (h1 u hu).mono k, .inr ho⟩
    · exact (h2 b m).mono k
  | .float _, _, _, p, _ => Bool.noConfusion (show false = true from p)
  | .dict _, _, _, p, _ => Bool.noConfusion (show false = true from p)
  | .bytearray _, _, _, p, _ => Bool.noConfusion (show false = true from p)
  | .set _, _, _, p, _ => Bool.noConfusion (show false = true from p)
  | .frozenset _, _, _, p, _ => Bool.noConfusion (show false = true from p)
  | .obj _ _, _, _, p, _ => Bool.noConfusion (show false = true from p)
theorem area_all : ∀ (ds : List WData) (vs : List Value), WellAll P h vs ds → plWs ds = true → (∀ d ∈ ds, d.weight ≤ 1048576) → ∃ A : List Addr, (∀ u ∈ vs, OkU A u) ∧ ∀ a ∈ A, ArgOb h A a
  | [], _, x, _, _ => by
    cases x
    exact ⟨[], fun u m => absurd m (by simp), fun a m => absurd m (by simp)⟩
  | d :: ds, _, x, p, z => by
    obtain ⟨v, vs, rfl, x1, x2⟩ := well_cons x
    have q : plW d = true ∧ plWs ds = true := Bool.and_eq_true_iff.mp p
    obtain ⟨A, a1, a2⟩ := area_one d v x1 q.1 (z d (List.mem_cons_self ..))
    obtain ⟨B, b1, b2⟩ := area_all ds vs x2 q.2 fun e he => z e (List.mem_cons_of_mem _ he)
    have kA : ∀ b ∈ A, b ∈ A ++ B := fun b hb => List.mem_append.mpr (.inl hb)
    have kB : ∀ b ∈ B, b ∈ A ++ B := fun b hb => List.mem_append.mpr (.inr hb)
    refine ⟨A ++ B, fun u hu => ?_, fun b hb => ?_⟩
    · rcases List.mem_cons.mp hu with e | m
      · rw [e]
        exact a1.mono kA
      · exact (b1 u m).mono kB
    · rcases List.mem_append.mp hb with m | m
      · exact (a2 b m).mono kA
      · exact (b2 b m).mono kB
end
end
/-- what is tracked of an argument's object -/
def hoOf (o : Obj) : Option HO := match o.data with
  | .seq vs _ => if (o.cls == Value.type "list") = true then some (.frz o (.lst (vs.toList.map toV))) else some (.frz o (.tup (vs.toList.map toV)))
  | _ => none
def argH (K : PySem.W.Frag) (h : Heap) (A : List Addr) : Hp := fun b => if b ∈ A then (if (K.lookup b).isNone = true then (h.get? b).bind hoOf else none) else none
/-- nothing is tracked but what is known to the object -/
def OnlyF (H : Hp) : Prop := ∀ b, H b = none ∨ ∃ o u, H b = some (.frz o u)
theorem hoOf_lst (vs : List Value) : hoOf { cls := .type "list", data := .seq vs.toArray } = some (.frz { cls := .type "list", data := .seq vs.toArray } (.lst (vs.map toV))) := by
  show (if (Value.type "list" == Value.type "list") = true then some (HO.frz { cls := .type "list", data := .seq vs.toArray } (.lst (vs.toArray.toList.map toV))) else some (HO.frz { cls := .type "list", data := .seq vs.toArray } (.tup (vs.toArray.toList.map toV)))) = _
  rw [if_pos (beq_self_eq_true _)]
theorem hoOf_tup (vs : List Value) : hoOf { cls := .type "tuple", data := .seq vs.toArray } = some (.frz { cls := .type "tuple", data := .seq vs.toArray } (.tup (vs.map toV))) := by
  show (if (Value.type "tuple" == Value.type "list") = true then some (HO.frz { cls := .type "tuple", data := .seq vs.toArray } (.lst (vs.toArray.toList.map toV))) else some (HO.frz { cls := .type "tuple", data := .seq vs.toArray } (.tup (vs.toArray.toList.map toV)))) = _
  rw [if_neg (by decide)]
section
variable {P : Program} {w : World} {K : PySem.W.Frag} {h : Heap} {A : List Addr}
theorem argH_at {b : Addr} {o : Obj} (hb : b ∈ A) (hk : K.lookup b = none) (e : h.get? b = some o) : argH K h A b = hoOf o := by
  unfold argH
  rw [if_pos hb, hk, if_pos (show (none : Option Obj).isNone = true from rfl), e] <;> rfl
theorem of_argH {b : Addr} {u : HO} (q : argH K h A b = some u) : b ∈ A ∧ K.lookup b = none := by
  unfold argH at q
  by_cases hb : b ∈ A
  · rw [if_pos hb] at q
    cases hk : K.lookup b with
    | none => exact ⟨hb, rfl⟩
    | some o =>
      rw [hk, if_neg (by simp)] at q
      cases q
  · rw [if_neg hb] at q
    cases q
/-- what stands tracked -/
theorem argH_is (ar : ∀ a ∈ A, ArgOb h A a) {b : Addr} {u : HO} (q : argH K h A b = some u) : K.lookup b = none ∧ ∃ vs : List Value, vs.length ≤ sizeLine ∧ (∀ u ∈ vs, OkU A u) ∧
    ((h.get? b = some { cls := .type "list", data := .seq vs.toArray } ∧ u = .frz { cls := .type "list", data := .seq vs.toArray } (.lst (vs.map toV))) ∨
     (h.get? b = some { cls := .type "tuple", data := .seq vs.toArray } ∧ u = .frz { cls := .type "tuple", data := .seq vs.toArray } (.tup (vs.map toV)))) := by
  obtain ⟨hb, hk⟩ := of_argH q
  obtain ⟨vs, h1, h2, h3⟩ := ar b hb
  refine ⟨hk, vs, h1, h2, ?_⟩
  rcases h3 with e | e
  · rw [argH_at hb hk e, hoOf_lst] at q
    exact .inl ⟨e, (Option.some.inj q).symm⟩
  · rw [argH_at hb hk e, hoOf_tup] at q
    exact .inr ⟨e, (Option.some.inj q).symm⟩
theorem argH_only (ar : ∀ a ∈ A, ArgOb h A a) : OnlyF (argH K h A) := fun b => by
  cases q : argH K h A b with
  | none => exact .inl rfl
  | some u =>
    obtain ⟨_, vs, _, _, ⟨_, e⟩ | ⟨_, e⟩⟩ := argH_is ar q
    · exact .inr ⟨_, _, by rw [e]⟩
    · exact .inr ⟨_, _, by rw [e]⟩
theorem argH_ok (ar : ∀ a ∈ A, ArgOb h A a) : HOk P w (argH K h A) h := fun b u q => by
  obtain ⟨_, vs, h1, h2, ⟨e, rfl⟩ | ⟨e, rfl⟩⟩ := argH_is ar q
  · exact ⟨e, by rw [List.length_map]; exact h1, vs, _, vals_toV h2, e⟩
  · exact ⟨e, by rw [List.length_map]; exact h1, vs, vals_toV h2, _, e, rfl, _, rfl⟩
theorem seq_inj {c c' : Value} {vs us : List Value} (e : (some { cls := c, data := .seq vs.toArray } : Option Obj) = some { cls := c', data := .seq us.toArray }) : c = c' ∧ vs = us := by
  have e1 := Option.some.inj e
  have e2 : c = c' := congrArg Obj.cls e1
  have e3 : Data.seq vs.toArray = Data.seq us.toArray := congrArg Obj.data e1
  injection e3 with e4
  refine ⟨e2, ?_⟩
  have e5 := congrArg Array.toList e4
  simpa using e5
/-- a list argument -/
theorem argL (KX : K.In h) (ar : ∀ a ∈ A, ArgOb h A a) {a : Addr} {vs : List Value} (ha : a ∈ A) (e : h.get? a = some { cls := .type "list", data := .seq vs.toArray }) : (∀ u ∈ vs, OkU A u) ∧ SqL K (argH K h A) a (vs.map toV) := by
  obtain ⟨us, h1, h2, h3⟩ := ar a ha
  have hu : us = vs := by
    rcases h3 with q | q
    · rw [e] at q
      exact (seq_inj q).2.symm
    · rw [e] at q
      exact absurd (Value.type.inj (seq_inj q).1) (by decide)
  subst hu
  refine ⟨h2, ?_⟩
  cases hk : K.lookup a with
  | none => exact .inl (.inr ⟨_, by rw [argH_at ha hk e, hoOf_lst]⟩)
  | some o =>
    have e2 := KX a o hk
    rw [e] at e2
    obtain rfl := Option.some.inj e2
    exact .inr ⟨_, us.toArray, _, hk, rfl, rfl, rfl, by rw [List.size_toArray]; exact h1, by simpa using vals_toV h2⟩
theorem argT (KX : K.In h) (ar : ∀ a ∈ A, ArgOb h A a) {a : Addr} {vs : List Value} (ha : a ∈ A) (e : h.get? a = some { cls := .type "tuple", data := .seq vs.toArray }) : (∀ u ∈ vs, OkU A u) ∧ SqT K (argH K h A) a (vs.map toV) := by
  obtain ⟨us, h1, h2, h3⟩ := ar a ha
  have hu : us = vs := by
    rcases h3 with q | q
    · rw [e] at q
      exact absurd (Value.type.inj (seq_inj q).1) (by decide)
    · rw [e] at q
      exact (seq_inj q).2.symm
  subst hu
  refine ⟨h2, ?_⟩
  cases hk : K.lookup a with
  | none => exact .inl (.inr ⟨_, by rw [argH_at ha hk e, hoOf_tup]⟩)
  | some o =>
    have e2 := KX a o hk
    rw [e] at e2
    obtain rfl := Option.some.inj e2
    exact .inr ⟨_, us.toArray, _, hk, rfl, rfl, by rw [List.size_toArray]; exact h1, by simpa using vals_toV h2⟩
mutual
theorem dw_one {Pm : Params} (KX : K.In h) (ar : ∀ a ∈ A, ArgOb h A a) : ∀ (d : WData) (v : Value), Well Pm h v d → plW d = true → OkU A v → Dw K (argH K h A) (toV v) d
  | .none, _, x, _, _ => by
    cases x
    exact .non
  | .bool b, _, x, _, _ => by
    cases x
    exact .bl b
  | .int i, _, x, _, _ => by
    cases x
    exact .int i
  | .str s, _, x, _, _ => by
    cases x
    exact .str s
  | .bytes b, _, x, _, _ => by
    cases x
    have z := Dw.byt (K := K) (H := argH K h A) b.toArray
    exact z
  | .list ds, _, x, p, hu => by
    obtain ⟨a, vs, rfl, ho, hall⟩ := well_list x
    obtain ⟨h2, hs⟩ := argL KX ar hu ho
    exact .lst hs (dw_all KX ar ds _ hall p h2)
  | .tuple ds, _, x, p, hu => by
    obtain ⟨a, vs, rfl, ho, hall⟩ := well_tuple x
    obtain ⟨h2, hs⟩ := argT KX ar hu ho
    exact .tup hs (dw_all KX ar ds _ hall p h2)
  | .float _, _, _, p, _ => Bool.noConfusion (show false = true from p)
  | .dict _, _, _, p, _ => Bool.noConfusion (show false = true from p)
  | .bytearray _, _, _, p, _ => Bool.noConfusion (show false = true from p)
  | .set _, _, _, p, _ => Bool.noConfusion (show false = true from p)
  | .frozenset _, _, _, p, _ => Bool.noConfusion (show false = true from p)
  | .obj _ _, _, _, p, _ => Bool.noConfusion (show false = true from p)
theorem dw_all {Pm : Params} (KX : K.In h) (ar : ∀ a ∈ A, ArgOb h A a) : ∀ (ds : List WData) (vs : List Value), WellAll Pm h vs ds → plWs ds = true → (∀ u ∈ vs, OkU A u) → DwAll K (argH K h A) (vs.map toV) ds
  | [], _, x, _, _ => by
    cases x
    exact .nil
  | d :: ds, _, x, p, hu => by
    obtain ⟨v, vs, rfl, x1, x2⟩ := well_cons x
    have q : plW d = true ∧ plWs ds = true := Bool.and_eq_true_iff.mp p
    exact .cons (dw_one KX ar d v x1 q.1 (hu _ (List.mem_cons_self ..))) (dw_all KX ar ds vs x2 q.2 fun u m => hu u (List.mem_cons_of_mem _ m))
end
end
/-! ### the call -/
theorem spec_call {P : Program} {w : World} {K : PySem.W.Frag} {mg mb : Str → Option Value} {CX : CXT} {k : Nat} {fa : Addr} {fd : FuncData} {ps : List Str} {sp : Sp} {s₁ : Shared} {vals : List Value} {ds : List WData} {R : PySem.W.WRecords} {cl : Str → Option Addr} {d0 : WData}
    (KX : K.In s₁.heap) (hns : s₁.heap.Ns mainGlobals mg) (hb : s₁.heap.Ns builtinsNs mb) (hbb : ∀ x : Str, x ≠ "__name__" → mb x = bootBuiltins x) (hlim : s₁.heap.NoLimit) (hg : s₁.gens = #[])
    (hwl : WellAll w.params s₁.heap vals ds) (hpl : plWs ds = true) (hwt : ∀ d ∈ ds, d.weight ≤ 1048576) (hr : Room k callerA)
    (F : ∀ base : Heap, K.In base → base.Ns mainGlobals mg → FnOk P w K mg base CX k fa fd ps sp) (hbind : ∀ (s : Shared) (us : List Value), us.length = ps.length → BindsTo s fd ⟨us, []⟩ (ps.zip us)) (hlen : ds.length = ps.length)
    (hsp : ∀ (H : Hp) (xs : List V), OnlyF H → DwAll K H xs ds → sp xs H (fun v H' => Dw K H' v d0) fun _ _ _ => False)
    (hCX : ∀ H e s', CX [] H s₁ (fun _ _ _ => False) e s' → False) :
    codeAny (model P w) callerA (.call (.ref fa) ⟨vals, []⟩) (fun r s' => ∃ u as, r = .ok (.ret u) ∧ ReadsW R cl s'.heap u d0 as ∧ OldK s₁.heap s'.heap ∧ s'.os = s₁.os ∧ AllBare s'.gens) s₁ := by
  obtain ⟨A, ho, ar⟩ := area_all ds vals hwl hpl hwt
  have hO : OnlyF (argH K s₁.heap A) := argH_only ar
  have hok : HOk P w (argH K s₁.heap A) s₁.heap := argH_ok ar
  have hS := dw_all KX ar ds vals hwl hpl ho
  have hV := vals_toV ho
  have hK : ∀ b u, argH K s₁.heap A b = some u → K.lookup b = none := fun b u q => (argH_is ar q).1
  have noA : ∀ {b : Addr} {o : Obj} {es : Array DictEntry} {ep : Nat}, s₁.heap.get? b = some o → o.data = .dict es ep → argH K s₁.heap A b = none := fun {b o es ep} e d => by
    cases q : argH K s₁.heap A b with
    | none => rfl
    | some u =>
      obtain ⟨_, vs, _, _, ⟨e2, _⟩ | ⟨e2, _⟩⟩ := argH_is ar q
      · rw [e2] at e
        cases e
        have d' : Data.seq vs.toArray _ = Data.dict es ep := d
        cases d'
      · rw [e2] at e
        cases e
        have d' : Data.seq vs.toArray _ = Data.dict es ep := d
        cases d'
  generalize argH K s₁.heap A = H at hO hok hS hK noA
  have base_of : ∀ {b : Addr} {o : Obj}, s₁.heap.get? b = some o → H b = none → (hidT s₁.heap H).get? b = some o := fun e n => hidT_get e n
  have nsK : ∀ {b : Addr} {m : Str → Option Value}, s₁.heap.Ns b m → (hidT s₁.heap H).Ns b m := fun {b m} ⟨o, es, ep, e, d, r⟩ => ⟨o, es, ep, base_of e (noA e d), d, r⟩
  have nK : ∀ b o, K.lookup b = some o → H b = none := fun b o e => by
    cases q : H b with
    | none => rfl
    | some u =>
      rw [hK b u q] at e
      cases e
  have hKb : K.In (hidT s₁.heap H) := fun b o e => base_of (KX b o e) (nK b o e)
  have hM : Mod K mg (hidT s₁.heap H) := ⟨hKb, nsK hns, ⟨mb, nsK hb, hbb⟩, let ⟨mc, h1, h2⟩ := hlim; ⟨mc, nsK h1, h2⟩⟩
  have e0 : Env0 P w K mg (hidT s₁.heap H) callerA [] s₁ H := ⟨rfl, hM, fun b o e => of_hidT e, Nat.le_of_eq (hidT_size _ _), trivial, fun b hb => absurd (show b ∈ ([] : List Addr) from hb) (by simp), hok, .of_eq hg⟩
  have hl : vals.length = ps.length := by rw [wellAll_len hwl]; exact hlen
  refine codeAny_mono ((F _ hKb (nsK hns)).run callerA [] s₁ H ⟨vals, []⟩ vals (vals.map toV) _ _ hr e0 (hbind s₁ vals hl) hV (hsp H _ hO hS)) fun r s' x => ?_
  cases r with
  | error e => exact (hCX H e s' x).elim
  | ok fl =>
    cases fl with
    | next => exact False.elim x
    | brk => exact False.elim x
    | cont => exact False.elim x
    | ret u =>
      obtain ⟨v, H', os, bare, un, hok', r', q⟩ := x
      have kept : ∀ b o, s₁.heap.get? b = some o → s'.heap.get? b = some o := fun b o e => by
        cases q2 : H b with
        | none => exact un.keep b o e q2 (by intro z; exact absurd (show b ∈ ([] : List Addr) from z) (by simp)) (by simp)
        | some u2 =>
          rcases hO b with z | ⟨ob, u3, z⟩
          · rw [q2] at z
            cases z
          · have z2 := un.frzs b ob _ z
            obtain ⟨e1, _⟩ := hok b _ z
            obtain ⟨e2, _⟩ := hok' b _ z2
            rw [e] at e1
            cases e1
            exact e2
      have KX' : K.In s'.heap := fun b o e => kept b o (KX b o e)
      obtain ⟨as, hrd⟩ := Dw.reads (R := R) (cl := cl) hok' KX' d0 v u q r'
      exact ⟨u, as, rfl, hrd, OldK.of_keep kept, os, bare⟩
/-! ### the row -/
theorem layable_weight {ds : List WData} (h : WData.layableAll ds = true) : ∀ d ∈ ds, d.weight ≤ 1048576 := fun d hd =>
  (PySem.W.layableW_iff.mp (List.all_eq_true.mp h d hd)).2.2
theorem encAll_len : ∀ (cs : List Codec) (a : Codec.denoteAll cs), (Codec.encAll cs a).length = cs.length
  | [], _ => rfl
  | c :: cs, a => by
    show (Codec.encAll cs a.2).length + 1 = cs.length + 1
    rw [encAll_len cs a.2]
/-- the goal that k_headS leaves (case hc), from the promise of the row's def: whatever the arguments that the codecs let and the row asks for, the def gives what stands for enc (f ..) -/
theorem walk_spec {r : OpenSpec} {k : Nat} {q : Program} {loose : List Str} {XP : (Str → Option Value) → Heap → Prop} {YP : World → Heap → Prop} {d : DefRec} {K : Params → PySem.W.Frag} {CX : World → CXT} {ps : List Str} {sp : World → Sp}
    (hwell : r.wellSaid = true) (hdf : d.params.defaults = []) (hlen : r.args.length = ps.length) (hr : Room k callerA)
    (hY : ∀ (w : World) (h : Heap), YP w h → (K w.params).In h)
    (F : ∀ (w : World) (mg : Str → Option Value) (fa : Addr) (h : Heap), YP w h → (K w.params).In h → h.Ns mainGlobals mg → mg d.name = some (.ref fa) →
      ∃ fd : FuncData, (∀ (s : Shared) (us : List Value), us.length = ps.length → BindsTo s fd ⟨us, []⟩ (ps.zip us)) ∧
        ∀ base : Heap, (K w.params).In base → base.Ns mainGlobals mg → FnOk r.prog w (K w.params) mg base (CX w) k fa fd ps (sp w))
    (hsp : ∀ (w : World) (H : Hp) (xs : List V) (a : Codec.denoteAll r.args), OnlyF H → Codec.withinAll r.args a = true → Codec.app r.args r.asked a = true → DwAll (K w.params) H xs (Codec.encAll r.args a) →
      sp w xs H (fun v H' => Dw (K w.params) H' v (r.ret.enc (Codec.app r.args r.f a))) fun _ _ _ => False)
    (hCX : ∀ (w : World) (H : Hp) (s : Shared) (e : Value) (s' : Shared), CX w [] H s (fun _ _ _ => False) e s' → False) :
    PySem.W.WalkOS q loose XP YP r d [] (fun f vs => PySem.call f vs) := by
  intro w s_0 s₁ mg mb G Y fa o pm cd doc dV kV ho hd hcd hD hmg hg args vals as hpre hlay hrd hwl hlo
  obtain ⟨a, e1, e2⟩ := PySem.W.os_pre_some hpre
  obtain ⟨e3, hwi⟩ := Codec.encAll_of_decAll r.args args a e1
  subst e3
  have KX := hY w _ Y
  obtain ⟨fd, hb, hF⟩ := F w mg fa _ Y KX G.T.g hmg
  refine PySem.W.enter_call (codeAny_mono (spec_call (R := []) (cl := classAt s_0.heap) (d0 := r.ret.enc (Codec.app r.args r.f a)) KX G.T.g G.T.b G.T.builtins G.T.nolimit hg hwl (pl_encAll _ _) (layable_weight hlay) hr hF hb (by rw [encAll_len]; exact hlen)
    (fun H xs hO hS => hsp w H xs a hO hwi e2 hS) fun H e s' => hCX w H s₁ e s') fun r' s' hq => ?_)
  obtain ⟨u, as', rfl, h1, h2, h3, h4⟩ := hq
  exact ⟨.inl ⟨u, _, as', rfl, fun _ => rfl, h1, (OpenSpec.post_iff hwell hwi _ _).mpr rfl, fun z => Bool.noConfusion (show false = true from z)⟩, h2, h3, h4⟩
/-- the same where the promise hangs on the written part alone -/
theorem walk_specK {r : OpenSpec} {k : Nat} {q : Program} {loose : List Str} {XP : (Str → Option Value) → Heap → Prop} {YP : World → Heap → Prop} {d : DefRec} {K : Params → PySem.W.Frag} {CX : CXT} {ps : List Str} {sp : PySem.W.Frag → Sp}
    (hwell : r.wellSaid = true) (hdf : d.params.defaults = []) (hlen : r.args.length = ps.length) (hr : Room k callerA)
    (hY : ∀ (w : World) (h : Heap), YP w h → (K w.params).In h)
    (F : ∀ (w : World) (mg : Str → Option Value) (fa : Addr) (h : Heap), YP w h → (K w.params).In h → h.Ns mainGlobals mg → mg d.name = some (.ref fa) →
      ∃ fd : FuncData, (∀ (s : Shared) (us : List Value), us.length = ps.length → BindsTo s fd ⟨us, []⟩ (ps.zip us)) ∧
        ∀ base : Heap, (K w.params).In base → base.Ns mainGlobals mg → FnOk r.prog w (K w.params) mg base CX k fa fd ps (sp (K w.params)))
    (hsp : ∀ (K : PySem.W.Frag) (H : Hp) (xs : List V) (a : Codec.denoteAll r.args), OnlyF H → Codec.withinAll r.args a = true → Codec.app r.args r.asked a = true → DwAll K H xs (Codec.encAll r.args a) →
      sp K xs H (fun v H' => Dw K H' v (r.ret.enc (Codec.app r.args r.f a))) fun _ _ _ => False)
    (hCX : ∀ (H : Hp) (s : Shared) (e : Value) (s' : Shared), CX [] H s (fun _ _ _ => False) e s' → False) :
    PySem.W.WalkOS q loose XP YP r d [] (fun f vs => PySem.call f vs) :=
  walk_spec (K := K) (CX := fun _ => CX) (sp := fun w => sp (K w.params)) hwell hdf hlen hr hY F (fun w H xs a h1 h2 h3 h4 => hsp (K w.params) H xs a h1 h2 h3 h4) fun _ H s e s' => hCX H s e s'
end L2
-- rests on (row put in by the clerk, for the bench that shows a file only what it spells): KE.SpHead KE.OsShapes
end
end
section
set_option Elab.async false
set_option linter.all false
set_option maxRecDepth 100000
set_option maxHeartbeats 4000000
namespace Ho
open PySem PySem.Spec PyProof.Rows L2
/-! ### what the top has written -/
section
variable {K : PySem.W.Frag} {h : Heap} {mg : Str → Option Value}
theorem dfs_mk {x : Str} {st : Stmt} {f : Addr} {oc : Value} {od an : Option Addr} {osl : Array (Option Value)} {kV doc pm cdv ct : Value} (X : K.In h) (G : h.Ns mainGlobals mg) (a : PySem.W.nsIn K mainGlobals x = some (some (.ref f)))
    (l : K.lookup f = some ⟨oc, od, .func (PySem.W.fnOf x x (defArgs st) (defBody st) (defScope st) .none kV doc pm an cdv ct), osl⟩) (c : PySem.W.codeIn K cdv x = true) (k : PySem.W.keepIn K (.ref f) = true) : Dfs K mg x st :=
  ⟨f, _, fun_mk l c k, PySem.W.mg_of X G a⟩
theorem dfsM_mk {C : Addr} {m qual : Str} {st : Stmt} {f : Addr} {oc : Value} {od an : Option Addr} {osl : Array (Option Value)} {kV doc pm cdv ct : Value} (a : PySem.W.findIn K (.ref C) m = some (some (.ref f))) (i : PySem.W.isFn K (.ref f) = true)
    (l : K.lookup f = some ⟨oc, od, .func (PySem.W.fnOf m qual (defArgs st) (defBody st) (defScope st) .none kV doc pm an cdv ct), osl⟩) (c : PySem.W.codeIn K cdv qual = true) (k : PySem.W.keepIn K (.ref f) = true) : DfsM K C m qual st :=
  ⟨f, _, fun_mk l c k, a, i⟩
theorem gI_mk {x : Str} {i : Int} {t : Nat} (X : K.In h) (G : h.Ns mainGlobals mg) (a : PySem.W.nsIn K mainGlobals x = some (some (.int i t))) : gI mg x i := ⟨t, PySem.W.mg_of X G a⟩
theorem no_nil {C : Addr} : ∀ x ∈ ([] : List Str), NoAttr K C x := fun x h => by cases h
theorem no_cons {C : Addr} {y : Str} {l : List Str} (a : PySem.W.findIn K (.ref C) y = some none) (r : ∀ x ∈ l, NoAttr K C x) : ∀ x ∈ y :: l, NoAttr K C x := fun x h => by
  rcases List.mem_cons.mp h with e | e
  · rw [e]; exact a
  · exact r x e
theorem tab_mk {x : Str} {a : Addr} {es : Array DictEntry} {ep : Nat} {tb : List (Int × List (Int × Int))} (X : K.In h) (G : h.Ns mainGlobals mg) (n : PySem.W.nsIn K mainGlobals x = some (some (.ref a))) (l : K.lookup a = some ⟨.type "dict", none, .dict es ep, #[]⟩) (o : tabOk K es.toList tb = true) : Tab K mg x tb :=
  ⟨a, es, ep, PySem.W.mg_of X G n, l, o⟩
theorem row_mk {x : Str} {a : Addr} {ps : List (Int × Int)} (X : K.In h) (G : h.Ns mainGlobals mg) (n : PySem.W.nsIn K mainGlobals x = some (some (.ref a))) (o : rowOk K (.ref a) ps = true) : RowG K mg x ps := by
  obtain ⟨b, e, r⟩ := rowOk_k o
  cases e
  exact ⟨a, PySem.W.mg_of X G n, r⟩
theorem cls_mk {x : Str} {C : Addr} (X : K.In h) (G : h.Ns mainGlobals mg) (n : PySem.W.nsIn K mainGlobals x = some (some (.ref C))) (m : PySem.W.makesIn K C = true) (k : PySem.W.keepIn K (.ref C) = true) : ClsG K mg x C := ⟨PySem.W.mg_of X G n, m, k⟩
end
theorem fin {P : Program} {w : World} {K : PySem.W.Frag} {mg : Str → Option Value} {C R fa : Addr} (hfa : mg "answers" = some (.ref fa)) (GH : ClsG K mg "House" C) (GR : ClsG K mg "Reader" R) (T : Txt K mg C) (TR : TxtR K mg R) (D_answers : Dfs K mg "answers" (top 114))
    (D_copy_of : Dfs K mg "copy_of" (top 15))
    (D_has_kind : Dfs K mg "has_kind" (top 16))
    (D_is_gone : Dfs K mg "is_gone" (top 17))
    (D_mood_of : Dfs K mg "mood_of" (top 18))
    (D_radius_of : Dfs K mg "radius_of" (top 19))
    (D_how_one_is : Dfs K mg "how_one_is" (top 20))
    (D_pack_weight : Dfs K mg "pack_weight" (top 21))
    (D_coins_weight : Dfs K mg "coins_weight" (top 22))
    (D_weight_of : Dfs K mg "weight_of" (top 23))
    (D_is_too_much : Dfs K mg "is_too_much" (top 24))
    (D_load_of : Dfs K mg "load_of" (top 25))
    (D_rate_of : Dfs K mg "rate_of" (top 26))
    (D_kind_refusal : Dfs K mg "kind_refusal" (top 31))
    (D_room_refusal : Dfs K mg "room_refusal" (top 32))
    (D_find_refusal : Dfs K mg "find_refusal" (top 33))
    (D_find_things : Dfs K mg "find_things" (top 34))
    (D_taking_refusal : Dfs K mg "taking_refusal" (top 35))
    (D_drop_things : Dfs K mg "drop_things" (top 36))
    (D_use_refusal : Dfs K mg "use_refusal" (top 37))
    (D_eat_thing : Dfs K mg "eat_thing" (top 38))
    (D_fill_light : Dfs K mg "fill_light" (top 39))
    (D_cost_of : Dfs K mg "cost_of" (top 41))
    (D_gain_of : Dfs K mg "gain_of" (top 42))
    (D_weight_after : Dfs K mg "weight_after" (top 43))
    (D_deal : Dfs K mg "deal" (top 44))
    (D_stock_refusal : Dfs K mg "stock_refusal" (top 45))
    (D_buy_refusal : Dfs K mg "buy_refusal" (top 46))
    (D_buy_things : Dfs K mg "buy_things" (top 47))
    (D_sell_refusal : Dfs K mg "sell_refusal" (top 48))
    (D_sell_things : Dfs K mg "sell_things" (top 49))
    (D_stock_things : Dfs K mg "stock_things" (top 50))
    (D_healing_of : Dfs K mg "healing_of" (top 52))
    (D_heal : Dfs K mg "heal" (top 53))
    (D_burn : Dfs K mg "burn" (top 54))
    (D_tick : Dfs K mg "tick" (top 55))
    (D_pass_ticks : Dfs K mg "pass_ticks" (top 56))
    (D_tell_status : Dfs K mg "tell_status" (top 59))
    (D_tell_price : Dfs K mg "tell_price" (top 60))
    (D_ticks_until : Dfs K mg "ticks_until" (top 61))
    (D_tell_when : Dfs K mg "tell_when" (top 62))
    (D_tell_pack : Dfs K mg "tell_pack" (top 63))
    (D_tell_burden : Dfs K mg "tell_burden" (top 64))
    (D_tell_worth : Dfs K mg "tell_worth" (top 65))
    (D_tell_shop : Dfs K mg "tell_shop" (top 66))
    (D_tell_ahead : Dfs K mg "tell_ahead" (top 67))
    (D_switch_light : Dfs K mg "switch_light" (top 69))
    (D_wait_ticks : Dfs K mg "wait_ticks" (top 70))
    (D_set_drain : Dfs K mg "set_drain" (top 71))
    (D_hurt_one : Dfs K mg "hurt_one" (top 72))
    (D_opening_refusal : Dfs K mg "opening_refusal" (top 74))
    (D_keep_numbers : Dfs K mg "keep_numbers" (top 75))
    (D_keep_rows : Dfs K mg "keep_rows" (top 76))
    (D_open_house : Dfs K mg "open_house" (top 77))
    (D_is_within : Dfs K mg "is_within" (top 82))
    (D_are_numbers_within : Dfs K mg "are_numbers_within" (top 83))
    (D_is_row_within : Dfs K mg "is_row_within" (top 84))
    (D_are_rows_within : Dfs K mg "are_rows_within" (top 85))
    (D_read_numbers : Dfs K mg "read_numbers" (top 88))
    (D_read_rows : Dfs K mg "read_rows" (top 89))
    (D_answer_doing : Dfs K mg "answer_doing" (top 110))
    (D_answer_asking : Dfs K mg "answer_asking" (top 111))
    (D_answer_opened : Dfs K mg "answer_opened" (top 112))
    (D_answer_call : Dfs K mg "answer_call" (top 113))
    (M_House_init : DfsM K C "__init__" "House.__init__" (inClass (top 14) 0))
    (M_Reader_init : DfsM K R "__init__" "Reader.__init__" (inClass (top 87) 0))
    (M_Reader_has_more : DfsM K R "has_more" "Reader.has_more" (inClass (top 87) 1))
    (M_Reader_take_number : DfsM K R "take_number" "Reader.take_number" (inClass (top 87) 2))
    (M_Reader_take_numbers : DfsM K R "take_numbers" "Reader.take_numbers" (inClass (top 87) 3)) :
    ∃ fd : FuncData, (∀ (s : Shared) (us : List Value), us.length = (["calls"] : List Str).length → BindsTo s fd ⟨us, []⟩ ((["calls"] : List Str).zip us)) ∧ ∀ base : Heap, K.In base → base.Ns mainGlobals mg → FnOk P w K mg base CX0 10 fa fd ["calls"] (spAns K) := by
  obtain ⟨f, fd, F, hm⟩ := D_answers
  have e := hfa.symm.trans hm
  cases e
  refine ⟨fd, ?_, fun base _ _ => ?_⟩
  · obtain ⟨oc, od, kV, doc, pm, an, cdv, ct, osl, rfl, lk, hcd⟩ := F.ex
    exact fun s us hu => match us, hu with | [_], _ => .of_eq rfl
  · skip
    have m_House := mk_House (P := P) (w := w) (base := base) M_House_init GH T
    have m_Reader := mk_Reader (P := P) (w := w) (base := base) M_Reader_init GR TR
    have h_has_more := ok_has_more (P := P) (w := w) (base := base) M_Reader_has_more T TR
    have h_take_number := ok_take_number (P := P) (w := w) (base := base) M_Reader_take_number T TR
    have h_take_numbers := ok_take_numbers (P := P) (w := w) (base := base) M_Reader_take_numbers T TR
    have h_read_numbers := ok_read_numbers (P := P) (w := w) (base := base) D_read_numbers T TR h_take_numbers
    have h_read_rows := ok_read_rows (P := P) (w := w) (base := base) D_read_rows T TR h_take_number h_take_numbers
    have h_copy_of := ok_copy_of (P := P) (w := w) (base := base) D_copy_of T m_House
    have h_is_gone := ok_is_gone (P := P) (w := w) (base := base) D_is_gone T
    have h_mood_of := ok_mood_of (P := P) (w := w) (base := base) D_mood_of T
    have h_radius_of := ok_radius_of (P := P) (w := w) (base := base) D_radius_of T
    have h_how_one_is := ok_how_one_is (P := P) (w := w) (base := base) D_how_one_is T h_mood_of h_radius_of
    have h_pack_weight := ok_pack_weight (P := P) (w := w) (base := base) D_pack_weight T
    have h_coins_weight := ok_coins_weight (P := P) (w := w) (base := base) D_coins_weight T
    have h_weight_of := ok_weight_of (P := P) (w := w) (base := base) D_weight_of T h_pack_weight h_coins_weight
    have h_is_too_much := ok_is_too_much (P := P) (w := w) (base := base) D_is_too_much T
    have h_load_of := ok_load_of (P := P) (w := w) (base := base) D_load_of T h_weight_of
    have h_rate_of := ok_rate_of (P := P) (w := w) (base := base) D_rate_of T h_load_of
    have h_healing_of := ok_healing_of (P := P) (w := w) (base := base) D_healing_of T h_mood_of
    have h_heal := ok_heal (P := P) (w := w) (base := base) D_heal T h_healing_of
    have h_burn := ok_burn (P := P) (w := w) (base := base) D_burn T
    have h_tick := ok_tick (P := P) (w := w) (base := base) D_tick T h_heal h_burn
    have h_pass_ticks := ok_pass_ticks (P := P) (w := w) (base := base) D_pass_ticks T h_rate_of h_is_gone h_tick
    have h_switch_light := ok_switch_light (P := P) (w := w) (base := base) D_switch_light T h_is_gone h_radius_of
    have h_wait_ticks := ok_wait_ticks (P := P) (w := w) (base := base) D_wait_ticks T h_is_gone h_pass_ticks h_how_one_is
    have h_set_drain := ok_set_drain (P := P) (w := w) (base := base) D_set_drain T h_rate_of
    have h_hurt_one := ok_hurt_one (P := P) (w := w) (base := base) D_hurt_one T h_is_gone
    have h_has_kind := ok_has_kind (P := P) (w := w) (base := base) D_has_kind T
    have h_kind_refusal := ok_kind_refusal (P := P) (w := w) (base := base) D_kind_refusal T h_has_kind h_is_gone
    have h_room_refusal := ok_room_refusal (P := P) (w := w) (base := base) D_room_refusal T h_is_too_much
    have h_find_refusal := ok_find_refusal (P := P) (w := w) (base := base) D_find_refusal T h_kind_refusal h_room_refusal h_weight_of
    have h_taking_refusal := ok_taking_refusal (P := P) (w := w) (base := base) D_taking_refusal T h_kind_refusal
    have h_use_refusal := ok_use_refusal (P := P) (w := w) (base := base) D_use_refusal T h_taking_refusal
    have h_find_things := ok_find_things (P := P) (w := w) (base := base) D_find_things T h_find_refusal
    have h_drop_things := ok_drop_things (P := P) (w := w) (base := base) D_drop_things T h_taking_refusal
    have h_eat_thing := ok_eat_thing (P := P) (w := w) (base := base) D_eat_thing T h_use_refusal
    have h_fill_light := ok_fill_light (P := P) (w := w) (base := base) D_fill_light T h_use_refusal
    have h_cost_of := ok_cost_of (P := P) (w := w) (base := base) D_cost_of T
    have h_gain_of := ok_gain_of (P := P) (w := w) (base := base) D_gain_of T
    have h_weight_after := ok_weight_after (P := P) (w := w) (base := base) D_weight_after T h_pack_weight h_coins_weight
    have h_deal := ok_deal (P := P) (w := w) (base := base) D_deal T
    have h_buy_refusal := ok_buy_refusal (P := P) (w := w) (base := base) D_buy_refusal T h_weight_after h_room_refusal
    have h_buy_things := ok_buy_things (P := P) (w := w) (base := base) D_buy_things T h_kind_refusal h_cost_of h_buy_refusal h_deal
    have h_stock_refusal := ok_stock_refusal (P := P) (w := w) (base := base) D_stock_refusal T
    have h_sell_refusal := ok_sell_refusal (P := P) (w := w) (base := base) D_sell_refusal T h_stock_refusal h_weight_after h_is_too_much
    have h_sell_things := ok_sell_things (P := P) (w := w) (base := base) D_sell_things T h_taking_refusal h_gain_of h_sell_refusal h_deal
    have h_stock_things := ok_stock_things (P := P) (w := w) (base := base) D_stock_things T h_has_kind h_stock_refusal
    have h_tell_status := ok_tell_status (P := P) (w := w) (base := base) D_tell_status T h_is_gone h_how_one_is
    have h_tell_price := ok_tell_price (P := P) (w := w) (base := base) D_tell_price T h_has_kind h_cost_of h_gain_of
    have h_ticks_until := ok_ticks_until (P := P) (w := w) (base := base) D_ticks_until T h_rate_of
    have h_tell_when := ok_tell_when (P := P) (w := w) (base := base) D_tell_when T h_ticks_until
    have h_tell_pack := ok_tell_pack (P := P) (w := w) (base := base) D_tell_pack T
    have h_tell_burden := ok_tell_burden (P := P) (w := w) (base := base) D_tell_burden T h_weight_of h_load_of h_rate_of
    have h_tell_worth := ok_tell_worth (P := P) (w := w) (base := base) D_tell_worth T
    have h_tell_shop := ok_tell_shop (P := P) (w := w) (base := base) D_tell_shop T
    have h_tell_ahead := ok_tell_ahead (P := P) (w := w) (base := base) D_tell_ahead T h_copy_of h_pass_ticks h_how_one_is
    have h_is_within := ok_is_within (P := P) (w := w) (base := base) D_is_within T
    have h_are_numbers_within := ok_are_numbers_within (P := P) (w := w) (base := base) D_are_numbers_within T h_is_within
    have h_is_row_within := ok_is_row_within (P := P) (w := w) (base := base) D_is_row_within T h_is_within
    have h_are_rows_within := ok_are_rows_within (P := P) (w := w) (base := base) D_are_rows_within T h_is_row_within
    have h_opening_refusal := ok_opening_refusal (P := P) (w := w) (base := base) D_opening_refusal T
    have h_keep_numbers := ok_keep_numbers (P := P) (w := w) (base := base) D_keep_numbers T
    have h_keep_rows := ok_keep_rows (P := P) (w := w) (base := base) D_keep_rows T
    have h_open_house := ok_open_house (P := P) (w := w) (base := base) D_open_house T h_opening_refusal h_keep_numbers h_keep_rows
    have h_answer_doing := ok_answer_doing (P := P) (w := w) (base := base) D_answer_doing T h_find_things h_drop_things h_eat_thing h_fill_light h_switch_light h_wait_ticks h_set_drain h_hurt_one h_buy_things h_sell_things h_stock_things
    have h_answer_asking := ok_answer_asking (P := P) (w := w) (base := base) D_answer_asking T h_tell_status h_tell_price h_tell_when h_tell_pack h_tell_burden h_tell_worth h_tell_shop h_tell_ahead
    have h_answer_opened := ok_answer_opened (P := P) (w := w) (base := base) D_answer_opened T h_answer_doing h_answer_asking
    have h_answer_call := ok_answer_call (P := P) (w := w) (base := base) D_answer_call T h_are_numbers_within h_are_rows_within h_open_house h_answer_opened
    exact fn_answers F T TR m_House m_Reader h_has_more h_take_number h_read_numbers h_read_rows h_answer_call
end Ho
end
section
set_option Elab.async false
set_option linter.all false
/-! names that are taken ahead of the head's own: it then goes over the objects as they are written, without a second text of each (which grows with the square of their number) -/
def PySem.W.Fast.tw10071519008425360388 : Unit := ()
def PySem.W.Fast.tw14828333569982428669 : Unit := ()
def PySem.W.Fast.tw4973978263763711974 : Unit := ()
def PySem.W.Fast.tw9601630280400902424 : Unit := ()
def PySem.W.Fast.tw2454997193468057797 : Unit := ()
def PySem.W.Fast.tw3278185735419275771 : Unit := ()
def PySem.W.Fast.tw9375857658518168025 : Unit := ()
def PySem.W.Fast.tw3606511943223342754 : Unit := ()
def PySem.W.Fast.tw10671031949281691351 : Unit := ()
def PySem.W.Fast.tw13570881650943928244 : Unit := ()
def PySem.W.Fast.tw9956255825022250548 : Unit := ()
def PySem.W.Fast.tw7021715371367122206 : Unit := ()
def PySem.W.Fast.tw16216430043636091861 : Unit := ()
def PySem.W.Fast.tw9990009514600478414 : Unit := ()
def PySem.W.Fast.tw1933022687754886768 : Unit := ()
def PySem.W.Fast.tw11228788393393787001 : Unit := ()
def PySem.W.Fast.tw16255427557647098704 : Unit := ()
def PySem.W.Fast.tw8901063331194258450 : Unit := ()
def PySem.W.Fast.tw18309984999607400934 : Unit := ()
def PySem.W.Fast.tw9455951710388134717 : Unit := ()
def PySem.W.Fast.tw15255659621205127929 : Unit := ()
def PySem.W.Fast.tw8472097082509335484 : Unit := ()
def PySem.W.Fast.tw1287629411868633964 : Unit := ()
def PySem.W.Fast.tw5850895432760193509 : Unit := ()
def PySem.W.Fast.tw11373988248753319834 : Unit := ()
def PySem.W.Fast.tw15893861237677698534 : Unit := ()
def PySem.W.Fast.tw4456258447204945289 : Unit := ()
def PySem.W.Fast.tw14993249174306755699 : Unit := ()
def PySem.W.Fast.tw16332288187466857786 : Unit := ()
def PySem.W.Fast.tw13259787944494588752 : Unit := ()
def PySem.W.Fast.tw11020053855656298435 : Unit := ()
def PySem.W.Fast.tw15258875146075319974 : Unit := ()
def PySem.W.Fast.tw7014999361468853936 : Unit := ()
def PySem.W.Fast.tw14851898798373799750 : Unit := ()
def PySem.W.Fast.tw1248866030243475139 : Unit := ()
def PySem.W.Fast.tw16500138150733644038 : Unit := ()
def PySem.W.Fast.tw694064786692554839 : Unit := ()
def PySem.W.Fast.tw17521663028802359953 : Unit := ()
def PySem.W.Fast.tw18240941351797930416 : Unit := ()
def PySem.W.Fast.tw17673120108176621957 : Unit := ()
def PySem.W.Fast.tw12254697235756905486 : Unit := ()
def PySem.W.Fast.tw14381905090428578271 : Unit := ()
def PySem.W.Fast.tw1151161032195024855 : Unit := ()
def PySem.W.Fast.tw14224834527170183341 : Unit := ()
def PySem.W.Fast.tw1998194153399534118 : Unit := ()
def PySem.W.Fast.tw813333855808601751 : Unit := ()
def PySem.W.Fast.tw5437571302748144759 : Unit := ()
def PySem.W.Fast.tw9187003714959246403 : Unit := ()
def PySem.W.Fast.tw8970548583294347922 : Unit := ()
def PySem.W.Fast.tw18357697984298820712 : Unit := ()
def PySem.W.Fast.tw6964225921878174074 : Unit := ()
def PySem.W.Fast.tw16850456140411717800 : Unit := ()
def PySem.W.Fast.tw481989683203099040 : Unit := ()
def PySem.W.Fast.tw10299729440170220443 : Unit := ()
def PySem.W.Fast.tw14631311227154475264 : Unit := ()
def PySem.W.Fast.tw4344417396766263336 : Unit := ()
def PySem.W.Fast.tw4140866177518044213 : Unit := ()
def PySem.W.Fast.tw12236121088989868005 : Unit := ()
def PySem.W.Fast.tw3715256844292612174 : Unit := ()
def PySem.W.Fast.tw15866288102783893038 : Unit := ()
def PySem.W.Fast.tw191400499409052174 : Unit := ()
def PySem.W.Fast.tw9129999518498772538 : Unit := ()
def PySem.W.Fast.tw4886320433389206559 : Unit := ()
def PySem.W.Fast.tw9100959177791310199 : Unit := ()
def PySem.W.Fast.tw8687053341977661087 : Unit := ()
def PySem.W.Fast.tw15448102169928083188 : Unit := ()
def PySem.W.Fast.tw6214347511248313397 : Unit := ()
def PySem.W.Fast.tw1519491370880991987 : Unit := ()
def PySem.W.Fast.tw12771068625256965570 : Unit := ()
def PySem.W.Fast.tw652426198729980065 : Unit := ()
def PySem.W.Fast.tw15469735112382814769 : Unit := ()
def PySem.W.Fast.tw7107867586673244948 : Unit := ()
def PySem.W.Fast.tw14792703699456064821 : Unit := ()
def PySem.W.Fast.tw4607363776500830619 : Unit := ()
def PySem.W.Fast.tw7089294449635291791 : Unit := ()
def PySem.W.Fast.tw9417672479054335405 : Unit := ()
def PySem.W.Fast.tw8328373411021758883 : Unit := ()
def PySem.W.Fast.tw2502540033394380313 : Unit := ()
def PySem.W.Fast.tw16482997273599223367 : Unit := ()
def PySem.W.Fast.tw16428953279119668457 : Unit := ()
def PySem.W.Fast.tw10493434099010740296 : Unit := ()
def PySem.W.Fast.tw14887141529899908099 : Unit := ()
def PySem.W.Fast.tw10092139177284049563 : Unit := ()
def PySem.W.Fast.tw785371188618554409 : Unit := ()
def PySem.W.Fast.tw8919954646480086227 : Unit := ()
def PySem.W.Fast.tw17494041807238655542 : Unit := ()
def PySem.W.Fast.tw1261698865938148197 : Unit := ()
def PySem.W.Fast.tw4243641988258694759 : Unit := ()
def PySem.W.Fast.tw1986182236063662682 : Unit := ()
def PySem.W.Fast.tw15325135835165786457 : Unit := ()
def PySem.W.Fast.tw8959892161284498116 : Unit := ()
def PySem.W.Fast.tw3698839675270746619 : Unit := ()
def PySem.W.Fast.tw17608140688622216907 : Unit := ()
def PySem.W.Fast.tw14493194808651362866 : Unit := ()
def PySem.W.Fast.tw13509686988837063157 : Unit := ()
def PySem.W.Fast.tw2272649014727988956 : Unit := ()
def PySem.W.Fast.tw1228998235603574505 : Unit := ()
def PySem.W.Fast.tw14498130792314297994 : Unit := ()
def PySem.W.Fast.tw14337941700762903995 : Unit := ()
def PySem.W.Fast.tw11716154007829634426 : Unit := ()
def PySem.W.Fast.tw14143840181833637560 : Unit := ()
def PySem.W.Fast.tw6236748220662599526 : Unit := ()
def PySem.W.Fast.tw4170830241339981473 : Unit := ()
def PySem.W.Fast.tw3826266498581007477 : Unit := ()
def PySem.W.Fast.tw7071928565460175459 : Unit := ()
def PySem.W.Fast.tw16095524409119094981 : Unit := ()
def PySem.W.Fast.tw14794824399401116908 : Unit := ()
def PySem.W.Fast.tw12049107497605202533 : Unit := ()
def PySem.W.Fast.tw8172660988857078599 : Unit := ()
def PySem.W.Fast.tw4530417518291707934 : Unit := ()
def PySem.W.Fast.tw5089208766668998301 : Unit := ()
def PySem.W.Fast.tw5556617742419431215 : Unit := ()
def PySem.W.Fast.tw6315107758761247603 : Unit := ()
def PySem.W.Fast.tw6359889136489940509 : Unit := ()
def PySem.W.Fast.tw17888652138983658468 : Unit := ()
def PySem.W.Fast.tw7574789919413163667 : Unit := ()
def PySem.W.Fast.tw16946176859431987127 : Unit := ()
def PySem.W.Fast.tw12371469763066201347 : Unit := ()
def PySem.W.Fast.tw1881776244866559555 : Unit := ()
def PySem.W.Fast.tw3014919719866280353 : Unit := ()
def PySem.W.Fast.tw10897399393104194764 : Unit := ()
def PySem.W.Fast.tw10895505359887740715 : Unit := ()
def PySem.W.Fast.tw18396007215265809620 : Unit := ()
def PySem.W.Fast.tw952510610535807623 : Unit := ()
def PySem.W.Fast.tw705989083055543364 : Unit := ()
def PySem.W.Fast.tw6699619476523017114 : Unit := ()
def PySem.W.Fast.tw15732979410174360396 : Unit := ()
def PySem.W.Fast.tw7964902444990606036 : Unit := ()
def PySem.W.Fast.tw8863531181783861551 : Unit := ()
def PySem.W.Fast.tw2791453874812229570 : Unit := ()
def PySem.W.Fast.tw9310515185324292776 : Unit := ()
def PySem.W.Fast.tw11962621661972959100 : Unit := ()
def PySem.W.Fast.tw4849857905799004293 : Unit := ()
def PySem.W.Fast.tw629714720566088841 : Unit := ()
def PySem.W.Fast.tw17063237904472799854 : Unit := ()
def PySem.W.Fast.tw9930039588215481734 : Unit := ()
def PySem.W.Fast.tw1467962337936587961 : Unit := ()
def PySem.W.Fast.tw11470973042074900561 : Unit := ()
def PySem.W.Fast.tw1738044098966197948 : Unit := ()
open PySem PySem.W PyProof.Rows
set_option maxRecDepth 100000 in
set_option maxHeartbeats 0 in
theorem PySem.Challenge.cw_hungerhouse_s01_answers_holds : PySem.Challenge.rw_hungerhouse_s01_answers.Holds := by
  w_on; k_headS; (case hw => exact ⟨[.list [.int 12]], by decide +kernel, by decide +kernel⟩)
  k_fillS
  refine L2.walk_specK (r := PySem.Challenge.rw_hungerhouse_s01_answers) (k := 10) (CX := L2.CX0) (ps := ["calls"]) (sp := Ho.spAns) (by decide +kernel) rfl rfl ⟨rfl, by decide, by decide⟩ (fun w h Y => PySem.W.kIn_of Y) ?F ?S (fun _ _ _ _ z => z)
  case F =>
    intro w mg fa h Y KX G hmg
    refine' Ho.fin (C := ?C) (R := ?R) hmg ?GH ?GR ?T ?TR ?DA ?D_copy_of ?D_has_kind ?D_is_gone ?D_mood_of ?D_radius_of ?D_how_one_is ?D_pack_weight ?D_coins_weight ?D_weight_of ?D_is_too_much ?D_load_of ?D_rate_of ?D_kind_refusal ?D_room_refusal ?D_find_refusal ?D_find_things ?D_taking_refusal ?D_drop_things ?D_use_refusal ?D_eat_thing ?D_fill_light ?D_cost_of ?D_gain_of ?D_weight_after ?D_deal ?D_stock_refusal ?D_buy_refusal ?D_buy_things ?D_sell_refusal ?D_sell_things ?D_stock_things ?D_healing_of ?D_heal ?D_burn ?D_tick ?D_pass_ticks ?D_tell_status ?D_tell_price ?D_ticks_until ?D_tell_when ?D_tell_pack ?D_tell_burden ?D_tell_worth ?D_tell_shop ?D_tell_ahead ?D_switch_light ?D_wait_ticks ?D_set_drain ?D_hurt_one ?D_opening_refusal ?D_keep_numbers ?D_keep_rows ?D_open_house ?D_is_within ?D_are_numbers_within ?D_is_row_within ?D_are_rows_within ?D_read_numbers ?D_read_rows ?D_answer_doing ?D_answer_asking ?D_answer_opened ?D_answer_call ?M_House___init__ ?M_Reader___init__ ?M_Reader_has_more ?M_Reader_take_number ?M_Reader_take_numbers
    case GH => (refine' Ho.cls_mk KX G ?a ?m ?k; (case a => k_is); (case m => k_is); (case k => k_is))
    case GR => (refine' Ho.cls_mk KX G ?a ?m ?k; (case a => k_is); (case m => k_is); (case k => k_is))
    case DA => (refine' Ho.dfs_mk KX G ?a ?l ?c ?k; (case a => k_is); (case l => k_is); (case c => k_is); (case k => k_is))
    case D_copy_of => (refine' Ho.dfs_mk KX G ?a ?l ?c ?k; (case a => k_is); (case l => k_is); (case c => k_is); (case k => k_is))
    case D_has_kind => (refine' Ho.dfs_mk KX G ?a ?l ?c ?k; (case a => k_is); (case l => k_is); (case c => k_is); (case k => k_is))
    case D_is_gone => (refine' Ho.dfs_mk KX G ?a ?l ?c ?k; (case a => k_is); (case l => k_is); (case c => k_is); (case k => k_is))
    case D_mood_of => (refine' Ho.dfs_mk KX G ?a ?l ?c ?k; (case a => k_is); (case l => k_is); (case c => k_is); (case k => k_is))
    case D_radius_of => (refine' Ho.dfs_mk KX G ?a ?l ?c ?k; (case a => k_is); (case l => k_is); (case c => k_is); (case k => k_is))
    case D_how_one_is => (refine' Ho.dfs_mk KX G ?a ?l ?c ?k; (case a => k_is); (case l => k_is); (case c => k_is); (case k => k_is))
    case D_pack_weight => (refine' Ho.dfs_mk KX G ?a ?l ?c ?k; (case a => k_is); (case l => k_is); (case c => k_is); (case k => k_is))
    case D_coins_weight => (refine' Ho.dfs_mk KX G ?a ?l ?c ?k; (case a => k_is); (case l => k_is); (case c => k_is); (case k => k_is))
    case D_weight_of => (refine' Ho.dfs_mk KX G ?a ?l ?c ?k; (case a => k_is); (case l => k_is); (case c => k_is); (case k => k_is))
    case D_is_too_much => (refine' Ho.dfs_mk KX G ?a ?l ?c ?k; (case a => k_is); (case l => k_is); (case c => k_is); (case k => k_is))
    case D_load_of => (refine' Ho.dfs_mk KX G ?a ?l ?c ?k; (case a => k_is); (case l => k_is); (case c => k_is); (case k => k_is))
    case D_rate_of => (refine' Ho.dfs_mk KX G ?a ?l ?c ?k; (case a => k_is); (case l => k_is); (case c => k_is); (case k => k_is))
    case D_kind_refusal => (refine' Ho.dfs_mk KX G ?a ?l ?c ?k; (case a => k_is); (case l => k_is); (case c => k_is); (case k => k_is))
    case D_room_refusal => (refine' Ho.dfs_mk KX G ?a ?l ?c ?k; (case a => k_is); (case l => k_is); (case c => k_is); (case k => k_is))
    case D_find_refusal => (refine' Ho.dfs_mk KX G ?a ?l ?c ?k; (case a => k_is); (case l => k_is); (case c => k_is); (case k => k_is))
    case D_find_things => (refine' Ho.dfs_mk KX G ?a ?l ?c ?k; (case a => k_is); (case l => k_is); (case c => k_is); (case k => k_is))
    case D_taking_refusal => (refine' Ho.dfs_mk KX G ?a ?l ?c ?k; (case a => k_is); (case l => k_is); (case c => k_is); (case k => k_is))
    case D_drop_things => (refine' Ho.dfs_mk KX G ?a ?l ?c ?k; (case a => k_is); (case l => k_is); (case c => k_is); (case k => k_is))
    case D_use_refusal => (refine' Ho.dfs_mk KX G ?a ?l ?c ?k; (case a => k_is); (case l => k_is); (case c => k_is); (case k => k_is))
    case D_eat_thing => (refine' Ho.dfs_mk KX G ?a ?l ?c ?k; (case a => k_is); (case l => k_is); (case c => k_is); (case k => k_is))
    case D_fill_light => (refine' Ho.dfs_mk KX G ?a ?l ?c ?k; (case a => k_is); (case l => k_is); (case c => k_is); (case k => k_is))
    case D_cost_of => (refine' Ho.dfs_mk KX G ?a ?l ?c ?k; (case a => k_is); (case l => k_is); (case c => k_is); (case k => k_is))
    case D_gain_of => (refine' Ho.dfs_mk KX G ?a ?l ?c ?k; (case a => k_is); (case l => k_is); (case c => k_is); (case k => k_is))
    case D_weight_after => (refine' Ho.dfs_mk KX G ?a ?l ?c ?k; (case a => k_is); (case l => k_is); (case c => k_is); (case k => k_is))
    case D_deal => (refine' Ho.dfs_mk KX G ?a ?l ?c ?k; (case a => k_is); (case l => k_is); (case c => k_is); (case k => k_is))
    case D_stock_refusal => (refine' Ho.dfs_mk KX G ?a ?l ?c ?k; (case a => k_is); (case l => k_is); (case c => k_is); (case k => k_is))
    case D_buy_refusal => (refine' Ho.dfs_mk KX G ?a ?l ?c ?k; (case a => k_is); (case l => k_is); (case c => k_is); (case k => k_is))
    case D_buy_things => (refine' Ho.dfs_mk KX G ?a ?l ?c ?k; (case a => k_is); (case l => k_is); (case c => k_is); (case k => k_is))
    case D_sell_refusal => (refine' Ho.dfs_mk KX G ?a ?l ?c ?k; (case a => k_is); (case l => k_is); (case c => k_is); (case k => k_is))
    case D_sell_things => (refine' Ho.dfs_mk KX G ?a ?l ?c ?k; (case a => k_is); (case l => k_is); (case c => k_is); (case k => k_is))
    case D_stock_things => (refine' Ho.dfs_mk KX G ?a ?l ?c ?k; (case a => k_is); (case l => k_is); (case c => k_is); (case k => k_is))
    case D_healing_of => (refine' Ho.dfs_mk KX G ?a ?l ?c ?k; (case a => k_is); (case l => k_is); (case c => k_is); (case k => k_is))
    case D_heal => (refine' Ho.dfs_mk KX G ?a ?l ?c ?k; (case a => k_is); (case l => k_is); (case c => k_is); (case k => k_is))
    case D_burn => (refine' Ho.dfs_mk KX G ?a ?l ?c ?k; (case a => k_is); (case l => k_is); (case c => k_is); (case k => k_is))
    case D_tick => (refine' Ho.dfs_mk KX G ?a ?l ?c ?k; (case a => k_is); (case l => k_is); (case c => k_is); (case k => k_is))
    case D_pass_ticks => (refine' Ho.dfs_mk KX G ?a ?l ?c ?k; (case a => k_is); (case l => k_is); (case c => k_is); (case k => k_is))
    case D_tell_status => (refine' Ho.dfs_mk KX G ?a ?l ?c ?k; (case a => k_is); (case l => k_is); (case c => k_is); (case k => k_is))
    case D_tell_price => (refine' Ho.dfs_mk KX G ?a ?l ?c ?k; (case a => k_is); (case l => k_is); (case c => k_is); (case k => k_is))
    case D_ticks_until => (refine' Ho.dfs_mk KX G ?a ?l ?c ?k; (case a => k_is); (case l => k_is); (case c => k_is); (case k => k_is))
    case D_tell_when => (refine' Ho.dfs_mk KX G ?a ?l ?c ?k; (case a => k_is); (case l => k_is); (case c => k_is); (case k => k_is))
    case D_tell_pack => (refine' Ho.dfs_mk KX G ?a ?l ?c ?k; (case a => k_is); (case l => k_is); (case c => k_is); (case k => k_is))
    case D_tell_burden => (refine' Ho.dfs_mk KX G ?a ?l ?c ?k; (case a => k_is); (case l => k_is); (case c => k_is); (case k => k_is))
    case D_tell_worth => (refine' Ho.dfs_mk KX G ?a ?l ?c ?k; (case a => k_is); (case l => k_is); (case c => k_is); (case k => k_is))
    case D_tell_shop => (refine' Ho.dfs_mk KX G ?a ?l ?c ?k; (case a => k_is); (case l => k_is); (case c => k_is); (case k => k_is))
    case D_tell_ahead => (refine' Ho.dfs_mk KX G ?a ?l ?c ?k; (case a => k_is); (case l => k_is); (case c => k_is); (case k => k_is))
    case D_switch_light => (refine' Ho.dfs_mk KX G ?a ?l ?c ?k; (case a => k_is); (case l => k_is); (case c => k_is); (case k => k_is))
    case D_wait_ticks => (refine' Ho.dfs_mk KX G ?a ?l ?c ?k; (case a => k_is); (case l => k_is); (case c => k_is); (case k => k_is))
    case D_set_drain => (refine' Ho.dfs_mk KX G ?a ?l ?c ?k; (case a => k_is); (case l => k_is); (case c => k_is); (case k => k_is))
    case D_hurt_one => (refine' Ho.dfs_mk KX G ?a ?l ?c ?k; (case a => k_is); (case l => k_is); (case c => k_is); (case k => k_is))
    case D_opening_refusal => (refine' Ho.dfs_mk KX G ?a ?l ?c ?k; (case a => k_is); (case l => k_is); (case c => k_is); (case k => k_is))
    case D_keep_numbers => (refine' Ho.dfs_mk KX G ?a ?l ?c ?k; (case a => k_is); (case l => k_is); (case c => k_is); (case k => k_is))
    case D_keep_rows => (refine' Ho.dfs_mk KX G ?a ?l ?c ?k; (case a => k_is); (case l => k_is); (case c => k_is); (case k => k_is))
    case D_open_house => (refine' Ho.dfs_mk KX G ?a ?l ?c ?k; (case a => k_is); (case l => k_is); (case c => k_is); (case k => k_is))
    case D_is_within => (refine' Ho.dfs_mk KX G ?a ?l ?c ?k; (case a => k_is); (case l => k_is); (case c => k_is); (case k => k_is))
    case D_are_numbers_within => (refine' Ho.dfs_mk KX G ?a ?l ?c ?k; (case a => k_is); (case l => k_is); (case c => k_is); (case k => k_is))
    case D_is_row_within => (refine' Ho.dfs_mk KX G ?a ?l ?c ?k; (case a => k_is); (case l => k_is); (case c => k_is); (case k => k_is))
    case D_are_rows_within => (refine' Ho.dfs_mk KX G ?a ?l ?c ?k; (case a => k_is); (case l => k_is); (case c => k_is); (case k => k_is))
    case D_read_numbers => (refine' Ho.dfs_mk KX G ?a ?l ?c ?k; (case a => k_is); (case l => k_is); (case c => k_is); (case k => k_is))
    case D_read_rows => (refine' Ho.dfs_mk KX G ?a ?l ?c ?k; (case a => k_is); (case l => k_is); (case c => k_is); (case k => k_is))
    case D_answer_doing => (refine' Ho.dfs_mk KX G ?a ?l ?c ?k; (case a => k_is); (case l => k_is); (case c => k_is); (case k => k_is))
    case D_answer_asking => (refine' Ho.dfs_mk KX G ?a ?l ?c ?k; (case a => k_is); (case l => k_is); (case c => k_is); (case k => k_is))
    case D_answer_opened => (refine' Ho.dfs_mk KX G ?a ?l ?c ?k; (case a => k_is); (case l => k_is); (case c => k_is); (case k => k_is))
    case D_answer_call => (refine' Ho.dfs_mk KX G ?a ?l ?c ?k; (case a => k_is); (case l => k_is); (case c => k_is); (case k => k_is))
    case M_House___init__ => (refine' Ho.dfsM_mk ?a ?i ?l ?c ?k; (case a => k_is); (case i => k_is); (case l => k_is); (case c => k_is); (case k => k_is))
    case M_Reader___init__ => (refine' Ho.dfsM_mk ?a ?i ?l ?c ?k; (case a => k_is); (case i => k_is); (case l => k_is); (case c => k_is); (case k => k_is))
    case M_Reader_has_more => (refine' Ho.dfsM_mk ?a ?i ?l ?c ?k; (case a => k_is); (case i => k_is); (case l => k_is); (case c => k_is); (case k => k_is))
    case M_Reader_take_number => (refine' Ho.dfsM_mk ?a ?i ?l ?c ?k; (case a => k_is); (case i => k_is); (case l => k_is); (case c => k_is); (case k => k_is))
    case M_Reader_take_numbers => (refine' Ho.dfsM_mk ?a ?i ?l ?c ?k; (case a => k_is); (case i => k_is); (case l => k_is); (case c => k_is); (case k => k_is))
    case TR => (refine' ⟨⟨?pg, ?hd, ?po, ?sa⟩, Ho.no_cons ?f0 (Ho.no_cons ?f1 Ho.no_nil)⟩; (case pg => k_is); (case hd => k_is); (case po => k_is); (case sa => k_is); (case f0 => k_is); (case f1 => k_is))
    case T =>
      refine' ⟨⟨?pg, ?hd, ?po, ?sa⟩, (Ho.no_cons ?f0 (Ho.no_cons ?f1 (Ho.no_cons ?f2 (Ho.no_cons ?f3 (Ho.no_cons ?f4 (Ho.no_cons ?f5 (Ho.no_cons ?f6 (Ho.no_cons ?f7 (Ho.no_cons ?f8 (Ho.no_cons ?f9 (Ho.no_cons ?f10 (Ho.no_cons ?f11 (Ho.no_cons ?f12 (Ho.no_cons ?f13 (Ho.no_cons ?f14 (Ho.no_cons ?f15 (Ho.no_cons ?f16 (Ho.no_cons ?f17 (Ho.no_cons ?f18 (Ho.no_cons ?f19 (Ho.no_cons ?f20 Ho.no_nil))))))))))))))))))))), PySem.W.mg_none_of KX G ?n_len, PySem.W.mg_none_of KX G ?n_max, PySem.W.mg_none_of KX G ?n_min, PySem.W.mg_none_of KX G ?n_list, PySem.W.mg_none_of KX G ?n_zip, Ho.gI_mk KX G ?g_ACCEPTED, Ho.gI_mk KX G ?g_OUT_OF_RANGE, Ho.gI_mk KX G ?g_NOT_OPEN, Ho.gI_mk KX G ?g_ALREADY_OPEN, Ho.gI_mk KX G ?g_BAD_COUNT, Ho.gI_mk KX G ?g_NO_SUCH_KIND, Ho.gI_mk KX G ?g_TOO_FEW, Ho.gI_mk KX G ?g_TOO_HEAVY, Ho.gI_mk KX G ?g_OF_NO_USE, Ho.gI_mk KX G ?g_GONE, Ho.gI_mk KX G ?g_TOO_FEW_COINS, Ho.gI_mk KX G ?g_HUNGRY_FED, Ho.gI_mk KX G ?g_WEAK_FED, Ho.gI_mk KX G ?g_MOST_OF_A_KIND, Ho.gI_mk KX G ?g_MOST_FED, Ho.gI_mk KX G ?g_MOST_FUEL, Ho.gI_mk KX G ?g_UNLIT, Ho.gI_mk KX G ?g_LONGEST_ROW, Ho.gI_mk KX G ?g_OPEN, Ho.gI_mk KX G ?g_FIND, Ho.gI_mk KX G ?g_DROP, Ho.gI_mk KX G ?g_EAT, Ho.gI_mk KX G ?g_FILL, Ho.gI_mk KX G ?g_LIGHT, Ho.gI_mk KX G ?g_WAIT, Ho.gI_mk KX G ?g_DRAIN, Ho.gI_mk KX G ?g_HURT, Ho.gI_mk KX G ?g_BUY, Ho.gI_mk KX G ?g_SELL, Ho.gI_mk KX G ?g_STOCK, Ho.gI_mk KX G ?g_STATUS, Ho.gI_mk KX G ?g_PRICE, Ho.gI_mk KX G ?g_WHEN, Ho.gI_mk KX G ?g_PACK, Ho.gI_mk KX G ?g_BURDEN, Ho.gI_mk KX G ?g_WORTH, Ho.gI_mk KX G ?g_SHOP, ?tab, ?row⟩
      (case pg => k_is)
      (case hd => k_is)
      (case po => k_is)
      (case sa => k_is)
      (case f0 => k_is)
      (case f1 => k_is)
      (case f2 => k_is)
      (case f3 => k_is)
      (case f4 => k_is)
      (case f5 => k_is)
      (case f6 => k_is)
      (case f7 => k_is)
      (case f8 => k_is)
      (case f9 => k_is)
      (case f10 => k_is)
      (case f11 => k_is)
      (case f12 => k_is)
      (case f13 => k_is)
      (case f14 => k_is)
      (case f15 => k_is)
      (case f16 => k_is)
      (case f17 => k_is)
      (case f18 => k_is)
      (case f19 => k_is)
      (case f20 => k_is)
      (case n_len => k_is)
      (case n_max => k_is)
      (case n_min => k_is)
      (case n_list => k_is)
      (case n_zip => k_is)
      (case g_ACCEPTED => k_is)
      (case g_OUT_OF_RANGE => k_is)
      (case g_NOT_OPEN => k_is)
      (case g_ALREADY_OPEN => k_is)
      (case g_BAD_COUNT => k_is)
      (case g_NO_SUCH_KIND => k_is)
      (case g_TOO_FEW => k_is)
      (case g_TOO_HEAVY => k_is)
      (case g_OF_NO_USE => k_is)
      (case g_GONE => k_is)
      (case g_TOO_FEW_COINS => k_is)
      (case g_HUNGRY_FED => k_is)
      (case g_WEAK_FED => k_is)
      (case g_MOST_OF_A_KIND => k_is)
      (case g_MOST_FED => k_is)
      (case g_MOST_FUEL => k_is)
      (case g_UNLIT => k_is)
      (case g_LONGEST_ROW => k_is)
      (case g_OPEN => k_is)
      (case g_FIND => k_is)
      (case g_DROP => k_is)
      (case g_EAT => k_is)
      (case g_FILL => k_is)
      (case g_LIGHT => k_is)
      (case g_WAIT => k_is)
      (case g_DRAIN => k_is)
      (case g_HURT => k_is)
      (case g_BUY => k_is)
      (case g_SELL => k_is)
      (case g_STOCK => k_is)
      (case g_STATUS => k_is)
      (case g_PRICE => k_is)
      (case g_WHEN => k_is)
      (case g_PACK => k_is)
      (case g_BURDEN => k_is)
      (case g_WORTH => k_is)
      (case g_SHOP => k_is)
      case tab => (refine' Ho.tab_mk KX G ?a ?l ?o; (case a => k_is); (case l => k_is); (case o => kernel_rfl))
      case row => (refine' Ho.row_mk KX G ?a ?o; (case a => k_is); (case o => kernel_rfl))
  case S =>
    intro K H xs a hO hwi hask hx
    cases hx with
    | cons h1 h2 =>
      cases h2
      cases h1 with
      | lst hs ha =>
        have e := L2.ints_dw a.1 _ ha
        subst e
        exact ⟨_, a.1, rfl, hs, hask, fun H' p hp => .lst (L2.SqL.of hp) (L2.dw_ints _)⟩
end
