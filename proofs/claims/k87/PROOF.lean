import PyProof.Rows.All
import Wide.All
import OpenK.AllK
import Wide.FinOn
import PyProof.EqAt
import PyProof.EqKinds
import PyProof.TupleCall
import KE.BitLaws
import KE.KRegrown
import KE.KUnpack
import PyProof.Rows.SortShellAny
import PyProof.ListRange
import PySem.Challenge.RW_graftsay_k87_one_side
set_option Elab.async false
set_option linter.all false
set_option maxRecDepth 100000
/-! THE HAND LAYER, for ints, bools, texts, own classes, lists, tuples, dicts, comprehensions, walks over dicts, enumerate, zip, reversed, texts, calls, loops. Paste it whole ahead of your own text; what your proof does not reach may be deleted. -/
namespace L2
open PySem PySem.Spec PyProof.Rows

/-- a key: an int or a str -/
abbrev Key := Sum Int Str
def keyIs : Key → Value → Bool
  | .inl k, v => Value.isInt k v
  | .inr x, v => Value.isStrOf x v
def keyH (w : World) : Key → Int
  | .inl k => hashInt k
  | .inr x => hashStr w x
theorem keyIs_shape : ∀ {k : Key} {v : Value}, keyIs k v = true → (∃ i t, k = Sum.inl i ∧ v = Value.int i t) ∨ (∃ x t, k = Sum.inr x ∧ v = Value.str x t)
  | .inl i, v, h => by
    obtain ⟨t, e⟩ := Value.isInt_shape (k := i) (v := v) h
    exact .inl ⟨i, t, rfl, e⟩
  | .inr x, v, h => by
    obtain ⟨t, e⟩ := Value.isStrOf_shape (x := x) (v := v) h
    exact .inr ⟨x, t, rfl, e⟩
theorem keyIs_int (i : Int) (t : Tok) : keyIs (.inl i) (.int i t) = true := by simp [keyIs, Value.isInt]
theorem keyIs_str (x : Str) (t : Tok) : keyIs (.inr x) (.str x t) = true := by simp [keyIs, Value.isStrOf]
theorem key_ll (a b : Int) : decide ((Sum.inl a : Key) = Sum.inl b) = (a == b) := by
  by_cases e : a = b
  · subst e; simp
  · have h : ¬ (Sum.inl a : Key) = Sum.inl b := fun q => e (Sum.inl.inj q)
    rw [decide_eq_false h]
    exact (beq_eq_false_iff_ne.mpr e).symm
theorem key_rr (a b : Str) : decide ((Sum.inr a : Key) = Sum.inr b) = decide (a = b) := by
  by_cases e : a = b
  · subst e; simp
  · have h : ¬ (Sum.inr a : Key) = Sum.inr b := fun q => e (Sum.inr.inj q)
    rw [decide_eq_false h, decide_eq_false e]
theorem key_lr (a : Int) (b : Str) : decide ((Sum.inl a : Key) = Sum.inr b) = false := decide_eq_false (fun q => nomatch q)
theorem key_rl (a : Str) (b : Int) : decide ((Sum.inr a : Key) = Sum.inl b) = false := decide_eq_false (fun q => nomatch q)

def mixKind (prog : Program) (w : World) : PySem.KeyKind prog w Key where
  is := keyIs
  hash := keyH w
  inj := fun v a b ha hb => by
    rcases keyIs_shape ha with ⟨i, t, rfl, rfl⟩ | ⟨x, t, rfl, rfl⟩
    · rcases keyIs_shape hb with ⟨j, u, rfl, e⟩ | ⟨y, u, rfl, e⟩
      · injection e with e1 _; rw [e1]
      · exact nomatch e
    · rcases keyIs_shape hb with ⟨j, u, rfl, e⟩ | ⟨y, u, rfl, e⟩
      · exact nomatch e
      · injection e with e1 _; rw [e1]
  byValue := fun k v h => by
    rcases keyIs_shape h with ⟨i, t, rfl, rfl⟩ | ⟨x, t, rfl, rfl⟩ <;> rfl
  pyHash := fun hv h => by
    rcases keyIs_shape hv with ⟨i, t, rfl, rfl⟩ | ⟨x, t, rfl, rfl⟩
    · exact wpAny_pyHash_int h
    · exact wpAny_pyHash_str h
  eqBool := fun hu hv h => by
    rcases keyIs_shape hu with ⟨i, t, rfl, rfl⟩ | ⟨x, t, rfl, rfl⟩
    · rcases keyIs_shape hv with ⟨j, u, rfl, rfl⟩ | ⟨y, u, rfl, rfl⟩
      · rw [key_ll] at h; exact wpAny_eqBool_int h
      · rw [key_lr] at h; exact SeqAt.EqAt.int_str i t y u _ _ _ _ h
    · rcases keyIs_shape hv with ⟨j, u, rfl, rfl⟩ | ⟨y, u, rfl, rfl⟩
      · rw [key_rl] at h; exact SeqAt.EqAt.str_int x t j u _ _ _ _ h
      · rw [key_rr] at h; exact wpAny_eqBool_str h
  «strs» := fun k x t v h => by
    rcases keyIs_shape h with ⟨i, u, rfl, e⟩ | ⟨y, u, rfl, e⟩
    · exact nomatch e
    · injection e with e1 _
      subst e1
      cases v <;> rfl

theorem mixKind_int (prog : Program) (w : World) (i : Int) (t : Tok) : (mixKind prog w).is (.inl i) (.int i t) = true := keyIs_int i t
theorem mixKind_str (prog : Program) (w : World) (x : Str) (t : Tok) : (mixKind prog w).is (.inr x) (.str x t) = true := keyIs_str x t
end L2

namespace L2
open PySem PySem.Spec PyProof.Rows

/-- a value, without the heap -/
inductive V where
  | non | bl (b : Bool) | int (i : Int) | str (x : Str) | byt (b : Array UInt8) | flt (b : UInt64) | ref (a : Addr) | ty (n : String)
  deriving DecidableEq

def RelV : V → Value → Prop
  | .non, u => u = Value.none
  | .bl b, u => u = Value.bool b
  | .int i, u => ∃ t, u = Value.int i t
  | .str x, u => ∃ t, u = Value.str x t
  | .byt b, u => ∃ t, u = Value.bytes b t
  | .flt b, u => ∃ t, u = Value.float b t
  | .ref a, u => u = Value.ref a
  | .ty n, u => u = Value.type n

abbrev Vals : List V → List Value → Prop := Paired RelV
theorem Vals.length {xs : List V} {us : List Value} (r : Vals xs us) : xs.length = us.length := Paired.length r
theorem Vals.get : ∀ {xs : List V} {us : List Value} {i : Nat} {x : V}, Vals xs us → xs[i]? = some x → ∃ u, us[i]? = some u ∧ RelV x u
  | _, _, _, _, .nil, e => by simp at e
  | _, _, 0, _, .cons r _, e => by simp at e; subst e; exact ⟨_, rfl, r⟩
  | _, _, i + 1, x, .cons _ t, e => by
    obtain ⟨u, h1, h2⟩ := Vals.get (i := i) (x := x) t (by simpa using e)
    exact ⟨u, by simpa using h1, h2⟩
theorem Vals.set {x : V} {u : Value} (r : RelV x u) : ∀ {xs : List V} {us : List Value} (i : Nat), Vals xs us → Vals (xs.set i x) (us.set i u)
  | _, _, _, .nil => .nil
  | _, _, 0, .cons _ t => .cons r t
  | _, _, i + 1, .cons q t => .cons q (Vals.set r i t)
theorem Vals.append : ∀ {xs ys : List V} {us ws : List Value}, Vals xs us → Vals ys ws → Vals (xs ++ ys) (us ++ ws)
  | _, _, _, _, .nil, s => s
  | _, _, _, _, .cons r t, s => .cons r (Vals.append t s)
theorem Vals.take : ∀ {xs : List V} {us : List Value} (n : Nat), Vals xs us → Vals (xs.take n) (us.take n)
  | _, _, 0, _ => .nil
  | _, _, _ + 1, .nil => .nil
  | _, _, n + 1, .cons r t => .cons r (Vals.take n t)
theorem Vals.drop : ∀ {xs : List V} {us : List Value} (n : Nat), Vals xs us → Vals (xs.drop n) (us.drop n)
  | _, _, 0, r => r
  | _, _, _ + 1, .nil => .nil
  | _, _, n + 1, .cons _ t => Vals.drop n t
def RelO : Option V → Option Value → Prop
  | some v, some u => RelV v u
  | none, none => True
  | _, _ => False
def KV {κ : Type} : List (κ × V) → List (κ × Value) → Prop := Paired fun (p : κ × V) (q : κ × Value) => p.1 = q.1 ∧ RelV p.2 q.2

/-- a key of a dict (00_mix): an int or a text -/
def kV : Key → V
  | .inl i => .int i
  | .inr x => .str x

/-- a tuple without a dict of its own -/
def PlainT (h : Heap) (a : Addr) (its : Array Value) : Prop := ∃ o, h.get? a = some o ∧ o.cls = .type "tuple" ∧ o.dict = none ∧ ∃ n, o.data = .seq its n
theorem PlainT.tup {h : Heap} {a : Addr} {its : Array Value} (x : PlainT h a its) : IsTup h a its := let ⟨o, e, c, _, d⟩ := x; ⟨o, e, c, d⟩
theorem PlainT.lt {h : Heap} {a : Addr} {its : Array Value} (x : PlainT h a its) : a < h.objs.size := x.tup.lt
theorem PlainT.new (h : Heap) (items : Array Value) : PlainT (h.push { cls := .type "tuple", data := .seq items }) h.objs.size items := ⟨_, Heap.get?_push_size _ rfl, rfl, rfl, _, rfl⟩

/-- what stands at a tracked address -/
inductive HO where
  /-- a list -/
  | lst (xs : List V)
  /-- a tuple (never changes) -/
  | tup (xs : List V)
  /-- a dict whose keys are ints and texts; one whose keys are tuples of ints and texts (the empty one is both) -/
  | dK (kvs : List (Key × V)) | dT (kvs : List (List Key × V))
  /-- a set of ints: its members, its size -/
  | set (S : Key → Bool) (n : Nat)
  /-- an instance of the class at C, its dict at dx, its attributes -/
  | ins (C dx : Addr) (fs : List (Str × V))
  /-- the dict of the instance at x -/
  | own (x : Addr)
  /-- the dict of an exception -/
  | xd (fs : List (Str × V))
  /-- a bound method, f of x -/
  | met (f x : Addr)
  /-- a range object lo, lo + 1, .. below hi -/
  | rng (lo hi : Int)
  /-- a thing that is known to the object (the script; a dict while a loop walks it): read, never written while it is so -/
  | frz (o : Obj) (u : HO)
  /-- a code object's table -/
  | tbl (ps : Array Value)
  /-- any other thing, by what is true of its one object (a def of one's own: SetO a S n := HO.ext fun h => ..) -/
  | ext (φ : Heap → Prop)

abbrev Hp := Addr → Option HO
def upd (H : Hp) (a : Addr) (o : HO) : Hp := fun b => if b = a then some o else H b
theorem upd_same {H : Hp} {a : Addr} {o : HO} : upd H a o a = some o := by unfold upd; rw [if_pos rfl]
theorem upd_ne {H : Hp} {a b : Addr} {o : HO} (h : b ≠ a) : upd H a o b = H b := by unfold upd; rw [if_neg h]
/-- two objects of different content stand apart -/
theorem ne_of {H : Hp} {a b : Addr} {o u : HO} (h : H a = some o) (h' : H b = some u) (d : o ≠ u) : a ≠ b := by
  intro e; subst e; rw [h] at h'; exact d (Option.some.inj h')
theorem ne_of_none {H : Hp} {a b : Addr} {o : HO} (h : H a = some o) (h' : H b = none) : a ≠ b := by
  intro e; subst e; rw [h] at h'; cases h'

section
variable (P : Program) (w : World)
def ObjOk (H : Hp) (h : Heap) (a : Addr) : HO → Prop
  | .lst xs => xs.length ≤ sizeLine ∧ ∃ (its : List Value) (n : Nat), Vals xs its ∧ h.get? a = some { cls := .type "list", data := .seq its.toArray n }
  | .tup xs => xs.length ≤ sizeLine ∧ ∃ its : List Value, Vals xs its ∧ PlainT h a its.toArray
  | .dK kvs => kvs.length ≤ sizeLine ∧ (a == sysModules) = false ∧ ∃ vs, KV kvs vs ∧ h.DictOf (mixKind P w) a vs
  | .dT kvs => kvs.length ≤ sizeLine ∧ (a == sysModules) = false ∧ ∃ xs : List (List Key × Addr × Value),
      Paired (fun (p : List Key × V) (q : List Key × Addr × Value) => p.1 = q.1 ∧ H q.2.1 = some (.tup (p.1.map kV)) ∧ RelV p.2 q.2.2) kvs xs ∧
      ∃ o es ep, h.get? a = some o ∧ o.ExactDict ∧ o.data = .dict es ep ∧ es.toList = xs.map (entryOfKey (tupleKind (mixKind P w))) ∧ (xs.map (·.1)).Nodup
  | .set S n => h.SetOf (mixKind P w) a S n
  | .ins C dx fs => H dx = some (.own a) ∧ fs.length ≤ 1000 ∧ dx ≠ a ∧ h.get? a = some (PySem.W.instObj C dx) ∧
      ∃ mA, h.Ns1 dx mA ∧ (∀ f, RelO (fs.lookup f) (mA f)) ∧ PySem.Within mA (fs.map (·.1))
  | .own _ => ∃ o, h.get? a = some o
  | .xd fs => ∃ mA, h.Ns1 a mA ∧ ∀ f, RelO (fs.lookup f) (mA f)
  | .rng lo hi => ∃ t u v, h.get? a = some { cls := .type "range", data := .fields #[.int lo t, .int hi u, .int 1 v] }
  | .frz o u => h.get? a = some o ∧ ObjOk H h a u
  | .tbl ps => h.get? a = some { cls := .none, data := .fields ps }
  | .met f x => h.get? a = some (PySem.W.methodObj (.ref f) (.ref x))
  | .ext φ => φ h ∧ (∃ o, h.get? a = some o) ∧ ∀ h1 h2 : Heap, φ h1 → (∀ o, h1.get? a = some o → h2.get? a = some o) → φ h2
/-- the abstract heap is held -/
def HOk (H : Hp) (h : Heap) : Prop := ∀ a o, H a = some o → ObjOk P w H h a o
end

section
variable {P : Program} {w : World} {H H' : Hp} {h h' : Heap} {a : Addr} {o : HO}
theorem ObjOk.lt (x : ObjOk P w H h a o) : a < h.objs.size := by
  cases o with
  | lst xs => obtain ⟨_, _, _, _, e⟩ := x; exact Heap.lt_size e
  | tup xs => obtain ⟨_, _, _, p⟩ := x; exact p.lt
  | dK kvs => obtain ⟨_, _, _, _, o, _, _, e, _⟩ := x; exact Heap.lt_size e
  | dT kvs => obtain ⟨_, _, _, _, o, _, _, e, _⟩ := x; exact Heap.lt_size e
  | set S n => obtain ⟨o, _, _, _, e, _⟩ := x; exact Heap.lt_size e
  | ins C dx fs => obtain ⟨_, _, _, e, _⟩ := x; exact Heap.lt_size e
  | own y => obtain ⟨_, e⟩ := x; exact Heap.lt_size e
  | xd fs => obtain ⟨_, ⟨_, _, _, e, _⟩, _⟩ := x; exact Heap.lt_size e
  | rng lo hi => obtain ⟨_, _, _, e⟩ := x; exact Heap.lt_size e
  | frz ob u => obtain ⟨e, _⟩ := x; exact Heap.lt_size e
  | tbl ps => exact Heap.lt_size (show h.get? a = some _ from x)
  | met f y => exact Heap.lt_size (show h.get? a = some _ from x)
  | ext φ => obtain ⟨_, ⟨_, e⟩, _⟩ := x; exact Heap.lt_size e
theorem Paired.mapP {α β : Type} {F G : α → β → Prop} : ∀ {l₁ : List α} {l₂ : List β}, Paired F l₁ l₂ → (∀ a b, F a b → G a b) → Paired G l₁ l₂
  | _, _, .nil, _ => .nil
  | _, _, .cons r t, f => .cons (f _ _ r) (Paired.mapP t f)
/-- what an object's description leans on: its own object, its own dict, the tuples -/
theorem ObjOk.stay (x : ObjOk P w H h a o) (k : ∀ b u, (b = a ∨ H b = some (.own a)) → h.get? b = some u → h'.get? b = some u)
    (ho : ∀ b, H b = some (.own a) → H' b = some (.own a)) (ht : ∀ b xs, H b = some (.tup xs) → H' b = some (.tup xs)) : ObjOk P w H' h' a o := by
  induction o with
  | lst xs => obtain ⟨z, its, n, r, e⟩ := x; exact ⟨z, its, n, r, k _ _ (.inl rfl) e⟩
  | tup xs => obtain ⟨z, its, r, ob, e, c⟩ := x; exact ⟨z, its, r, ob, k _ _ (.inl rfl) e, c⟩
  | dK kvs => obtain ⟨z, y, vs, r, ob, es, ep, e, c⟩ := x; exact ⟨z, y, vs, r, ob, es, ep, k _ _ (.inl rfl) e, c⟩
  | dT kvs =>
    obtain ⟨z, y, xs, r, ob, es, ep, e, c⟩ := x
    exact ⟨z, y, xs, Paired.mapP r fun p q z => ⟨z.1, ht _ _ z.2.1, z.2.2⟩, ob, es, ep, k _ _ (.inl rfl) e, c⟩
  | set S n => obtain ⟨ob, es, ep, t, e, c⟩ := x; exact ⟨ob, es, ep, t, k _ _ (.inl rfl) e, c⟩
  | ins C dx fs =>
    obtain ⟨d, z, ne, e, mA, ⟨od, es, ep, e2, c⟩, r⟩ := x
    exact ⟨ho _ d, z, ne, k _ _ (.inl rfl) e, mA, ⟨od, es, ep, k _ _ (.inr d) e2, c⟩, r⟩
  | own y => obtain ⟨ob, e⟩ := x; exact ⟨ob, k _ _ (.inl rfl) e⟩
  | xd fs => obtain ⟨mA, ⟨od, es, ep, e, c⟩, r⟩ := x; exact ⟨mA, ⟨od, es, ep, k _ _ (.inl rfl) e, c⟩, r⟩
  | rng lo hi => obtain ⟨t, u, v, e⟩ := x; exact ⟨t, u, v, k _ _ (.inl rfl) e⟩
  | frz ob u ih => obtain ⟨e, q⟩ := x; exact ⟨k _ _ (.inl rfl) e, ih q⟩
  | tbl ps =>
    have e : h.get? a = some { cls := .none, data := .fields ps } := x
    show h'.get? a = some { cls := .none, data := .fields ps }
    exact k a _ (.inl rfl) e
  | met f y =>
    have e : h.get? a = some (PySem.W.methodObj (.ref f) (.ref y)) := x
    show h'.get? a = some (PySem.W.methodObj (.ref f) (.ref y))
    exact k a _ (.inl rfl) e
  | ext φ => obtain ⟨p, ⟨o, e⟩, st⟩ := x; exact ⟨st _ _ p fun o q => k _ _ (.inl rfl) q, ⟨o, k _ _ (.inl rfl) e⟩, st⟩
theorem HOk.lt (x : HOk P w H h) (e : H a = some o) : a < h.objs.size := (x a o e).lt
theorem HOk.fresh (x : HOk P w H h) (e : h.objs.size ≤ a) : H a = none := by
  cases q : H a with
  | none => rfl
  | some u => exact absurd (Nat.lt_of_lt_of_le (x.lt q) e) (Nat.lt_irrefl _)
/-- every object of the heap is kept -/
theorem HOk.kept (x : HOk P w H h) (k : ∀ b u, h.get? b = some u → h'.get? b = some u) : HOk P w H h' := fun a o e =>
  (x a o e).stay (fun b u _ q => k b u q) (fun _ q => q) fun _ _ q => q
/-- a new object is laid and tracked -/
theorem HOk.laid (x : HOk P w H h) (k : ∀ b u, h.get? b = some u → h'.get? b = some u) (hp : h.objs.size ≤ a) (new : ObjOk P w (upd H a o) h' a o) : HOk P w (upd H a o) h' := fun b u e => by
  have hn := x.fresh hp
  by_cases hb : b = a
  · subst hb; rw [upd_same] at e; cases e; exact new
  · rw [upd_ne hb] at e
    exact (x b u e).stay (fun c v _ q => k c v q) (fun c q => by rw [upd_ne (ne_of_none q hn)]; exact q) fun c xs q => by rw [upd_ne (ne_of_none q hn)]; exact q
end

/-- what may be read as u: it is u, or a known u -/
def Rd (H : Hp) (a : Addr) (u : HO) : Prop := H a = some u ∨ ∃ o, H a = some (.frz o u)
theorem Rd.of {H : Hp} {a : Addr} {u : HO} (h : H a = some u) : Rd H a u := .inl h
theorem Rd.ok {P : Program} {w : World} {H : Hp} {h : Heap} {a : Addr} {u : HO} (r : Rd H a u) (x : HOk P w H h) : ObjOk P w H h a u := by
  rcases r with r | ⟨o, r⟩
  · exact x a u r
  · obtain ⟨_, q⟩ := x a _ r
    exact q
/-- what may be written -/
def Mut : Option HO → Prop
  | some (.lst _) => True
  | some (.dK _) => True
  | some (.dT _) => True
  | some (.set _ _) => True
  | some (.ins _ _ _) => True
  | some (.ext _) => True
  | _ => False
section
variable {P : Program} {w : World} {H : Hp} {h h' : Heap} {x e : Addr} {o' : HO}
/-- the object at e is changed: x itself, or the dict of the instance x -/
theorem HOk.write (ok : HOk P w H h) (mu : Mut (H x)) (he : e = x ∨ H e = some (.own x)) (k : ∀ b u, b ≠ e → h.get? b = some u → h'.get? b = some u) (heo : ∃ u, h'.get? e = some u)
    (new : ObjOk P w (upd H x o') h' x o') : HOk P w (upd H x o') h' := fun b u q => by
  have nown : ∀ c y, H c = some (.own y) → c ≠ x := fun c y r z => by subst z; rw [r] at mu; exact mu
  have ntup : ∀ c xs, H c = some (.tup xs) → c ≠ x := fun c xs r z => by subst z; rw [r] at mu; exact mu
  by_cases hb : b = x
  · subst hb; rw [upd_same] at q; cases q; exact new
  · rw [upd_ne hb] at q
    by_cases hbe : b = e
    · have q' : H b = some (.own x) := by
        rcases he with z | z
        · exact absurd (hbe.trans z) hb
        · rw [hbe]; exact z
      rw [q] at q'; cases q'
      obtain ⟨v, hv⟩ := heo
      exact ⟨v, by rw [hbe]; exact hv⟩
    · refine (ok b u q).stay (fun c v hc r => k c v ?_ r) (fun c r => by rw [upd_ne (nown c b r)]; exact r) fun c xs r => by rw [upd_ne (ntup c xs r)]; exact r
      rcases hc with rfl | hc
      · exact hbe
      · rintro rfl
        rcases he with z | z
        · exact nown c b hc z
        · rw [hc] at z; cases z; exact hb rfl
end

/-! ### kept unless tracked; of the frames at fs (the callers') the slots may change (an exception that passes writes there); of the records at ex (iterators) nothing is said -/
structure Un (fs ex : List Addr) (H H' : Hp) (h h' : Heap) : Prop where
  keep : ∀ b o, h.get? b = some o → H b = none → b ∉ fs → b ∉ ex → h'.get? b = some o
  slot : ∀ b o, h.get? b = some o → H b = none → b ∈ fs → b ∉ ex → ∃ sl, h'.get? b = some { o with slots := sl }
  free : ∀ b o, h.get? b = some o → H b = none → b ∉ ex → H' b = none
  there : ∀ b o, h.get? b = some o → b ∉ ex → ∃ o', h'.get? b = some o'
  tups : ∀ b xs, H b = some (.tup xs) → H' b = some (.tup xs)
  frzs : ∀ b o u, H b = some (.frz o u) → H' b = some (.frz o u)
  tbls : ∀ b ps, H b = some (.tbl ps) → ∃ more, H' b = some (.tbl (ps ++ more))
section
variable {fs fs' ex ex' : List Addr} {H H1 H2 : Hp} {h h1 h2 h' : Heap} {a x e : Addr} {o : HO}
theorem Un.any (u : Un fs ex H H1 h h1) {b : Addr} {ob : Obj} (q : h.get? b = some ob) (n : H b = none) (hx : b ∉ ex) : ∃ sl, h1.get? b = some { ob with slots := sl } := by
  by_cases hb : b ∈ fs
  · exact u.slot b ob q n hb hx
  · exact ⟨ob.slots, u.keep b ob q n hb hx⟩
theorem Un.trans (a : Un fs ex H H1 h h1) (b : Un fs ex H1 H2 h1 h2) : Un fs ex H H2 h h2 where
  keep := fun c ob q n hc hx => b.keep c ob (a.keep c ob q n hc hx) (a.free c ob q n hx) hc hx
  slot := fun c ob q n hc hx => by
    obtain ⟨sl, e1⟩ := a.slot c ob q n hc hx
    obtain ⟨sl', e2⟩ := b.slot c _ e1 (a.free c ob q n hx) hc hx
    exact ⟨sl', e2⟩
  free := fun c ob q n hx => by
    obtain ⟨o', e1⟩ := a.there c ob q hx
    exact b.free c o' e1 (a.free c ob q n hx) hx
  there := fun c ob q hx => by
    obtain ⟨o', e1⟩ := a.there c ob q hx
    exact b.there c o' e1 hx
  tups := fun c xs q => b.tups c xs (a.tups c xs q)
  frzs := fun c ob xs q => b.frzs c ob xs (a.frzs c ob xs q)
  tbls := fun c ps q => by
    obtain ⟨m1, e1⟩ := a.tbls c ps q
    obtain ⟨m2, e2⟩ := b.tbls c _ e1
    exact ⟨m1 ++ m2, by rw [e2, Array.append_assoc]⟩
theorem Un.kept (k : ∀ b u, h.get? b = some u → h'.get? b = some u) : Un fs ex H H h h' :=
  ⟨fun b ob q _ _ _ => k b ob q, fun b ob q _ _ _ => ⟨ob.slots, k b ob q⟩, fun _ _ _ n _ => n, fun b ob q _ => ⟨ob, k b ob q⟩, fun _ _ q => q, fun _ _ _ q => q, fun _ ps q => ⟨#[], by rw [q]; simp⟩⟩
theorem Un.refl : Un fs ex H H h h := Un.kept fun _ _ q => q
theorem Un.laid (k : ∀ b u, h.get? b = some u → h'.get? b = some u) (hp : h.objs.size ≤ a) (hn : H a = none) : Un fs ex H (upd H a o) h h' where
  keep := fun b u q _ _ _ => k b u q
  slot := fun b u q _ _ _ => ⟨u.slots, k b u q⟩
  free := fun b u q n _ => by rw [upd_ne (Nat.ne_of_lt (Nat.lt_of_lt_of_le (Heap.lt_size q) hp))]; exact n
  there := fun b u q _ => ⟨u, k b u q⟩
  tups := fun b xs q => by rw [upd_ne (ne_of_none q hn)]; exact q
  frzs := fun b u xs q => by rw [upd_ne (ne_of_none q hn)]; exact q
  tbls := fun b ps q => ⟨#[], by rw [upd_ne (ne_of_none q hn), q]; simp⟩
theorem Un.write (mu : Mut (H x)) (he : e = x ∨ H e = some (.own x)) (k : ∀ b u, b ≠ e → h.get? b = some u → h'.get? b = some u) (heo : ∃ u, h'.get? e = some u) : Un fs ex H (upd H x o) h h' := by
  have hx : ∀ b, H b = none → b ≠ x := fun b n z => by subst z; rw [n] at mu; exact mu
  have hb : ∀ b, H b = none → b ≠ e := fun b n z => by
    subst z
    rcases he with r | r
    · exact hx b n r
    · rw [n] at r; cases r
  have hm : ∀ b u, H b = some u → ¬ Mut (some u) → b ≠ x := fun b u q nm z => by subst z; rw [q] at mu; exact nm mu
  refine ⟨fun b u q n _ _ => k b u (hb b n) q, fun b u q n _ _ => ⟨u.slots, k b u (hb b n) q⟩, fun b u q n _ => by rw [upd_ne (hx b n)]; exact n, fun b u q _ => ?_,
    fun b xs q => by rw [upd_ne (hm b _ q fun z => z)]; exact q, fun b u xs q => by rw [upd_ne (hm b _ q fun z => z)]; exact q, fun b ps q => ⟨#[], by rw [upd_ne (hm b _ q fun z => z), q]; simp⟩⟩
  by_cases hbe : b = e
  · subst hbe; exact heo
  · exact ⟨u, k b u hbe q⟩
theorem Un.mono (u : Un fs ex H H1 h h1) (hs : ∀ b ∈ fs, b ∈ fs') (hx : ∀ b ∈ ex, b ∈ ex') : Un fs' ex' H H1 h h1 :=
  ⟨fun b ob q n hb he => u.keep b ob q n (fun z => hb (hs b z)) fun z => he (hx b z), fun _ _ q n _ he => u.any q n fun z => he (hx _ z), fun b ob q n he => u.free b ob q n fun z => he (hx b z), fun b ob q he => u.there b ob q fun z => he (hx b z), u.tups, u.frzs, u.tbls⟩
end

/-! ### the heap without what is tracked -/
def trk (h : Heap) (H : Hp) : List Addr := (List.range h.objs.size).filter fun a => (H a).isSome
def hidT (h : Heap) (H : Hp) : Heap := PySem.W.hideAll h (trk h H)
theorem hidT_size (h : Heap) (H : Hp) : (hidT h H).objs.size = h.objs.size := PySem.W.hideAll_size _ _
theorem hidT_get {h : Heap} {H : Hp} {b : Addr} {o : Obj} (e : h.get? b = some o) (n : H b = none) : (hidT h H).get? b = some o :=
  PySem.W.hideAll_get _ e fun hm => by
    have q : (H b).isSome = true := (List.mem_filter.mp hm).2
    rw [n] at q; simp at q
theorem of_hidT {h : Heap} {H : Hp} {b : Addr} {o : Obj} (e : (hidT h H).get? b = some o) : h.get? b = some o ∧ H b = none := by
  have e' : h.get? b = some o := PySem.W.of_hideAll (trk h H) e
  refine ⟨e', ?_⟩
  cases q : H b with
  | none => rfl
  | some x =>
    have hm : b ∈ trk h H := List.mem_filter.mpr ⟨List.mem_range.mpr (Heap.lt_size e'), by simp [q]⟩
    have z : (hidT h H).get? b = none := PySem.W.hideAll_none (trk h H) hm
    rw [z] at e; cases e

/-! ### OpenK's ledger, filled with every new object but one -/
def allNews (g h : Heap) (L : Addr) : List (Addr × Obj) := (List.range h.objs.size).filterMap fun a => if a = L ∨ (g.get? a).isSome = true then none else (h.get? a).map fun o => (a, o)
def rest (g h : Heap) (L d : Addr) : List (Addr × Obj) := (allNews g h L).filter fun p => decide (p.1 ≠ d)
end L2

namespace L2
open PySem PySem.Spec PyProof.Rows

/-- the module's facts, over the base: the heap at the law's entry without what is tracked there -/
structure Mod (K : PySem.W.Frag) (mg : Str → Option Value) (base : Heap) : Prop where
  kin : K.In base
  glob : base.Ns mainGlobals mg
  blt : ∃ mb, base.Ns builtinsNs mb ∧ ∀ x : Str, x ≠ "__name__" → mb x = bootBuiltins x
  nolimit : base.NoLimit

/-- the context: a def's body (or a comprehension's block) running. base: fixed through the whole law; s₀, H₀: the entry; outer: the frames whose slots others may change (a def's callers); stack: all frames that run;
   ex: iterators that were made ahead of the entry and are walked here (a comprehension's); fn: the names whose cells were made at the entry (a def: all; a comprehension's block: its own); calm: not within an except suite; pn: pins that every state bears; xe: what is wanted of an exception that leaves the code -/
structure Cx where
  prog : Program
  w : World
  K : PySem.W.Frag
  mg : Str → Option Value
  base : Heap
  A : Around
  N : List Str
  s_0 : Shared
  H_0 : Hp
  env : Env
  outer : List Env
  stack : List Env
  ex : List Addr
  fn : Str → Bool
  calm : Bool
  pn : List (Addr × Obj)
  xe : Value → Shared → Prop
/-- the callers' frames -/
def frs (l : List Env) : List Addr := l.filterMap (·.frame)
abbrev Cx.fs (X : Cx) : List Addr := frs X.outer

def Vis (sc : Scope) (x : Str) : Prop := sc.names.lookup x = some .local ∨ sc.names.lookup x = some .cell ∨ sc.names.lookup x = some .free
def Loc (sc : Scope) (x : Str) : Prop := sc.names.lookup x = some .local ∨ sc.names.lookup x = some .cell
def Look (env : Env) (h : Heap) (m : Str → Option Value) (x : Str) (u : Value) : Prop :=
  (env.kindOf x = some .local ∧ m x = some u) ∨ ((env.kindOf x = some .cell ∨ env.kindOf x = some .free) ∧ ∃ c, env.cells.lookup x = some c ∧ h.IsCell c (some u))

structure Cx.Ok (X : Cx) : Prop where
  mod : Mod X.K X.mg X.base
  kind : X.env.scope.kind = .function
  glob : X.env.globals = mainGlobals
  blt : X.env.builtins = builtinsNs
  above : X.s_0.heap.objs.size ≤ X.env.locals
  inj : ∀ x y c, X.env.cells.lookup x = some c → X.env.cells.lookup y = some c → x = y
  has : ∀ x, (X.env.kindOf x = some .cell ∨ X.env.kindOf x = some .free) → ∃ c, X.env.cells.lookup x = some c
  cab : ∀ x c, X.fn x = true → X.env.cells.lookup x = some c → X.s_0.heap.objs.size ≤ c
  hd : X.calm = true → X.A.handled = none
  frames : X.A.frames = some X.stack
  stk : X.stack = X.outer ∨ (X.stack = X.env :: X.outer ∧ X.env.frame = some X.env.locals)
  exf : ∀ b ∈ X.ex, b ≠ X.env.locals ∧ ∀ x c, X.env.cells.lookup x = some c → c ≠ b
  bs : ∀ b o, X.base.get? b = some o → X.s_0.heap.get? b = some o ∧ X.H_0 b = none
  bsz : X.base.objs.size ≤ X.s_0.heap.objs.size
  noex : ∀ b o, X.base.get? b = some o → b ∉ X.ex
  exfs : ∀ b ∈ X.ex, b ∉ X.fs
  funs : X.s_0.heap.FunFrames X.base X.outer
  frf : ∀ b ∈ X.fs, X.H_0 b = none

structure Inv (X : Cx) (pins : List (Addr × Obj)) (σ : List (Option V)) (H : Hp) (s : Shared) : Prop where
  ok : X.Ok
  os : s.os = X.s_0.os
  bare : AllBare s.gens
  base : Un X.fs X.ex X.H_0 H X.s_0.heap s.heap
  loc : ∃ m, s.heap.Ns X.env.locals m ∧ ∀ (i : Nat) (x : Str) (v : V), X.N[i]? = some x → σ[i]? = some (some v) → Vis X.env.scope x → ∃ u, RelV v u ∧ Look X.env s.heap m x u
  cell : ∀ x c, X.env.cells.lookup x = some c → ∃ v, s.heap.IsCell c v
  free : H X.env.locals = none
  freeC : ∀ x c, X.env.cells.lookup x = some c → H c = none
  pin : ∀ p ∈ X.pn ++ pins, s.heap.get? p.1 = some p.2 ∧ H p.1 = none ∧ p.1 ≠ X.env.locals ∧ p.1 ∉ X.fs ∧ ∀ v, p.2.data ≠ .cell v
  hok : HOk X.prog X.w H s.heap
  len : σ.length = X.N.length

section
variable {X : Cx} {pins : List (Addr × Obj)} {σ : List (Option V)} {H H' : Hp} {s : Shared} {h' : Heap}

theorem Cx.Ok.nofr (ok : X.Ok) {b : Addr} {o : Obj} (e : X.base.get? b = some o) : b ∉ X.fs := fun hb => by
  have := (ok.funs.mem hb).1
  rw [e] at this; cases this
theorem Inv.bs (I : Inv X pins σ H s) : ∀ b o, X.base.get? b = some o → s.heap.get? b = some o ∧ H b = none := fun b o e =>
  ⟨I.base.keep b o (I.ok.bs b o e).1 (I.ok.bs b o e).2 (I.ok.nofr e) (I.ok.noex b o e), I.base.free b o (I.ok.bs b o e).1 (I.ok.bs b o e).2 (I.ok.noex b o e)⟩
theorem Inv.bk (I : Inv X pins σ H s) : ∀ b o, X.base.get? b = some o → s.heap.get? b = some o := fun b o e => (I.bs b o e).1
theorem Inv.mod (I : Inv X pins σ H s) : Mod X.K X.mg X.base := I.ok.mod
theorem Inv.kIn (I : Inv X pins σ H s) : X.K.In s.heap := I.ok.mod.kin.keeps I.bk
theorem Inv.nolimit (I : Inv X pins σ H s) : s.heap.NoLimit := I.ok.mod.nolimit.keeps I.bk
/-- the frame over the base: for OpenK's rules (K.In X.base is I.mod.kin) -/
theorem Inv.fr (I : Inv X pins σ H s) : ∃ m, Fr X.base X.env.locals s.heap m :=
  let ⟨m, hn, _⟩ := I.loc
  ⟨m, hn, I.bk, Nat.le_trans I.ok.bsz I.ok.above⟩
theorem Inv.lt (I : Inv X pins σ H s) : X.env.locals < s.heap.objs.size := let ⟨_, hn, _⟩ := I.loc; hn.lt
theorem Inv.sz (I : Inv X pins σ H s) : X.s_0.heap.objs.size ≤ s.heap.objs.size := Nat.le_trans I.ok.above (Nat.le_of_lt I.lt)
theorem Inv.nofs (I : Inv X pins σ H s) {a : Addr} (h : s.heap.objs.size ≤ a) : a ∉ X.fs := fun hb => by
  obtain ⟨_, o, ho, _⟩ := I.ok.funs.mem hb
  exact absurd (Nat.lt_of_lt_of_le (Heap.lt_size ho) (Nat.le_trans I.sz h)) (Nat.lt_irrefl _)
theorem Inv.cne (I : Inv X pins σ H s) : ∀ x c, X.env.cells.lookup x = some c → c ≠ X.env.locals := fun x c e z => by
  obtain ⟨v, o, ho, hd⟩ := I.cell x c e
  obtain ⟨m, ⟨o', es, ep, ho', hd', _⟩, _⟩ := I.loc
  rw [z, ho'] at ho; cases ho; rw [hd'] at hd; cases hd
theorem Inv.funs (I : Inv X pins σ H s) : s.heap.FunFrames X.base X.outer := by
  have all : ∀ (l : List Env), (∀ b ∈ frs l, b ∈ X.fs) → X.s_0.heap.FunFrames X.base l → s.heap.FunFrames X.base l := by
    intro l
    induction l with
    | nil => intro _ _; trivial
    | cons env r ih =>
      intro hs hl
      obtain ⟨hk, ⟨L, o, hf, hn, ho, hd⟩, hr⟩ := hl
      have hL : L ∈ X.fs := hs L (by unfold frs; rw [List.filterMap_cons, hf]; exact List.mem_cons_self)
      obtain ⟨sl, e⟩ := I.base.slot L o ho (I.ok.frf L hL) hL fun z => I.ok.exfs L z hL
      exact ⟨hk, ⟨L, _, hf, hn, e, hd⟩, ih (fun b hb => hs b (by unfold frs; rw [List.filterMap_cons, hf]; exact List.mem_cons_of_mem _ hb)) hr⟩
  exact all X.outer (fun _ hb => hb) I.ok.funs

/-- the frames that run, for a call -/
theorem Inv.stack (I : Inv X pins σ H s) : s.heap.FunFrames X.base X.stack := by
  rcases I.ok.stk with e | ⟨e, hf⟩
  · rw [e]; exact I.funs
  · rw [e]
    obtain ⟨m, hn, _⟩ := I.loc
    refine .cons (by rw [I.ok.kind]; decide) hf hn ?_ I.funs
    exact Heap.get?_none_of_le (Nat.le_trans I.ok.bsz I.ok.above)
theorem Inv.stkSub (I : Inv X pins σ H s) : ∀ b ∈ frs X.stack, b ∈ X.env.locals :: X.fs := fun b hb => by
  rcases I.ok.stk with e | ⟨e, hf⟩
  · rw [e] at hb; exact List.mem_cons_of_mem _ hb
  · rw [e] at hb
    unfold frs at hb
    rw [List.filterMap_cons, hf] at hb
    exact hb
theorem Inv.stkFree (I : Inv X pins σ H s) : ∀ b ∈ frs X.stack, H b = none := fun b hb => by
  rcases List.mem_cons.mp (I.stkSub b hb) with e | hb
  · rw [e]; exact I.free
  · obtain ⟨_, o, ho, _⟩ := I.ok.funs.mem hb
    exact I.base.free b o ho (I.ok.frf b hb) fun z => I.ok.exfs b z hb

/-- THE STEP: the untracked objects but the frame and the records at ch are kept (the callers' frames up to slots), the frame's map is kept, the new abstract heap is held -/
theorem Inv.step {g' : Array GenState} {t' : Nat} {d' : Drawn} {ch : List Addr} (I : Inv X pins σ H s)
    (hch : ∀ b ∈ ch, (b ∈ X.ex ∨ X.s_0.heap.objs.size ≤ b) ∧ b ≠ X.env.locals ∧ (∀ x c, X.env.cells.lookup x = some c → c ≠ b) ∧ ∀ p ∈ X.pn ++ pins, p.1 ≠ b)
    (keep : ∀ b o, b ≠ X.env.locals → b ∉ X.fs → b ∉ ch → s.heap.get? b = some o → H b = none → h'.get? b = some o)
    (slot : ∀ b o, b ≠ X.env.locals → b ∈ X.fs → b ∉ ch → s.heap.get? b = some o → H b = none → ∃ sl, h'.get? b = some { o with slots := sl }) (free : ∀ b o, b ∉ ch → s.heap.get? b = some o → H b = none → H' b = none)
    (there : ∀ b o, b ∉ ch → s.heap.get? b = some o → ∃ o', h'.get? b = some o')
    (tups : ∀ b xs, H b = some (.tup xs) → H' b = some (.tup xs)) (frzs : ∀ b o u, H b = some (.frz o u) → H' b = some (.frz o u)) (tbls : ∀ b ps, H b = some (.tbl ps) → ∃ more, H' b = some (.tbl (ps ++ more)))
    (ns : ∀ m, s.heap.Ns X.env.locals m → h'.Ns X.env.locals m) (hok : HOk X.prog X.w H' h') (hg : AllBare g') :
    Inv X pins σ H' { s with heap := h', gens := g', drawn := d', toks := t' } := by
  have neL : ∀ b o, X.s_0.heap.get? b = some o → b ≠ X.env.locals := fun b o e => Nat.ne_of_lt (Nat.lt_of_lt_of_le (Heap.lt_size e) I.ok.above)
  have neC : ∀ b o, X.s_0.heap.get? b = some o → b ∉ X.ex → b ∉ ch := fun b o e hx hb => by
    rcases (hch b hb).1 with z | z
    · exact hx z
    · exact absurd (Nat.lt_of_lt_of_le (Heap.lt_size e) z) (Nat.lt_irrefl _)
  have cellK : ∀ x c, X.env.cells.lookup x = some c → ∀ v, s.heap.IsCell c v → h'.IsCell c v := fun x c e v ⟨o, ho, hd⟩ => by
    have nch : c ∉ ch := fun z => (hch c z).2.2.1 x c e rfl
    by_cases hc : c ∈ X.fs
    · obtain ⟨sl, q⟩ := slot c o (I.cne x c e) hc nch ho (I.freeC x c e)
      exact ⟨_, q, hd⟩
    · exact ⟨o, keep c o (I.cne x c e) hc nch ho (I.freeC x c e), hd⟩
  refine ⟨I.ok, I.os, hg, ⟨fun b o e n hb hx => ?_, fun b o e n hb hx => ?_, fun b o e n hx => ?_, fun b o e hx => ?_, fun b xs e => tups b xs (I.base.tups b xs e), fun b o xs e => frzs b o xs (I.base.frzs b o xs e), fun b ps e => ?_⟩, ?_, fun x c e => ?_, ?_, fun x c e => ?_, fun p hp => ?_, hok, I.len⟩
  · exact keep b o (neL b o e) hb (neC b o e hx) (I.base.keep b o e n hb hx) (I.base.free b o e n hx)
  · obtain ⟨sl, e1⟩ := I.base.slot b o e n hb hx
    obtain ⟨sl', e2⟩ := slot b _ (neL b o e) hb (neC b o e hx) e1 (I.base.free b o e n hx)
    exact ⟨sl', e2⟩
  · obtain ⟨o', e1⟩ := I.base.there b o e hx
    exact free b o' (neC b o e hx) e1 (I.base.free b o e n hx)
  · obtain ⟨o', e1⟩ := I.base.there b o e hx
    exact there b o' (neC b o e hx) e1
  · obtain ⟨m1, e1⟩ := I.base.tbls b ps e
    obtain ⟨m2, e2⟩ := tbls b _ e1
    exact ⟨m1 ++ m2, by rw [e2, Array.append_assoc]⟩
  · obtain ⟨m, hn, hl⟩ := I.loc
    refine ⟨m, ns m hn, fun i x v e1 e2 e3 => ?_⟩
    obtain ⟨u, r, l⟩ := hl i x v e1 e2 e3
    refine ⟨u, r, ?_⟩
    rcases l with l | ⟨k, c, e, z⟩
    · exact .inl l
    · exact .inr ⟨k, c, e, cellK x c e _ z⟩
  · obtain ⟨v, z⟩ := I.cell x c e
    exact ⟨v, cellK x c e v z⟩
  · obtain ⟨m, ⟨o, _, _, ho, _⟩, _⟩ := I.loc
    exact free _ o (fun z => (hch _ z).2.1 rfl) ho I.free
  · obtain ⟨v, o, ho, hd⟩ := I.cell x c e
    exact free c o (fun z => (hch c z).2.2.1 x c e rfl) ho (I.freeC x c e)
  · obtain ⟨e, n, ne, nf, d⟩ := I.pin p hp
    have nch : p.1 ∉ ch := fun z => (hch p.1 z).2.2.2 p hp rfl
    exact ⟨keep p.1 p.2 ne nf nch e n, free p.1 p.2 nch e n, ne, nf, d⟩
/-- .. where the frame's own object is kept too -/
theorem Inv.un {t' : Nat} (I : Inv X pins σ H s) (u : Un X.fs [] H H' s.heap h') (hok : HOk X.prog X.w H' h') : Inv X pins σ H' { s with heap := h', toks := t' } := by
  obtain ⟨m, ⟨o, es, ep, ho, r⟩, _⟩ := id I.loc
  obtain ⟨sl, hL⟩ := u.any ho I.free (by simp)
  exact I.step (g' := s.gens) (d' := s.drawn) (ch := []) (fun _ z => nomatch z) (fun b o _ hb _ e n => u.keep b o e n hb (by simp)) (fun b o _ hb _ e n => u.slot b o e n hb (by simp)) (fun b o _ e n => u.free b o e n (by simp)) (fun b o _ e => u.there b o e (by simp)) u.tups u.frzs u.tbls (fun m' hm => by
    obtain ⟨o', es', ep', ho', r'⟩ := hm
    rw [ho] at ho'; cases ho'
    exact ⟨_, es', ep', hL, r'⟩) hok I.bare
/-- behind a call (or a comprehension's block): the slots of this frame may have changed too, the records at ch may have turned -/
theorem Inv.call {g' : Array GenState} {t' : Nat} {d' : Drawn} {ch : List Addr} (I : Inv X pins σ H s) (u : Un (frs X.stack) ch H H' s.heap h') (hok : HOk X.prog X.w H' h') (hg : AllBare g')
    (hch : ∀ b ∈ ch, (b ∈ X.ex ∨ X.s_0.heap.objs.size ≤ b) ∧ b ≠ X.env.locals ∧ (∀ x c, X.env.cells.lookup x = some c → c ≠ b) ∧ ∀ p ∈ X.pn ++ pins, p.1 ≠ b) :
    Inv X pins σ H' { s with heap := h', gens := g', drawn := d', toks := t' } := by
  obtain ⟨m, ⟨o, es, ep, ho, r⟩, _⟩ := id I.loc
  obtain ⟨sl, hL⟩ := u.any ho I.free fun z => (hch _ z).2.1 rfl
  exact I.step (ch := ch) hch (fun b o hL hb hc e n => u.keep b o e n (fun z => (List.mem_cons.mp (I.stkSub b z)).elim hL hb) hc) (fun b o _ _ hc e n => u.any e n hc) (fun b o hc e n => u.free b o e n hc) (fun b o hc e => u.there b o e hc) u.tups u.frzs u.tbls (fun m' hm => by
    obtain ⟨o', es', ep', ho', r'⟩ := hm
    rw [ho] at ho'; cases ho'
    exact ⟨_, es', ep', hL, r'⟩) hok hg
/-- an untracked record of ours (an iterator) has turned -/
theorem Inv.turned {t' : Nat} {it : Addr} (I : Inv X pins σ H s) (k : ∀ b o, b ≠ it → s.heap.get? b = some o → h'.get? b = some o) (hn : H it = none) (hL : it ≠ X.env.locals)
    (h1 : it ∈ X.ex ∨ X.s_0.heap.objs.size ≤ it) (h2 : ∀ x c, X.env.cells.lookup x = some c → c ≠ it) (h3 : ∀ p ∈ X.pn ++ pins, p.1 ≠ it) : Inv X pins σ H { s with heap := h', toks := t' } := by
  have nit : ∀ b u, H b = some u → b ≠ it := fun b u e z => by rw [z, hn] at e; cases e
  refine I.step (g' := s.gens) (d' := s.drawn) (ch := [it]) (fun b hb => ?_) (fun b o _ _ hc e _ => k b o (fun z => hc (by simp [z])) e) (fun b o _ _ hc e _ => ⟨o.slots, k b o (fun z => hc (by simp [z])) e⟩) (fun _ _ _ _ n => n)
    (fun b o hc e => ⟨o, k b o (fun z => hc (by simp [z])) e⟩) (fun _ _ e => e) (fun _ _ _ e => e) (fun b ps e => ⟨#[], by rw [e]; simp⟩) (fun m hm => ?_) (fun b u e => ?_) I.bare
  · have e : b = it := by simpa using hb
    subst e
    exact ⟨h1, hL, h2, h3⟩
  · obtain ⟨o, es, ep, ho, r⟩ := hm
    exact ⟨o, es, ep, k _ o (Ne.symm hL) ho, r⟩
  · refine (I.hok b u e).stay (fun c v hc q => k c v ?_ q) (fun _ q => q) fun _ _ q => q
    rcases hc with z | z
    · rw [z]; exact nit b u e
    · exact nit c _ z
theorem Inv.tok (I : Inv X pins σ H s) (t : Nat) : Inv X pins σ H { s with toks := t } := I.un (h' := s.heap) (t' := t) Un.refl I.hok
/-- all objects kept -/
theorem Inv.kept {t' : Nat} (I : Inv X pins σ H s) (k : ∀ b u, s.heap.get? b = some u → h'.get? b = some u) : Inv X pins σ H { s with heap := h', toks := t' } := I.un (Un.kept k) (I.hok.kept k)
/-- a new object laid and tracked -/
theorem Inv.laid {a : Addr} {o : HO} {t' : Nat} (I : Inv X pins σ H s) (k : ∀ b u, s.heap.get? b = some u → h'.get? b = some u) (hp : s.heap.objs.size ≤ a) (new : ObjOk X.prog X.w (upd H a o) h' a o) :
    Inv X pins σ (upd H a o) { s with heap := h', toks := t' } := I.un (Un.laid k hp (I.hok.fresh hp)) (I.hok.laid k hp new)
/-- an object written -/
theorem Inv.write {x e : Addr} {o : HO} {t' : Nat} (I : Inv X pins σ H s) (mu : Mut (H x)) (he : e = x ∨ H e = some (.own x)) (k : ∀ b u, b ≠ e → s.heap.get? b = some u → h'.get? b = some u) (heo : ∃ u, h'.get? e = some u)
    (new : ObjOk X.prog X.w (upd H x o) h' x o) : Inv X pins σ (upd H x o) { s with heap := h', toks := t' } := I.un (Un.write mu he k heo) (I.hok.write mu he k heo new)
/-- forgetting slots, pins -/
theorem Inv.weak {σ' : List (Option V)} (I : Inv X pins σ H s) (hl : σ'.length = σ.length) (w : ∀ (i : Nat) v, σ'[i]? = some (some v) → σ[i]? = some (some v)) : Inv X pins σ' H s :=
  ⟨I.ok, I.os, I.bare, I.base, let ⟨m, hn, hl'⟩ := I.loc; ⟨m, hn, fun i x v e1 e2 e3 => hl' i x v e1 (w i v e2) e3⟩, I.cell, I.free, I.freeC, I.pin, I.hok, hl.trans I.len⟩
theorem Inv.pins_of {pins' : List (Addr × Obj)} (I : Inv X pins σ H s) (h : ∀ p ∈ pins', s.heap.get? p.1 = some p.2 ∧ H p.1 = none ∧ p.1 ≠ X.env.locals ∧ p.1 ∉ X.fs ∧ ∀ v, p.2.data ≠ .cell v) : Inv X pins' σ H s :=
  ⟨I.ok, I.os, I.bare, I.base, I.loc, I.cell, I.free, I.freeC, fun p hp => (List.mem_append.mp hp).elim (fun z => I.pin p (List.mem_append_left _ z)) (h p), I.hok, I.len⟩

theorem nodup_ix {N : List Str} (hN : N.Nodup) {i j : Nat} {x : Str} (a : N[i]? = some x) (b : N[j]? = some x) : i = j := by
  obtain ⟨h1, e1⟩ := List.getElem?_eq_some_iff.mp a
  obtain ⟨h2, e2⟩ := List.getElem?_eq_some_iff.mp b
  exact (List.getElem_inj hN).mp (e1.trans e2.symm)

/-- a name is stored; what changed -/
theorem store_ok2 {M : Model} {A : Around} {E : Value → Shared → Prop} {i : Nat} {x : Str} {v : V} {u : Value} {Q : Unit → Shared → Prop} (I : Inv X pins σ H s) (hN : X.N.Nodup) (hi : X.N[i]? = some x) (hx : Loc X.env.scope x) (r : RelV v u)
    (h : ∀ s', Inv X pins (σ.set i (some v)) H s' → (∃ a, Heap.SameBut a s.heap s'.heap ∧ (a = X.env.locals ∨ X.env.cells.lookup x = some a)) → Q () s') (hf : X.fn x = true ∨ X.env.scope.names.lookup x = some .local := by first | exact .inl rfl | exact .inr rfl | assumption) : wpAny M A (storeName X.env x u) Q E s := by
  obtain ⟨m, hn, hl⟩ := id I.loc
  have hcls : (X.env.scope.kind == .class || (X.env.scope.kind == .module && X.env.locals != X.env.globals)) = false := by rw [I.ok.kind]; rfl
  have hiσ : i < σ.length := by rw [I.len]; exact (List.getElem?_eq_some_iff.mp hi).1
  have cne := I.cne
  have tracked : ∀ {a : Addr} {h' : Heap}, (∃ o, s.heap.get? a = some o ∧ H a = none) → Heap.SameBut a s.heap h' → HOk X.prog X.w H h' := fun {a h'} ha hs b ob e => by
    obtain ⟨_, _, hfree⟩ := ha
    refine (I.hok b ob e).stay (fun c w' hc q => (hs.2 c ?_).trans q) (fun _ q => q) fun _ _ q => q
    rintro rfl
    rcases hc with rfl | hc
    · rw [hfree] at e; cases e
    · rw [hfree] at hc; cases hc
  rcases hx with hk | hk
  · refine wpAny_storeName_local hk hn (fun h' hn' hs => ?_) hcls
    obtain ⟨oL, _, _, hoL, _⟩ := id hn
    refine h _ ⟨I.ok, I.os, I.bare, ⟨fun b o e n hb hx => ?_, fun b o e n hb hx => ?_, I.base.free, fun b o e hx => ?_, I.base.tups, I.base.frzs, I.base.tbls⟩, ⟨_, hn', fun j y v' e1 e2 e3 => ?_⟩, fun y c e => ?_, I.free, I.freeC, fun p hp => ?_, tracked ⟨oL, hoL, I.free⟩ hs, by simpa using I.len⟩ ⟨_, hs, .inl rfl⟩
    · exact (hs.2 b (Nat.ne_of_lt (Nat.lt_of_lt_of_le (Heap.lt_size e) I.ok.above))).trans (I.base.keep b o e n hb hx)
    · obtain ⟨sl, e1⟩ := I.base.slot b o e n hb hx
      exact ⟨sl, (hs.2 b (Nat.ne_of_lt (Nat.lt_of_lt_of_le (Heap.lt_size e) I.ok.above))).trans e1⟩
    · obtain ⟨o', e1⟩ := I.base.there b o e hx
      exact ⟨o', (hs.2 b (Nat.ne_of_lt (Nat.lt_of_lt_of_le (Heap.lt_size e) I.ok.above))).trans e1⟩
    · by_cases hj : j = i
      · subst hj
        rw [hi] at e1; cases e1
        rw [List.getElem?_set_self hiσ] at e2
        cases e2
        exact ⟨u, r, .inl ⟨hk, by simp⟩⟩
      · rw [List.getElem?_set_ne (Ne.symm hj)] at e2
        obtain ⟨u', r', q⟩ := hl j y v' e1 e2 e3
        refine ⟨u', r', ?_⟩
        rcases q with ⟨k, e⟩ | ⟨k, c, e, z⟩
        · refine .inl ⟨k, ?_⟩
          have : y ≠ x := fun e => hj (nodup_ix hN e1 (e ▸ hi))
          simp [this, e]
        · exact .inr ⟨k, c, e, z.sameBut hs (cne y c e)⟩
    · obtain ⟨w', z⟩ := I.cell y c e
      exact ⟨w', z.sameBut hs (cne y c e)⟩
    · obtain ⟨e, n, ne, nf, d⟩ := I.pin p hp
      exact ⟨(hs.2 p.1 ne).trans e, n, ne, nf, d⟩
  · have hfn : X.fn x = true := by
      rcases hf with z | z
      · exact z
      · rw [z] at hk; cases hk
    obtain ⟨c, hc⟩ := I.ok.has x (.inl hk)
    obtain ⟨w', z⟩ := I.cell x c hc
    refine wpAny_storeName_cell I.ok.kind hk hc z (fun h' hc' hs => ?_)
    obtain ⟨oc, hoc, hocd⟩ := id z
    refine h { s with heap := h' } ⟨I.ok, I.os, I.bare, ⟨fun b o e n hb hx => ?_, fun b o e n hb hx => ?_, I.base.free, fun b o e hx => ?_, I.base.tups, I.base.frzs, I.base.tbls⟩, ⟨m, hn.sameBut hs (Ne.symm (cne x c hc)), fun j y v' e1 e2 e3 => ?_⟩, fun y c' e => ?_, I.free, I.freeC, fun p hp => ?_, tracked ⟨oc, hoc, I.freeC x c hc⟩ hs, by simpa using I.len⟩ ⟨c, hs, .inr hc⟩
    · exact (hs.2 b (Nat.ne_of_lt (Nat.lt_of_lt_of_le (Heap.lt_size e) (I.ok.cab x c hfn hc)))).trans (I.base.keep b o e n hb hx)
    · obtain ⟨sl, e1⟩ := I.base.slot b o e n hb hx
      exact ⟨sl, (hs.2 b (Nat.ne_of_lt (Nat.lt_of_lt_of_le (Heap.lt_size e) (I.ok.cab x c hfn hc)))).trans e1⟩
    · obtain ⟨o', e1⟩ := I.base.there b o e hx
      exact ⟨o', (hs.2 b (Nat.ne_of_lt (Nat.lt_of_lt_of_le (Heap.lt_size e) (I.ok.cab x c hfn hc)))).trans e1⟩
    · by_cases hj : j = i
      · subst hj
        rw [hi] at e1; cases e1
        rw [List.getElem?_set_self hiσ] at e2
        cases e2
        exact ⟨u, r, .inr ⟨.inl hk, c, hc, hc'⟩⟩
      · rw [List.getElem?_set_ne (Ne.symm hj)] at e2
        obtain ⟨u', r', q⟩ := hl j y v' e1 e2 e3
        refine ⟨u', r', ?_⟩
        rcases q with q | ⟨k, c', e, z'⟩
        · exact .inl q
        · refine .inr ⟨k, c', e, z'.sameBut hs ?_⟩
          rintro rfl
          exact hj (nodup_ix hN e1 (I.ok.inj _ _ _ e hc ▸ hi))
    · by_cases hcc : c' = c
      · subst hcc; exact ⟨_, hc'⟩
      · obtain ⟨w2, z2⟩ := I.cell y c' e
        exact ⟨w2, z2.sameBut hs hcc⟩
    · obtain ⟨e, n, ne, nf, d⟩ := I.pin p hp
      refine ⟨(hs.2 p.1 ?_).trans e, n, ne, nf, d⟩
      intro q
      rw [q, hoc] at e
      have q' : oc = p.2 := Option.some.inj e
      exact d w' (by rw [← q']; exact hocd)
theorem store_ok {M : Model} {A : Around} {E : Value → Shared → Prop} {i : Nat} {x : Str} {v : V} {u : Value} {Q : Unit → Shared → Prop} (I : Inv X pins σ H s) (hN : X.N.Nodup) (hi : X.N[i]? = some x) (hx : Loc X.env.scope x) (r : RelV v u)
    (h : ∀ s', Inv X pins (σ.set i (some v)) H s' → Q () s') (hf : X.fn x = true ∨ X.env.scope.names.lookup x = some .local := by first | exact .inl rfl | exact .inr rfl | assumption) : wpAny M A (storeName X.env x u) Q E s :=
  store_ok2 I hN hi hx r (fun s' I' _ => h s' I') hf
/-- behind a call or a block, the state as it is -/
theorem Inv.call' {s' : Shared} {ch : List Addr} (I : Inv X pins σ H s) (ho : s'.os = s.os) (u : Un (frs X.stack) ch H H' s.heap s'.heap) (hok : HOk X.prog X.w H' s'.heap) (hg : AllBare s'.gens)
    (hch : ∀ b ∈ ch, (b ∈ X.ex ∨ X.s_0.heap.objs.size ≤ b) ∧ b ≠ X.env.locals ∧ (∀ x c, X.env.cells.lookup x = some c → c ≠ b) ∧ ∀ p ∈ X.pn ++ pins, p.1 ≠ b) : Inv X pins σ H' s' := by
  obtain ⟨h', g', d', t', o'⟩ := s'
  have e : o' = s.os := ho
  subst e
  exact I.call (g' := g') (t' := t') (d' := d') u hok hg hch
end

/-! ### the judgements -/
/-- an exception: its class, its own dict's address (where it has one), the abstract heap behind it -/
abbrev XK := Value → Option Addr → Hp → Prop
abbrev St := List (Option V)
abbrev VK := V → Hp → Prop
/-- an expression's reading; a test's; an argument list's -/
abbrev TE := St → Hp → VK → Prop
abbrev TT := St → Hp → (Bool → Hp → Prop) → Prop
abbrev TA := St → Hp → (List V → Hp → Prop) → Prop
/-- what is wanted behind a statement -/
structure Ends where
  nx : St → Hp → Prop
  rt : VK
  bk : St → Hp → Prop := fun _ _ => False
  ct : St → Hp → Prop := fun _ _ => False
abbrev TS := Ends → St → Hp → Prop

def EP (X : Cx) (pins : List (Addr × Obj)) (σ : St) (Q : VK) (u : Value) (s' : Shared) : Prop := ∃ v H', Inv X pins σ H' s' ∧ RelV v u ∧ Q v H'
def TP (X : Cx) (pins : List (Addr × Obj)) (σ : St) (Q : Bool → Hp → Prop) (b : Bool) (s' : Shared) : Prop := ∃ H', Inv X pins σ H' s' ∧ Q b H'
def AP (X : Cx) (pins : List (Addr × Obj)) (σ : St) (Q : List V → Hp → Prop) (us : List Value) (s' : Shared) : Prop := ∃ vs H', Inv X pins σ H' s' ∧ Vals vs us ∧ Q vs H'
def SP (X : Cx) (pins : List (Addr × Obj)) (D : Ends) (f : Flow) (s' : Shared) : Prop :=
  match f with
  | .next => ∃ σ' H', Inv X pins σ' H' s' ∧ D.nx σ' H'
  | .brk => ∃ σ' H', Inv X pins σ' H' s' ∧ D.bk σ' H'
  | .cont => ∃ σ' H', Inv X pins σ' H' s' ∧ D.ct σ' H'
  | .ret u => ∃ v σ' H', Inv X pins σ' H' s' ∧ RelV v u ∧ D.rt v H'

def PE (X : Cx) (e : Expr) (t : TE) : Prop :=
  ∀ (pins : List (Addr × Obj)) (s : Shared) (σ : St) (H : Hp) (Q : VK), Inv X pins σ H s → t σ H Q → wpAny (model X.prog X.w) X.A (eval e X.env) (EP X pins σ Q) X.xe s
def PT (X : Cx) (e : Expr) (t : TT) : Prop :=
  ∀ (pins : List (Addr × Obj)) (s : Shared) (σ : St) (H : Hp) (Q : Bool → Hp → Prop), Inv X pins σ H s → t σ H Q → wpAny (model X.prog X.w) X.A (isTrue e X.env (eval e X.env)) (TP X pins σ Q) X.xe s
/-- a test whatever its 'whole' is (and, or) -/
def PW (X : Cx) (e : Expr) (t : TT) : Prop :=
  ∀ (whole : Sem Value) (pins : List (Addr × Obj)) (s : Shared) (σ : St) (H : Hp) (Q : Bool → Hp → Prop), Inv X pins σ H s → t σ H Q → wpAny (model X.prog X.w) X.A (isTrue e X.env whole) (TP X pins σ Q) X.xe s
theorem PW.pt {X : Cx} {e : Expr} {t : TT} (h : PW X e t) : PT X e t := h _
/-- an argument list (no star), from the left -/
def PA (X : Cx) (es : List Expr) (t : TA) : Prop :=
  ∀ (pos : Pos) (pins : List (Addr × Obj)) (s : Shared) (σ : St) (H : Hp) (Q : List V → Hp → Prop), Inv X pins σ H s → t σ H Q → wpAny (model X.prog X.w) X.A (spliced (backTo pos (starEach es X.env))) (AP X pins σ Q) X.xe s
def PS (X : Cx) (st : Stmt) (t : TS) : Prop :=
  ∀ (pins : List (Addr × Obj)) (s : Shared) (σ : St) (H : Hp) (D : Ends), Inv X pins σ H s → t D σ H → wpAny (model X.prog X.w) X.A (exec st X.env) (SP X pins D) X.xe s
def PSs (X : Cx) (st : List Stmt) (t : TS) : Prop :=
  ∀ (pins : List (Addr × Obj)) (s : Shared) (σ : St) (H : Hp) (D : Ends), Inv X pins σ H s → t D σ H → wpAny (model X.prog X.w) X.A (execs st X.env) (SP X pins D) X.xe s
/-- weaken the end -/
theorem thn {α : Type} {t : Sem α} {Q Q' : α → Shared → Prop} {M : Model} {A : Around} {E : Value → Shared → Prop} {s : Shared} (h : wpAny M A t Q E s) (hQ : ∀ a s, Q a s → Q' a s) : wpAny M A t Q' E s := wpAny_mono h hQ fun _ _ x => x
end L2

namespace L2
open PySem PySem.Spec PyProof.Rows
section
variable {X : Cx}

/-! ### names and constants -/
def tVar (i : Nat) : TE := fun σ H Q => ∃ v, σ[i]? = some (some v) ∧ Q v H
def tC (v : V) : TE := fun _ H Q => Q v H
theorem pe_var {i : Nat} {x : Str} {pos : Pos} (hN : X.N[i]? = some x) (hv : Vis X.env.scope x) (hd : (x == ("__debug__" : Str)) = false := by decide) (hcd : (x == ("__classdict__" : Str)) = false := by decide) : PE X (.Name x pos) (tVar i) := by
  intro pins s σ H Q I h
  obtain ⟨v, e, h⟩ := h
  obtain ⟨m, hn, hl⟩ := I.loc
  obtain ⟨u, r, l⟩ := hl i x v hN e hv
  have fin : EP X pins σ Q u s := ⟨v, H, I, r, h⟩
  rcases l with ⟨hk, hm⟩ | ⟨hk, c, hc, hcell⟩
  · exact wpAny_Name (wpAny_loadName_local I.ok.kind hk hn hm fin) hd
  · rcases hk with hk | hk
    · exact wpAny_Name (wpAny_loadName_cell I.ok.kind hk hc hcell fin) hd
    · exact wpAny_Name (wpAny_loadName_free I.ok.kind hk hc hcell fin hcd) hd
theorem pe_int {i j pos} : PE X (.Constant (.int i) j pos) (tC (.int i)) := fun _ _ _ H _ I h => wpAny_Constant_int ⟨.int i, H, I.tok _, ⟨_, rfl⟩, h⟩
theorem pe_bl {b j pos} : PE X (.Constant (.bool b) j pos) (tC (.bl b)) := fun _ _ _ H _ I h => Constant_bool ⟨.bl b, H, I, rfl, h⟩
theorem pe_non {j pos} : PE X (.Constant .none j pos) (tC .non) := fun _ _ _ H _ I h => Constant_none ⟨.non, H, I, rfl, h⟩
theorem pe_str {x j pos} : PE X (.Constant (.str x) j pos) (tC (.str x)) := fun _ _ _ H _ I h => Calls.Constant_str ⟨.str x, H, I.tok _, ⟨_, rfl⟩, h⟩

/-- a global name of the def -/
def Gl (X : Cx) (x : Str) : Prop := X.env.kindOf x = some .globalImplicit
theorem ld_glob {E : Value → Shared → Prop} {pins : List (Addr × Obj)} {s : Shared} {σ : St} {H : Hp} {x : Str} {u : Value} {pos : Pos} {Q : Value → Shared → Prop} (I : Inv X pins σ H s) (hg : Gl X x) (hm : X.mg x = some u) (h : Q u s)
    (hd : (x == ("__debug__" : Str)) = false := by decide) : wpAny (model X.prog X.w) X.A (eval (.Name x pos) X.env) Q E s :=
  Calls.Name_function_global I.ok.kind hg (Calls.loadGlobal_global (by rw [I.ok.glob]; exact I.mod.glob.keeps I.bk) hm h) hd
theorem ld_blt {E : Value → Shared → Prop} {pins : List (Addr × Obj)} {s : Shared} {σ : St} {H : Hp} {x : Str} {u : Value} {pos : Pos} {Q : Value → Shared → Prop} (I : Inv X pins σ H s) (hg : Gl X x) (hm : X.mg x = none) (hv : bootBuiltins x = some u) (h : Q u s)
    (hn : x ≠ "__name__" := by decide) (hd : (x == ("__debug__" : Str)) = false := by decide) : wpAny (model X.prog X.w) X.A (eval (.Name x pos) X.env) Q E s := by
  obtain ⟨mb, h1, h2⟩ := I.mod.blt
  exact Calls.Name_function_global I.ok.kind hg (Calls.loadGlobal_builtin (by rw [I.ok.glob]; exact I.mod.glob.keeps I.bk) hm (by rw [I.ok.blt]; exact h1.keeps I.bk) ((h2 x hn).trans hv) h) hd
theorem pe_bltn {x : Str} {v : V} {u : Value} {pos : Pos} (hg : Gl X x) (hm : X.mg x = none) (hv : bootBuiltins x = some u) (r : RelV v u) (hn : x ≠ "__name__" := by decide) (hd : (x == ("__debug__" : Str)) = false := by decide) : PE X (.Name x pos) (tC v) :=
  fun _ _ _ H _ I h => ld_blt I hg hm hv ⟨v, H, I, r, h⟩ hn hd

/-! ### arithmetic -/
variable {a b : Expr} {ta tb : TE} {pos : Pos}
/-! ### comparisons -/
theorem nobehind (b : Expr) {op : CmpOp} (h : op ≠ .In) (h2 : op ≠ .NotIn) : behindInMarks op b = false := by
  have e1 : (op == CmpOp.In) = false := by cases op <;> first | rfl | exact absurd rfl h
  have e2 : (op == CmpOp.NotIn) = false := by cases op <;> first | rfl | exact absurd rfl h2
  cases b <;> simp [behindInMarks, e1, e2]
/-! ### and, or, not -/
variable {tA tB' : TT} {rest : List Expr}
def tAnd (t u : TT) : TT := fun σ H Q => t σ H fun c H1 => if c = true then u σ H1 Q else Q false H1
def tOr (t u : TT) : TT := fun σ H Q => t σ H fun c H1 => if c = true then Q true H1 else u σ H1 Q
def tNot (t : TT) : TT := fun σ H Q => t σ H fun c H1 => Q (!c) H1
theorem pw_and1 (ha : PT X a tA) : PW X (.BoolOp .And [a] pos) tA := by
  intro wh pins s σ H Q I h
  refine isTrue_and (thn (ha pins s σ H Q I h) fun c s1 e => ?_)
  cases c with
  | true => exact isTrue_and_nil e
  | false => exact e
theorem pw_or1 (ha : PT X a tA) : PW X (.BoolOp .Or [a] pos) tA := by
  intro wh pins s σ H Q I h
  refine isTrue_or (thn (ha pins s σ H Q I h) fun c s1 e => ?_)
  cases c with
  | false => exact isTrue_or_nil e
  | true => exact e
theorem pw_and (ha : PT X a tA) (hb : PW X (.BoolOp .And (b :: rest) pos) tB') : PW X (.BoolOp .And (a :: b :: rest) pos) (tAnd tA tB') := by
  intro wh pins s σ H Q I h
  refine isTrue_and (thn (ha pins s σ H _ I h) fun c s1 ⟨H1, I1, q1⟩ => ?_)
  cases c with
  | true => exact hb wh pins s1 σ H1 Q I1 q1
  | false => exact ⟨H1, I1, q1⟩
theorem pw_or (ha : PT X a tA) (hb : PW X (.BoolOp .Or (b :: rest) pos) tB') : PW X (.BoolOp .Or (a :: b :: rest) pos) (tOr tA tB') := by
  intro wh pins s σ H Q I h
  refine isTrue_or (thn (ha pins s σ H _ I h) fun c s1 ⟨H1, I1, q1⟩ => ?_)
  cases c with
  | true => exact ⟨H1, I1, q1⟩
  | false => exact hb wh pins s1 σ H1 Q I1 q1
theorem pt_not (ha : PT X a tA) : PT X (.UnaryOp .Not a pos) (tNot tA) := by
  intro pins s σ H Q I h
  exact isTrue_not (ha pins s σ H (fun c H1 => Q (!c) H1) I h)
end
end L2

namespace L2
open PySem PySem.Spec PyProof.Rows

/-! ### a list, a tuple that is read: tracked, frozen, or an object of the module -/
def SqL (K : PySem.W.Frag) (H : Hp) (a : Addr) (xs : List V) : Prop :=
  Rd H a (.lst xs) ∨
    ∃ (o : Obj) (its : Array Value) (n : Nat), K.lookup a = some o ∧ o.cls = .type "list" ∧ o.dict = none ∧ o.data = .seq its n ∧ its.size ≤ sizeLine ∧ Vals xs its.toList
def SqT (K : PySem.W.Frag) (H : Hp) (a : Addr) (xs : List V) : Prop :=
  Rd H a (.tup xs) ∨
    ∃ (o : Obj) (its : Array Value) (n : Nat), K.lookup a = some o ∧ o.cls = .type "tuple" ∧ o.dict = none ∧ o.data = .seq its n ∧ its.size ≤ sizeLine ∧ Vals xs its.toList
def absV : Value → Option V
  | .none => some .non
  | .bool b => some (.bl b)
  | .int i _ => some (.int i)
  | .str x _ => some (.str x)
  | .bytes b _ => some (.byt b)
  | .float b _ => some (.flt b)
  | .ref a => some (.ref a)
  | .type n => some (.ty n)
  | _ => none
theorem RelV.abs {x : V} {u : Value} (r : RelV x u) : absV u = some x := by
  cases x with
  | non => cases r; rfl
  | bl _ => cases r; rfl
  | int _ => obtain ⟨t, rfl⟩ := r; rfl
  | str _ => obtain ⟨t, rfl⟩ := r; rfl
  | byt _ => obtain ⟨t, rfl⟩ := r; rfl
  | flt _ => obtain ⟨t, rfl⟩ := r; rfl
  | ref _ => cases r; rfl
  | ty _ => cases r; rfl
theorem RelV.inj {x y : V} {u : Value} (r : RelV x u) (q : RelV y u) : x = y := Option.some.inj (r.abs.symm.trans q.abs)
theorem Vals.inj : ∀ {xs ys : List V} {us : List Value}, Vals xs us → Vals ys us → xs = ys
  | _, _, _, .nil, .nil => rfl
  | _, _, _, .cons r t, .cons r' t' => by rw [r.inj r', Vals.inj t t']
section
variable {X : Cx} {pins : List (Addr × Obj)} {σ : St} {H : Hp} {s : Shared} {a : Addr} {xs ys : List V}
theorem SqL.of {K : PySem.W.Frag} (h : H a = some (.lst xs)) : SqL K H a xs := .inl (.inl h)
theorem SqT.of {K : PySem.W.Frag} (h : H a = some (.tup xs)) : SqT K H a xs := .inl (.inl h)
theorem Inv.list (I : Inv X pins σ H s) (h : SqL X.K H a xs) : ∃ its : List Value, Vals xs its ∧ PlainL s.heap a its.toArray ∧ xs.length ≤ sizeLine := by
  rcases h with h | ⟨o, its, n, hk, hc, hd, hs, hz, r⟩
  · obtain ⟨z, its, n, r, e⟩ := h.ok I.hok
    exact ⟨its, r, ⟨_, n, e, rfl, rfl, rfl⟩, z⟩
  · refine ⟨its.toList, r, ⟨o, n, I.kIn a o hk, hc, hd, by simpa using hs⟩, ?_⟩
    have e := r.length
    simp only [Array.length_toList] at e
    omega
theorem Inv.tupleP (I : Inv X pins σ H s) (h : SqT X.K H a xs) : ∃ its : List Value, Vals xs its ∧ PlainT s.heap a its.toArray ∧ xs.length ≤ sizeLine := by
  rcases h with h | ⟨o, its, n, hk, hc, hdd, hs, hz, r⟩
  · obtain ⟨z, its, r, p⟩ := h.ok I.hok
    exact ⟨its, r, p, z⟩
  · refine ⟨its.toList, r, ⟨o, I.kIn a o hk, hc, hdd, n, by simpa using hs⟩, ?_⟩
    have e := r.length
    simp only [Array.length_toList] at e
    omega
theorem Inv.tuple (I : Inv X pins σ H s) (h : SqT X.K H a xs) : ∃ its : List Value, Vals xs its ∧ IsTup s.heap a its.toArray ∧ xs.length ≤ sizeLine :=
  let ⟨its, r, p, z⟩ := I.tupleP h
  ⟨its, r, p.tup, z⟩
theorem Inv.list_inj (I : Inv X pins σ H s) (h : SqL X.K H a xs) (h' : SqL X.K H a ys) : xs = ys := by
  obtain ⟨its, r, ⟨o, n, e, _, _, d⟩, _⟩ := I.list h
  obtain ⟨its', r', ⟨o', n', e', _, _, d'⟩, _⟩ := I.list h'
  rw [e] at e'; cases e'
  rw [d] at d'
  injection d' with d1 _
  have : its = its' := by simpa using congrArg Array.toList d1
  subst this
  exact r.inj r'
theorem Inv.tuple_inj (I : Inv X pins σ H s) (h : SqT X.K H a xs) (h' : SqT X.K H a ys) : xs = ys := by
  obtain ⟨its, r, ⟨o, e, _, n, d⟩, _⟩ := I.tuple h
  obtain ⟨its', r', ⟨o', e', _, n', d'⟩, _⟩ := I.tuple h'
  rw [e] at e'; cases e'
  rw [d] at d'
  injection d' with d1 _
  have : its = its' := by simpa using congrArg Array.toList d1
  subst this
  exact r.inj r'
end

/-! ### another wish about exceptions -/
abbrev Cx.wish (X : Cx) (E : Value → Shared → Prop) : Cx := { X with xe := E }
/-- no exception leaves -/
abbrev Cx.nox (X : Cx) : Cx := X.wish fun _ _ => False
theorem Cx.Ok.wish {X : Cx} (ok : X.Ok) (E : Value → Shared → Prop) : (X.wish E).Ok :=
  ⟨ok.mod, ok.kind, ok.glob, ok.blt, ok.above, ok.inj, ok.has, ok.cab, ok.hd, ok.frames, ok.stk, ok.exf, ok.bs, ok.bsz, ok.noex, ok.exfs, ok.funs, ok.frf⟩
theorem Cx.Ok.unwish {X : Cx} {E : Value → Shared → Prop} (ok : (X.wish E).Ok) : X.Ok :=
  ⟨ok.mod, ok.kind, ok.glob, ok.blt, ok.above, ok.inj, ok.has, ok.cab, ok.hd, ok.frames, ok.stk, ok.exf, ok.bs, ok.bsz, ok.noex, ok.exfs, ok.funs, ok.frf⟩
section
variable {X : Cx} {pins : List (Addr × Obj)} {σ : St} {H : Hp} {s : Shared} {E : Value → Shared → Prop}
theorem Inv.wish (I : Inv X pins σ H s) (E : Value → Shared → Prop) : Inv (X.wish E) pins σ H s := ⟨I.ok.wish E, I.os, I.bare, I.base, I.loc, I.cell, I.free, I.freeC, I.pin, I.hok, I.len⟩
theorem Inv.unwish (I : Inv (X.wish E) pins σ H s) : Inv X pins σ H s := ⟨I.ok.unwish, I.os, I.bare, I.base, I.loc, I.cell, I.free, I.freeC, I.pin, I.hok, I.len⟩
theorem SP.unwish {D : Ends} {f : Flow} {s' : Shared} (h : SP (X.wish E) pins D f s') : SP X pins D f s' := by
  cases f with
  | next => obtain ⟨σ', H', I, q⟩ := h; exact ⟨σ', H', I.unwish, q⟩
  | brk => obtain ⟨σ', H', I, q⟩ := h; exact ⟨σ', H', I.unwish, q⟩
  | cont => obtain ⟨σ', H', I, q⟩ := h; exact ⟨σ', H', I.unwish, q⟩
  | ret u => obtain ⟨v, σ', H', I, r, q⟩ := h; exact ⟨v, σ', H', I.unwish, r, q⟩
theorem PE.nox {e : Expr} {t : TE} (h : PE X.nox e t) : PE X e t := fun pins s σ H Q I hw =>
  wpAny_mono (h pins s σ H Q (I.wish _) hw) (fun _ _ ⟨v, H', I', r, q⟩ => ⟨v, H', I'.unwish, r, q⟩) fun _ _ z => False.elim z
theorem PT.nox {e : Expr} {t : TT} (h : PT X.nox e t) : PT X e t := fun pins s σ H Q I hw =>
  wpAny_mono (h pins s σ H Q (I.wish _) hw) (fun _ _ ⟨H', I', q⟩ => ⟨H', I'.unwish, q⟩) fun _ _ z => False.elim z
theorem PSs.nox {st : List Stmt} {t : TS} (h : PSs X.nox st t) : PSs X st t := fun pins s σ H D I hw =>
  wpAny_mono (h pins s σ H D (I.wish _) hw) (fun _ _ q => q.unwish) fun _ _ z => False.elim z
end

/-! ### blocks and small statements -/
section
variable {X : Cx} {st : Stmt} {rest : List Stmt} {t u : TS} {e : Expr} {te : TE} {pos : Pos}
def tNext : TS := fun D σ H => D.nx σ H
def tSeq (t u : TS) : TS := fun D σ H => t { D with nx := u D } σ H
theorem pss_nil : PSs X [] tNext := fun _ _ σ H _ I h => wpAny_execs_nil ⟨σ, H, I, h⟩
theorem pss_cons (h1 : PS X st t) (h2 : PSs X rest u) : PSs X (st :: rest) (tSeq t u) := by
  intro pins s σ H D I h
  refine wpAny_execs_cons (thn (h1 pins s σ H { D with nx := u D } I h) fun f s1 q => ?_)
  cases f with
  | next =>
    obtain ⟨σ', H', I', q⟩ := q
    exact h2 pins s1 σ' H' D I' q
  | ret v => exact q
  | brk => exact q
  | cont => exact q
theorem pss_one (h1 : PS X st t) : PSs X [st] t := by
  intro pins s σ H D I h
  refine wpAny_execs_cons (thn (h1 pins s σ H D I h) fun f s1 q => ?_)
  cases f with
  | next => exact wpAny_execs_nil q
  | ret v => exact q
  | brk => exact q
  | cont => exact q
/-- in a def's body nothing is shown -/
theorem Inv.quiet {pins : List (Addr × Obj)} {σ : St} {H : Hp} {s : Shared} (I : Inv X pins σ H s) : interactive X.env = false := by simp [interactive, I.ok.kind]
/-- an expression whose value is dropped -/
def tDrop (te : TE) : TS := fun D σ H => te σ H fun _ H1 => D.nx σ H1
theorem ps_expr (he : PE X e te) (hs : swapsWith e none pos.line X.env = pure false := by rfl) : PS X (.Expr e pos) (tDrop te) := by
  intro pins s σ H D I h
  exact wpAny_Expr_any (thn (he pins s σ H _ I h) fun v s1 ⟨x, H1, I1, r1, q1⟩ => ⟨σ, H1, I1, q1⟩) I.quiet hs
def tRet (te : TE) : TS := fun D σ H => te σ H D.rt
theorem ps_ret (he : PE X e te) : PS X (.Return (some e) pos) (tRet te) := by
  intro pins s σ H D I h
  exact wpAny_Return_some (thn (he pins s σ H _ I h) fun v s1 ⟨x, H1, I1, r1, q1⟩ => ⟨x, σ, H1, I1, r1, q1⟩)
def tIfS (c : TT) (t u : TS) : TS := fun D σ H => c σ H fun b H1 => if b = true then t D σ H1 else u D σ H1
theorem ps_if {c : Expr} {a b : List Stmt} {tc : TT} (hc : PT X c tc) (ha : PSs X a t) (hb : PSs X b u) : PS X (.If c a b pos) (tIfS tc t u) := by
  intro pins s σ H D I h
  refine wpAny_If (thn (hc pins s σ H _ I h) fun d s1 ⟨H1, I1, q1⟩ => ?_)
  cases d with
  | true => exact ha pins s1 σ H1 D I1 q1
  | false => exact hb pins s1 σ H1 D I1 q1
end

/-! ### targets -/
abbrev TG := V → St → Hp → (St → Hp → Prop) → Prop
abbrev TGs := List V → St → Hp → (St → Hp → Prop) → Prop
def PG (X : Cx) (target : Expr) (t : TG) : Prop :=
  ∀ (pins : List (Addr × Obj)) (s : Shared) (σ : St) (H : Hp) (v : V) (u : Value) (Q : St → Hp → Prop), Inv X pins σ H s → RelV v u → t v σ H Q →
    wpAny (model X.prog X.w) X.A (assign target X.env u) (fun _ s' => ∃ σ' H', Inv X pins σ' H' s' ∧ Q σ' H') X.xe s
/-- several targets, one after another -/
def PGs (X : Cx) (ts : List Expr) (t : TGs) : Prop :=
  ∀ (pins : List (Addr × Obj)) (s : Shared) (σ : St) (H : Hp) (vs : List V) (us : List Value) (Q : St → Hp → Prop), Inv X pins σ H s → Vals vs us → t vs σ H Q →
    wpAny (model X.prog X.w) X.A (assignInOrder ((assignEach ts X.env).map (·.2)) us) (fun _ s' => ∃ σ' H', Inv X pins σ' H' s' ∧ Q σ' H') X.xe s
/-- o[i] = v, by values -/
abbrev TSet := V → V → V → Hp → (Hp → Prop) → Prop
def PSet (X : Cx) (t : TSet) : Prop :=
  ∀ (pins : List (Addr × Obj)) (s : Shared) (σ : St) (H : Hp) (o i v : V) (ov iv u : Value) (Q : Hp → Prop), Inv X pins σ H s → RelV o ov → RelV i iv → RelV v u → t o i v H Q →
    wpAny (model X.prog X.w) X.A (setItem ov iv u) (fun _ s' => ∃ H', Inv X pins σ H' s' ∧ Q H') X.xe s
section
variable {X : Cx} {pos : Pos}
def gName (i : Nat) : TG := fun v σ H Q => Q (σ.set i (some v)) H
theorem pg_name {i : Nat} {x : Str} (hN : X.N.Nodup) (hi : X.N[i]? = some x) (hx : Loc X.env.scope x) (hf : X.fn x = true ∨ X.env.scope.names.lookup x = some .local := by first | exact .inl rfl | exact .inr rfl | assumption) : PG X (.Name x pos) (gName i) := by
  intro pins s σ H v u Q I r h
  exact wpAny_assign_Name (store_ok I hN hi hx r (fun s' I' => ⟨_, H, I', h⟩) hf)
def gNil : TGs := fun vs σ H Q => vs = [] ∧ Q σ H
def gCons (t : TG) (u : TGs) : TGs := fun vs σ H Q => ∃ v r, vs = v :: r ∧ t v σ H fun σ' H' => u r σ' H' Q
theorem pgs_nil : PGs X [] gNil := by
  intro pins s σ H vs us Q I r h
  obtain ⟨e, h⟩ := h
  subst e
  cases r
  exact assignInOrder_nil ⟨σ, H, I, h⟩
theorem pgs_cons {e : Expr} {es : List Expr} {t : TG} {u : TGs} (h1 : PG X e t) (h2 : PGs X es u)
    (hs : (assignEach (e :: es) X.env).map (·.2) = assign e X.env :: (assignEach es X.env).map (·.2) := by rfl) : PGs X (e :: es) (gCons t u) := by
  intro pins s σ H vs us Q I r h
  obtain ⟨v, vr, e1, h⟩ := h
  subst e1
  cases r with
  | cons r rr =>
    rw [hs]
    refine assignInOrder_cons (thn (h1 pins s σ H _ _ _ I r h) fun _ s1 ⟨σ1, H1, I1, q1⟩ => ?_)
    exact h2 pins s1 σ1 H1 _ _ Q I1 rr q1
/-- (a, b, ..) = a tuple of that length -/
def gTup (K : PySem.W.Frag) (n : Nat) (t : TGs) : TG := fun v σ H Q => ∃ a xs, v = .ref a ∧ SqT K H a xs ∧ xs.length = n ∧ t xs σ H Q
theorem pg_tup {es : List Expr} {k : Nat} {t : TGs} {n : Nat} (hc : X.calm = true) (h : PGs X es t)
    (hn : (assignEach es X.env).length = n := by rfl) (hst : (assignEach es X.env).findIdx? (·.1) = none := by rfl) : PG X (.Tuple es k pos) (gTup X.K n t) := by
  intro pins s σ H v u Q I r hw
  obtain ⟨a, xs, e1, hq, hl, hw⟩ := hw
  subst e1
  cases r
  obtain ⟨its, rv, ht, hz⟩ := I.tuple hq
  refine assign_Tuple_tuple (I.ok.hd hc) ht (by simp [hn, ← hl, rv.length]) hst fun h' hx => ?_
  have I1 : Inv X pins σ H { s with heap := h' } := I.kept (t' := s.toks) fun b o e => hx b o (Nat.ne_of_lt (Heap.lt_size e)) e
  exact h pins _ σ H xs _ Q I1 (by simpa using rv) hw
/-- o[i] = .. -/
def gSub (to ti : TE) (t : TSet) : TG := fun v σ H Q => to σ H fun o H1 => ti σ H1 fun i H2 => t o i v H2 fun H3 => Q σ H3
theorem pg_sub {o i : Expr} {to ti : TE} {t : TSet} (ho : PE X o to) (hi : PE X i ti) (hs : PSet X t)
    (ha : ∀ v, assign (.Subscript o i pos) X.env v = (do
      let ov ← holding [v] (eval o X.env)
      let iv ← holding [v, ov] (eval i X.env)
      standAt pos
      holding [v, ov, iv] (setItem ov iv v)
      release [v, ov, iv] []) := by intro _; rfl) : PG X (.Subscript o i pos) (gSub to ti t) := by
  intro pins s σ H v u Q I r h
  rw [ha]
  refine wpAny_bind (wpAny_holding (thn (ho pins s σ H _ I h) fun ov s1 ⟨x, H1, I1, r1, q1⟩ => ?_))
  refine wpAny_bind (wpAny_holding (thn (hi pins s1 σ H1 _ I1 q1) fun iv s2 ⟨y, H2, I2, r2, q2⟩ => ?_))
  refine wpAny_bind (wpAny_standAt (wpAny_bind (wpAny_holding (thn (hs pins s2 σ H2 x y v ov iv u _ I2 r1 r2 r q2) fun _ s3 ⟨H3, I3, q3⟩ => ?_))))
  exact wpAny_release ⟨σ, H3, I3, q3⟩
/-- target = value -/
def tAsg (te : TE) (g : TG) : TS := fun D σ H => te σ H fun x H1 => g x σ H1 D.nx
theorem ps_asg {tg e : Expr} {te : TE} {g : TG} (he : PE X e te) (hg : PG X tg g) (hs : swapsWithSole [tg] e pos.line X.env = pure false := by rfl) (hw : swappedStores [tg] e X.env = pure none := by rfl)
    (h1 : (assignEach [tg] X.env).map (·.2) = [assign tg X.env] := by rfl) : PS X (.Assign [tg] e pos) (tAsg te g) := by
  intro pins s σ H D I h
  refine wpAny_Assign_stores (thn (he pins s σ H _ I h) fun v s1 ⟨x, H1, I1, r1, q1⟩ => ?_) hs hw
  rw [h1]
  exact thn (hg pins s1 σ H1 x v _ I1 r1 q1) fun _ s2 q => q
/-- name = value -/
theorem ps_set {i : Nat} {x : Str} {e : Expr} {te : TE} {pos' : Pos} (hN : X.N.Nodup) (hi : X.N[i]? = some x) (hx : Loc X.env.scope x) (he : PE X e te) (hs : swapsWith e (some (.Name x pos')) pos.line X.env = pure false := by rfl) (hf : X.fn x = true ∨ X.env.scope.names.lookup x = some .local := by first | exact .inl rfl | exact .inr rfl | assumption) :
    PS X (.Assign [.Name x pos'] e pos) (tAsg te (gName i)) := by
  intro pins s σ H D I h
  refine wpAny_Assign_Name (thn (he pins s σ H _ I h) fun v s1 ⟨y, H1, I1, r1, q1⟩ => ?_) hs
  exact store_ok I1 hN hi hx r1 (fun s2 I2 => ⟨_, H1, I2, q1⟩) hf
end

/-! ### while -/
section
variable {X : Cx} {pos : Pos}
/-- the invariant W with its measure -/
def tWhile (c : TT) (tb : TS) : TS := fun D σ H => ∃ W : Nat → St → Hp → Prop, (∃ m, W m σ H) ∧ ∀ m σ H, W m σ H →
  c σ H fun b H1 => if b = true then ∃ N : St → Hp → Prop, (∀ σ' H', N σ' H' → ∃ m', m' < m ∧ W m' σ' H') ∧ tb { D with nx := N, ct := N, bk := D.nx } σ H1 else D.nx σ H1
theorem ps_while {c : Expr} {body : List Stmt} {tc : TT} {tb : TS} (hp : PassesOwn (model X.prog X.w) X.A X.env X.xe) (hc : PT X c tc) (hb : PSs X body tb) : PS X (.While c body [] pos) (tWhile tc tb) := by
  intro pins s σ H D I h
  obtain ⟨W, ⟨m0, w0⟩, turn⟩ := h
  refine wpAny_While (codeAny_whileLoop (fun n s' => ∃ σ' H', Inv X pins σ' H' s' ∧ W n σ' H') ?_ m0 ⟨σ, H, I, w0⟩)
  rintro n s1 ⟨σ1, H1, I1, w1⟩
  refine wpAny_passesOwn hp (thn (hc pins s1 σ1 H1 _ I1 (turn n σ1 H1 w1)) fun b s2 ⟨H2, I2, q2⟩ => ?_)
  cases b with
  | true =>
    obtain ⟨N, hN, q2⟩ := q2
    rw [if_pos rfl]
    refine wpAny_passesOwn hp (thn (hb pins s2 σ1 H2 _ I2 q2) fun f s3 q3 => ?_)
    cases f with
    | next =>
      obtain ⟨σ3, H3, I3, n3⟩ := q3
      obtain ⟨m', hm, w3⟩ := hN σ3 H3 n3
      exact ⟨m', hm, σ3, H3, I3, w3⟩
    | cont =>
      obtain ⟨σ3, H3, I3, n3⟩ := q3
      obtain ⟨m', hm, w3⟩ := hN σ3 H3 n3
      exact ⟨m', hm, σ3, H3, I3, w3⟩
    | brk => exact q3
    | ret v => exact q3
  | false =>
    rw [if_neg Bool.false_ne_true]
    exact wpAny_execs_nil ⟨σ1, H2, I2, q2⟩
end

/-! ### what a loop or a comprehension walks -/
/-- at turn i: it yields x (the heap may grow), or it stops -/
structure It where
  go : Nat → Hp → Prop
  yld : Nat → Hp → V → Hp → Prop
  stop : Nat → Hp → Prop
/-- the iterator's own objects may turn: they are not the frame's, not pinned, younger than the entry (or a comprehension's own) -/
def FpOk (X : Cx) (pins : List (Addr × Obj)) (H : Hp) (b : Addr) : Prop :=
  H b = none ∧ b ≠ X.env.locals ∧ b ∉ X.fs ∧ (b ∈ X.ex ∨ X.s_0.heap.objs.size ≤ b) ∧ (∀ x c, X.env.cells.lookup x = some c → c ≠ b) ∧ ∀ p ∈ X.pn ++ pins, p.1 ≠ b
theorem Inv.fpOk {X : Cx} {pins : List (Addr × Obj)} {σ : St} {H H' : Hp} {s : Shared} {b : Addr} (I : Inv X pins σ H s) (hb : s.heap.objs.size ≤ b) (hn : H' b = none) : FpOk X pins H' b := by
  refine ⟨hn, Nat.ne_of_gt (Nat.lt_of_lt_of_le I.lt hb), I.nofs hb, .inr (Nat.le_trans I.sz hb), fun x c e z => ?_, fun p hp z => ?_⟩
  · obtain ⟨v, q⟩ := I.cell x c e
    exact absurd (Nat.lt_of_lt_of_le q.lt (by rw [z]; exact hb)) (Nat.lt_irrefl _)
  · exact absurd (Nat.lt_of_lt_of_le (Heap.lt_size (I.pin p hp).1) (by rw [z]; exact hb)) (Nat.lt_irrefl _)
structure Turn (P : Program) (w : World) (K : PySem.W.Frag) (tg : Expr) (J : It) (fp : List Addr) (it : Addr) (tn : Nat → Heap → Prop) : Prop where
  mem : it ∈ fp
  obj : ∀ i h, tn i h → ∀ b ∈ fp, ∃ o, h.get? b = some o ∧ ∀ v, o.data ≠ .cell v
  keep : ∀ i h h', tn i h → (∀ b ∈ fp, ∀ o, h.get? b = some o → h'.get? b = some o) → tn i h'
  item : ∀ (X : Cx), X.prog = P → X.w = w → X.K = K → X.calm = true → ∀ (i : Nat) (pins : List (Addr × Obj)) (s : Shared) (σ : St) (H : Hp) (E : Value → Shared → Prop), Inv X pins σ H s → (∀ b ∈ fp, FpOk X pins H b) → tn i s.heap → J.go i H →
    wpAny (model P w) X.A (pyNext (.ref it)) (fun r s1 => ∃ u, r = some u ∧
      wpAny (model P w) X.A (letOwnedTupleGo tg (.ref it) u) (fun _ s2 => ∃ x H', Inv X pins σ H' s2 ∧ RelV x u ∧ J.yld i H x H' ∧ tn (i + 1) s2.heap ∧ ∀ b ∈ fp, H' b = none) E s1) E s
  done : ∀ (X : Cx), X.prog = P → X.w = w → X.K = K → X.calm = true → ∀ (i : Nat) (pins : List (Addr × Obj)) (s : Shared) (σ : St) (H : Hp) (E : Value → Shared → Prop), Inv X pins σ H s → (∀ b ∈ fp, FpOk X pins H b) → tn i s.heap → J.stop i H →
    wpAny (model P w) X.A (pyNext (.ref it)) (fun r s1 => r = none ∧ Inv X pins σ H s1) E s
  self : ∀ (A : Around) (i : Nat) (s : Shared) (Q : Value → Shared → Prop) (E : Value → Shared → Prop), tn i s.heap → Q (.ref it) s → wpAny (model P w) A (pyIter (.ref it)) Q E s
abbrev TI := St → Hp → (It → Hp → Prop) → Prop
/-- an iterator has come -/
def PIE (X : Cx) (pins : List (Addr × Obj)) (σ : St) (tg : Expr) (R : It → Hp → Prop) (itv : Value) (s2 : Shared) : Prop :=
  ∃ (it : Addr) (fp : List Addr) (tn : Nat → Heap → Prop) (J : It) (H' : Hp), itv = .ref it ∧ Inv X pins σ H' s2 ∧ Turn X.prog X.w X.K tg J fp it tn ∧ tn 0 s2.heap ∧ (∀ b ∈ fp, FpOk X pins H' b) ∧ R J H'
def PI (X : Cx) (tg iter : Expr) (wi : TI) : Prop :=
  ∀ (pins : List (Addr × Obj)) (s : Shared) (σ : St) (H : Hp) (R : It → Hp → Prop), Inv X pins σ H s → wi σ H R →
    wpAny (model X.prog X.w) X.A (eval iter X.env) (fun v s1 => wpAny (model X.prog X.w) X.A (pyIter v) (PIE X pins σ tg R) X.xe s1) X.xe s

/-- the step ahead of the store is nothing for an iterator that keeps no tuple -/
theorem go_of {M : Model} {A : Around} {E : Value → Shared → Prop} {s : Shared} {tg : Expr} {it : Addr} {u : Value} {o : Obj} {n : String} {vs : Array Value} {Q : Unit → Shared → Prop} (ho : s.heap.get? it = some o) (hc : o.cls = .type n) (hd : o.data = .fields vs)
    (hn : ["enumerate", "zip", "dict_itemiterator", "dict_reverseitemiterator", "odict_iterator", "itertools.zip_longest", "itertools.pairwise"].contains n = false) (hQ : Q () s) : wpAny M A (letOwnedTupleGo tg (.ref it) u) Q E s := by
  unfold letOwnedTupleGo
  cases tg <;> first
    | exact wpAny_pure hQ
    | (cases u <;> first
        | exact wpAny_pure hQ
        | (refine wpAny_bind (wpAny_load ho ?_)
           rw [hc, hd]
           show wpAny M A (if (["enumerate", "zip", "dict_itemiterator", "dict_reverseitemiterator", "odict_iterator", "itertools.zip_longest", "itertools.pairwise"].contains n && vs[0]? == some (rawInt _)) = true then _ else _) Q E s
           rw [if_neg (by intro h; rw [hn, Bool.false_and] at h; cases h)]
           exact wpAny_pure hQ))

/-- the list at a, as it stands at each turn (a loop may append to it) -/
def Itl (K : PySem.W.Frag) (a : Addr) : It :=
  ⟨fun i H => ∃ xs x, SqL K H a xs ∧ xs[i]? = some x, fun i H x H' => H' = H ∧ ∀ xs, SqL K H a xs → xs[i]? = some x, fun i H => ∃ xs, SqL K H a xs ∧ xs.length ≤ i⟩
def Itt (K : PySem.W.Frag) (a : Addr) : It :=
  ⟨fun i H => ∃ xs x, SqT K H a xs ∧ xs[i]? = some x, fun i H x H' => H' = H ∧ ∀ xs, SqT K H a xs → xs[i]? = some x, fun i H => ∃ xs, SqT K H a xs ∧ xs.length ≤ i⟩
/-- lo, lo + 1, .. (n of them) -/
def Itr (lo : Int) (n : Nat) : It := ⟨fun i _ => i < n, fun i H x H' => H' = H ∧ x = .int (lo + i), fun i _ => n ≤ i⟩
theorem turn_list {P : Program} {w : World} {K : PySem.W.Frag} {tg : Expr} (a it : Addr) : Turn P w K tg (Itl K a) [it] it (fun i h => h.IsListIter it a i) where
  mem := by simp
  obj := fun i h st b hb => by
    have e : b = it := by simpa using hb
    subst e
    obtain ⟨o, e, c, d⟩ := st
    exact ⟨o, e, fun v z => by rw [d] at z; cases z⟩
  keep := fun i h h' st k => st.at fun o e => k it (by simp) o e
  item := by
    intro X hP hw hK hc i pins s σ H E I hf st hg
    subst hP hw hK
    obtain ⟨xs, x, hq, hx⟩ := hg
    obtain ⟨its, rv, p, hz⟩ := I.list hq
    obtain ⟨u, hu, ru⟩ := rv.get hx
    obtain ⟨f0, f1, f2, f3, f4, f5⟩ := hf it (by simp)
    refine wpAny_pyNext_list_item st p.isList (x := u) (by simpa using hu) fun h' st' sb => ?_
    have I1 : Inv X pins σ H { s with heap := h' } := I.turned (t' := s.toks) (fun b o hb e => (sb.2 b hb).trans e) f0 f1 f3 f4 f5
    obtain ⟨o, e, c, d⟩ := id st'
    exact ⟨u, rfl, go_of (s := { s with heap := h' }) e c d (by decide) ⟨x, H, I1, ru, ⟨rfl, fun ys hy => by rw [I.list_inj hy hq]; exact hx⟩, st', fun b hb => (hf b hb).1⟩⟩
  done := by
    intro X hP hw hK hc i pins s σ H E I hf st hg
    subst hP hw hK
    obtain ⟨xs, hq, hx⟩ := hg
    obtain ⟨its, rv, p, hz⟩ := I.list hq
    obtain ⟨f0, f1, f2, f3, f4, f5⟩ := hf it (by simp)
    have hl := rv.length
    exact wpAny_pyNext_list_end (I.ok.hd hc) st p.isList (by simp; omega) fun h' eb => ⟨rfl, I.turned (t' := s.toks) (fun b o hb e => eb b o hb e) f0 f1 f3 f4 f5⟩
  self := fun _ _ _ _ _ st h => wpAny_pyIter_listiter st h
theorem turn_tuple {P : Program} {w : World} {K : PySem.W.Frag} {tg : Expr} (a it : Addr) : Turn P w K tg (Itt K a) [it] it (fun i h => h.IsTupleIter it a i) where
  mem := by simp
  obj := fun i h st b hb => by
    have e : b = it := by simpa using hb
    subst e
    obtain ⟨o, e, c, d⟩ := st
    exact ⟨o, e, fun v z => by rw [d] at z; cases z⟩
  keep := fun i h h' st k => st.at fun o e => k it (by simp) o e
  item := by
    intro X hP hw hK hc i pins s σ H E I hf st hg
    subst hP hw hK
    obtain ⟨xs, x, hq, hx⟩ := hg
    obtain ⟨its, rv, p, hz⟩ := I.tuple hq
    obtain ⟨u, hu, ru⟩ := rv.get hx
    obtain ⟨f0, f1, f2, f3, f4, f5⟩ := hf it (by simp)
    refine wpAny_pyNext_tuple_item st (show s.heap.IsTuple a its.toArray from p) (x := u) (by simpa using hu) fun h' st' sb => ?_
    have I1 : Inv X pins σ H { s with heap := h' } := I.turned (t' := s.toks) (fun b o hb e => (sb.2 b hb).trans e) f0 f1 f3 f4 f5
    obtain ⟨o, e, c, d⟩ := id st'
    exact ⟨u, rfl, go_of (s := { s with heap := h' }) e c d (by decide) ⟨x, H, I1, ru, ⟨rfl, fun ys hy => by rw [I.tuple_inj hy hq]; exact hx⟩, st', fun b hb => (hf b hb).1⟩⟩
  done := by
    intro X hP hw hK hc i pins s σ H E I hf st hg
    subst hP hw hK
    obtain ⟨xs, hq, hx⟩ := hg
    obtain ⟨its, rv, p, hz⟩ := I.tuple hq
    obtain ⟨f0, f1, f2, f3, f4, f5⟩ := hf it (by simp)
    have hl := rv.length
    exact wpAny_pyNext_tuple_end (I.ok.hd hc) st (show s.heap.IsTuple a its.toArray from p) (by simp; omega) fun h' eb => ⟨rfl, I.turned (t' := s.toks) (fun b o hb e => eb b o hb e) f0 f1 f3 f4 f5⟩
  self := fun _ _ _ _ _ st h => wpAny_pyIter_tupleiter st h
theorem turn_range {P : Program} {w : World} {K : PySem.W.Frag} {tg : Expr} (it : Addr) (lo : Int) (n : Nat) : Turn P w K tg (Itr lo n) [it] it (fun i h => IsRangeIter h it (lo + (i : Nat) * 1) ((n : Int) - (i : Nat)) 1) where
  mem := by simp
  obj := fun i h st b hb => by
    have e : b = it := by simpa using hb
    subst e
    exact ⟨_, st, fun v z => by
      have z' : Data.fields _ = Data.cell v := z
      cases z'⟩
  keep := fun i h h' st k => k it (by simp) _ st
  item := by
    intro X hP hw hK hc i pins s σ H E I hf st hg
    subst hP hw hK
    obtain ⟨f0, f1, f2, f3, f4, f5⟩ := hf it (by simp)
    have W := Walks.range (prog := X.prog) (w := X.w) (I.ok.hd hc) it lo 1 n
    refine W.item i s _ _ hg st fun v h' tk hv st' kk => ?_
    obtain ⟨t, rfl⟩ := hv
    have I1 : Inv X pins σ H { s with heap := h', toks := tk } := I.turned (fun b o hb e => kk b o (by simpa using hb) e) f0 f1 f3 f4 f5
    refine ⟨_, rfl, go_of (s := { s with heap := h', toks := tk }) (n := "range_iterator") st' rfl rfl (by decide) ⟨.int (lo + i), H, I1, ⟨t, ?_⟩, ⟨rfl, rfl⟩, st', fun b hb => (hf b hb).1⟩⟩
    rw [Int.mul_one]
  done := by
    intro X hP hw hK hc i pins s σ H E I hf st hg
    subst hP hw hK
    obtain ⟨f0, f1, f2, f3, f4, f5⟩ := hf it (by simp)
    exact wpAny_pyNext_range_end (I.ok.hd hc) st (by have : n ≤ i := hg; omega) fun h' eb => ⟨rfl, I.turned (t' := s.toks) (fun b o hb e => eb b o hb e) f0 f1 f3 f4 f5⟩
  self := fun _ _ _ _ _ st h => wpAny_pyIter_rangeiter st h
end L2

namespace L2
open PySem PySem.Spec PyProof.Rows
section
variable {X : Cx} {tg : Expr}
/-- a range object just made, walked -/
theorem range_it {pins : List (Addr × Obj)} {σ : St} {H : Hp} {s : Shared} {R : It → Hp → Prop} {E : Value → Shared → Prop} {lo hi : Int} {t u v : Tok} {tk : Nat} (I : Inv X pins σ H s) (h1 : -(2 ^ 62) ≤ lo) (h2 : lo < 2 ^ 62) (h3 : -(2 ^ 62) ≤ hi) (h4 : hi < 2 ^ 62)
    (q : R (Itr lo (hi - lo).toNat) H) : wpAny (model X.prog X.w) X.A (pyIter (.ref s.heap.objs.size)) (PIE X pins σ tg R) E { s with heap := s.heap.push { cls := .type "range", data := .fields #[.int lo t, .int hi u, .int 1 v] }, toks := tk } := by
  refine wpAny_pyIter_range (IsRange.new ..) (small_one h1 h2 h3 h4) ?_
  have I1 : Inv X pins σ H { s with heap := s.heap.push { cls := .type "range", data := .fields #[.int lo t, .int hi u, .int 1 v] }, toks := tk } := I.kept fun b o e => Heap.get?_push_of_some _ e
  refine ⟨(s.heap.push { cls := .type "range", data := .fields #[.int lo t, .int hi u, .int 1 v] }).objs.size, [(s.heap.push { cls := .type "range", data := .fields #[.int lo t, .int hi u, .int 1 v] }).objs.size], _, _, H, rfl,
    I1.kept (t' := tk) fun b o e => Heap.get?_push_of_some _ e, turn_range _ lo (hi - lo).toNat, ?_, fun b hb => ?_, q⟩
  · have e1 : lo + ((0 : Nat) : Int) * 1 = lo := by simp
    have e2 : (((hi - lo).toNat : Nat) : Int) - ((0 : Nat) : Int) = Builtin.Range.rangeSize lo hi 1 := by rw [rangeSize_one]; split <;> omega
    show IsRangeIter _ _ (lo + ((0 : Nat) : Int) * 1) ((((hi - lo).toNat : Nat) : Int) - ((0 : Nat) : Int)) 1
    rw [e1, e2]
    exact Heap.get?_push_size _ rfl
  · have e : b = (s.heap.push { cls := .type "range", data := .fields #[.int lo t, .int hi u, .int 1 v] }).objs.size := by simpa using hb
    subst e
    exact I1.fpOk (Nat.le_refl _) (I1.hok.fresh (Nat.le_refl _))
def iRng1 (ta : TA) : TI := fun σ H R => ta σ H fun vs H1 => ∃ j : Int, vs = [.int j] ∧ -(2 ^ 62) ≤ j ∧ j < 2 ^ 62 ∧ R (Itr 0 j.toNat) H1
def iRng2 (ta : TA) : TI := fun σ H R => ta σ H fun vs H1 => ∃ i j : Int, vs = [.int i, .int j] ∧ (-(2 ^ 62) ≤ i ∧ i < 2 ^ 62 ∧ -(2 ^ 62) ≤ j ∧ j < 2 ^ 62) ∧ R (Itr i (j - i).toNat) H1
theorem pi_range1 {a : Expr} {ta : TA} {p pos : Pos} (hg : Gl X "range") (hm : X.mg "range" = none) (ha : PA X [a] ta) (hs : starEach [a] X.env = [(false, eval a X.env)] := by rfl) : PI X tg (.Call (.Name "range" p) [a] [] pos) (iRng1 ta) := by
  intro pins s σ H R I h
  refine Call_ (ld_blt I hg hm boot_range (PyProof.Rows.callWith_type1 (thn (ha pos pins s σ H _ I h) fun us s1 ⟨vs, H1, I1, r1, q1⟩ => ?_) hs rfl))
  obtain ⟨j, e, q1, q2, q⟩ := q1
  subst e
  cases r1 with
  | cons r rr =>
    cases rr
    obtain ⟨t, rfl⟩ := r
    exact call_range_1 (range_it I1 (by omega) (by omega) q1 q2 (by simpa using q))
theorem pi_range2 {a b : Expr} {ta : TA} {p pos : Pos} (hg : Gl X "range") (hm : X.mg "range" = none) (ha : PA X [a, b] ta) (hs : starEach [a, b] X.env = [(false, eval a X.env), (false, eval b X.env)] := by rfl) (hs2 : starEach [b] X.env = [(false, eval b X.env)] := by rfl) :
    PI X tg (.Call (.Name "range" p) [a, b] [] pos) (iRng2 ta) := by
  intro pins s σ H R I h
  refine Call_ (ld_blt I hg hm boot_range (PyProof.Rows.callWith_type1 (thn (ha pos pins s σ H _ I h) fun us s1 ⟨vs, H1, I1, r1, q1⟩ => ?_) (by rw [hs, hs2]) (by rw [hs2]; rfl)))
  obtain ⟨i, j, e, ⟨q1, q2, q3, q4⟩, q⟩ := q1
  subst e
  cases r1 with
  | cons r rr =>
    cases rr with
    | cons r' rr =>
      cases rr
      obtain ⟨t, rfl⟩ := r
      obtain ⟨t', rfl⟩ := r'
      exact call_range_2 (range_it I1 q1 q2 q3 q4 q)

/-! ### for -/
/-- W: the invariant by the turn and a measure; N: what the body is to reach -/
def tFor (wi : TI) (g : TG) (tb : TS) : TS := fun D σ H => wi σ H fun J H1 => ∃ W : Nat → Nat → St → Hp → Prop, (∃ m, W 0 m σ H1) ∧ ∀ i m σ H, W i m σ H →
  (J.stop i H ∧ D.nx σ H) ∨ (J.go i H ∧ ∃ N : St → Hp → Prop, (∀ σ' H', N σ' H' → ∃ m', m' < m ∧ W (i + 1) m' σ' H') ∧ ∀ x H', J.yld i H x H' → g x σ H' fun σ2 H2 => tb { D with nx := N, ct := N, bk := D.nx } σ2 H2)
/-- the records at fp as they stand -/
def pinsAt (fp : List Addr) (h : Heap) : List (Addr × Obj) := fp.filterMap fun b => (h.get? b).map fun o => (b, o)
theorem mem_pinsAt {fp : List Addr} {h : Heap} {b : Addr} {o : Obj} (hb : b ∈ fp) (e : h.get? b = some o) : (b, o) ∈ pinsAt fp h := List.mem_filterMap.mpr ⟨b, hb, by rw [e]; rfl⟩
theorem of_pinsAt {fp : List Addr} {h : Heap} {p : Addr × Obj} (hp : p ∈ pinsAt fp h) : p.1 ∈ fp ∧ h.get? p.1 = some p.2 := by
  obtain ⟨b, hb, e⟩ := List.mem_filterMap.mp hp
  cases q : h.get? b with
  | none => rw [q] at e; cases e
  | some o =>
    rw [q] at e
    have e' : (b, o) = p := Option.some.inj e
    subst e'
    exact ⟨hb, q⟩
theorem Inv.pinned {pins : List (Addr × Obj)} {σ : St} {H : Hp} {s : Shared} {fp : List Addr} (I : Inv X pins σ H s) (hf : ∀ b ∈ fp, FpOk X pins H b) (ho : ∀ b ∈ fp, ∃ o, s.heap.get? b = some o ∧ ∀ v, o.data ≠ .cell v) : Inv X (pins ++ pinsAt fp s.heap) σ H s :=
  I.pins_of fun p hp => (List.mem_append.mp hp).elim (fun z => I.pin p (List.mem_append_right _ z)) fun z => by
    obtain ⟨hb, e⟩ := of_pinsAt z
    obtain ⟨f0, f1, f2, _⟩ := hf p.1 hb
    obtain ⟨o, e', d⟩ := ho p.1 hb
    rw [e] at e'; cases e'
    exact ⟨e, f0, f1, f2, d⟩
theorem Inv.unpinned {pins pl : List (Addr × Obj)} {σ : St} {H : Hp} {s : Shared} (I : Inv X (pins ++ pl) σ H s) : Inv X pins σ H s := I.pins_of fun p hp => I.pin p (List.mem_append_right _ (List.mem_append_left _ hp))
theorem ps_for {iter : Expr} {body : List Stmt} {wi : TI} {g : TG} {tb : TS} {pos : Pos} (hp : PassesOwn (model X.prog X.w) X.A X.env X.xe) (hc : X.calm = true) (hi : PI X tg iter wi) (hg : PG X tg g) (hb : PSs X body tb)
    (hs : ∀ x, foldedSetIterable iter X.env x = pure x := by intro _; rfl) : PS X (.For tg iter body [] pos) (tFor wi g tb) := by
  intro pins s σ H D I h
  refine wpAny_For (thn (hi pins s σ H _ I h) fun v s1 h1 => thn h1 fun itv s2 h2 => ?_) hs
  obtain ⟨it, fp, tn, J, H2, e, I2, T, st2, f2, W, ⟨m0, w0⟩, turn⟩ := h2
  subst e
  -- what stays true of the iterator's objects through the loop
  have stat : ∀ {H' : Hp}, (∀ b ∈ fp, H' b = none) → ∀ b ∈ fp, FpOk X pins H' b := fun hn b hb => ⟨hn b hb, (f2 b hb).2⟩
  refine codeAny_forLoop_any (fun n s' => ∃ i σ' H', Inv X pins σ' H' s' ∧ tn i s'.heap ∧ (∀ b ∈ fp, H' b = none) ∧ W i n σ' H') ?_ m0 ⟨0, σ, H2, I2, st2, fun b hb => (f2 b hb).1, w0⟩
  rintro n s3 ⟨i, σ3, H3, I3, st3, fr3, w3⟩
  rcases turn i n σ3 H3 w3 with ⟨stop, qn⟩ | ⟨go, N, hN, step⟩
  · refine wpAny_passesOwn hp (thn (T.done X rfl rfl rfl hc i pins s3 σ3 H3 X.xe I3 (stat fr3) st3 stop) fun r s4 ⟨hr, I4⟩ => ?_)
    subst hr
    exact wpAny_execs_nil ⟨σ3, H3, I4, qn⟩
  · refine wpAny_passesOwn hp (thn (T.item X rfl rfl rfl hc i pins s3 σ3 H3 X.xe I3 (stat fr3) st3 go) fun r s4 ⟨u, hr, h4⟩ => ?_)
    subst hr
    refine wpAny_passesOwn hp (thn h4 fun _ s5 ⟨x, H5, I5, r5, y5, st5, fr5⟩ => ?_)
    have I5' := I5.pinned (stat fr5) (T.obj _ _ st5)
    refine wpAny_passesOwn hp (thn (hg _ s5 σ3 H5 x u _ I5' r5 (step x H5 y5)) fun _ s6 ⟨σ6, H6, I6, q6⟩ => ?_)
    refine wpAny_passesOwn hp (thn (hb _ s6 σ6 H6 _ I6 q6) fun f s7 q7 => ?_)
    have again : ∀ {σ7 : St} {H7 : Hp}, Inv X (pins ++ pinsAt fp s5.heap) σ7 H7 s7 → N σ7 H7 → ∃ m, m < n ∧ ∃ i σ' H', Inv X pins σ' H' s7 ∧ tn i s7.heap ∧ (∀ b ∈ fp, H' b = none) ∧ W i m σ' H' := fun {σ7 H7} I7 n7 => by
      obtain ⟨m', hm, w7⟩ := hN σ7 H7 n7
      refine ⟨m', hm, i + 1, σ7, H7, I7.unpinned, T.keep _ _ _ st5 fun b hb o e => (I7.pin (b, o) (List.mem_append_right _ (List.mem_append_right _ (mem_pinsAt hb e)))).1, fun b hb => ?_, w7⟩
      obtain ⟨o, e, d⟩ := T.obj _ _ st5 b hb
      exact (I7.pin (b, o) (List.mem_append_right _ (List.mem_append_right _ (mem_pinsAt hb e)))).2.1
    cases f with
    | next => obtain ⟨σ7, H7, I7, n7⟩ := q7; exact again I7 n7
    | cont => obtain ⟨σ7, H7, I7, n7⟩ := q7; exact again I7 n7
    | brk => obtain ⟨σ7, H7, I7, q7⟩ := q7; exact ⟨σ7, H7, I7.unpinned, q7⟩
    | ret v => obtain ⟨x7, σ7, H7, I7, r7, q7⟩ := q7; exact ⟨x7, σ7, H7, I7.unpinned, r7, q7⟩
end

/-! ### the forms one uses -/
end L2

namespace L2
open PySem PySem.Spec PyProof.Rows

abbrev R2 := V → V → Hp → VK → Prop
/-- a two-place operation on values: f is binaryOp op, inplaceOp op or compareOp op -/
def OpR (X : Cx) (f : Value → Value → Sem Value) (r : R2) : Prop :=
  ∀ (pins : List (Addr × Obj)) (s : Shared) (σ : St) (H : Hp) (x y : V) (v u : Value) (Q : VK), Inv X pins σ H s → RelV x v → RelV y u → r x y H Q →
    wpAny (model X.prog X.w) X.A (f v u) (EP X pins σ Q) X.xe s
/-- a one-place operation -/
def UnR (X : Cx) (f : Value → Sem Value) (r : V → Hp → VK → Prop) : Prop :=
  ∀ (pins : List (Addr × Obj)) (s : Shared) (σ : St) (H : Hp) (x : V) (v : Value) (Q : VK), Inv X pins σ H s → RelV x v → r x H Q →
    wpAny (model X.prog X.w) X.A (f v) (EP X pins σ Q) X.xe s
/-- a call of a value that is known (a builtin, a type) with values -/
def CallR (X : Cx) (f : Value) (r : List V → Hp → VK → Prop) : Prop :=
  ∀ (pins : List (Addr × Obj)) (s : Shared) (σ : St) (H : Hp) (xs : List V) (us : List Value) (Q : VK), Inv X pins σ H s → Vals xs us → r xs H Q →
    wpAny (model X.prog X.w) X.A (call f us) (EP X pins σ Q) X.xe s
/-- a value's truth -/
def TruR (X : Cx) (r : V → Hp → (Bool → Hp → Prop) → Prop) : Prop :=
  ∀ (pins : List (Addr × Obj)) (s : Shared) (σ : St) (H : Hp) (x : V) (v : Value) (Q : Bool → Hp → Prop), Inv X pins σ H s → RelV x v → r x H Q →
    wpAny (model X.prog X.w) X.A (truthy v) (TP X pins σ Q) X.xe s

def tOp (r : R2) (ta tb : TE) : TE := fun σ H Q => ta σ H fun x H1 => tb σ H1 fun y H2 => r x y H2 Q
def tUn (r : V → Hp → VK → Prop) (ta : TE) : TE := fun σ H Q => ta σ H fun x H1 => r x H1 Q
/-- ints in, under C, and a value out -/
def rI (C : Int → Int → Prop) (g : Int → Int → V) : R2 := fun x y H Q => ∃ i j, x = .int i ∧ y = .int j ∧ C i j ∧ Q (g i j) H
def rI0 (g : Int → Int → V) : R2 := fun x y H Q => ∃ i j, x = .int i ∧ y = .int j ∧ Q (g i j) H
def rU (g : Int → V) : V → Hp → VK → Prop := fun x H Q => ∃ i, x = .int i ∧ Q (g i) H

section
variable {X : Cx} {a b c : Expr} {ta tb tc : TE} {pos : Pos}

theorem binT (ha : PE X a ta) (hb : PE X b tb) {pins : List (Addr × Obj)} {s : Shared} {σ : St} {H : Hp} {R : V → V → Hp → Prop} (I : Inv X pins σ H s)
    (h : ta σ H fun x H1 => tb σ H1 fun y H2 => R x y H2) {Q : Value → Shared → Prop} {f : Value → Value → Sem Value}
    (hf : ∀ v u s2 x y H2, Inv X pins σ H2 s2 → RelV x v → RelV y u → R x y H2 → wpAny (model X.prog X.w) X.A (f v u) Q X.xe s2) :
    wpAny (model X.prog X.w) X.A (eval a X.env) (fun v s₁ => wpAny (model X.prog X.w) X.A (eval b X.env) (fun u s₂ => wpAny (model X.prog X.w) X.A (f v u) Q X.xe s₂) X.xe s₁) X.xe s := by
  refine thn (ha pins s σ H _ I h) fun v s1 ⟨x, H1, I1, r1, q1⟩ => ?_
  refine thn (hb pins s1 σ H1 _ I1 q1) fun u s2 ⟨y, H2, I2, r2, q2⟩ => ?_
  exact hf v u s2 x y H2 I2 r1 r2 q2

theorem pe_op {op : Operator} {r : R2} (ho : OpR X (binaryOp op) r) (ha : PE X a ta) (hb : PE X b tb) : PE X (.BinOp a op b pos) (tOp r ta tb) := by
  intro pins s σ H Q I h
  exact wpAny_BinOp (binT ha hb I h fun v u s2 x y H2 I2 rx ry q => ho pins s2 σ H2 x y v u Q I2 rx ry q)
theorem pe_un {op : UnaryOp} {r : V → Hp → VK → Prop} (ho : UnR X (unaryOp op) r) (ha : PE X a ta) : PE X (.UnaryOp op a pos) (tUn r ta) := by
  intro pins s σ H Q I h
  exact UnaryOp_ (thn (ha pins s σ H _ I h) fun v s1 ⟨x, H1, I1, r1, q1⟩ => ho pins s1 σ H1 x v Q I1 r1 q1)
/-! ### ints -/
theorem opI {f : Value → Value → Sem Value} {C : Int → Int → Prop} {g : Int → Int → Int}
    (rule : ∀ (i j : Int) (t u : Tok) (s : Shared) (Q : Value → Shared → Prop) (E : Value → Shared → Prop), C i j → Q (.int (g i j) s.toks) { s with toks := s.toks + 1 } → wpAny (model X.prog X.w) X.A (f (.int i t) (.int j u)) Q E s) :
    OpR X f (rI C fun i j => .int (g i j)) := by
  intro pins s σ H x y v u Q I rx ry h
  obtain ⟨i, j, rfl, rfl, hc, q⟩ := h
  obtain ⟨t, rfl⟩ := rx
  obtain ⟨t', rfl⟩ := ry
  exact rule i j t t' s _ _ hc ⟨.int (g i j), H, I.tok _, ⟨_, rfl⟩, q⟩
theorem opI0 {f : Value → Value → Sem Value} {g : Int → Int → Int}
    (rule : ∀ (i j : Int) (t u : Tok) (s : Shared) (Q : Value → Shared → Prop) (E : Value → Shared → Prop), Q (.int (g i j) s.toks) { s with toks := s.toks + 1 } → wpAny (model X.prog X.w) X.A (f (.int i t) (.int j u)) Q E s) :
    OpR X f (rI0 fun i j => .int (g i j)) := by
  intro pins s σ H x y v u Q I rx ry h
  obtain ⟨i, j, rfl, rfl, q⟩ := h
  obtain ⟨t, rfl⟩ := rx
  obtain ⟨t', rfl⟩ := ry
  exact rule i j t t' s _ _ ⟨.int (g i j), H, I.tok _, ⟨_, rfl⟩, q⟩
theorem opB0 {f : Value → Value → Sem Value} {g : Int → Int → Bool}
    (rule : ∀ (i j : Int) (t u : Tok) (s : Shared) (Q : Value → Shared → Prop) (E : Value → Shared → Prop), Q (.bool (g i j)) s → wpAny (model X.prog X.w) X.A (f (.int i t) (.int j u)) Q E s) :
    OpR X f (rI0 fun i j => .bl (g i j)) := by
  intro pins s σ H x y v u Q I rx ry h
  obtain ⟨i, j, rfl, rfl, q⟩ := h
  obtain ⟨t, rfl⟩ := rx
  obtain ⟨t', rfl⟩ := ry
  exact rule i j t t' s _ _ ⟨.bl (g i j), H, I, rfl, q⟩

def CDiv (i j : Int) : Prop := 0 < j ∧ j < 1073741824
def CPow (i j : Int) : Prop := 0 ≤ j ∧ j ≤ 1000000 ∧ i.natAbs < 2 ^ 64
def CMul (i j : Int) : Prop := (-(2 ^ 64) < i ∧ i < 2 ^ 64) ∨ (-(2 ^ 64) < j ∧ j < 2 ^ 64)
theorem CMul.ok {i j : Int} (h : CMul i j) : IntMulOk i j := by
  rcases h with ⟨h1, h2⟩ | ⟨h1, h2⟩
  · exact .of_left (intBits_le_64 h1 h2)
  · exact .of_right (intBits_le_64 h1 h2)
theorem op_add : OpR X (binaryOp .Add) (rI0 fun i j => .int (i + j)) := opI0 fun _ _ _ _ _ _ _ q => add_int q
theorem op_sub : OpR X (binaryOp .Sub) (rI0 fun i j => .int (i - j)) := opI0 fun _ _ _ _ _ _ _ q => sub_int q
theorem op_mul : OpR X (binaryOp .Mult) (rI CMul fun i j => .int (i * j)) := opI fun _ _ _ _ _ _ _ hc q => mul_int q hc.ok
/-- // by a positive divisor -/
theorem op_fdiv : OpR X (binaryOp .FloorDiv) (rI CDiv fun i j => .int (i / j)) := opI fun i j _ _ _ _ _ hc q => by
  have h1 : (0 : Int) < j := hc.1
  have h2 : j < 1073741824 := hc.2
  exact floordiv_int (by omega) (by rw [Int.fdiv_eq_ediv_of_nonneg i (by omega)]; exact q) (.inl (PyProof.noPylong_small (by omega)))
/-- % by a positive divisor of any size -/
theorem op_mod : OpR X (binaryOp .Mod) (rI (fun _ j => 0 < j) fun i j => .int (i % j)) := opI fun i j _ _ _ _ _ hc q => by
  have h1 : (0 : Int) < j := hc
  exact mod_int' (by omega) (by rw [Int.fmod_eq_emod_of_nonneg i (by omega)]; exact q)
theorem op_pow : OpR X (binaryOp .Pow) (rI CPow fun i j => .int (i ^ j.toNat)) := opI fun _ _ _ _ _ _ _ hc q => pow_int_small hc.1 hc.2.1 hc.2.2 q
theorem unI {f : Value → Sem Value} {g : Int → Int}
    (rule : ∀ (i : Int) (t : Tok) (s : Shared) (Q : Value → Shared → Prop) (E : Value → Shared → Prop), Q (.int (g i) s.toks) { s with toks := s.toks + 1 } → wpAny (model X.prog X.w) X.A (f (.int i t)) Q E s) :
    UnR X f (rU fun i => .int (g i)) := by
  intro pins s σ H x v Q I rx h
  obtain ⟨i, rfl, q⟩ := h
  obtain ⟨t, rfl⟩ := rx
  exact rule i t s _ _ ⟨.int (g i), H, I.tok _, ⟨_, rfl⟩, q⟩
theorem un_neg : UnR X (unaryOp .USub) (rU fun i => .int (-i)) := unI fun _ _ _ _ _ q => neg_int q
/-! ### bools among ints: n += (a < b) -/
end

/-! ### comparisons -/
section
variable {X : Cx} {a b c : Expr} {ta tb tc : TE} {pos : Pos}
theorem op_lt : OpR X (compareOp .Lt) (rI0 fun i j => .bl (decide (i < j))) := opB0 fun _ _ _ _ _ _ _ q => lt_int q
theorem op_gt : OpR X (compareOp .Gt) (rI0 fun i j => .bl (decide (j < i))) := opB0 fun _ _ _ _ _ _ _ q => gt_int q
theorem op_ge : OpR X (compareOp .GtE) (rI0 fun i j => .bl (decide (j ≤ i))) := opB0 fun _ _ _ _ _ _ _ q => ge_int q
/-- two rules for one operation: by cases -/
theorem OpR.or {f : Value → Value → Sem Value} {r r' : R2} (h : OpR X f r) (h' : OpR X f r') : OpR X f (fun x y H Q => r x y H Q ∨ r' x y H Q) := by
  intro pins s σ H x y v u Q I rx ry q
  rcases q with q | q
  · exact h pins s σ H x y v u Q I rx ry q
  · exact h' pins s σ H x y v u Q I rx ry q

theorem nomark (b : Expr) {op : CmpOp} (h : op ≠ .In := by decide) (h2 : op ≠ .NotIn := by decide) : behindInMarks op b = false := by
  have e1 : (op == CmpOp.In) = false := by cases op <;> first | rfl | exact absurd rfl h
  have e2 : (op == CmpOp.NotIn) = false := by cases op <;> first | rfl | exact absurd rfl h2
  cases b <;> simp [behindInMarks, e1, e2]
/-- a comparison as a value; hm: nomark b, or (for in, not in) by with_unfolding_all rfl -/
theorem pe_cmpR {op : CmpOp} {r : R2} (ho : OpR X (compareOp op) r) (ha : PE X a ta) (hb : PE X b tb) (hm : behindInMarks op b = false) : PE X (.Compare a [op] [b] pos) (tOp r ta tb) := by
  intro pins s σ H Q I h
  exact wpAny_Compare1 (binT ha hb I h fun v u s2 x y H2 I2 rx ry q => ho pins s2 σ H2 x y v u Q I2 rx ry q) hm
/-- a reading of a value as a test -/
def tTest (t : TE) : TT := fun σ H Q => t σ H fun x H' => ∃ k, x = .bl k ∧ Q k H'
theorem pt_cmpR {op : CmpOp} {r : R2} (ho : OpR X (compareOp op) r) (ha : PE X a ta) (hb : PE X b tb) (hm : behindInMarks op b = false) : PT X (.Compare a [op] [b] pos) (tTest (tOp r ta tb)) := by
  intro pins s σ H Q I h
  refine wpAny_isTrue_Compare1 (thn (ha pins s σ H _ I h) fun v s1 ⟨x, H1, I1, r1, q1⟩ => thn (hb pins s1 σ H1 _ I1 q1) fun u s2 ⟨y, H2, I2, r2, q2⟩ =>
    thn (ho pins s2 σ H2 x y v u _ I2 r1 r2 q2) fun c s3 ⟨z, H3, I3, r3, k, e, q3⟩ => ?_) hm
  subst e
  cases r3
  exact wpAny_truthy_bool ⟨H3, I3, q3⟩
/-! ### truth -/
/-- a value's truth by the abstract heap -/
def TruV (K : PySem.W.Frag) (x : V) (H : Hp) (k : Bool) : Prop :=
  match x with
  | .non => k = false
  | .bl b => k = b
  | .int i => k = (i != 0)
  | .str y => y.length ≤ sizeLine ∧ k = ((y.length : Int) != 0)
  | .byt y => y.size ≤ sizeLine ∧ k = ((y.size : Int) != 0)
  | .ref p => (∃ xs, SqL K H p xs ∧ k = !xs.isEmpty) ∨ (∃ xs, SqT K H p xs ∧ k = !xs.isEmpty) ∨ ∃ kvs, H p = some (.dK kvs) ∧ k = !kvs.isEmpty
  | _ => False
theorem isEmpty_kv {κ : Type} {kvs : List (κ × V)} {vs : List (κ × Value)} (r : KV kvs vs) : (!vs.isEmpty) = !kvs.isEmpty := by
  cases r <;> rfl
theorem isEmpty_of {xs : List V} {its : List Value} (r : Vals xs its) : (!its.toArray.isEmpty) = !xs.isEmpty := by
  cases r <;> simp
theorem line63 : (sizeLine : Nat) < 2 ^ 63 := by rw [sizeLine_eq]; decide
theorem tru_ok : TruR X (fun x H Q => ∃ k, TruV X.K x H k ∧ Q k H) := by
  intro pins s σ H x v Q I rx h
  obtain ⟨k, e, q⟩ := h
  have hl := line63
  have hs : sizeLine = 16777216 := sizeLine_eq
  cases x with
  | non =>
    cases rx
    have e' : k = false := e
    subst e'
    exact truthy_none ⟨H, I, q⟩
  | bl b =>
    cases rx
    have e' : k = b := e
    subst e'
    exact wpAny_truthy_bool ⟨H, I, q⟩
  | int i =>
    obtain ⟨t, rfl⟩ := rx
    have e' : k = (i != 0) := e
    subst e'
    exact PySem.P.truthy_int ⟨H, I, q⟩
  | str y =>
    obtain ⟨t, rfl⟩ := rx
    obtain ⟨hy, e'⟩ : y.length ≤ sizeLine ∧ k = ((y.length : Int) != 0) := e
    subst e'
    exact PySem.P.truthy_str (by omega) ⟨H, I.tok _, q⟩
  | byt y =>
    obtain ⟨t, rfl⟩ := rx
    obtain ⟨hy, e'⟩ : y.size ≤ sizeLine ∧ k = ((y.size : Int) != 0) := e
    subst e'
    exact PySem.W.truthy_bytes (by omega) ⟨H, I.tok _, q⟩
  | ref p =>
    cases rx
    have e' : (∃ xs, SqL X.K H p xs ∧ k = !xs.isEmpty) ∨ (∃ xs, SqT X.K H p xs ∧ k = !xs.isEmpty) ∨ ∃ kvs, H p = some (.dK kvs) ∧ k = !kvs.isEmpty := e
    rcases e' with ⟨xs, hx, e'⟩ | ⟨xs, hx, e'⟩ | ⟨kvs, hx, e'⟩
    · subst e'
      obtain ⟨its, r, pl, hz⟩ := I.list hx
      have hlen := r.length
      exact wpAny_truthy_list pl.isList (by simp only [List.size_toArray]; omega) ⟨H, I.tok _, by rw [isEmpty_of r]; exact q⟩
    · subst e'
      obtain ⟨its, r, pl, hz⟩ := I.tuple hx
      have hlen := r.length
      exact truthy_tuple pl (by simp only [List.size_toArray]; omega) ⟨H, I.tok _, by rw [isEmpty_of r]; exact q⟩
    · subst e'
      obtain ⟨hz, hS, vs, r, m⟩ : kvs.length ≤ sizeLine ∧ (p == sysModules) = false ∧ ∃ vs, KV kvs vs ∧ s.heap.DictOf (mixKind X.prog X.w) p vs := I.hok p _ hx
      have hlen : kvs.length = vs.length := Paired.length r
      exact wpAny_truthy_dict hS m (by omega) ⟨H, I.tok _, by rw [isEmpty_kv r]; exact q⟩
  | _ => exact (show False from e).elim
/-- any expression whose test is its value's truth (a name, a call, a subscript, a field ..: he by fun _ => rfl) -/
theorem pt_truth (ha : PE X a ta) (he : ∀ whole, isTrue a X.env whole = (do let v ← whole; standAt a.pos; holding [v] (truthy v))) :
    PT X a (fun σ H Q => ta σ H fun x H' => ∃ k, TruV X.K x H' k ∧ Q k H') := by
  intro pins s σ H Q I h
  exact isTrue_plain (thn (ha pins s σ H _ I h) fun v s1 ⟨x, H1, I1, r1, q1⟩ => tru_ok pins s1 σ H1 x v Q I1 r1 q1) (he _)

/-! ### strs and bytes -/
theorem op_add_str : OpR X (binaryOp .Add) (fun x y H Q => ∃ i j, x = .str i ∧ y = .str j ∧ i.length + j.length ≤ sizeLine ∧ Q (.str (i ++ j)) H) := by
  intro pins s σ H x y v u Q I rx ry h
  obtain ⟨i, j, rfl, rfl, hz, q⟩ := h
  obtain ⟨t, rfl⟩ := rx
  obtain ⟨t', rfl⟩ := ry
  exact add_str (fun t' tk => ⟨.str (i ++ j), H, I.tok _, ⟨_, rfl⟩, q⟩) hz
/-! ### scalar builtins, by CallR -/
theorem vals1 {x : V} {us : List Value} (r : Vals [x] us) : ∃ u, us = [u] ∧ RelV x u := by
  cases r with
  | cons r1 r2 => cases r2; exact ⟨_, rfl, r1⟩
/-- len of a str, a bytes, a list, a tuple -/
def LenV (K : PySem.W.Frag) (x : V) (H : Hp) (n : Nat) : Prop :=
  match x with
  | .str y => y.length ≤ sizeLine ∧ n = y.length
  | .byt y => y.size ≤ sizeLine ∧ n = y.size
  | .ref p => (∃ xs, SqL K H p xs ∧ n = xs.length) ∨ ∃ xs, SqT K H p xs ∧ n = xs.length
  | _ => False
theorem call_len : CallR X (.builtin "len") (fun xs H Q => ∃ x n, xs = [x] ∧ LenV X.K x H n ∧ Q (.int n) H) := by
  intro pins s σ H xs us Q I r h
  obtain ⟨x, n, rfl, e, q⟩ := h
  obtain ⟨u, rfl, rx⟩ := vals1 r
  have hl := line63
  have hs : sizeLine = 16777216 := sizeLine_eq
  cases x with
  | str y =>
    obtain ⟨t, rfl⟩ := rx
    obtain ⟨hy, e'⟩ : y.length ≤ sizeLine ∧ n = y.length := e
    subst e'
    exact len_str (by omega) ⟨.int _, H, I.tok _, ⟨_, rfl⟩, q⟩
  | byt y =>
    obtain ⟨t, rfl⟩ := rx
    obtain ⟨hy, e'⟩ : y.size ≤ sizeLine ∧ n = y.size := e
    subst e'
    exact PySem.W.len_bytes (by omega) ⟨.int _, H, I.tok _, ⟨_, rfl⟩, q⟩
  | ref p =>
    cases rx
    have e' : (∃ xs, SqL X.K H p xs ∧ n = xs.length) ∨ ∃ xs, SqT X.K H p xs ∧ n = xs.length := e
    rcases e' with ⟨xs, hx, e'⟩ | ⟨xs, hx, e'⟩
    · subst e'
      obtain ⟨its, r', pl, hz⟩ := I.list hx
      have hlen := r'.length
      exact Calls.call_len_list pl.isList (by simp only [List.size_toArray]; omega) ⟨.int xs.length, H, I.tok _, ⟨_, by simp only [List.size_toArray]; rw [hlen]⟩, q⟩
    · subst e'
      obtain ⟨its, r', pl, hz⟩ := I.tuple hx
      have hlen := r'.length
      exact len_tuple pl (by simp only [List.size_toArray]; omega) ⟨.int xs.length, H, I.tok _, ⟨_, by simp only [List.size_toArray]; rw [hlen]⟩, q⟩
  | _ => exact (show False from e).elim
end
end L2

namespace L2
open PySem PySem.Spec PyProof.Rows

/-! ### an instance, its attributes a map -/
structure ObjM (h : Heap) (x dx C : Addr) (mA : Str → Option Value) : Prop where
  obj : h.get? x = some (PySem.W.instObj C dx)
  ns : h.Ns1 dx mA
  ne : dx ≠ x

theorem lookIn_ns {h : Heap} {dx : Addr} {mA : Str → Option Value} (n : h.Ns1 dx mA) : ∃ od, h.get? dx = some od ∧ ∀ name, PySem.W.lookIn name od = some (mA name) := by
  obtain ⟨o, es, ep, ho, hd, hk, _, hm⟩ := n
  refine ⟨o, ho, fun name => ?_⟩
  have e := hm name
  unfold nsFind findBy at e
  rw [← Array.find?_toList] at e
  unfold PySem.W.lookIn
  rw [hd]
  dsimp only
  split
  · rename_i y q
    rw [q] at e
    exact congrArg some e
  · rename_i q
    rw [q] at e
    have a : es.toList.any (·.refKey) = false := by
      rw [List.any_eq_false]
      intro y hy
      obtain ⟨z, t, hkey⟩ := hk y (Array.mem_toList_iff.mp hy)
      simp [DictEntry.refKey, hkey]
    have a' : ¬ es.toList.any (·.refKey) = true := by rw [a]; exact Bool.false_ne_true
    rw [if_neg a']
    exact congrArg some e

theorem ObjM.look {h : Heap} {x dx C : Addr} {mA : Str → Option Value} (I : ObjM h x dx C mA) : ∃ od, PySem.W.InstAt h x (PySem.W.instObj C dx) C (some od) ∧ ∀ name, PySem.W.lookIn name od = some (mA name) :=
  let ⟨od, ho, hl⟩ := lookIn_ns I.ns
  ⟨od, ⟨I.obj, rfl, rfl, ho⟩, hl⟩

section
variable {prog : Program} {w : World} {A : Around} {E : Value → Shared → Prop} {s : Shared} {K : PySem.W.Frag} {x dx C f : Addr} {mA : Str → Option Value} {name : Str} {v : Value}

end

/-! ### the attributes as a list of pairs -/
def putF (f : Str) (v : V) : List (Str × V) → List (Str × V)
  | [] => [(f, v)]
  | (g, x) :: r => if g = f then (g, v) :: r else (g, x) :: putF f v r
theorem RelO.some_of {v : V} {o : Option Value} (r : RelO (some v) o) : ∃ u, o = some u ∧ RelV v u := by
  cases o with
  | none => exact (show False from r).elim
  | some u => exact ⟨u, rfl, r⟩
section
variable {P : Program} {w : World} {H H' : Hp} {h h' : Heap} {a C dx : Addr} {fs fs' : List (Str × V)}
theorem ins_get (hok : HOk P w H h) (e : H a = some (.ins C dx fs)) : ∃ mA, ObjM h a dx C mA ∧ (∀ f, RelO (fs.lookup f) (mA f)) ∧ PySem.Within mA (fs.map (·.1)) ∧ fs.length ≤ 1000 ∧ H dx = some (.own a) := by
  obtain ⟨d, z, ne, ob, mA, n, r, q⟩ := (show ObjOk P w H h a (.ins C dx fs) from hok a _ e)
  exact ⟨mA, ⟨ob, n, ne⟩, r, q, z, d⟩
end

/-! ### what of the text a class must have -/
structure Cls (K : PySem.W.Frag) (C : Addr) : Prop where
  pg : PySem.W.plainGet K C Str.empty = true
  hd : PySem.W.hasDictIn K C = true
  po : PySem.W.plainOver K C = true
  sa : PySem.W.findIn K (.ref C) "__setattr__" = some (some (.builtin "object.__setattr__"))
theorem Cls.get {K : PySem.W.Frag} {C : Addr} (c : Cls K C) (f : Str) : PySem.W.plainGet K C f = true := c.pg
/-- a constant of the class -/
structure Con (K : PySem.W.Frag) (C : Addr) (f : Str) (v : V) (u : Value) : Prop where
  at_ : PySem.W.findIn K (.ref C) f = some (some u)
  rel : RelV v u
  get : PySem.W.specialIn K u "__get__" = some none
  cp : PySem.W.copiedNames.contains f = false
/-- a method: a plain def of the class or of one above it -/
structure Meth (K : PySem.W.Frag) (C : Addr) (m : Str) (f : Addr) : Prop where
  at_ : PySem.W.findIn K (.ref C) m = some (some (.ref f))
  fn : PySem.W.isFn K (.ref f) = true
  kp : PySem.W.keepIn K (.ref f) = true

section
variable {X : Cx} {pins : List (Addr × Obj)} {σ : St} {H : Hp} {s : Shared} {a C dx : Addr} {fs : List (Str × V)} {f : Str} {v : V} {A : Around} {E : Value → Shared → Prop}

/-- a new instance, tracked, without attributes -/
theorem Inv.made (I : Inv X pins σ H s) : Inv X pins σ (upd (upd H s.heap.objs.size (.own (s.heap.objs.size + 1))) (s.heap.objs.size + 1) (.ins C s.heap.objs.size []))
    { s with heap := (s.heap.push PySem.W.emptyDict).push (PySem.W.instObj C s.heap.objs.size) } := by
  have e1 : (s.heap.push PySem.W.emptyDict).get? s.heap.objs.size = some PySem.W.emptyDict := Heap.get?_push_size s.heap rfl
  have e2 : ((s.heap.push PySem.W.emptyDict).push (PySem.W.instObj C s.heap.objs.size)).get? (s.heap.objs.size + 1) = some (PySem.W.instObj C s.heap.objs.size) := by
    have := Heap.get?_push_size (s.heap.push PySem.W.emptyDict) (o := PySem.W.instObj C s.heap.objs.size) rfl
    rwa [Heap.size_push] at this
  have e3 : (s.heap.push PySem.W.emptyDict).Ns s.heap.objs.size (fun _ => none) := ⟨PySem.W.emptyDict, #[], _, e1, rfl, (fun e he => absurd he (by simp)), fun _ => rfl⟩
  have I1 := I.laid (a := s.heap.objs.size) (o := .own (s.heap.objs.size + 1)) (h' := s.heap.push PySem.W.emptyDict) (t' := s.toks) (fun b u q => Heap.get?_push_of_some _ q) (Nat.le_refl _) ⟨_, e1⟩
  refine I1.laid (a := s.heap.objs.size + 1) (o := .ins C s.heap.objs.size []) (t' := s.toks) (fun b u q => Heap.get?_push_of_some _ q) (Nat.le_of_eq (Heap.size_push _ _)) ?_
  have ne : s.heap.objs.size ≠ s.heap.objs.size + 1 := Nat.ne_of_lt (Nat.lt_succ_self _)
  refine ⟨by rw [upd_ne ne, upd_same], Nat.zero_le _, ne, e2, fun _ => none, (Heap.Ns1.of_empty e3).at fun o q => Heap.get?_push_of_some _ q, fun _ => True.intro, fun y hy => absurd rfl hy⟩

end

/-! ### readings and rules -/
section
variable {X : Cx} {o e value : Expr} {f : Str} {pos pos' tpos : Pos} {ta tv : TE}
end

/-! ### isinstance -/
section
variable {X : Cx} {pins : List (Addr × Obj)} {σ : St} {H : Hp} {s : Shared} {A : Around} {E : Value → Shared → Prop} {Q : Value → Shared → Prop} {c : Value} {b : Bool}
/-- the type of a value, as the fragment's deciders take it; for an instance its class -/
inductive TyOf (K : PySem.W.Frag) (H : Hp) : V → Value → Prop where
  | non : TyOf K H .non (.type "NoneType")
  | bl (x : Bool) : TyOf K H (.bl x) (.type "bool")
  | int (i : Int) : TyOf K H (.int i) (.type "int")
  | str (x : Str) : TyOf K H (.str x) (.type "str")
  | flt (x : UInt64) : TyOf K H (.flt x) (.type "float")
  | lst {a : Addr} {xs : List V} (e : H a = some (.lst xs)) : TyOf K H (.ref a) (.type "list")
  | frz {a : Addr} {o : Obj} {xs : List V} (e : H a = some (.frz o (.lst xs))) : TyOf K H (.ref a) (.type "list")
  | tup {a : Addr} {xs : List V} (e : H a = some (.tup xs)) : TyOf K H (.ref a) (.type "tuple")
  | dK {a : Addr} {kvs : List (Key × V)} (e : H a = some (.dK kvs)) : TyOf K H (.ref a) (.type "dict")
  | dT {a : Addr} {kvs : List (List Key × V)} (e : H a = some (.dT kvs)) : TyOf K H (.ref a) (.type "dict")
  | ins {a C dx : Addr} {fs : List (Str × V)} (e : H a = some (.ins C dx fs)) (cl : Cls K C) (ha : PySem.W.findIn K (.ref C) "__class__" = some (some (.builtin "object.__class__")))
      (hn : PySem.W.specialIn K (.builtin "object.__class__") "__get__" = some (some (.builtin "getset_descriptor.__get__"))) (htk : PySem.W.takesIn K (.builtin "object.__class__") = some true)
      (hm : PySem.W.mroIn K C (.type "object") = some true) : TyOf K H (.ref a) (.ref C)
/-- isinstance(x, c) for one class c, a built-in or an own one: kitOne's answer -/
theorem isinst_ok {x : V} {u t : Value} (I : Inv X pins σ H s) (rx : RelV x u) (ty : TyOf X.K H x t) (e : PySem.W.kitOne X.K t c = some b) (h : ∀ tk, Q (.bool b) { s with toks := tk }) :
    wpAny (model X.prog X.w) A (call (.builtin "isinstance") [u, c]) Q E s := by
  cases ty with
  | non => cases (show u = Value.none from rx); exact PySem.W.kia_one PySem.W.kitx_none I.kIn True.intro e (fun z => nomatch z) h
  | bl y => cases (show u = Value.bool y from rx); exact PySem.W.kia_one PySem.W.kitx_bool I.kIn True.intro e (fun z => nomatch z) h
  | int i => obtain ⟨t, q⟩ := (show ∃ t, u = Value.int i t from rx); cases q; exact PySem.W.kia_one PySem.W.kitx_int I.kIn True.intro e (fun z => nomatch z) h
  | str y => obtain ⟨t, q⟩ := (show ∃ t, u = Value.str y t from rx); cases q; exact PySem.W.kia_one PySem.W.kitx_str I.kIn True.intro e (fun z => nomatch z) h
  | flt y => obtain ⟨t, q⟩ := (show ∃ t, u = Value.float y t from rx); cases q; exact PySem.W.kia_one PySem.W.kitx_float I.kIn True.intro e (fun z => nomatch z) h
  | @lst a xs ea =>
    cases (show u = Value.ref a from rx)
    obtain ⟨_, _, n, _, h1⟩ := (show ObjOk X.prog X.w H s.heap a (.lst xs) from I.hok a _ ea)
    exact PySem.W.kia_one PySem.W.kitx_list I.kIn ⟨_, h1, rfl⟩ e (fun z => nomatch z) h
  | @frz a ob xs ea =>
    cases (show u = Value.ref a from rx)
    obtain ⟨_, _, _, n, _, h1⟩ := (show ObjOk X.prog X.w H s.heap a (.frz ob (.lst xs)) from I.hok a _ ea)
    exact PySem.W.kia_one PySem.W.kitx_list I.kIn ⟨_, h1, rfl⟩ e (fun z => nomatch z) h
  | @tup a xs ea =>
    cases (show u = Value.ref a from rx)
    obtain ⟨_, _, _, p⟩ := (show ObjOk X.prog X.w H s.heap a (.tup xs) from I.hok a _ ea)
    obtain ⟨o, h1, h2, _⟩ := p
    exact PySem.W.kia_one PySem.W.kitx_tuple I.kIn ⟨o, h1, h2⟩ e (fun z => nomatch z) h
  | @dK a kvs ea =>
    cases (show u = Value.ref a from rx)
    obtain ⟨_, _, vs, _, p⟩ := (show ObjOk X.prog X.w H s.heap a (.dK kvs) from I.hok a _ ea)
    obtain ⟨o, es, ep, h1, h2, _⟩ := p
    exact PySem.W.kia_one PySem.W.kitx_dict I.kIn ⟨o, h1, h2.1⟩ e (fun z => nomatch z) h
  | @dT a kvs ea =>
    cases (show u = Value.ref a from rx)
    obtain ⟨_, _, xs, _, o, es, ep, h1, h2, _⟩ := (show ObjOk X.prog X.w H s.heap a (.dT kvs) from I.hok a _ ea)
    exact PySem.W.kia_one PySem.W.kitx_dict I.kIn ⟨o, h1, h2.1⟩ e (fun z => nomatch z) h
  | @ins a C dx fs ea cl ha hn htk hm =>
    cases (show u = Value.ref a from rx)
    obtain ⟨mA, O, _⟩ := ins_get I.hok ea
    obtain ⟨od, J, _⟩ := O.look
    exact PySem.W.kia_one (PySem.W.kitx_own (cl.get _) cl.hd ha hn htk hm) I.kIn J e (fun z => nomatch z) h
end
end L2

namespace L2
open PySem PySem.Spec PyProof.Rows

/-! ### room -/
structure Room (k : Nat) (A : Around) : Prop where
  hd : A.handled = none
  dp : A.depth + 3 * k + 5 < recursionLimit
  un : A.units + 16 * k + 200 < cLine
  gd : A.guards = some []
theorem Room.mono {j k : Nat} {A : Around} (r : Room k A) (h : j ≤ k) : Room j A := ⟨r.hd, by have := r.dp; omega, by have := r.un; omega, r.gd⟩
theorem Room.deeper {k : Nat} {A : Around} (r : Room (k + 1) A) (env : Env) : Room k (A.deeper env) :=
  ⟨r.hd, by have := r.dp; show A.depth + 1 + 3 * k + 5 < _; omega, by have := r.un; show A.units + 3 + 16 * k + 200 < _; omega, r.gd⟩
theorem Room.in1 {k : Nat} {A : Around} (r : Room (k + 1) A) : Room k A.in1 :=
  ⟨r.hd, by have := r.dp; show A.depth + 3 * k + 5 < _; omega, by have := r.un; show A.units + 1 + 16 * k + 200 < _; omega, r.gd⟩
theorem Room.depth {k : Nat} {A : Around} (r : Room k A) : A.depth < recursionLimit := by have := r.dp; omega
theorem Room.units {k : Nat} {A : Around} (r : Room k A) : A.units + 64 < cLine := by have := r.un; omega
/-! ### argument lists and displays -/
def tNil : TA := fun _ H Q => Q [] H
def tCons (ta : TE) (tr : TA) : TA := fun σ H Q => ta σ H fun x H1 => tr σ H1 fun xs H2 => Q (x :: xs) H2
section
variable {X : Cx} {e : Expr} {es : List Expr} {te : TE} {t : TA} {pos : Pos}
theorem pa_nil : PA X [] tNil := fun _ _ _ _ H Q I h => Calls.spliced_nil ⟨[], H, I, .nil, h⟩
theorem pa_cons (ha : PE X e te) (hr : PA X es t) (hs : starEach (e :: es) X.env = (false, eval e X.env) :: starEach es X.env := by rfl) : PA X (e :: es) (tCons te t) := by
  intro pos pins s σ H Q I h
  rw [hs]
  show wpAny _ _ (spliced ((false, eval e X.env) :: backTo pos (starEach es X.env))) _ _ s
  refine Calls.spliced_cons (thn (ha pins s σ H _ I h) fun u s1 ⟨x, H1, I1, r1, q1⟩ => ?_)
  exact thn (hr pos pins s1 σ H1 _ I1 q1) fun us s2 ⟨xs, H2, I2, r2, q2⟩ => ⟨x :: xs, H2, I2, .cons r1 r2, q2⟩

/-- a tuple, a list of written items -/
def tTup (t : TA) : TE := fun σ H Q => t σ H fun xs H1 => xs.length ≤ sizeLine ∧ ∀ p, H1 p = none → Q (.ref p) (upd H1 p (.tup xs))
def tLst (t : TA) : TE := fun σ H Q => t σ H fun xs H1 => xs.length ≤ sizeLine ∧ ∀ p, H1 p = none → Q (.ref p) (upd H1 p (.lst xs))
theorem pe_tup {x1} (h : PA X es t) : PE X (.Tuple es x1 pos) (tTup t) := by
  intro pins s σ H Q I hq
  refine wpAny_Tuple_spliced (thn (h pos pins s σ H _ I hq) fun us s1 ⟨xs, H1, I1, r, z, q⟩ => ⟨by rw [← r.length]; exact z, ?_⟩)
  have hf : H1 s1.heap.objs.size = none := I1.hok.fresh (Nat.le_refl _)
  refine ⟨.ref s1.heap.objs.size, upd H1 s1.heap.objs.size (.tup xs), I1.laid (t' := s1.toks) (fun b u e => Heap.get?_push_of_some _ e) (Nat.le_refl _) ?_, rfl, q _ hf⟩
  exact ⟨z, us, r, PlainT.new _ _⟩
theorem pe_lst (h : PA X es t) : PE X (.List es pos) (tLst t) := by
  intro pins s σ H Q I hq
  refine wpAny_List_spliced (thn (h pos pins s σ H _ I hq) fun us s1 ⟨xs, H1, I1, r, z, q⟩ => ⟨by rw [← r.length]; exact z, ?_⟩)
  have hf : H1 s1.heap.objs.size = none := I1.hok.fresh (Nat.le_refl _)
  refine ⟨.ref s1.heap.objs.size, upd H1 s1.heap.objs.size (.lst xs), I1.laid (t' := s1.toks) (fun b u e => Heap.get?_push_of_some _ e) (Nat.le_refl _) ?_, rfl, q _ hf⟩
  exact ⟨z, us, 0, r, Heap.get?_push_size _ rfl⟩
end

/-! ### what a def promises -/
/-- a def's promise: the bound arguments in the parameters' order, the heap, the wanted end, the wanted exception -/
abbrev Sp := List V → Hp → VK → XK → Prop
/-- how an exception lies behind a call (file 08 gives it): the callers' frames, abstract heap and state ahead of the call, the wish, the exception, the state -/
abbrev CXT := List Env → Hp → Shared → XK → Value → Shared → Prop

/-- the state at a call -/
structure Env0 (P : Program) (w : World) (K : PySem.W.Frag) (mg : Str → Option Value) (base : Heap) (A : Around) (outer : List Env) (s : Shared) (H : Hp) : Prop where
  frames : A.frames = some outer
  mod : Mod K mg base
  bs : ∀ b o, base.get? b = some o → s.heap.get? b = some o ∧ H b = none
  bsz : base.objs.size ≤ s.heap.objs.size
  funs : s.heap.FunFrames base outer
  frf : ∀ b ∈ frs outer, H b = none
  hok : HOk P w H s.heap
  bare : AllBare s.gens
/-- a call's end -/
def CE (outer : List Env) (P : Program) (w : World) (H : Hp) (s : Shared) (Q : VK) (u : Value) (s' : Shared) : Prop :=
  ∃ v H', s'.os = s.os ∧ AllBare s'.gens ∧ Un (frs outer) [] H H' s.heap s'.heap ∧ HOk P w H' s'.heap ∧ RelV v u ∧ Q v H'
def CR (CX : CXT) (outer : List Env) (P : Program) (w : World) (H : Hp) (s : Shared) (Q : VK) (E : XK) (r : Result) (s' : Shared) : Prop :=
  match r with
  | .ok (.ret u) => CE outer P w H s Q u s'
  | .ok _ => False
  | .error e => CX outer H s E e s'
structure FnOk (P : Program) (w : World) (K : PySem.W.Frag) (mg : Str → Option Value) (base : Heap) (CX : CXT) (k : Nat) (f : Addr) (fd : FuncData) (ps : List Str) (sp : Sp) : Prop where
  len : ∀ vs H Q E, sp vs H Q E → vs.length = ps.length
  run : ∀ (A : Around) (outer : List Env) (s : Shared) (H : Hp) (args : Args) (us : List Value) (vs : List V) (Q : VK) (E : XK), Room k A → Env0 P w K mg base A outer s H → BindsTo s fd args (ps.zip us) → Vals vs us → sp vs H Q E →
    codeAny (model P w) A (.call (.ref f) args) (CR CX outer P w H s Q E) s
theorem FnOk.mono {P : Program} {w : World} {K : PySem.W.Frag} {mg : Str → Option Value} {base : Heap} {CX : CXT} {j k : Nat} {f : Addr} {fd : FuncData} {ps : List Str} {sp : Sp} (F : FnOk P w K mg base CX j f fd ps sp) (h : j ≤ k) :
    FnOk P w K mg base CX k f fd ps sp := ⟨F.len, fun A outer s H args us vs Q E hr => F.run A outer s H args us vs Q E (hr.mono h)⟩
/-- a weaker promise -/
theorem FnOk.imp {P : Program} {w : World} {K : PySem.W.Frag} {mg : Str → Option Value} {base : Heap} {CX : CXT} {k : Nat} {f : Addr} {fd : FuncData} {ps : List Str} {sp sp' : Sp} (F : FnOk P w K mg base CX k f fd ps sp)
    (h : ∀ vs H Q E, sp' vs H Q E → sp vs H Q E) : FnOk P w K mg base CX k f fd ps sp' :=
  ⟨fun vs H Q E q => F.len vs H Q E (h _ _ _ _ q), fun A outer s H args us vs Q E hr he hb hv hs => F.run A outer s H args us vs Q E hr he hb hv (h _ _ _ _ hs)⟩

theorem Env0.in1 {P : Program} {w : World} {K : PySem.W.Frag} {mg : Str → Option Value} {base : Heap} {A : Around} {outer : List Env} {s : Shared} {H : Hp} (e : Env0 P w K mg base A outer s H) :
    Env0 P w K mg base A.in1 outer s H := ⟨e.frames, e.mod, e.bs, e.bsz, e.funs, e.frf, e.hok, e.bare⟩

section
variable {X : Cx} {pins : List (Addr × Obj)} {σ : St} {H : Hp} {s s' : Shared}
/-- from a body: what a callee wants -/
theorem Inv.env0 (I : Inv X pins σ H s) : Env0 X.prog X.w X.K X.mg X.base X.A X.stack s H :=
  ⟨I.ok.frames, I.ok.mod, I.bs, Nat.le_trans I.ok.bsz I.sz, I.stack, I.stkFree, I.hok, I.bare⟩
/-- behind a call -/
theorem Inv.after {Q : VK} {u : Value} (I : Inv X pins σ H s) (h : CE X.stack X.prog X.w H s Q u s') : EP X pins σ Q u s' := by
  obtain ⟨v, H', os, bare, un, hok, r, q⟩ := h
  obtain ⟨hh, g, d, t, os'⟩ := s'
  obtain rfl : os' = s.os := os
  exact ⟨v, H', I.call (h' := hh) (g' := g) (d' := d) (t' := t) (ch := []) un hok bare (fun b z => absurd z (by simp)), r, q⟩
end

/-! ### calls -/
/-- f(..): the written arguments, then the defaults dvs; E: what is wanted of an exception -/
def tCall (sp : Sp) (dvs : List V) (E : XK) (t : TA) : TE := fun σ H Q => t σ H fun vs H1 => sp (vs ++ dvs) H1 Q E
/-- how the parameters are bound: us the positional arguments, kw the keywords' values by name, ds the defaults that fill up -/
def Binds (K : PySem.W.Frag) (fd : FuncData) (ps : List Str) (ds : List Value) : Prop :=
  ∀ (s : Shared) (us : List Value), K.In s.heap → (us ++ ds).length = ps.length → BindsTo s fd ⟨us, []⟩ (ps.zip (us ++ ds))
/-- every parameter is given -/
theorem Binds.all {K : PySem.W.Frag} {fd : FuncData} {ps : List Str} (h : ∀ us : List Value, us.length = ps.length → bindArgs fd ⟨us, []⟩ = pure (ps.zip us)) : Binds K fd ps [] := fun s us _ hl => by
  rw [List.append_nil] at hl ⊢
  exact .of_eq (h us hl)

/-- an exception of a callee reaches what this body wants of exceptions -/
def Passes (CX : CXT) (X : Cx) (E : XK) : Prop := ∀ (pins : List (Addr × Obj)) (σ : St) (H : Hp) (s : Shared) (e : Value) (s' : Shared), Inv X pins σ H s → CX X.stack H s E e s' → X.xe e s'

section
variable {X : Cx} {CX : CXT} {k : Nat} {f C : Addr} {fd : FuncData} {ps : List Str} {sp : Sp} {dvs : List V} {ds : List Value} {E : XK} {x m : Str} {p pos apos : Pos} {e o : Expr} {es : List Expr} {ta : TE} {t : TA}

/-- the callee runs -/
theorem run_fn {pins : List (Addr × Obj)} {σ : St} {H : Hp} {s : Shared} {Q : VK} {us : List Value} {vs : List V} (F : FnOk X.prog X.w X.K X.mg X.base CX k f fd ps sp) (hr : Room k X.A) (hb : Binds X.K fd ps ds) (hd : Vals dvs ds) (hx : Passes CX X E)
    (I : Inv X pins σ H s) (r : Vals vs us) (h : sp (vs ++ dvs) H Q E) : wpAny (model X.prog X.w) X.A (call (.ref f) us) (EP X pins σ Q) X.xe s := by
  have r2 : Vals (vs ++ dvs) (us ++ ds) := r.append hd
  have hl : (us ++ ds).length = ps.length := by rw [← r2.length]; exact F.len _ _ _ _ h
  refine wpAny_call (codeAny_mono (F.run X.A X.stack s H ⟨us, []⟩ (us ++ ds) (vs ++ dvs) Q E hr I.env0 (hb s us I.kIn hl) r2 h) fun r s' hq => ?_)
  cases r with
  | error e => exact hx pins σ H s e s' I hq
  | ok fl =>
    cases fl with
    | ret u => exact I.after hq
    | next => exact False.elim hq
    | brk => exact False.elim hq
    | cont => exact False.elim hq

theorem pe_call (F : FnOk X.prog X.w X.K X.mg X.base CX k f fd ps sp) (hr : Room k X.A) (hg : Gl X x) (hm : X.mg x = some (.ref f)) (hk : PySem.W.keepIn X.K (.ref f) = true) (hb : Binds X.K fd ps ds) (hd : Vals dvs ds) (hx : Passes CX X E)
    (ha : PA X (e :: es) t) (hdb : (x == ("__debug__" : Str)) = false := by decide) (he : starEach (e :: es) X.env = (false, eval e X.env) :: starEach es X.env := by rfl) (hpl : (backTo pos (starEach es X.env)).any (·.1) = false := by rfl) :
    PE X (.Call (.Name x p) (e :: es) [] pos) (tCall sp dvs E t) := by
  intro pins s σ H Q I h
  refine wpAny_Call_Name_kw (ld_glob I hg hm ?_ hdb)
  refine PySem.W.callWith_K (h₀ := X.base) I.ok.mod.kin hk (thn (ha pos pins s σ H _ I h) fun us s1 ⟨vs, H1, I1, r, q⟩ => ⟨I1.kIn, ?_⟩) he hpl
  exact run_fn F hr hb hd hx I1 r q
/-- what a class must have to be made -/
structure Mk (K : PySem.W.Frag) (C f : Addr) : Prop where
  makes : PySem.W.makesIn K C = true
  init : PySem.W.findIn K (.ref C) "__init__" = some (some (.ref f))
  fn : PySem.W.isFn K (.ref f) = true
  kp : PySem.W.keepIn K (.ref C) = true

end

/-! ### keywords -/
section
variable {X : Cx} {CX : CXT} {k : Nat} {f C : Addr} {fd : FuncData} {ps ks : List Str} {sp : Sp} {E : XK} {x m : Str} {p pos apos kpos : Pos} {e o : Expr} {es : List Expr} {kws : List Keyword} {te ta : TE} {t tk : TA} {nm : Option Str}
/-- how a call with keywords binds: g puts the positional values us and the keywords' values ws (names ks) in the parameters' order, defaults among them -/
structure KBinds (K : PySem.W.Frag) (fd : FuncData) (ps ks : List Str) (g : List Value → List Value → List Value) (gV : List V → List V → List V) : Prop where
  to : ∀ (s : Shared) (us ws : List Value), K.In s.heap → (g us ws).length = ps.length → BindsTo s fd ⟨us, ks.zip ws⟩ (ps.zip (g us ws))
  rel : ∀ {vs : List V} {us : List Value} {zs : List V} {ws : List Value}, Vals vs us → Vals zs ws → Vals (gV vs zs) (g us ws)
variable {g : List Value → List Value → List Value} {gV : List V → List V → List V}
end

/-! ### a def's body keeps its promise -/
/-- names: the parameters first -/
structure FnScope (N P : List Str) (sc : Scope) : Prop where
  kind : sc.kind = .function
  co : sc.isCoroutine = false
  gen : sc.isGenerator = false
  nd : N.Nodup
  pre : N.take P.length = P
  par : ∀ x ∈ P, sc.names.lookup x = some .local ∨ sc.names.lookup x = some .cell
  nofree : ∀ y ∈ sc.names, y.2 ≠ .free

theorem bindL_out {kindOf : Str → Option NameKind} {x : Str} : ∀ {binds : List (Str × Value)} {m : Str → Option Value}, (∀ v, (x, v) ∉ binds) → bindL kindOf binds m x = m x
  | [], _, _ => rfl
  | (n, v) :: r, m, h => by
    unfold bindL
    rw [bindL_out fun w hw => h w (List.mem_cons_of_mem _ hw)]
    split
    · have : x ≠ n := by rintro rfl; exact h v List.mem_cons_self
      simp [this]
    · rfl
theorem bindC_out {kindOf : Str → Option NameKind} {x : Str} : ∀ {binds : List (Str × Value)} {m : Str → Option Value}, (∀ v, (x, v) ∉ binds) → bindC kindOf binds m x = m x
  | [], _, _ => rfl
  | (n, v) :: r, m, h => by
    unfold bindC
    rw [bindC_out fun w hw => h w (List.mem_cons_of_mem _ hw)]
    split
    · rfl
    · have : x ≠ n := by rintro rfl; exact h v List.mem_cons_self
      simp [this]
theorem bindL_get {kindOf : Str → Option NameKind} {x : Str} {v : Value} : ∀ {P : List Str} {vs : List Value} {i : Nat} {m : Str → Option Value}, P.Nodup → P[i]? = some x → vs[i]? = some v → kindOf x = some .local →
    bindL kindOf (P.zip vs) m x = some v
  | [], _, _, _, _, h, _, _ => by simp at h
  | _ :: _, [], _, _, _, _, h, _ => by simp at h
  | p :: P, w :: vs, 0, m, nd, h1, h2, hk => by
    simp at h1 h2; subst h1; subst h2
    show bindL kindOf ((p, w) :: P.zip vs) m p = _
    unfold bindL
    rw [bindL_out fun v hv => (List.nodup_cons.mp nd).1 (List.of_mem_zip hv).1, if_pos hk]
    simp
  | p :: P, w :: vs, i + 1, m, nd, h1, h2, hk => by
    show bindL kindOf ((p, w) :: P.zip vs) m x = _
    unfold bindL
    exact bindL_get (i := i) (List.nodup_cons.mp nd).2 (by simpa using h1) (by simpa using h2) hk
theorem bindC_get {kindOf : Str → Option NameKind} {x : Str} {v : Value} : ∀ {P : List Str} {vs : List Value} {i : Nat} {m : Str → Option Value}, P.Nodup → P[i]? = some x → vs[i]? = some v → kindOf x ≠ some .local →
    bindC kindOf (P.zip vs) m x = some v
  | [], _, _, _, _, h, _, _ => by simp at h
  | _ :: _, [], _, _, _, _, h, _ => by simp at h
  | p :: P, w :: vs, 0, m, nd, h1, h2, hk => by
    simp at h1 h2; subst h1; subst h2
    show bindC kindOf ((p, w) :: P.zip vs) m p = _
    unfold bindC
    rw [bindC_out fun v hv => (List.nodup_cons.mp nd).1 (List.of_mem_zip hv).1, if_neg hk]
    simp
  | p :: P, w :: vs, i + 1, m, nd, h1, h2, hk => by
    show bindC kindOf ((p, w) :: P.zip vs) m x = _
    unfold bindC
    exact bindC_get (i := i) (List.nodup_cons.mp nd).2 (by simpa using h1) (by simpa using h2) hk

/-- the names' values at the entry -/
def start (N : List Str) (vs : List V) : St := vs.map some ++ List.replicate (N.length - vs.length) none

/-- the context of a def's body, at its entry; an exception leaves the frame, then lies as CX says -/
def cxOf (CX : CXT) (P : Program) (w : World) (K : PySem.W.Frag) (mg : Str → Option Value) (base : Heap) (N : List Str) (qual : Str) (scope : Scope) (f : Addr) (cd : Value) (A : Around) (outer : List Env) (s : Shared) (H : Hp) (E : XK) : Cx where
  prog := P
  w := w
  K := K
  mg := mg
  base := base
  A := A.deeper (envOfC qual scope s.heap.objs.size f cd)
  N := N
  s_0 := s
  H_0 := H
  env := envOfC qual scope s.heap.objs.size f cd
  outer := outer
  stack := envOfC qual scope s.heap.objs.size f cd :: outer
  ex := []
  calm := true
  fn := fun _ => true
  pn := []
  xe := fun e s' => wpAny (model P w) (A.deeper (envOfC qual scope s.heap.objs.size f cd)) (leaving (envOfC qual scope s.heap.objs.size f cd) e) (fun _ s'' => CX outer H s E e s'') (fun e' s'' => CX outer H s E e' s'') s'

theorem cell_has {sc : Scope} {n : Nat} {x : Str} (h : sc.names.lookup x = some .cell) : ∃ c, (cellsFrom n sc.names []).lookup x = some c := by
  have q := PySem.W.cellsFrom_some sc.names n [] (.inl h)
  exact Option.isSome_iff_exists.mp q

theorem inv_start {CX : CXT} {P : Program} {w : World} {K : PySem.W.Frag} {mg : Str → Option Value} {base : Heap} {N ps : List Str} {qual : Str} {scope : Scope} {f : Addr} {cd : Value} {A : Around} {outer : List Env} {s s1 : Shared} {H : Hp} {E : XK} {us : List Value} {vs : List V}
    (S : FnScope N ps scope) (hd : A.handled = none) (e0 : Env0 P w K mg base A outer s H) (hl : vs.length = ps.length) (r : Vals vs us)
    (x : InCallC s s.heap.objs.size (bindL (envOfC qual scope s.heap.objs.size f cd).kindOf (ps.zip us) fun _ => none) (cellsFrom (s.heap.objs.size + 1) scope.names []) (bindC (envOfC qual scope s.heap.objs.size f cd).kindOf (ps.zip us) fun _ => none) s1) :
    Inv (cxOf CX P w K mg base N qual scope f cd A outer s H E) [] (start N vs) H s1 := by
  have hpl : ps.length ≤ N.length := by have := congrArg List.length S.pre; rw [List.length_take] at this; omega
  obtain ⟨h1, tk, rfl, hk⟩ := x.done
  have noA : ∀ b : Addr, b ∉ (cxOf CX P w K mg base N qual scope f cd A outer s H E).ex := fun b z => absurd (show b ∈ ([] : List Addr) from z) (by simp)
  refine ⟨⟨e0.mod, S.kind, rfl, rfl, Nat.le_refl _, fun y z c h1 h2 => ?_, fun y hy => ?_, fun y c _ h => ?_, fun _ => hd, Around.frames_deeper e0.frames, .inr ⟨rfl, rfl⟩, fun b z => absurd z (noA b), e0.bs, e0.bsz, fun b _ _ => noA b, fun b z => absurd z (noA b), e0.funs, e0.frf⟩,
    rfl, e0.bare, Un.kept hk, ⟨_, x.toInCall.ns, fun i y v h1 h2 h3 => ?_⟩, fun y c h => ⟨_, x.cell y c h⟩, e0.hok.fresh (Nat.le_refl _), fun y c h => ?_, fun p hp => absurd (show p ∈ ([] : List (Addr × Obj)) from hp) (by simp), e0.hok.kept hk, ?_⟩
  · exact name_of_addr x.apart (PySem.mem_of_lookup h1) (PySem.mem_of_lookup h2)
  · have hy : scope.names.lookup y = some .cell ∨ scope.names.lookup y = some .free := hy
    rcases hy with hy | hy
    · exact cell_has hy
    · exact absurd rfl (S.nofree _ (PySem.mem_of_lookup hy))
  · exact Nat.le_of_lt (x.above y c (PySem.mem_of_lookup h))
  · have hi : i < vs.length := by
      unfold start at h2
      by_cases hi : i < vs.length
      · exact hi
      · rw [List.getElem?_append_right (by simpa using hi)] at h2
        rw [List.getElem?_replicate] at h2
        split at h2 <;> cases h2
    have ha : vs[i]? = some v := by
      unfold start at h2
      rw [List.getElem?_append_left (by simpa using hi), List.getElem?_map] at h2
      cases e : vs[i]? with
      | none => rw [e] at h2; cases h2
      | some a => rw [e] at h2; cases h2; rfl
    obtain ⟨u, hu, rv⟩ := r.get ha
    have hp : ps[i]? = some y := by
      rw [← S.pre, List.getElem?_take_of_lt (by omega)]; exact h1
    have ndP : ps.Nodup := by rw [← S.pre]; exact S.nd.sublist (List.take_sublist _ _)
    refine ⟨u, rv, ?_⟩
    rcases S.par y (List.mem_of_getElem? hp) with k | k
    · exact .inl ⟨k, bindL_get ndP hp hu k⟩
    · obtain ⟨c, e⟩ := cell_has (n := s.heap.objs.size + 1) k
      refine .inr ⟨.inl k, c, e, ?_⟩
      have q := x.cell y c e
      rw [bindC_get ndP hp hu (by show scope.names.lookup y ≠ _; rw [k]; decide)] at q
      exact q
  · exact e0.hok.fresh (Nat.le_of_lt (x.above y c (PySem.mem_of_lookup h)))
  · unfold start
    show _ = N.length
    rw [List.length_append, List.length_map, List.length_replicate]
    omega

/-- THE RULE: a def (or a method) of the text, by its body. The body's reading t is chosen for each entry; it is run at the parameters' values -/
theorem fn_of {CX : CXT} {P : Program} {w : World} {K : PySem.W.Frag} {mg : Str → Option Value} {base : Heap} {k : Nat} {f : Addr} {name qual : Str} {params : Arguments} {body : List Stmt} {scope : Scope} {dV kV doc pm cdv ct oc : Value} {an od : Option Addr}
    {osl : Array (Option Value)} {N ps : List Str} {sp : Sp} (lk : K.lookup f = some ⟨oc, od, .func (PySem.W.fnOf name qual params body scope dV kV doc pm an cdv ct), osl⟩) (hcd : PySem.W.codeIn K cdv qual = true) (S : FnScope N ps scope)
    (len : ∀ vs H Q E, sp vs H Q E → vs.length = ps.length)
    (hbody : ∀ (A : Around) (outer : List Env) (s : Shared) (H : Hp) (vs : List V) (Q : VK) (E : XK), Room k (A.deeper (envOfC qual scope s.heap.objs.size f cdv)) → sp vs H Q E →
      ∃ t, PSs (cxOf CX P w K mg base N qual scope f cdv A outer s H E) body t ∧ t { nx := fun _ H' => Q .non H', rt := Q } (start N vs) H) :
    FnOk P w K mg base CX (k + 1) f (PySem.W.fnOf name qual params body scope dV kV doc pm an cdv ct) ps sp := by
  refine ⟨len, fun A outer s H args us vs Q E hr e0 hb r hsp => ?_⟩
  have hl := len _ _ _ _ hsp
  have KX : K.In s.heap := e0.mod.kin.keeps fun b o e => (e0.bs b o e).1
  have lim : s.heap.NoLimit := e0.mod.nolimit.keeps fun b o e => (e0.bs b o e).1
  have hkind : ∀ y ∈ ps.zip us, scope.names.lookup y.1 = some .local ∨ (scope.names.lookup y.1 = some .cell ∧ ((cellsFrom (s.heap.objs.size + 1) scope.names []).lookup y.1).isSome = true) := fun ⟨n, v⟩ hy => by
    rcases S.par n (List.of_mem_zip hy).1 with q | q
    · exact .inl q
    · exact .inr ⟨q, PySem.W.cellsFrom_some _ _ _ (.inl q)⟩
  refine codeAny_call_function hr.depth (KX _ _ lk) rfl S.co S.gen rfl (PySem.W.codeRec_of KX hcd) (hb _ _ _ _ ?_)
  refine wpAny_newFunctionEnv_cells S.kind hkind fun env he s1 x => ?_
  subst he
  refine ⟨lim.keeps x.toInCall.keep, codeAny_func ?_⟩
  obtain ⟨t, ht, hq⟩ := hbody A outer s H vs Q E (hr.deeper _) hsp
  have I : Inv (cxOf CX P w K mg base N qual scope f cdv A outer s H E) [] (start N vs) H s1 := inv_start S hr.hd e0 hl r x
  refine wpAny_mono (ht [] s1 (start N vs) H _ I hq) (fun fl s' hs => ?_) fun e s' hs => hs
  have fin : ∀ {σ' : St} {H' : Hp} {v : V} {u : Value}, Inv (cxOf CX P w K mg base N qual scope f cdv A outer s H E) [] σ' H' s' → RelV v u → Q v H' → CE outer P w H s Q u s' :=
    fun {σ' H' v u} J rv q => ⟨v, H', J.os, J.bare, J.base, J.hok, rv, q⟩
  cases fl with
  | ret u =>
    obtain ⟨v, σ', H', J, rv, q⟩ := hs
    exact fin J rv q
  | next =>
    obtain ⟨σ', H', J, q⟩ := hs
    exact fin (v := V.non) (u := Value.none) J rfl q
  | brk =>
    obtain ⟨_, _, _, q⟩ := hs
    exact False.elim q
  | cont =>
    obtain ⟨_, _, _, q⟩ := hs
    exact False.elim q
end L2

namespace L2
open PySem PySem.Spec PyProof.Rows
section
variable {X : Cx} {x : Str} {p pos : Pos} {e : Expr} {es : List Expr} {t : TA} {id T : String} {r : List V → Hp → VK → Prop}

def tCB (r : List V → Hp → VK → Prop) (t : TA) : TE := fun σ H Q => t σ H fun vs H1 => r vs H1 Q
/-- f(e, ..), f a built-in function -/
theorem pe_callB (hc : CallR X (.builtin id) r) (hg : Gl X x) (hm : X.mg x = none) (hv : bootBuiltins x = some (.builtin id)) (ha : PA X (e :: es) t) (hn : x ≠ "__name__" := by decide) (hdb : (x == ("__debug__" : Str)) = false := by decide)
    (he : starEach (e :: es) X.env = (false, eval e X.env) :: starEach es X.env := by rfl) (hpl : (backTo pos (starEach es X.env)).any (·.1) = false := by rfl) : PE X (.Call (.Name x p) (e :: es) [] pos) (tCB r t) := by
  intro pins s σ H Q I h
  refine wpAny_Call_Name_kw (ld_blt I hg hm hv ?_ hn hdb)
  exact PyProof.Rows.callWith_builtin1 (thn (ha pos pins s σ H _ I h) fun us s1 ⟨vs, H1, I1, r1, q1⟩ => hc pins s1 σ H1 vs us Q I1 r1 q1) he hpl
/-- T(e, ..), T a built-in type -/
theorem pe_callTy (hc : CallR X (.type T) r) (hg : Gl X x) (hm : X.mg x = none) (hv : bootBuiltins x = some (.type T)) (ha : PA X (e :: es) t) (hn : x ≠ "__name__" := by decide) (hdb : (x == ("__debug__" : Str)) = false := by decide)
    (he : starEach (e :: es) X.env = (false, eval e X.env) :: starEach es X.env := by rfl) (hpl : (backTo pos (starEach es X.env)).any (·.1) = false := by rfl) : PE X (.Call (.Name x p) (e :: es) [] pos) (tCB r t) := by
  intro pins s σ H Q I h
  refine wpAny_Call_Name_kw (ld_blt I hg hm hv ?_ hn hdb)
  exact PyProof.Rows.callWith_type1 (thn (ha pos pins s σ H _ I h) fun us s1 ⟨vs, H1, I1, r1, q1⟩ => hc pins s1 σ H1 vs us Q I1 r1 q1) he hpl
end
end L2

namespace HT
open PySem PyProof.Rows

section
open PySem.SeqAt
open PySem.AutoSeq1 (wpAny_loadPart')
open PySem.MeetsSeq PySem.MeetsSeq2 PySem.MeetsSeq3

end

section
variable {prog : Program} {w : World} {A : Around} {E : Value → Shared → Prop} {s : Shared}

/-- t + u, t not empty -/
theorem cat_tup {t b : Addr} {vs ws : List Value} {Q : Value → Shared → Prop} (ht : IsTup s.heap t vs.toArray) (hb : IsTup s.heap b ws.toArray) (hv : vs ≠ [])
    (h1 : ws = [] → Q (.ref t) s) (h2 : ws ≠ [] → Q (.ref s.heap.objs.size) { s with heap := s.heap.push { cls := .type "tuple", data := .seq (vs ++ ws).toArray } })
    (hsz : vs.length + ws.length ≤ sizeLine) : wpAny (model prog w) A (binaryOp .Add (.ref t) (.ref b)) Q E s := by
  obtain ⟨⟨cls, dd, data, sl⟩, ho, hc, n, hd⟩ := id ht
  obtain ⟨⟨cls2, dd2, data2, sl2⟩, ho2, hc2, n2, hd2⟩ := id hb
  simp only at hc hd hc2 hd2
  subst hc hd hc2 hd2
  have e : vs.toArray ++ ws.toArray = (vs ++ ws).toArray := by simp
  by_cases hw : ws = []
  · exact concat_meets ⟨_, ho, rfl⟩ ⟨_, ho2, rfl⟩ noFill_tuple_add seq_tuple_add PySem.F.slot_tuple_add PySem.F.entry_tuple_add (PySem.F.args_tuple_add_2 _ _)
      (tuple_addW1 t b vs.toArray ws.toArray n n2 dd dd2 sl sl2 (by simpa using hv) (by simp [hw])) ⟨ho, ho2, h1 hw⟩
  · refine concat_meets ⟨_, ho, rfl⟩ ⟨_, ho2, rfl⟩ noFill_tuple_add seq_tuple_add PySem.F.slot_tuple_add PySem.F.entry_tuple_add (PySem.F.args_tuple_add_2 _ _)
      (tuple_addW2 t b vs.toArray ws.toArray n n2 dd dd2 sl sl2 (by simpa using hv) (by simpa using hw) (by rw [List.size_toArray, List.size_toArray]; exact hsz)) ⟨ho, ho2, ?_⟩
    rw [e]
    exact h2 hw

/-! ### t[a:b], not the whole -/
/-- a slice's bound as a place among n (d where it is left out) -/
def sIx (n d : Nat) : Option Int → Nat
  | none => d
  | some v => if v < 0 then (v + (n : Int)).toNat else min v.toNat n
theorem sIx_none (n d : Nat) : sIx n d none = d := rfl
theorem sIx_nat (n d k : Nat) : sIx n d (some (k : Int)) = min k n := by
  show (if (k : Int) < 0 then ((k : Int) + (n : Int)).toNat else min (k : Int).toNat n) = min k n
  rw [if_neg (by omega), Int.toNat_natCast]
theorem sIx_le (n d : Nat) (hd : d ≤ n) (o : Option Int) : sIx n d o ≤ n := by
  cases o with
  | none => exact hd
  | some v =>
    show (if v < 0 then (v + (n : Int)).toNat else min v.toNat n) ≤ n
    by_cases hv : v < 0
    · rw [if_pos hv]; omega
    · rw [if_neg hv]; exact Nat.min_le_right _ _
theorem clip_eq (v : Int) (n d : Nat) : (if v < 0 then max (v + (n : Int)) 0 else min v (n : Int)) = ((sIx n d (some v) : Nat) : Int) := by
  show (if v < 0 then max (v + (n : Int)) 0 else min v (n : Int)) = (((if v < 0 then (v + (n : Int)).toNat else min v.toNat n) : Nat) : Int)
  by_cases hv : v < 0
  · simp only [if_pos hv]; omega
  · simp only [if_neg hv]; omega
theorem adjust_gen (lo hi : Option Int) (n : Nat) : Builtin.Slice.sliceAdjust lo hi 1 (n : Int) = (((sIx n 0 lo : Nat) : Int), ((sIx n n hi : Nat) : Int)) := by
  have h1 : ¬ ((1 : Int) < 0) := by omega
  unfold Builtin.Slice.sliceAdjust
  simp only [h1, if_false]
  refine Prod.ext ?_ ?_
  · cases lo with
    | none => rfl
    | some v => exact clip_eq v n 0
  · cases hi with
    | none => rfl
    | some v => exact clip_eq v n n
theorem places_gen (i j : Nat) : Builtin.Slice.slicePlaces (i : Int) (j : Int) 1 = j - i := by
  unfold Builtin.Slice.slicePlaces
  have h1 : (1 : Int) > 0 := by omega
  simp only [h1, if_true, Int.ediv_one]
  split <;> omega
theorem slicePart_ {v : Value} {o : Option Int} {Q : Option Int → Shared → Prop} (p : IsPart v o) (h : Q o s) : wpAny (model prog w) A (Builtin.Slice.slicePartIndex v) Q E s := by
  cases p with
  | none => exact slicePart_none h
  | int i t => exact slicePart_int h
theorem sliceApplied_gen {sl : Addr} {vl vu : Value} {lo hi : Option Int} {n : Nat} {Q : Int × Int × Nat → Shared → Prop} (hs : s.heap.IsSliceOf sl vl vu .none) (pl : IsPart vl lo) (pu : IsPart vu hi)
    (h : Q (((sIx n 0 lo : Nat) : Int), 1, sIx n n hi - sIx n 0 lo) s) : wpAny (model prog w) A (Builtin.Slice.sliceApplied (.ref sl) (pure (n : Int))) Q E s := by
  obtain ⟨os, hos, hcs, hds⟩ := id hs
  unfold Builtin.Slice.sliceApplied Builtin.Slice.sliceFields
  refine wpAny_bind (wpAny_bind (wpAny_field hos hds (x := vl) rfl (wpAny_bind (wpAny_field hos hds (x := vu) rfl (wpAny_bind (wpAny_field hos hds (x := .none) rfl (wpAny_pure ?_)))))))
  refine wpAny_bind (slicePart_none ?_)
  show wpAny _ _ (if ((1 : Int) == 0) = true then _ else _) _ _ s
  rw [if_neg (by decide)]
  refine wpAny_bind (slicePart_ pl (wpAny_bind (slicePart_ pu (wpAny_bind (wpAny_pure ?_)))))
  show wpAny _ _ (match Builtin.Slice.sliceAdjust lo hi 1 (n : Int) with | (lo, hi) => pure (lo, (1 : Int), Builtin.Slice.slicePlaces lo hi 1)) _ _ s
  rw [adjust_gen lo hi n]
  show wpAny _ _ (pure (((sIx n 0 lo : Nat) : Int), (1 : Int), Builtin.Slice.slicePlaces ((sIx n 0 lo : Nat) : Int) ((sIx n n hi : Nat) : Int) 1)) _ _ s
  rw [places_gen]
  exact wpAny_pure h
theorem pick_gen (xs : Array Value) (i k : Nat) : ((List.range k).filterMap fun (m : Nat) => xs[((i : Int) + (m : Int) * 1).toNat]?).toArray = ((xs.toList.drop i).take k).toArray := by
  have e : (fun (m : Nat) => xs[((i : Int) + (m : Int) * 1).toNat]?) = fun m => xs[i + m]? := by
    funext m
    have : ((i : Int) + (m : Int) * 1).toNat = i + m := by omega
    rw [this]
  rw [e]
  have := pick_run xs i k
  rw [List.filterMap_map] at this
  have e2 : ((fun x => xs[x]?) ∘ fun x => i + x) = fun m => xs[i + m]? := rfl
  rw [e2] at this
  rw [this]

theorem getItem_tuple_cut {t sl : Addr} {items : Array Value} {vl vu : Value} {lo hi : Option Int} {Q : Value → Shared → Prop} (ht : IsTup s.heap t items) (hs : s.heap.IsSliceOf sl vl vu .none) (pl : IsPart vl lo) (pu : IsPart vu hi)
    (hw : ¬ (sIx items.size 0 lo = 0 ∧ sIx items.size items.size hi = items.size))
    (h : Q (.ref s.heap.objs.size) { s with heap := s.heap.push { cls := .type "tuple", data := .seq ((items.toList.drop (sIx items.size 0 lo)).take (sIx items.size items.size hi - sIx items.size 0 lo)).toArray } })
    (hsz : items.size ≤ sizeLine) : wpAny (model prog w) A (getItem (.ref t) (.ref sl)) Q E s := by
  have htake : sizeOk (.seq ((items.toList.drop (sIx items.size 0 lo)).take (sIx items.size items.size hi - sIx items.size 0 lo)).toArray) := by
    show ((items.toList.drop (sIx items.size 0 lo)).take (sIx items.size items.size hi - sIx items.size 0 lo)).toArray.size ≤ sizeLine
    rw [List.size_toArray, List.length_take, List.length_drop, Array.length_toList]
    omega
  have hj : sIx items.size items.size hi ≤ items.size := sIx_le _ _ (Nat.le_refl _) hi
  obtain ⟨os, hos, hcs, hds⟩ := id hs
  have hTs : s.TypeIs (.ref sl) "slice" := ⟨os, hos, hcs⟩
  unfold getItem
  try with_reducible refine wpAny_holding ?_
  first | refine wpAny_bind (wpAny_pure ?_) | skip
  refine wpAny_bind (wpAny_sequenceKey ht.typeIs (by decide) ?_)
  refine wpAny_bind (wpAny_callSpecial?_slot (name := Str.ofString "__getitem__") ht.typeIs PyProof.Rows.slot_tuple_getitem
    (wpAny_call_entry PyProof.Rows.slot_tuple_getitem ht.typeIs entry_tuple_getitem ?_ (args_tuple_getitem _ _)))
  show wpAny _ _ (Builtin.Tuple.tupleItemsOf (.ref t) >>= _) _ _ s
  refine wpAny_bind (tupleItemsOf_ ht ?_)
  refine wpAny_bind (wpAny_typeOf hTs ?_)
  rw [if_pos (by decide)]
  refine wpAny_bind (sliceApplied_gen hs pl pu ?_)
  have hno : ¬ ((((sIx items.size 0 lo : Nat) : Int) == 0 && (1 : Int) == 1 && (sIx items.size items.size hi - sIx items.size 0 lo) == items.size) = true) := by
    intro q
    rw [Bool.and_eq_true, Bool.and_eq_true] at q
    have q1 : ((sIx items.size 0 lo : Nat) : Int) = 0 := eq_of_beq q.1.1
    have q2 : sIx items.size items.size hi - sIx items.size 0 lo = items.size := eq_of_beq q.2
    exact hw ⟨by omega, by omega⟩
  show wpAny _ _ (if (((sIx items.size 0 lo : Nat) : Int) == 0 && (1 : Int) == 1 && (sIx items.size items.size hi - sIx items.size 0 lo) == items.size) = true then _ else _) _ _ s
  rw [if_neg hno, pick_gen]
  first
    | exact wpAny_bind (m := Builtin.Tuple.tupleExact _) (wpAny_newObj_type (wpAny_pure ⟨_, rfl, wpAny_pure h⟩) htake)
    | exact wpAny_bind (m := Builtin.Tuple.tupleExact _) (wpAny_newObj_type (wpAny_bind (wpAny_pure (wpAny_pure ⟨_, rfl, wpAny_pure h⟩))) htake)
    | exact wpAny_bind (wpAny_bind (m := Builtin.Tuple.tupleExact _) (wpAny_newObj_type (wpAny_pure (wpAny_pure ⟨_, rfl, wpAny_pure h⟩)) htake))
    | exact wpAny_bind (wpAny_bind (m := Builtin.Tuple.tupleExact _) (wpAny_newObj_type (wpAny_pure ⟨_, rfl, wpAny_pure h⟩) htake))
end
end HT

namespace L2
open PySem PySem.Spec PyProof.Rows

/-! ### the parts of a slice -/
abbrev TO := St → Hp → (Option Int → Hp → Prop) → Prop
/-- a slice's part (left out, or an int) -/
def PO (X : Cx) (e : Option Expr) (t : TO) : Prop :=
  ∀ (pins : List (Addr × Obj)) (s : Shared) (σ : St) (H : Hp) (Q : Option Int → Hp → Prop), Inv X pins σ H s → t σ H Q →
    wpAny (model X.prog X.w) X.A (evalPart e X.env) (fun u s' => ∃ o H', Inv X pins σ H' s' ∧ IsPart u o ∧ Q o H') X.xe s
def tNoPart : TO := fun _ H Q => Q none H
def tPart (t : TE) : TO := fun σ H Q => t σ H fun x H1 => ∃ i, x = .int i ∧ Q (some i) H1

section
variable {X : Cx} {e : Expr} {te : TE} {lo hi : Option Expr} {tl th : TO} {pos p2 : Pos}

theorem po_none : PO X none tNoPart := by
  intro pins s σ H Q I h
  rw [evalPart_none]
  exact wpAny_pure ⟨none, H, I, .none, h⟩
theorem po_some (h : PE X e te) : PO X (some e) (tPart te) := by
  intro pins s σ H Q I hw
  rw [evalPart_some]
  refine thn (h pins s σ H _ I hw) fun u s1 ⟨x, H1, I1, r1, q1⟩ => ?_
  obtain ⟨i, rfl, q⟩ := q1
  obtain ⟨t, rfl⟩ := r1
  exact ⟨some i, H1, I1, .int i t, q⟩

/-- what a slice of a value is, by values: the slice object stands at sl -/
def SlR (X : Cx) (r : V → Option Int → Option Int → Hp → VK → Prop) : Prop :=
  ∀ (pins : List (Addr × Obj)) (s : Shared) (σ : St) (H : Hp) (x : V) (v vl vu : Value) (lo hi : Option Int) (sl : Addr) (Q : VK), Inv X pins σ H s → RelV x v → s.heap.IsSliceOf sl vl vu .none → IsPart vl lo → IsPart vu hi → r x lo hi H Q →
    ∃ T id, typeLookup (.type T) "__getitem__" = pure (some (.builtin id)) ∧ s.TypeIs v T ∧ wpAny (model X.prog X.w) X.A (getItem v (.ref sl)) (EP X pins σ Q) X.xe s
theorem SlR.or {r r' : V → Option Int → Option Int → Hp → VK → Prop} (h : SlR X r) (h' : SlR X r') : SlR X (fun x lo hi H Q => r x lo hi H Q ∨ r' x lo hi H Q) := by
  intro pins s σ H x v vl vu lo hi sl Q I rx hs pl pu q
  rcases q with q | q
  · exact h pins s σ H x v vl vu lo hi sl Q I rx hs pl pu q
  · exact h' pins s σ H x v vl vu lo hi sl Q I rx hs pl pu q
def tSl (r : V → Option Int → Option Int → Hp → VK → Prop) (te : TE) (tl th : TO) : TE := fun σ H Q => te σ H fun x H1 => tl σ H1 fun l H2 => th σ H2 fun u H3 => r x l u H3 Q
/-- a[lo:hi], any a -/
theorem pe_slice {r : V → Option Int → Option Int → Hp → VK → Prop} (hr : SlR X r) (he : PE X e te) (hl : PO X lo tl) (hu : PO X hi th) : PE X (.Subscript e (.Slice lo hi none p2) pos) (tSl r te tl th) := by
  intro pins s σ H Q I h
  refine Subscript_ (thn (he pins s σ H _ I h) fun v s1 ⟨x, H1, I1, r1, q1⟩ => ?_)
  refine wpAny_Slice (thn (hl pins s1 σ H1 _ I1 q1) fun vl s2 ⟨l, H2, I2, pl, q2⟩ => thn (hu pins s2 σ H2 _ I2 q2) fun vu s3 ⟨u, H3, I3, pu, q3⟩ => ?_)
  rw [evalPart_none]
  refine wpAny_pure ?_
  have I4 : Inv X pins σ H3 { s3 with heap := s3.heap.push { cls := .type "slice", data := .fields #[vl, vu, .none] } } := I3.kept (t' := s3.toks) fun b ob q => Heap.get?_push_of_some _ q
  obtain ⟨T, id, hT, ht, hg⟩ := hr pins { s3 with heap := s3.heap.push { cls := .type "slice", data := .fields #[vl, vu, .none] } } σ H3 x v vl vu l u s3.heap.objs.size Q I4 r1 (Heap.IsSliceOf.new ..) pl pu q3
  show wpAny (model X.prog X.w) X.A (subscriptTail e (.Slice lo hi none p2) v (.ref s3.heap.objs.size)) (EP X pins σ Q) X.xe { s3 with heap := s3.heap.push { cls := .type "slice", data := .fields #[vl, vu, .none] } }
  exact tail_any (ops := [.ref s3.heap.objs.size, v]) ht hT hg (by with_unfolding_all rfl)

/-- the items of xs[lo:hi] -/
def cutV (xs : List V) (lo hi : Option Int) : List V := (xs.drop (HT.sIx xs.length 0 lo)).take (HT.sIx xs.length xs.length hi - HT.sIx xs.length 0 lo)
theorem cutV_length (xs : List V) (lo hi : Option Int) : (cutV xs lo hi).length ≤ xs.length := by
  unfold cutV
  rw [List.length_take, List.length_drop]
  omega
/-- t[lo:hi], not the whole of it (the whole would be t itself) -/
def rSlT (K : PySem.W.Frag) : V → Option Int → Option Int → Hp → VK → Prop := fun x lo hi H Q => ∃ a xs, x = .ref a ∧ SqT K H a xs ∧
  ¬ (HT.sIx xs.length 0 lo = 0 ∧ HT.sIx xs.length xs.length hi = xs.length) ∧ ∀ p, H p = none → Q (.ref p) (upd H p (.tup (cutV xs lo hi)))
theorem sl_tup : SlR X (rSlT X.K) := by
  intro pins s σ H x v vl vu lo hi sl Q I rx hs pl pu h
  obtain ⟨a, xs, rfl, hx, hw, q⟩ := h
  cases rx
  obtain ⟨its, r, ht, hz⟩ := I.tuple hx
  have hlen : its.toArray.size = xs.length := by rw [List.size_toArray]; exact r.length.symm
  refine ⟨"tuple", _, PyProof.Rows.slot_tuple_getitem.lookup, ht.typeIs, ?_⟩
  refine HT.getItem_tuple_cut ht hs pl pu (by rw [hlen]; exact hw) ?_ (by rw [hlen]; exact hz)
  rw [hlen]
  refine ⟨.ref s.heap.objs.size, _, I.laid (t' := s.toks) (o := .tup (cutV xs lo hi)) (fun b ob q => Heap.get?_push_of_some _ q) (Nat.le_refl _) ?_, rfl, q _ (I.hok.fresh (Nat.le_refl _))⟩
  exact ⟨Nat.le_trans (cutV_length xs lo hi) hz, _, (r.drop (HT.sIx xs.length 0 lo)).take (HT.sIx xs.length xs.length hi - HT.sIx xs.length 0 lo), PlainT.new _ _⟩

/-! ### t < u, t + u -/
/-- t + u, t not empty: u empty gives t itself -/
def rCatT (K : PySem.W.Frag) : R2 := fun x y H Q => ∃ a b xs ys, x = .ref a ∧ y = .ref b ∧ SqT K H a xs ∧ SqT K H b ys ∧ xs ≠ [] ∧ xs.length + ys.length ≤ sizeLine ∧
  (ys = [] → Q (.ref a) H) ∧ (ys ≠ [] → ∀ p, H p = none → Q (.ref p) (upd H p (.tup (xs ++ ys))))
theorem Vals.nil_iff {xs : List V} {us : List Value} (r : Vals xs us) : us = [] ↔ xs = [] := by
  cases r with
  | nil => simp
  | cons _ _ => simp
theorem op_catT : OpR X (binaryOp .Add) (rCatT X.K) := by
  intro pins s σ H x y v u Q I rx ry h
  obtain ⟨a, b, xs, ys, rfl, rfl, ha, hb, hx, hz, q1, q2⟩ := h
  cases rx
  cases ry
  obtain ⟨its, r1, p1, _⟩ := I.tuple ha
  obtain ⟨its2, r2, p2, _⟩ := I.tuple hb
  refine HT.cat_tup p1 p2 (fun z => hx (r1.nil_iff.mp z)) (fun z => ⟨.ref a, H, I, rfl, q1 (r2.nil_iff.mp z)⟩) (fun z => ?_) (by rw [← r1.length, ← r2.length]; exact hz)
  refine ⟨.ref s.heap.objs.size, _, I.laid (t' := s.toks) (o := .tup (xs ++ ys)) (fun b ob q => Heap.get?_push_of_some _ q) (Nat.le_refl _) ?_, rfl, q2 (fun w => z (r2.nil_iff.mpr w)) _ (I.hok.fresh (Nat.le_refl _))⟩
  exact ⟨by rw [List.length_append]; exact hz, _, r1.append r2, PlainT.new _ _⟩
end
end L2

namespace L2
open PySem PySem.Spec PyProof.Rows

/-! ### places -/
/-- the place that an index of any sign means -/
def ixN (n : Nat) (i : Int) : Option Nat := if 0 ≤ i then (if i < n then some i.toNat else none) else if -(n : Int) ≤ i then some (i + n).toNat else none
def atI {α : Type} (xs : List α) (i : Int) : Option α := (ixN xs.length i).bind fun j => xs[j]?
theorem ixN_seq {n : Nat} {i : Int} {j : Nat} (h : ixN n i = some j) : seqIndex? i n = some j ∧ j < n ∧ -(n : Int) ≤ i ∧ i < n := by
  unfold ixN at h
  by_cases h0 : 0 ≤ i
  · rw [if_pos h0] at h
    by_cases h1 : i < n
    · rw [if_pos h1] at h
      have e : i.toNat = j := Option.some.inj h
      exact ⟨by rw [seqIndex_of h0 h1, e], by omega, by omega, h1⟩
    · rw [if_neg h1] at h; cases h
  · rw [if_neg h0] at h
    by_cases h1 : -(n : Int) ≤ i
    · rw [if_pos h1] at h
      have e : (i + n).toNat = j := Option.some.inj h
      exact ⟨by rw [seqIndex_neg (by omega) h1, e], by omega, h1, by omega⟩
    · rw [if_neg h1] at h; cases h
theorem atI_get {α : Type} {xs : List α} {i : Int} {v : α} (h : atI xs i = some v) : ∃ j, seqIndex? i xs.length = some j ∧ xs[j]? = some v ∧ j < xs.length ∧ -(xs.length : Int) ≤ i ∧ i < xs.length := by
  unfold atI at h
  cases e : ixN xs.length i with
  | none => rw [e] at h; cases h
  | some j =>
    rw [e] at h
    obtain ⟨h1, h2, h3, h4⟩ := ixN_seq e
    exact ⟨j, h1, h, h2, h3, h4⟩
/-! ### what may be subscripted -/
/-- what stands as an index of a plain subscript -/
def PlainIx (b : Expr) : Prop := ∀ o i, subscripted b false o i = operate [o, i] (getItem o i)
/-- a subscript by values -/
def IxR (X : Cx) (r : R2) : Prop :=
  ∀ (value slice : Expr) (pins : List (Addr × Obj)) (s : Shared) (σ : St) (H : Hp) (x y : V) (v u : Value) (Q : VK), Inv X pins σ H s → RelV x v → RelV y u → r x y H Q →
    subscripted slice false v u = operate [v, u] (getItem v u) → wpAny (model X.prog X.w) X.A (subscriptTail value slice v u) (EP X pins σ Q) X.xe s
/-- a call of a builtin's method by values: the receiver, the arguments -/
def MtR (X : Cx) (id : String) (r : V → List V → Hp → VK → Prop) : Prop :=
  ∀ (pins : List (Addr × Obj)) (s : Shared) (σ : St) (H : Hp) (x : V) (xs : List V) (v : Value) (us : List Value) (Q : VK), Inv X pins σ H s → RelV x v → Vals xs us → r x xs H Q →
    wpAny (model X.prog X.w) X.A (call (.builtin id) (v :: us)) (EP X pins σ Q) X.xe s
section
variable {X : Cx} {a b : Expr} {ta tb : TE} {pos : Pos}
theorem IxR.or {r r' : R2} (h : IxR X r) (h' : IxR X r') : IxR X (fun x y H Q => r x y H Q ∨ r' x y H Q) := by
  intro value slice pins s σ H x y v u Q I rx ry q hs
  rcases q with q | q
  · exact h value slice pins s σ H x y v u Q I rx ry q hs
  · exact h' value slice pins s σ H x y v u Q I rx ry q hs
theorem MtR.or {id : String} {r r' : V → List V → Hp → VK → Prop} (h : MtR X id r) (h' : MtR X id r') : MtR X id (fun x xs H Q => r x xs H Q ∨ r' x xs H Q) := by
  intro pins s σ H x xs v us Q I rx rs q
  rcases q with q | q
  · exact h pins s σ H x xs v us Q I rx rs q
  · exact h' pins s σ H x xs v us Q I rx rs q
/-- a[b] -/
theorem pe_ix {r : R2} (hr : IxR X r) (ha : PE X a ta) (hb : PE X b tb) (hs : PlainIx b) : PE X (.Subscript a b pos) (tOp r ta tb) := by
  intro pins s σ H Q I h
  exact Subscript_ (binT ha hb I h fun v u s2 x y H2 I2 rx ry q => hr a b pins s2 σ H2 x y v u Q I2 rx ry q (hs _ _))

def rIxL (K : PySem.W.Frag) : R2 := fun x y H Q => ∃ p xs i v, x = .ref p ∧ y = .int i ∧ SqL K H p xs ∧ atI xs i = some v ∧ Q v H
def rIxT (K : PySem.W.Frag) : R2 := fun x y H Q => ∃ p xs i v, x = .ref p ∧ y = .int i ∧ SqT K H p xs ∧ atI xs i = some v ∧ Q v H
def rIxS : R2 := fun x y H Q => ∃ z i c, x = .str z ∧ y = .int i ∧ z.length ≤ sizeLine ∧ atI z.cps.toList i = some c ∧ Q (.str ⟨#[c]⟩) H
theorem ix_list : IxR X (rIxL X.K) := by
  intro value slice pins s σ H x y v u Q I rx ry h hs
  obtain ⟨p, xs, i, z, rfl, rfl, hq, he, q⟩ := h
  cases rx
  obtain ⟨t, rfl⟩ := ry
  obtain ⟨its, r, pl, hz⟩ := I.list hq
  obtain ⟨j, h1, h2, h3, h4, h5⟩ := atI_get he
  obtain ⟨w, ew, rw'⟩ := r.get h2
  have hl := r.length
  have hn := line63
  have fin : EP X pins σ Q w s := ⟨z, H, I, rw', q⟩
  by_cases h0 : 0 ≤ i
  · have hj : i.toNat = j := by
      rw [seqIndex_of h0 h5] at h1
      exact Option.some.inj h1
    exact item_listR pl.isList h0 (by omega) (by rw [hj]; simpa using ew) fin hs
  · have hj : (i + (its.toArray.size : Int)).toNat = j := by
      rw [seqIndex_neg (by omega) h4] at h1
      rw [List.size_toArray, ← hl]
      exact Option.some.inj h1
    exact subscriptTail_builtinR (x := w) pl.isList.typeIs slot_list_getitem.lookup
      (wpAny_getItem_list_neg (Q := fun r s' => r = w ∧ EP X pins σ Q r s') pl.isList (by omega) (by rw [List.size_toArray] <;> omega) (by omega) (by rw [hj]; simpa using ew) ⟨rfl, fin⟩) hs
theorem ix_tup : IxR X (rIxT X.K) := by
  intro value slice pins s σ H x y v u Q I rx ry h hs
  obtain ⟨p, xs, i, z, rfl, rfl, hq, he, q⟩ := h
  cases rx
  obtain ⟨t, rfl⟩ := ry
  obtain ⟨its, r, pl, hz⟩ := I.tuple hq
  obtain ⟨j, h1, h2, h3, h4, h5⟩ := atI_get he
  obtain ⟨w, ew, rw'⟩ := r.get h2
  have hl := r.length
  have hn := line63
  have fin : EP X pins σ Q w s := ⟨z, H, I, rw', q⟩
  exact subscriptTail_builtinR (x := w) pl.typeIs slot_tuple_getitem.lookup
    (getItem_tuple (j := j) (Q := fun r s' => r = w ∧ EP X pins σ Q r s') pl (by omega) (by omega) (by rw [List.size_toArray, ← hl]; exact h1) (by simpa using ew) ⟨rfl, fin⟩) hs
theorem ix_str : IxR X rIxS := by
  intro value slice pins s σ H x y v u Q I rx ry h hs
  obtain ⟨z, i, c, rfl, rfl, hz, he, q⟩ := h
  obtain ⟨t, rfl⟩ := rx
  obtain ⟨t', rfl⟩ := ry
  obtain ⟨j, h1, h2, h3, h4, h5⟩ := atI_get he
  have hl : z.cps.toList.length = z.length := by simp [Str.length]
  rw [hl] at h1 h4 h5
  have hn := line63
  exact tail_any (typeIs_str s z t) slot_str_getitem.lookup (getItem_str (c := c) (by
    have e1 : decide (i < -(2 ^ 63 : Int)) = false := decide_eq_false (by omega)
    have e2 : decide (i ≥ 2 ^ 63) = false := decide_eq_false (by omega)
    rw [e1, e2, Bool.or_false]) (by rw [h1]; simpa using h2) ⟨.str ⟨#[c]⟩, H, I.tok _, ⟨_, rfl⟩, q⟩) hs
/-! ### xs[i] = v, any sign -/
/-- the list's object behind a store -/
theorem mapSeq_set (its : List Value) (n j : Nat) (u : Value) : Obj.mapSeq (·.setIfInBounds j u) { cls := .type "list", data := .seq its.toArray n } = { cls := .type "list", data := .seq (its.set j u).toArray n } := by
  simp [Obj.mapSeq]
theorem Inv.lst {pins : List (Addr × Obj)} {σ : St} {H : Hp} {s : Shared} {p : Addr} {xs : List V} (I : Inv X pins σ H s) (h : H p = some (.lst xs)) :
    ∃ (its : List Value) (n : Nat), Vals xs its ∧ s.heap.get? p = some { cls := .type "list", data := .seq its.toArray n } ∧ xs.length ≤ sizeLine := by
  obtain ⟨z, its, n, r, e⟩ := I.hok p _ h
  exact ⟨its, n, r, e, z⟩
/-- the list at p is written by an update of its object -/
theorem Inv.lstUpd {pins : List (Addr × Obj)} {σ : St} {H : Hp} {s : Shared} {p : Addr} {xs ys : List V} {its its' : List Value} {n n' : Nat} {f : Obj → Obj} (I : Inv X pins σ H s) (h : H p = some (.lst xs))
    (ho : s.heap.get? p = some { cls := .type "list", data := .seq its.toArray n }) (hf : f { cls := .type "list", data := .seq its.toArray n } = { cls := .type "list", data := .seq its'.toArray n' }) (r : Vals ys its') (hz : ys.length ≤ sizeLine) (t : Nat) :
    Inv X pins σ (upd H p (.lst ys)) { s with heap := s.heap.update p f, toks := t } := by
  have e : (s.heap.update p f).get? p = some { cls := .type "list", data := .seq its'.toArray n' } := by
    rw [Heap.get?_update_self f ho (by rw [hf] <;> rfl), hf]
  refine I.write (x := p) (e := p) (by rw [h]; trivial) (.inl rfl) (fun b u hb q => (Heap.get?_update_other _ _ (Ne.symm hb)).trans q) ⟨_, e⟩ ?_
  exact ⟨hz, its', n', r, e⟩
def rSetL : V → V → V → Hp → (Hp → Prop) → Prop := fun o i v H Q => ∃ p xs k j, o = .ref p ∧ i = .int k ∧ H p = some (.lst xs) ∧ ixN xs.length k = some j ∧ Q (upd H p (.lst (xs.set j v)))
theorem set_list : PSet X rSetL := by
  intro pins s σ H o i v ov iv u Q I ro ri rv h
  obtain ⟨p, xs, k, j, rfl, rfl, hp, hj, q⟩ := h
  cases ro
  obtain ⟨t, rfl⟩ := ri
  obtain ⟨its, n, r, ho, hz⟩ := I.lst hp
  obtain ⟨h1, h2, h3, h4⟩ := ixN_seq hj
  have hl := r.length
  have hn := line63
  have I' : Inv X pins σ (upd H p (.lst (xs.set j v))) { s with heap := s.heap.update p (Obj.mapSeq (·.setIfInBounds j u)) } :=
    I.lstUpd hp ho (mapSeq_set its n j u) (r.set rv j) (by rw [List.length_set]; exact hz) s.toks
  by_cases h0 : 0 ≤ k
  · have hk : k.toNat = j := by
      rw [seqIndex_of h0 h4] at h1
      exact Option.some.inj h1
    exact PySem.W.ki_setAt ho h0 (by omega) (by rw [List.size_toArray, ← hl]; exact h4) (by rw [hk]; exact ⟨_, I', q⟩)
  · have hk : (k + (its.toArray.size : Int)).toNat = j := by
      rw [seqIndex_neg (by omega) h3] at h1
      rw [List.size_toArray, ← hl]
      exact Option.some.inj h1
    exact PySem.W.ki_setBack ho (by omega) (by rw [List.size_toArray, ← hl]; exact h3) (by omega) (by rw [hk]; exact ⟨_, I', q⟩)

/-! ### slices -/
theorem slice_bounds (lo hi : Option Int) (n : Nat) : (sliceBounds lo hi none n).1 = ((HT.sIx n 0 lo : Nat) : Int) ∧ (sliceBounds lo hi none n).2.1 = ((HT.sIx n n hi : Nat) : Int) ∧ (sliceBounds lo hi none n).2.2 = 1 := by
  refine ⟨?_, ?_, rfl⟩
  · cases lo with
    | none => simp [sliceBounds, HT.sIx]
    | some i =>
      simp only [sliceBounds, HT.sIx, Option.getD_none, show (1 : Int) > 0 by decide, if_true]
      by_cases h : i < 0
      · simp only [h, if_true] <;> omega
      · simp only [h, if_false] <;> omega
  · cases hi with
    | none => simp [sliceBounds, HT.sIx]
    | some i =>
      simp only [sliceBounds, HT.sIx, Option.getD_none, show (1 : Int) > 0 by decide, if_true]
      by_cases h : i < 0
      · simp only [h, if_true] <;> omega
      · simp only [h, if_false] <;> omega
theorem slicePick_cut (its : List Value) (lo hi : Option Int) : slicePick its.toArray lo hi none = ((its.drop (HT.sIx its.length 0 lo)).take (HT.sIx its.length its.length hi - HT.sIx its.length 0 lo)).toArray := by
  obtain ⟨h1, h2, h3⟩ := slice_bounds lo hi its.toArray.size
  unfold slicePick
  rw [h1, h2, h3]
  simp only [sliceRange_one, pick_run, List.size_toArray] <;> rfl
/-- xs[lo:hi] of a list: a new list -/
def rSlL (K : PySem.W.Frag) : V → Option Int → Option Int → Hp → VK → Prop := fun x lo hi H Q => ∃ a xs, x = .ref a ∧ SqL K H a xs ∧ ∀ p, H p = none → Q (.ref p) (upd H p (.lst (cutV xs lo hi)))
theorem sl_list : SlR X (rSlL X.K) := by
  intro pins s σ H x v vl vu lo hi sl Q I rx hs pl pu h
  obtain ⟨a, xs, rfl, hx, q⟩ := h
  cases rx
  obtain ⟨its, r, ht, hz⟩ := I.list hx
  have hlen := r.length
  refine ⟨"list", _, slot_list_getitem.lookup, ht.isList.typeIs, ?_⟩
  refine wpAny_getItem_list_slice ht.isList hs pl pu .none (by simp) ?_ (by rw [List.size_toArray] <;> omega)
  rw [slicePick_cut, ← hlen]
  refine ⟨.ref s.heap.objs.size, _, I.laid (t' := s.toks) (o := .lst (cutV xs lo hi)) (fun b ob q => Heap.get?_push_of_some _ q) (Nat.le_refl _) ?_, rfl, q _ (I.hok.fresh (Nat.le_refl _))⟩
  exact ⟨Nat.le_trans (cutV_length xs lo hi) hz, _, 0, (r.drop (HT.sIx xs.length 0 lo)).take (HT.sIx xs.length xs.length hi - HT.sIx xs.length 0 lo), Heap.get?_push_size _ rfl⟩

/-! ### in, not in: flat items -/
/-! ### len, list(x), tuple(x) of any list or tuple that is read -/
theorem CallR.or {f : Value} {r r' : List V → Hp → VK → Prop} (h : CallR X f r) (h' : CallR X f r') : CallR X f (fun xs H Q => r xs H Q ∨ r' xs H Q) := by
  intro pins s σ H xs us Q I rs q
  rcases q with q | q
  · exact h pins s σ H xs us Q I rs q
  · exact h' pins s σ H xs us Q I rs q
theorem call_list_of : CallR X (.type "list") (fun xs H Q => ∃ p ys, xs = [.ref p] ∧ (SqL X.K H p ys ∨ SqT X.K H p ys) ∧ ∀ l, H l = none → Q (.ref l) (upd H l (.lst ys))) := by
  intro pins s σ H xs us Q I r h
  obtain ⟨p, ys, rfl, hq, q⟩ := h
  obtain ⟨u, rfl, rx⟩ := vals1 r
  cases rx
  have fin : ∀ (its : List Value), Vals ys its → ys.length ≤ sizeLine → ∀ (h' : Heap) (c' : Nat), (∀ b o', s.heap.get? b = some o' → h'.get? b = some o') →
      h'.get? s.heap.objs.size = some { cls := .type "list", dict := none, data := .seq its.toArray c', slots := #[] } → EP X pins σ Q (.ref s.heap.objs.size) { s with heap := h' } := fun its r' hz h' c' kp e =>
    ⟨.ref s.heap.objs.size, _, I.laid (t' := s.toks) kp (Nat.le_refl _) (show ObjOk X.prog X.w _ h' _ (.lst ys) from ⟨hz, its, c', r', e⟩), rfl, q _ (I.hok.fresh (Nat.le_refl _))⟩
  rcases hq with hq | hq
  · obtain ⟨its, r', pl, hz⟩ := I.list hq
    have hlen := r'.length
    obtain ⟨o, ho, hc, n, hd⟩ := pl.isList
    exact call_list_seq p (.inl rfl) ho hc hd (fun h' c' kp e => fin its r' hz h' c' kp e) (by simp only [List.size_toArray] <;> omega)
  · obtain ⟨its, r', pl, hz⟩ := I.tuple hq
    have hlen := r'.length
    obtain ⟨o, ho, hc, n, hd⟩ := pl
    exact call_list_seq p (.inr rfl) ho hc hd (fun h' c' kp e => fin its r' hz h' c' kp e) (by simp only [List.size_toArray] <;> omega)
theorem call_tuple_of : CallR X (.type "tuple") (fun xs H Q => ∃ p ys, xs = [.ref p] ∧ ((SqL X.K H p ys ∧ ∀ l, H l = none → Q (.ref l) (upd H l (.tup ys))) ∨ (SqT X.K H p ys ∧ Q (.ref p) H))) := by
  intro pins s σ H xs us Q I r h
  obtain ⟨p, ys, rfl, h⟩ := h
  obtain ⟨u, rfl, rx⟩ := vals1 r
  cases rx
  rcases h with ⟨hq, q⟩ | ⟨hq, q⟩
  · obtain ⟨its, r', pl, hz⟩ := I.list hq
    have hlen := r'.length
    refine call_tuple_list pl.isList (fun h' kp => ?_) (by simp only [List.size_toArray] <;> omega)
    have I1 : Inv X pins σ H { s with heap := h' } := I.kept (t' := s.toks) kp
    have I2 : Inv X pins σ (upd H h'.objs.size (.tup ys)) { s with heap := h'.push { cls := .type "tuple", data := .seq its.toArray } } :=
      I1.laid (t' := s.toks) (fun b o e => Heap.get?_push_of_some _ e) (Nat.le_refl _) (show ObjOk X.prog X.w _ _ _ (.tup ys) from ⟨hz, its, r', PlainT.new _ _⟩)
    exact ⟨.ref h'.objs.size, _, I2, rfl, q _ (I1.hok.fresh (Nat.le_refl _))⟩
  · obtain ⟨its, r', pl, hz⟩ := I.tuple hq
    exact call_tuple_same pl ⟨.ref p, H, I, rfl, q⟩

/-! ### the call of a builtin's method: o.m(..) -/
/-- the value is of that builtin type -/
def tyV (K : PySem.W.Frag) (T : String) (x : V) (H : Hp) : Prop := match x with
  | .str _ => T = "str"
  | .int _ => T = "int"
  | .ref p => (T = "list" ∧ ∃ xs, SqL K H p xs) ∨ (T = "tuple" ∧ ∃ o, K.lookup p = some o ∧ o.cls = .type "tuple" ∧ o.dict = none) ∨
      (T = "dict" ∧ ((∃ kvs, H p = some (.dK kvs)) ∨ ∃ kvs, H p = some (.dT kvs))) ∨ (T = "set" ∧ ∃ S n, H p = some (.set S n))
  | _ => False
theorem tyV_is {pins : List (Addr × Obj)} {σ : St} {H : Hp} {s : Shared} {T : String} {x : V} {v : Value} (I : Inv X pins σ H s) (r : RelV x v) (ty : tyV X.K T x H) :
    s.TypeIs v T ∧ ∀ a, v = .ref a → ∃ ob, s.heap.get? a = some ob ∧ ob.dict = none := by
  cases x with
  | str z =>
    obtain ⟨t, rfl⟩ := r
    cases (show T = "str" from ty)
    exact ⟨typeIs_str s z t, fun _ e => nomatch e⟩
  | int i =>
    obtain ⟨t, rfl⟩ := r
    cases (show T = "int" from ty)
    exact ⟨typeIs_int s i t, fun _ e => nomatch e⟩
  | ref p =>
    cases r
    rcases ty with ⟨rfl, xs, hq⟩ | ⟨rfl, o, hk, hc, hd⟩ | ⟨rfl, hk⟩ | ⟨rfl, S, n, hk⟩
    · obtain ⟨its, _, pl, _⟩ := I.list hq
      refine ⟨pl.isList.typeIs, fun a e => ?_⟩
      cases e
      obtain ⟨o, n, e, c, hd, _⟩ := pl
      exact ⟨o, e, hd⟩
    · refine ⟨⟨o, I.kIn p o hk, hc⟩, fun a e => ?_⟩
      cases e
      exact ⟨o, I.kIn _ o hk, hd⟩
    · have z : ∃ o, s.heap.get? p = some o ∧ o.ExactDict := by
        rcases hk with ⟨kvs, hk⟩ | ⟨kvs, hk⟩
        · obtain ⟨_, _, _, _, o, _, _, e, ex, _⟩ := I.hok p _ hk
          exact ⟨o, e, ex⟩
        · obtain ⟨_, _, _, _, o, _, _, e, ex, _⟩ := I.hok p _ hk
          exact ⟨o, e, ex⟩
      obtain ⟨o, e, ex⟩ := z
      refine ⟨⟨o, e, ex.1⟩, fun a e2 => ?_⟩
      cases e2
      exact ⟨o, e, ex.2.1⟩
    · obtain ⟨o, _, _, _, e, ex, _⟩ := I.hok p _ hk
      refine ⟨⟨o, e, ex.1⟩, fun a e2 => ?_⟩
      cases e2
      exact ⟨o, e, ex.2.1⟩
  | _ => exact False.elim ty
def tBM0 (K : PySem.W.Frag) (T : String) (r : V → List V → Hp → VK → Prop) (to : TE) : TE := fun σ H Q => to σ H fun x H1 => tyV K T x H1 ∧ r x [] H1 Q
def tBM (K : PySem.W.Frag) (T : String) (r : V → List V → Hp → VK → Prop) (to : TE) (t : TA) : TE := fun σ H Q => to σ H fun x H1 => tyV K T x H1 ∧ t σ H1 fun xs H2 => r x xs H2 Q
variable {o e : Expr} {es : List Expr} {to : TE} {t : TA} {name : Str} {apos cpos : Pos} {T id : String} {r : V → List V → Hp → VK → Prop}
theorem pe_bm0 (pa : PlainAttrs T) (slot : Slot T name id) (hty : typeOf (.builtin id) = pure (.type "method_descriptor")) (hm : MtR X id r) (ho : PE X o to)
    (hbase : attributeBase o name X.env (eval o X.env) = eval o X.env := by rfl) (hline : (apos.endLine == cpos.line) = true := by rfl) : PE X (.Call (.Attribute o name apos) [] [] cpos) (tBM0 X.K T r to) := by
  intro pins s σ H Q I h
  refine wpAny_Call_method0_late hbase hline (thn (ho pins s σ H _ I h) fun v s1 ⟨x, H1, I1, r1, ty, q1⟩ => ?_)
  obtain ⟨h1, h2⟩ := tyV_is I1 r1 ty
  exact ⟨T, id, pa, slot, hty, h1, h2, Calls.callWith_builtin rfl (PySem.evalArgs_none (hm pins s1 σ H1 x [] v [] Q I1 r1 .nil q1))⟩
theorem pe_bm (pa : PlainAttrs T) (slot : Slot T name id) (hty : typeOf (.builtin id) = pure (.type "method_descriptor")) (hm : MtR X id r) (ho : PE X o to) (ha : PA X (e :: es) t)
    (hbase : attributeBase o name X.env (eval o X.env) = eval o X.env := by rfl)
    (hfew : ((backTo cpos (starEach (e :: es) X.env)).all (fun x => !x.1) && (backToKw cpos (keywordEach [] X.env)).all (fun x => x.1.isSome)
      && decide ((e :: es).length + ([] : List Keyword).length + (if ([] : List Keyword).isEmpty then 0 else 1) < 30)) = true := by rfl)
    (hline : (apos.endLine == cpos.line) = true := by rfl) (hs : starEach (e :: es) X.env = (false, eval e X.env) :: starEach es X.env := by rfl) (hplain : (backTo cpos (starEach es X.env)).any (·.1) = false := by rfl) :
    PE X (.Call (.Attribute o name apos) (e :: es) [] cpos) (tBM X.K T r to t) := by
  intro pins s σ H Q I h
  refine wpAny_Call_method_late hbase hfew hline rfl (thn (ho pins s σ H _ I h) fun v s1 ⟨x, H1, I1, r1, ty, q1⟩ => ?_)
  obtain ⟨h1, h2⟩ := tyV_is I1 r1 ty
  refine ⟨T, id, pa, slot, hty, h1, h2, ?_⟩
  have hA := ha cpos pins s1 σ H1 _ I1 q1
  rw [hs] at hA ⊢
  refine Calls.callWith_builtin (by show (false || (backTo cpos (starEach es X.env)).any (·.1)) = false; rw [hplain] <;> rfl) (Calls.evalArgs_plain ?_)
  exact thn hA fun us s2 ⟨vs, H2, I2, r2, q2⟩ => hm pins s2 σ H2 x vs v us Q I2 r1 r2 q2
/- xs.append(e), list.index on a module's tuple .. are MtR facts of 06m -/
end
end L2

namespace L2
open PySem PySem.Spec PyProof.Rows

def MtM (X : Cx) (id : String) (r : V → List V → Hp → VK → Prop) : Prop :=
  ∀ (pins : List (Addr × Obj)) (s : Shared) (σ : St) (H : Hp) (x : V) (xs : List V) (v : Value) (us : List Value) (Q : VK), Inv X pins σ H s → RelV x v → Vals xs us → r x xs H Q →
    wpAny (model X.prog X.w) X.A (call (.builtin id) (v :: us)) (EP X pins σ Q) X.xe s

/-! ### lists of values -/
theorem Vals.one : ∀ {x : V} {us : List Value}, Vals [x] us → ∃ u, us = [u] ∧ RelV x u
  | _, _, .cons r .nil => ⟨_, rfl, r⟩
theorem Vals.two : ∀ {x y : V} {us : List Value}, Vals [x, y] us → ∃ u v, us = [u, v] ∧ RelV x u ∧ RelV y v
  | _, _, _, .cons r (.cons q .nil) => ⟨_, _, rfl, r, q⟩
theorem Vals.zero : ∀ {us : List Value}, Vals [] us → us = []
  | _, .nil => rfl
theorem Vals.dropLast {xs : List V} {us : List Value} (h : Vals xs us) : Vals xs.dropLast us.dropLast := by
  induction h with
  | nil => exact .nil
  | cons r t ih =>
    cases t with
    | nil => exact .nil
    | cons q t' => exact .cons r ih
theorem Vals.eraseIdx : ∀ {xs : List V} {us : List Value} (i : Nat), Vals xs us → Vals (xs.eraseIdx i) (us.eraseIdx i)
  | _, _, _, .nil => .nil
  | _, _, 0, .cons _ t => t
  | _, _, i + 1, .cons r t => .cons r (Vals.eraseIdx i t)
theorem Vals.reverse {xs : List V} {us : List Value} (h : Vals xs us) : Vals xs.reverse us.reverse := by
  induction h with
  | nil => exact .nil
  | cons r t ih => rw [List.reverse_cons, List.reverse_cons]; exact Vals.append ih (.cons r .nil)
theorem erase_last {α : Type} (l : List α) : l.eraseIdx (l.length - 1) = l.dropLast := by
  induction l with
  | nil => rfl
  | cons a r ih =>
    cases r with
    | nil => rfl
    | cons b r =>
      have e : (a :: b :: r).length - 1 = ((b :: r).length - 1) + 1 := by
        have h1 : (a :: b :: r).length = r.length + 2 := rfl
        have h2 : (b :: r).length = r.length + 1 := rfl
        omega
      rw [e, List.eraseIdx_cons_succ, ih]
      all_goals rfl
section
variable {X : Cx} {pins : List (Addr × Obj)} {σ : St} {H : Hp} {s : Shared} {l b : Addr} {xs ys zs : List V}

/-! ### the two steps: a tracked list is rewritten, a new list is laid -/
theorem Inv.lset {its its' : List Value} {n : Nat} {f : Array Value → Array Value} {t' : Nat} (I : Inv X pins σ H s) (hH : H l = some (.lst xs))
    (e : s.heap.get? l = some { cls := .type "list", data := .seq its.toArray n }) (hf : f its.toArray = its'.toArray) (hv : Vals ys its') (hz : ys.length ≤ sizeLine) :
    Inv X pins σ (upd H l (.lst ys)) { s with heap := s.heap.update l (Obj.mapSeq f), toks := t' } := by
  have q := PySem.IsL.update e f
  rw [hf] at q
  refine I.write (x := l) (e := l) (by rw [hH]; exact trivial) (.inl rfl) (fun b' u hb hu => (Heap.get?_update_other s.heap (Obj.mapSeq f) (Ne.symm hb)).trans hu) ⟨_, q⟩ ?_
  exact ⟨hz, its', _, hv, q⟩
theorem Inv.lnew {its : List Value} {t' : Nat} (I : Inv X pins σ H s) (hv : Vals ys its) (hz : ys.length ≤ sizeLine) :
    Inv X pins σ (upd H s.heap.objs.size (.lst ys)) { s with heap := s.heap.push { cls := .type "list", data := .seq its.toArray }, toks := t' } :=
  I.laid (fun _ _ q => Heap.get?_push_of_some _ q) (Nat.le_refl _) ⟨hz, its, 0, hv, Heap.get?_push_size _ rfl⟩
theorem Inv.fresh (I : Inv X pins σ H s) : H s.heap.objs.size = none := I.hok.fresh (Nat.le_refl _)
theorem Inv.lstM (I : Inv X pins σ H s) (hH : H l = some (.lst xs)) : xs.length ≤ sizeLine ∧ ∃ (its : List Value) (n : Nat), Vals xs its ∧ xs.length = its.length ∧ s.heap.get? l = some { cls := .type "list", data := .seq its.toArray n } := by
  obtain ⟨z, its, n, r, e⟩ := I.hok l _ hH
  exact ⟨z, its, n, r, r.length, e⟩

theorem notLongL {n : Nat} (h : n ≤ sizeLine) : Builtin.List.listTooLong n = false := by
  unfold Builtin.List.listTooLong
  exact decide_eq_false (by omega)
end

section
variable {X : Cx}

/-! ### methods -/
def rAppend : V → List V → Hp → VK → Prop := fun x vs H Q => ∃ l xs y, x = .ref l ∧ vs = [y] ∧ H l = some (.lst xs) ∧ xs.length < sizeLine ∧ Q .non (upd H l (.lst (xs ++ [y])))
theorem mt_append : MtM X "list.append" rAppend := by
  intro pins s σ H x vs v us Q I rx rv h
  obtain ⟨l, xs, y, rfl, rfl, hH, hz, q⟩ := h
  cases rx
  obtain ⟨u, rfl, ru⟩ := rv.one
  obtain ⟨z, its, n, r, hl, e⟩ := I.lstM hH
  refine call_meets F.slot_list_append ⟨_, e, rfl⟩ F.entry_list_append (F.args_list_append_2 _ _) (PySem.list_append l its.toArray n u (by rw [List.size_toArray]; omega)) ⟨e, ?_⟩
  refine ⟨.non, _, I.lset (its' := its ++ [u]) hH e (by simp) (r.append (.cons ru .nil)) ?_, rfl, q⟩
  rw [List.length_append, List.length_singleton]
  omega

def rPop : V → List V → Hp → VK → Prop := fun x vs H Q => ∃ l xs y, x = .ref l ∧ vs = [] ∧ H l = some (.lst xs) ∧ xs[xs.length - 1]? = some y ∧ Q y (upd H l (.lst xs.dropLast))
theorem mt_pop : MtM X "list.pop" rPop := by
  intro pins s σ H x vs v us Q I rx rv h
  obtain ⟨l, xs, y, rfl, rfl, hH, hy, q⟩ := h
  cases rx
  have hus := rv.zero
  subst hus
  obtain ⟨z, its, n, r, hl, e⟩ := I.lstM hH
  obtain ⟨u, hu, ru⟩ := r.get hy
  have hy' : its.toArray[its.toArray.size - 1]? = some u := by
    show its.toArray[its.length - 1]? = some u
    rw [← Array.getElem?_toList, ← hl]
    exact hu
  refine call_meets F.slot_list_pop ⟨_, e, rfl⟩ F.entry_list_pop (F.args_list_pop_1 _) (MeetsSeq.list_pop_last l its.toArray n u hy' (by rw [List.size_toArray]; omega)) ⟨e, ?_⟩
  refine ⟨y, _, I.lset (its' := its.dropLast) hH e ?_ r.dropLast ?_, ru, q⟩
  · show its.toArray.eraseIdxIfInBounds (its.toArray.size - 1) = its.dropLast.toArray
    rw [List.size_toArray, List.eraseIdxIfInBounds_toArray, erase_last]
  · rw [List.length_dropLast]
    omega

/-! ### list + list, list += list, list * int -/
/-! ### del xs[i] -/
end

/-! ### xs[a:b] = ys -/
section
variable {prog : Program} {w : World} {A : Around} {E : Value → Shared → Prop} {s : Shared}
end

section
variable {X : Cx}
end
end L2

namespace L2
open PySem PySem.Spec PyProof.Rows

theorem Vals.ints : ∀ {ns : List Int} {us : List Value}, Vals (ns.map V.int) us → IntsAre us ns
  | [], us, h => by
    rw [List.map_nil] at h
    cases h
    exact IntsAre.nil
  | n :: ns, us, h => by
    rw [List.map_cons] at h
    cases h with
    | cons r t =>
      obtain ⟨k, rfl⟩ := r
      exact IntsAre.cons n k (Vals.ints t)
theorem Vals.strs : ∀ {xs : List Str} {us : List Value}, Vals (xs.map V.str) us → StrsAre us xs
  | [], us, h => by
    rw [List.map_nil] at h
    cases h
    exact StrsAre.nil
  | x :: xs, us, h => by
    rw [List.map_cons] at h
    cases h with
    | cons r t =>
      obtain ⟨k, rfl⟩ := r
      exact StrsAre.cons x k (Vals.strs t)
/-! ### the library's walks over a list of ints, kept objects alone -/
section
variable {prog : Program} {w : World} {A : Around} {E : Value → Shared → Prop} {s : Shared} {l : Addr} {its : List Value} {ns : List Int} {Q : Value → Shared → Prop}
end

/-! ### the calls, by values (CallR of 03t; MtR of 06l) -/
section
variable {X : Cx}
/-! sorted, sort (fewer than 64 items: the library's own bound) -/
end

/-! ### list.index, flat items -/
section
variable {X : Cx}
end

/-! ### type(x) of an own instance; is, is not of a module's class -/
section
variable {X : Cx}
end

/-! ### any(xs), all(xs) of a list of bools -/
section
variable {X : Cx}
end

/-! ### == and != of data at any depth: none, bools, ints, texts, lists, tuples -/
mutual
inductive Dp (K : PySem.W.Frag) (H : Hp) : V → PyData → Prop
  | non : Dp K H .non .none
  | bl (b : Bool) : Dp K H (.bl b) (.bool b)
  | int (i : Int) : Dp K H (.int i) (.int i)
  | str (x : Str) : Dp K H (.str x) (.str x)
  | lst {a : Addr} {xs : List V} {ds : List PyData} : SqL K H a xs → DpAll K H xs ds → Dp K H (.ref a) (.list ds)
  | tup {a : Addr} {xs : List V} {ds : List PyData} : SqT K H a xs → DpAll K H xs ds → Dp K H (.ref a) (.tuple ds)
inductive DpAll (K : PySem.W.Frag) (H : Hp) : List V → List PyData → Prop
  | nil : DpAll K H [] []
  | cons {v : V} {vs : List V} {d : PyData} {ds : List PyData} : Dp K H v d → DpAll K H vs ds → DpAll K H (v :: vs) (d :: ds)
end
section
variable {X : Cx} {pins : List (Addr × Obj)} {σ : St} {H : Hp} {s : Shared}
mutual
theorem Dp.reads (I : Inv X pins σ H s) : ∀ (d : PyData) (v : V) (u : Value), Dp X.K H v d → RelV v u → ∃ as, Reads s.heap u d as
  | .none, _, _, h, r => by
    cases h
    cases r
    exact ⟨_, Reads.none⟩
  | .bool b, _, _, h, r => by
    cases h
    cases r
    exact ⟨_, Reads.bool b⟩
  | .int i, _, _, h, r => by
    cases h
    obtain ⟨t, rfl⟩ := r
    exact ⟨_, Reads.int i t⟩
  | .str x, _, _, h, r => by
    cases h
    obtain ⟨t, rfl⟩ := r
    exact ⟨_, Reads.str x t⟩
  | .list ds, _, _, h, r => by
    cases h with
    | lst hs ha =>
      cases r
      obtain ⟨its, rv, ⟨o, n, ho, hc, _, hd⟩, _⟩ := I.list hs
      obtain ⟨as, hr⟩ := Dp.readsAll I ds _ its ha rv
      exact ⟨_, Reads.list ho hc hd hr⟩
  | .tuple ds, _, _, h, r => by
    cases h with
    | tup hs ha =>
      cases r
      obtain ⟨its, rv, ⟨o, ho, hc, n, hd⟩, _⟩ := I.tuple hs
      obtain ⟨as, hr⟩ := Dp.readsAll I ds _ its ha rv
      exact ⟨_, Reads.tuple ho hc hd hr⟩
  | .dict _, _, _, h, _ => by cases h
theorem Dp.readsAll (I : Inv X pins σ H s) : ∀ (ds : List PyData) (vs : List V) (us : List Value), DpAll X.K H vs ds → Vals vs us → ∃ as, ReadsAll s.heap us ds as
  | [], _, _, h, r => by
    cases h
    cases r
    exact ⟨_, ReadsAll.nil⟩
  | d :: ds, _, _, h, r => by
    cases h with
    | cons h1 h2 =>
      cases r with
      | cons r1 r2 =>
        obtain ⟨as, q1⟩ := Dp.reads I d _ _ h1 r1
        obtain ⟨bs, q2⟩ := Dp.readsAll I ds _ _ h2 r2
        exact ⟨_, ReadsAll.cons q1 q2⟩
end
end
section
variable {X : Cx}
end
end L2

namespace L2
open PySem PySem.Spec PyProof.Rows
abbrev CellAt (h : Heap) (c : Addr) (v : Option Value) : Prop := h.IsCell c v
def relS (scope sc : Scope) : Scope :=
  { scope with names := scope.names.map fun (n, k) => if (k == .free && sc.kind == .function && sc.names.lookup n == some .cell) then (n, .cell) else (n, k) }

def cloFrom (cells : List (Str × Addr)) : List (Str × NameKind) → List (Str × Addr) → List (Str × Addr)
  | [], acc => acc
  | (n, k) :: r, acc => if k == .free then cloFrom cells r ((n, (cells.lookup n).getD 0) :: acc) else cloFrom cells r acc

theorem closure_loop (env : Env) (f : Str × NameKind → List (Str × Addr) → Sem (ForInStep (List (Str × Addr))))
    (hf : ∀ n k c, f (n, k) c = if k == .free then (do let a ← cellOf env n; pure (.yield ((n, a) :: c))) else pure (.yield c)) :
    ∀ (names : List (Str × NameKind)) (acc : List (Str × Addr)), (∀ y ∈ names, y.2 = .free → ∃ c, env.cells.lookup y.1 = some c) → forIn names acc f = pure (cloFrom env.cells names acc)
  | [], acc, _ => by rw [List.forIn_nil]; rfl
  | (n, k) :: r, acc, h => by
    rw [List.forIn_cons, hf]
    have ih := fun acc => closure_loop env f hf r acc fun y hy => h y (List.mem_cons_of_mem _ hy)
    unfold cloFrom
    by_cases hk : (k == NameKind.free) = true
    · rw [if_pos hk, if_pos hk]
      obtain ⟨c, hc⟩ := h (n, k) List.mem_cons_self (by simpa using hk)
      have e : cellOf env n = pure c := by unfold cellOf; rw [hc]
      rw [e]
      have e2 : (env.cells.lookup n).getD 0 = c := by rw [hc]; rfl
      rw [e2]
      exact ih _
    · rw [if_neg hk, if_neg hk]
      exact ih _
theorem closure_ok {scope : Scope} {env : Env} (h : ∀ y ∈ scope.names, y.2 = .free → ∃ c, env.cells.lookup y.1 = some c) : closureFor scope env = pure (cloFrom env.cells scope.names []) := by
  simp only [closureFor]
  rw [closure_loop env _ (fun n k c => rfl) scope.names [] h]
  rfl

theorem mem_lookup {α : Type} : ∀ {l : List (Str × α)} {n : Str} {c : α}, (n, c) ∈ l → ∃ c', l.lookup n = some c'
  | (k, v) :: r, n, c, h => by
    rw [List.lookup_cons]
    cases hb : n == k with
    | true => exact ⟨_, rfl⟩
    | false =>
      rcases List.mem_cons.mp h with e | h
      · cases e; simp at hb
      · exact mem_lookup h

theorem cloFrom_mem {cells : List (Str × Addr)} : ∀ {names : List (Str × NameKind)} {acc : List (Str × Addr)} {n : Str} {c : Addr}, (n, c) ∈ cloFrom cells names acc → (n, c) ∈ acc ∨ ((n, .free) ∈ names ∧ c = (cells.lookup n).getD 0)
  | [], _, _, _, h => .inl h
  | (m, k) :: r, acc, n, c, h => by
    unfold cloFrom at h
    split at h
    · rename_i hk
      have hk : k = .free := by simpa using hk
      rcases cloFrom_mem h with h | ⟨h1, h2⟩
      · rcases List.mem_cons.mp h with e | h
        · cases e; exact .inr ⟨hk ▸ List.mem_cons_self, rfl⟩
        · exact .inl h
      · exact .inr ⟨List.mem_cons_of_mem _ h1, h2⟩
    · rcases cloFrom_mem h with h | ⟨h1, h2⟩
      · exact .inl h
      · exact .inr ⟨List.mem_cons_of_mem _ h1, h2⟩
theorem cloFrom_acc {cells : List (Str × Addr)} : ∀ {names : List (Str × NameKind)} {acc : List (Str × Addr)} {p : Str × Addr}, p ∈ acc → p ∈ cloFrom cells names acc
  | [], _, _, h => h
  | (m, k) :: r, acc, p, h => by
    unfold cloFrom
    split
    · exact cloFrom_acc (List.mem_cons_of_mem _ h)
    · exact cloFrom_acc h
theorem cloFrom_has {cells : List (Str × Addr)} : ∀ {names : List (Str × NameKind)} {acc : List (Str × Addr)} {n : Str}, (n, .free) ∈ names → (n, (cells.lookup n).getD 0) ∈ cloFrom cells names acc
  | (m, k) :: r, acc, n, h => by
    unfold cloFrom
    rcases List.mem_cons.mp h with e | h
    · cases e
      exact cloFrom_acc List.mem_cons_self
    · split
      · exact cloFrom_has h
      · exact cloFrom_has h

theorem cells_mem : ∀ {names : List (Str × NameKind)} {h : Heap} {acc : List (Str × Addr)} {x : Str} {c : Addr}, (x, c) ∈ cellsFrom h.objs.size names acc →
    (x, c) ∈ acc ∨ ((x, .cell) ∈ names ∧ h.objs.size ≤ c ∧ CellAt (pushCells h names) c none)
  | [], _, _, _, _, h => .inl h
  | (n, k) :: r, h, acc, x, c, hm => by
    unfold cellsFrom at hm
    unfold pushCells
    split at hm
    · rename_i hk
      rw [if_pos hk]
      have hk : k = .cell := by simpa using hk
      rw [← Heap.size_push h { cls := .type "cell", data := .cell none }] at hm
      rcases cells_mem hm with hm | ⟨h1, h2, h3⟩
      · rcases List.mem_cons.mp hm with e | hm
        · cases e
          exact .inr ⟨hk ▸ List.mem_cons_self, Nat.le_refl _, _, pushCells_keeps r _ _ _ (Heap.get?_push_size _ rfl), rfl⟩
        · exact .inl hm
      · rw [Heap.size_push] at h2
        exact .inr ⟨List.mem_cons_of_mem _ h1, Nat.le_of_succ_le h2, h3⟩
    · rename_i hk
      rw [if_neg hk]
      rcases cells_mem hm with hm | ⟨h1, h2, h3⟩
      · exact .inl hm
      · exact .inr ⟨List.mem_cons_of_mem _ h1, h2, h3⟩
theorem cells_acc : ∀ {names : List (Str × NameKind)} {n : Nat} {acc : List (Str × Addr)} {p : Str × Addr}, p ∈ acc → p ∈ cellsFrom n names acc
  | [], _, _, _, h => h
  | (m, k) :: r, n, acc, p, h => by
    unfold cellsFrom
    split
    · exact cells_acc (List.mem_cons_of_mem _ h)
    · exact cells_acc h
theorem cells_has : ∀ {names : List (Str × NameKind)} {n : Nat} {acc : List (Str × Addr)} {x : Str}, (x, .cell) ∈ names → ∃ c, (x, c) ∈ cellsFrom n names acc
  | (m, k) :: r, n, acc, x, h => by
    unfold cellsFrom
    rcases List.mem_cons.mp h with e | h
    · cases e
      exact ⟨n, cells_acc List.mem_cons_self⟩
    · split
      · exact cells_has h
      · exact cells_has h
theorem cells_inj : ∀ {names : List (Str × NameKind)} {h : Heap} {acc : List (Str × Addr)} {x y : Str} {c : Addr}, (∀ p ∈ acc, p.2 < h.objs.size) → (∀ x y c, (x, c) ∈ acc → (y, c) ∈ acc → x = y) →
    (x, c) ∈ cellsFrom h.objs.size names acc → (y, c) ∈ cellsFrom h.objs.size names acc → x = y
  | [], _, _, _, _, _, _, hi, h1, h2 => hi _ _ _ h1 h2
  | (n, k) :: r, h, acc, x, y, c, hl, hi, h1, h2 => by
    unfold cellsFrom at h1 h2
    split at h1
    · rename_i hk
      rw [if_pos hk] at h2
      rw [← Heap.size_push h { cls := .type "cell", data := .cell none }] at h1 h2
      refine cells_inj (h := h.push _) (fun p hp => ?_) (fun x y c a b => ?_) h1 h2
      · rw [Heap.size_push]
        rcases List.mem_cons.mp hp with rfl | hp
        · exact Nat.lt_succ_self _
        · exact Nat.lt_succ_of_lt (hl p hp)
      · rcases List.mem_cons.mp a with e | a <;> rcases List.mem_cons.mp b with e' | b
        · cases e; cases e'; rfl
        · cases e; exact absurd (hl _ b) (Nat.lt_irrefl _)
        · cases e'; exact absurd (hl _ a) (Nat.lt_irrefl _)
        · exact hi _ _ _ a b
    · rename_i hk
      rw [if_neg hk] at h2
      exact cells_inj hl hi h1 h2

theorem newEnv_comp {M : Model} {A : Around} {E : Value → Shared → Prop} {s : Shared} {scope : Scope} {globals : Addr} {closure : List (Str × Addr)} {qual : Str} {func : Option Addr} {code : Value} {around : Env} {builtins : Addr} {Q : Env → Shared → Prop}
    (h : Q (newEnv scope s.heap.objs.size globals (cellsFrom (s.heap.objs.size + 1) scope.names closure) qual func code (some around) builtins)
      { s with heap := pushCells (s.heap.push { cls := .type "dict", data := .dict #[] }) scope.names }) :
    wpAny M A (newFunctionEnv scope globals closure [] qual func code (some around) builtins) Q E s := by
  simp only [newFunctionEnv, Option.isSome_some, if_true]
  refine wpAny_bind (wpAny_alloc ?_)
  refine wpAny_bind (wpAny_layCells _ (fun n k c => rfl) scope.names closure _ _ ?_)
  rw [show ({ s with heap := s.heap.push { cls := .type "dict", data := .dict #[] } } : Shared).heap.objs.size = s.heap.objs.size + 1 from Heap.size_push ..]
  rw [List.forIn_nil]
  exact wpAny_bind (wpAny_pure (wpAny_pure h))

/-- every name of the written scope, in the scope that runs -/
theorem lookup_relS {sc : Scope} : ∀ {names : List (Str × NameKind)} {x : Str} {k : NameKind},
    (names.map fun (n, k) => if (k == NameKind.free && sc.kind == .function && sc.names.lookup n == some .cell) then (n, NameKind.cell) else (n, k)).lookup x = some k →
    ∃ k', names.lookup x = some k' ∧ (k = k' ∨ (k' = .free ∧ k = .cell))
  | [], _, _, h => by simp at h
  | (n, k₀) :: r, x, k, h => by
    have ih := @lookup_relS sc r x k
    have h' : List.lookup x ((if (k₀ == NameKind.free && sc.kind == .function && sc.names.lookup n == some .cell) = true then (n, NameKind.cell) else (n, k₀)) :: (r.map _)) = some k := h
    cases hx : x == n with
    | true =>
      simp only [List.lookup_cons, hx]
      by_cases hc : (k₀ == NameKind.free && sc.kind == .function && sc.names.lookup n == some .cell) = true
      · rw [if_pos hc] at h'
        simp only [List.lookup_cons, hx] at h'
        cases h'
        simp only [Bool.and_eq_true, beq_iff_eq] at hc
        exact ⟨k₀, rfl, .inr ⟨hc.1.1, rfl⟩⟩
      · rw [if_neg hc] at h'
        simp only [List.lookup_cons, hx] at h'
        cases h'
        exact ⟨_, rfl, .inl rfl⟩
    | false =>
      simp only [List.lookup_cons, hx]
      by_cases hc : (k₀ == NameKind.free && sc.kind == .function && sc.names.lookup n == some .cell) = true
      · rw [if_pos hc] at h'
        simp only [List.lookup_cons, hx] at h'
        exact ih h'
      · rw [if_neg hc] at h'
        simp only [List.lookup_cons, hx] at h'
        exact ih h'
/-- the names of a comprehension's block: its own (with their places in N), or captured -/
structure BlkOk (N : List Str) (sc scope : Scope) (own : List (Str × Nat)) : Prop where
  kind : scope.kind = .function
  uniq : ∀ y ∈ scope.names, scope.names.lookup y.1 = some y.2
  ix : ∀ p ∈ own, N[p.2]? = some p.1
  free : ∀ y ∈ scope.names, y.2 = .free → sc.names.lookup y.1 = some .cell ∨ sc.names.lookup y.1 = some .free
  own : ∀ y ∈ scope.names, y.2 = .local ∨ y.2 = .cell → y.1 ∈ own.map (·.1) ∨ y.1 ∉ N
/-- the slots of the block's own names forgotten -/
def wipe (σ : St) : List Nat → St
  | [] => σ
  | v :: vs => (wipe σ vs).set v none
theorem wipe_length (σ : St) : ∀ vs : List Nat, (wipe σ vs).length = σ.length
  | [] => rfl
  | v :: vs => by unfold wipe; rw [List.length_set, wipe_length σ vs]
theorem wipe_some {σ : St} {i : Nat} {x : V} : ∀ {vs : List Nat}, (wipe σ vs)[i]? = some (some x) → σ[i]? = some (some x) ∧ i ∉ vs
  | [], h => ⟨h, by simp⟩
  | v :: vs, h => by
    unfold wipe at h
    by_cases hi : v = i
    · subst hi
      by_cases hv : v < (wipe σ vs).length
      · rw [List.getElem?_set_self hv] at h; cases h
      · rw [List.getElem?_eq_none (by simpa using hv)] at h; cases h
    · rw [List.getElem?_set_ne hi] at h
      obtain ⟨h1, h2⟩ := wipe_some h
      exact ⟨h1, by simp only [List.mem_cons, not_or]; exact ⟨fun e => hi e.symm, h2⟩⟩

/-- the context of a block that starts at s, its iterator's objects at fp -/
abbrev Cx.blk (X : Cx) (s : Shared) (H : Hp) (scope : Scope) (cenv : Env) (fp : List Addr) : Cx := { X with s_0 := s, H_0 := H, env := cenv, outer := X.stack, ex := fp, fn := fun x => scope.names.lookup x == some .cell, pn := [], xe := fun _ _ => False }
section
variable {X : Cx} {pins : List (Addr × Obj)} {σ : St} {H : Hp} {s : Shared}
theorem block_start {scope : Scope} {own : List (Str × Nat)} {fp : List Addr} (I : Inv X pins σ H s) (ok : BlkOk X.N X.env.scope scope own) (hN : X.N.Nodup) (hfp : ∀ b ∈ fp, FpOk X pins H b ∧ b < s.heap.objs.size) :
    Inv (X.blk s H scope (compEnvC scope (cellsFrom (s.heap.objs.size + 1) scope.names (cloFrom X.env.cells scope.names [])) s.heap.objs.size X.env) fp) [] (wipe σ (own.map (·.2))) H { s with heap := pushCells (s.heap.push { cls := .type "dict", data := .dict #[] }) scope.names } := by
  have hfree : ∀ y ∈ scope.names, y.2 = .free → ∃ c, X.env.cells.lookup y.1 = some c := fun y hy e => by
    rcases ok.free y hy e with k | k
    · exact I.ok.has _ (.inl k)
    · exact I.ok.has _ (.inr k)
  generalize hcenv : compEnvC scope (cellsFrom (s.heap.objs.size + 1) scope.names (cloFrom X.env.cells scope.names [])) s.heap.objs.size X.env = cenv
  have kp : ∀ b o, s.heap.get? b = some o → (pushCells (s.heap.push { cls := .type "dict", data := .dict #[] }) scope.names).get? b = some o := fun b o e => pushCells_keeps _ _ _ _ (Heap.get?_push_of_some _ e)
  have hL : cenv.locals = s.heap.objs.size := by rw [← hcenv]; rfl
  have hcl : cenv.cells = cellsFrom (s.heap.objs.size + 1) scope.names (cloFrom X.env.cells scope.names []) := by rw [← hcenv]; rfl
  have hsc : cenv.scope = relS scope X.env.scope := by rw [← hcenv]; rfl
  rw [← Heap.size_push s.heap { cls := .type "dict", data := .dict #[] }] at hcl
  have cm : ∀ {y c}, (y, c) ∈ cloFrom X.env.cells scope.names [] → X.env.cells.lookup y = some c ∧ c < s.heap.objs.size := fun {y c} hm => by
    rcases cloFrom_mem hm with hm | ⟨h1, rfl⟩
    · cases hm
    · obtain ⟨c, hc⟩ := hfree _ h1 rfl
      rw [hc]
      obtain ⟨w, z⟩ := I.cell _ _ hc
      exact ⟨rfl, z.lt⟩
  have mem : ∀ {y c}, cenv.cells.lookup y = some c → (X.env.cells.lookup y = some c ∧ c < s.heap.objs.size) ∨ (s.heap.objs.size + 1 ≤ c ∧ CellAt (pushCells (s.heap.push { cls := .type "dict", data := .dict #[] }) scope.names) c none) := fun {y c} e => by
    rw [hcl] at e
    rcases cells_mem (PySem.mem_of_lookup e) with hm | ⟨_, h2, h3⟩
    · exact .inl (cm hm)
    · rw [Heap.size_push] at h2; exact .inr ⟨h2, h3⟩
  have look : ∀ {y}, scope.names.lookup y = some .free → ∃ c, cenv.cells.lookup y = some c ∧ X.env.cells.lookup y = some c := fun {y} hl => by
    have hy : (y, NameKind.free) ∈ scope.names := PySem.mem_of_lookup hl
    obtain ⟨c', e'⟩ := mem_lookup (cells_acc (names := scope.names) (n := (s.heap.push { cls := .type "dict", data := .dict #[] }).objs.size) (cloFrom_has (cells := X.env.cells) (acc := []) hy))
    rw [← hcl] at e'
    refine ⟨c', e', ?_⟩
    rw [hcl] at e'
    rcases cells_mem (PySem.mem_of_lookup e') with hm | ⟨h1, _, _⟩
    · exact (cm hm).1
    · have := ok.uniq _ h1
      rw [hl] at this; cases this
  have okB : (X.blk s H scope cenv fp).Ok := by
    refine ⟨I.ok.mod, by show cenv.scope.kind = _; rw [hsc]; exact ok.kind, by show cenv.globals = _; rw [← hcenv]; exact I.ok.glob, by show cenv.builtins = _; rw [← hcenv]; exact I.ok.blt, by show s.heap.objs.size ≤ cenv.locals; rw [hL]; exact Nat.le_refl _,
      fun y z c e1 e2 => ?_, fun y hy => ?_, fun y c z e => ?_, I.ok.hd, I.ok.frames, .inl rfl, fun b hb => ⟨?_, fun y c e z => ?_⟩, I.bs, Nat.le_trans I.ok.bsz I.sz, fun b o e hb => ?_, fun b hb z => ?_, I.stack, I.stkFree⟩
    · have e1 : cenv.cells.lookup y = some c := e1
      have e2 : cenv.cells.lookup z = some c := e2
      rw [hcl] at e1 e2
      refine cells_inj (fun p hp => ?_) (fun y z c a b => I.ok.inj y z c (cm a).1 (cm b).1) (PySem.mem_of_lookup e1) (PySem.mem_of_lookup e2)
      rw [Heap.size_push]
      exact Nat.lt_succ_of_lt (cm (y := p.1) (c := p.2) hp).2
    · show ∃ c, cenv.cells.lookup y = some c
      have key : ∀ k, cenv.kindOf y = some k → (k = .cell ∨ k = .free) → ∃ c, cenv.cells.lookup y = some c := fun k hk hk' => by
        unfold Env.kindOf at hk
        rw [hsc] at hk
        obtain ⟨k', e, r⟩ := lookup_relS hk
        have : k' = .cell ∨ k' = .free := by
          rcases r with rfl | ⟨rfl, _⟩
          · exact hk'
          · exact .inr rfl
        rcases this with rfl | rfl
        · obtain ⟨c, hm⟩ := cells_has (n := (s.heap.push { cls := .type "dict", data := .dict #[] }).objs.size) (acc := cloFrom X.env.cells scope.names []) (PySem.mem_of_lookup e)
          obtain ⟨c', e'⟩ := mem_lookup hm
          exact ⟨c', by rw [hcl]; exact e'⟩
        · obtain ⟨c, h1, _⟩ := look e
          exact ⟨c, h1⟩
      rcases hy with hy | hy
      · exact key _ hy (.inl rfl)
      · exact key _ hy (.inr rfl)
    · have z : (scope.names.lookup y == some NameKind.cell) = true := z
      have z : scope.names.lookup y = some .cell := by simpa using z
      have e : cenv.cells.lookup y = some c := e
      rw [hcl] at e
      rcases cells_mem (PySem.mem_of_lookup e) with hm | ⟨_, h2, _⟩
      · rcases cloFrom_mem hm with hm | ⟨h1, _⟩
        · cases hm
        · have q := ok.uniq _ h1
          rw [z] at q; cases q
      · rw [Heap.size_push] at h2
        exact Nat.le_of_succ_le h2
    · show b ≠ cenv.locals
      rw [hL]; exact Nat.ne_of_lt (hfp b hb).2
    · have e : cenv.cells.lookup y = some c := e
      rcases mem e with ⟨h1, _⟩ | ⟨h1, _⟩
      · exact (hfp b hb).1.2.2.2.2.1 y c h1 z
      · have h2 : s.heap.objs.size + 1 ≤ b := by rw [← z]; exact h1
        exact absurd (Nat.lt_of_lt_of_le (hfp b hb).2 (Nat.le_of_succ_le h2)) (Nat.lt_irrefl _)
    · rcases (hfp b hb).1.2.2.2.1 with z | z
      · exact I.ok.noex b o e z
      · exact absurd (Nat.lt_of_lt_of_le (Heap.lt_size e) (Nat.le_trans I.ok.bsz z)) (Nat.lt_irrefl _)
    · rcases List.mem_cons.mp (I.stkSub b z) with z | z
      · exact (hfp b hb).1.2.1 z
      · exact (hfp b hb).1.2.2.1 z
  refine ⟨okB, rfl, I.bare, Un.kept kp, ⟨fun _ => none, ?_, fun i y av e1 e2 e3 => ?_⟩, fun y c e => ?_, ?_, fun y c e => ?_, fun p hp => ?_, I.hok.kept kp, by rw [wipe_length]; exact I.len⟩
  · show Heap.Ns _ cenv.locals _
    rw [hL]
    exact Heap.Ns.keeps (Heap.Ns.new ..) fun b o e => pushCells_keeps _ _ _ _ e
  · obtain ⟨e2, hne⟩ := wipe_some e2
    have hfr : scope.names.lookup y = some .free ∧ (cenv.kindOf y = some .cell ∨ cenv.kindOf y = some .free) := by
      have key : ∀ k, cenv.scope.names.lookup y = some k → k = .local ∨ k = .cell ∨ k = .free → scope.names.lookup y = some .free ∧ (cenv.kindOf y = some .cell ∨ cenv.kindOf y = some .free) := fun k hk hk' => by
        have hk0 := hk
        rw [hsc] at hk
        obtain ⟨k', e, r⟩ := lookup_relS hk
        have no : ¬ (k' = .local ∨ k' = .cell) := fun hh => by
          rcases ok.own _ (PySem.mem_of_lookup e) hh with e' | e'
          · obtain ⟨p, hp, hpy⟩ := List.mem_map.mp e'
            have e3 := ok.ix p hp
            have : p.1 = y := hpy
            rw [this] at e3
            exact hne (List.mem_map.mpr ⟨p, hp, nodup_ix hN e3 e1⟩)
          · exact e' (List.mem_of_getElem? e1)
        rcases r with rfl | ⟨rfl, rfl⟩
        · rcases hk' with rfl | rfl | rfl
          · exact absurd (.inl rfl) no
          · exact absurd (.inr rfl) no
          · exact ⟨e, .inr hk0⟩
        · exact ⟨e, .inl hk0⟩
      have e3 : Vis cenv.scope y := e3
      rcases e3 with e3 | e3 | e3
      · exact key _ e3 (.inl rfl)
      · exact key _ e3 (.inr (.inl rfl))
      · exact key _ e3 (.inr (.inr rfl))
    obtain ⟨m, hn, hl⟩ := I.loc
    have hvis : Vis X.env.scope y := (ok.free _ (PySem.mem_of_lookup hfr.1) rfl).elim (fun k => .inr (.inl k)) (fun k => .inr (.inr k))
    obtain ⟨w, r, q⟩ := hl i y av e1 e2 hvis
    refine ⟨w, r, .inr ⟨hfr.2, ?_⟩⟩
    obtain ⟨c, h1, h2⟩ := look hfr.1
    rcases q with ⟨k, _⟩ | ⟨_, c', e', z⟩
    · have k : X.env.scope.names.lookup y = some .local := k
      rcases ok.free _ (PySem.mem_of_lookup hfr.1) rfl with k' | k' <;> rw [show X.env.scope.names.lookup y = _ from k'] at k <;> cases k
    · rw [h2] at e'; cases e'
      exact ⟨c, h1, z.keeps kp⟩
  · have e : cenv.cells.lookup y = some c := e
    rcases mem e with ⟨h1, _⟩ | ⟨_, z⟩
    · obtain ⟨w, z⟩ := I.cell y c h1
      exact ⟨w, z.keeps kp⟩
    · exact ⟨_, z⟩
  · show H cenv.locals = none
    rw [hL]; exact I.hok.fresh (Nat.le_refl _)
  · have e : cenv.cells.lookup y = some c := e
    rcases mem e with ⟨h1, _⟩ | ⟨h1, _⟩
    · exact I.freeC y c h1
    · exact I.hok.fresh (Nat.le_of_succ_le h1)
  · exact absurd (show p ∈ ([] : List (Addr × Obj)) ++ [] from hp) (by simp)

/-- an item appended to a tracked list -/
theorem app_ok {E : Value → Shared → Prop} {D : Addr} {xs : List V} {y : V} {v : Value} {Q : Value → Shared → Prop} (I : Inv X pins σ H s) (hD : H D = some (.lst xs)) (hz : xs.length < sizeLine) (r : RelV y v)
    (h : ∀ s', Inv X pins σ (upd H D (.lst (xs ++ [y]))) s' → Q .none s') : wpAny (model X.prog X.w) X.A (call (.builtin "list.append") [.ref D, v]) Q E s := by
  obtain ⟨hz', its, n, ri, e⟩ := I.hok D _ hD
  have hl := ri.length
  refine append_at (hsz := by rw [List.size_toArray]; omega) e fun h' sb ho' => ?_
  refine h { s with heap := h' } (I.write (t' := s.toks) (by rw [hD]; trivial) (.inl rfl) (fun b u hb q => (sb.2 b hb).trans q) ⟨_, ho'⟩ ⟨by rw [List.length_append]; exact hz, its ++ [v], n + 1, ri.append (.cons r .nil), ?_⟩)
  rw [ho']
  simp

/-- a clause's tests -/
def PTs (X : Cx) (ifs : List Expr) (t : TT) : Prop :=
  ∀ (pins : List (Addr × Obj)) (s : Shared) (σ : St) (H : Hp) (Q : Bool → Hp → Prop), Inv X pins σ H s → t σ H Q →
    wpAny (model X.prog X.w) X.A (forIn ifs true fun c r => if r = true then do let ok ← isTrue c X.env (eval c X.env); pure (ForInStep.yield ok) else pure (ForInStep.yield r)) (TP X pins σ Q) X.xe s
def tYes : TT := fun _ H Q => Q true H
theorem pts_nil : PTs X [] tYes := fun _ _ _ H _ I h => wpAny_tests_nil ⟨H, I, h⟩
theorem pts_one {c : Expr} {t : TT} (h : PT X c t) : PTs X [c] t := fun pins s σ H Q I hw => wpAny_tests_one (h pins s σ H Q I hw)
end

theorem thnF {α : Type} {t : Sem α} {Q Q' : α → Shared → Prop} {M : Model} {A : Around} {E : Value → Shared → Prop} {s : Shared} (h : wpAny M A t Q (fun _ _ => False) s) (hQ : ∀ a s, Q a s → Q' a s) : wpAny M A t Q' E s := wpAny_mono h hQ fun _ _ z => False.elim z

/-- the loop of a list comprehension's block, the target of any form (codeAny_compLoop_tests asks a target that no tuple goes to; statement and proof follow it, PyProof/CompMap.lean:41-61, with the step letOwnedTupleGo kept) -/
theorem compLoop_any {prog : Program} {w : World} {A : Around} {R : Result → Shared → Prop} {s : Shared} {elt target iter : Expr} {ifs : List Expr} {scope : Scope} {pos : Pos} {it acc : Value} {env : Env} (I : Nat → Shared → Prop)
    (turn : ∀ n s, I n s → wpAny (model prog w) A (pyNext it) (fun r s₁ => match r with
      | none => R (.ok .next) s₁
      | some v => wpAny (model prog w) A (letOwnedTupleGo target it v) (fun _ s₁' => wpAny (model prog w) A (assign target env v) (fun _ s₂ =>
          wpAny (model prog w) A (forIn ifs true fun c r => if r = true then do let ok ← isTrue c env (eval c env); pure (ForInStep.yield ok) else pure (ForInStep.yield r)) (fun ok s₃ =>
            if ok = true then wpAny (model prog w) A (eval elt env) (fun x s₄ =>
              wpAny (model prog w) A (call (.builtin "list.append") [acc, x]) (fun _ s₅ => ∃ m, m < n ∧ I m s₅) (notedBy (model prog w) A env fun e s' => R (.error e) s') s₄) (notedBy (model prog w) A env fun e s' => R (.error e) s') s₃
            else ∃ m, m < n ∧ I m s₃) (notedBy (model prog w) A env fun e s' => R (.error e) s') s₂) (notedBy (model prog w) A env fun e s' => R (.error e) s') s₁') (notedBy (model prog w) A env fun e s' => R (.error e) s') s₁) (notedBy (model prog w) A env fun e s' => R (.error e) s') s)
    (n : Nat) (h : I n s) :
    codeAny (model prog w) A (.compLoop (.ListComp elt [⟨target, iter, ifs, 0⟩] scope pos) 0 it acc env) R s := by
  refine codeAny_loop rfl I (fun n s hI => ?_) n h
  show wpAny _ A ((compTurn (.ListComp elt [⟨target, iter, ifs, 0⟩] scope pos) 0 it acc env).onRaise (fun x => do noteFrame x env; theTreesLotGoes x)) _ _ s
  refine wpAny_noted ?_
  rw [compTurn_list]
  refine wpAny_bind (wpAny_standAt (wpAny_bind (wpAny_mono (turn n s hI) (fun r s₁ h₁ => ?_) fun _ _ h' => h')))
  cases r with
  | none => exact wpAny_pure h₁
  | some v =>
    refine wpAny_bind (wpAny_mono h₁ (fun _ s₁' h₁' => ?_) fun _ _ h' => h')
    refine wpAny_bind (wpAny_mono h₁' (fun _ s₂ h₂ => wpAny_bind (wpAny_mono h₂ (fun ok s₃ h₃ => ?_) fun _ _ h' => h')) fun _ _ h' => h')
    cases ok with
    | false => exact wpAny_pure ⟨rfl, h₃⟩
    | true =>
      exact wpAny_bind (wpAny_bind (wpAny_mono h₃ (fun x s₄ h₄ => wpAny_bind (wpAny_mono h₄ (fun _ s₅ h₅ => wpAny_pure (wpAny_pure ⟨rfl, h₅⟩)) fun _ _ h' => h')) fun _ _ h' => h'))

section
variable {X : Cx}
/-- [elt for target in iter if ..]: D the new list; W by the turn and a measure, Nx what a turn is to reach -/
def tLc (wi : TI) (g : TG) (tt : TT) (te : TE) (vs : List Nat) : TE := fun σ H Q => wi σ H fun J H1 => ∀ D, H1 D = none → ∃ W : Nat → Nat → Hp → Prop, (∃ m, W 0 m (upd H1 D (.lst []))) ∧ ∀ i m H, W i m H →
  (J.stop i H ∧ Q (.ref D) H) ∨ (J.go i H ∧ ∃ Nx : Hp → Prop, (∀ H', Nx H' → ∃ m', m' < m ∧ W (i + 1) m' H') ∧ ∀ x H', J.yld i H x H' → g x (wipe σ vs) H' fun σ2 H2 => wipe σ2 vs = wipe σ vs ∧ tt σ2 H2 fun b H3 =>
    if b = true then te σ2 H3 fun y H4 => ∃ acc, H4 D = some (.lst acc) ∧ acc.length < sizeLine ∧ Nx (upd H4 D (.lst (acc ++ [y]))) else Nx H3)
theorem lc_core {pins : List (Addr × Obj)} {s : Shared} {σ : St} {H : Hp} {Q : VK} {elt tg iter : Expr} {ifs : List Expr} {scope : Scope} {own : List (Str × Nat)} {pos pos' : Pos} {wi : TI} {g : TG} {tt : TT} {te : TE} {use : Option (Value → Sem Unit)} {Qf : Value → Shared → Prop}
    (hc : X.calm = true) (hN : X.N.Nodup) (I : Inv X pins σ H s) (hi : PI X tg iter wi) (ok : BlkOk X.N X.env.scope scope own)
    (hg : ∀ (s : Shared) (H : Hp) (C : Addr) (cl : List (Str × Addr)) (fp : List Addr), PG (X.blk s H scope (compEnvC scope cl C X.env) fp) tg g) (ht : ∀ (s : Shared) (H : Hp) (C : Addr) (cl : List (Str × Addr)) (fp : List Addr), PTs (X.blk s H scope (compEnvC scope cl C X.env) fp) ifs tt)
    (he : ∀ (s : Shared) (H : Hp) (C : Addr) (cl : List (Str × Addr)) (fp : List Addr), PE (X.blk s H scope (compEnvC scope cl C X.env) fp) elt te) (hs : ∀ x, foldedSetIterable iter X.env x = pure x)
    (h : tLc wi g tt te (own.map (·.2)) σ H Q)
    (hRR : ∀ D C s' m H', Inv X pins σ H' s' → Q (.ref D) H' → s'.heap.Ns C m → FpOk X pins H' C → compPost (model X.prog X.w) X.A X.xe use Qf (.ref D) C (.ok .next) s') :
    wpAny (model X.prog X.w) X.A (comprehension (.ListComp elt [⟨tg, iter, ifs, 0⟩] scope pos) scope X.env pos' (newList []) false (eval iter X.env) use) Qf X.xe s := by
  have hfree : ∀ y ∈ scope.names, y.2 = .free → ∃ c, X.env.cells.lookup y.1 = some c := fun y hy e => by
    rcases ok.free y hy e with k | k
    · exact I.ok.has _ (.inl k)
    · exact I.ok.has _ (.inr k)
  refine wpAny_comprehension_free (use := use) rfl hs (closure_ok hfree) ok.kind (fun y hy e => by rw [ok.uniq y hy, e])
    (thn (hi pins s σ H _ I h) fun xv s1 hx => thn hx fun itv s2 h2 => ?_)
  obtain ⟨it, fp, tn, J, H2, e, I2, T, st2, f2, q⟩ := h2
  subst e
  refine wpAny_newObj_type (newEnv_comp ?_) (by show 0 ≤ sizeLine; decide)
  generalize hD : s2.heap.objs.size = D
  have hDn : H2 D = none := I2.hok.fresh (Nat.le_of_eq hD)
  obtain ⟨W, ⟨m0, w0⟩, turn⟩ := q D hDn
  -- the new list
  generalize hs3 : ({ s2 with heap := s2.heap.push { cls := .type "list", data := .seq ([] : List Value).toArray } } : Shared) = s3
  have I3 : Inv X pins σ (upd H2 D (.lst [])) s3 := by
    rw [← hs3]
    refine I2.laid (t' := s2.toks) (fun b o e => Heap.get?_push_of_some _ e) (Nat.le_of_eq hD) ⟨Nat.zero_le _, [], 0, .nil, ?_⟩
    rw [← hD]
    exact Heap.get?_push_size _ rfl
  have h3 : s3.heap = s2.heap.push { cls := .type "list", data := .seq ([] : List Value).toArray } := by rw [← hs3]
  have sz : ∀ b ∈ fp, b < s2.heap.objs.size := fun b hb => by
    obtain ⟨o, e, _⟩ := T.obj _ _ st2 b hb
    exact Heap.lt_size e
  have f3 : ∀ b ∈ fp, FpOk X pins (upd H2 D (.lst [])) b ∧ b < s3.heap.objs.size := fun b hb => by
    have hlt := sz b hb
    refine ⟨⟨?_, (f2 b hb).2⟩, by rw [h3, Heap.size_push]; exact Nat.lt_succ_of_lt hlt⟩
    rw [upd_ne (by rw [← hD]; exact Nat.ne_of_lt hlt)]
    exact (f2 b hb).1
  have st3 : tn 0 s3.heap := T.keep _ _ _ st2 fun b _ o e => by rw [h3]; exact Heap.get?_push_of_some _ e
  have I4 := block_start I3 ok hN f3
  have pg := hg s3 (upd H2 D (.lst [])) s3.heap.objs.size (cellsFrom (s3.heap.objs.size + 1) scope.names (cloFrom X.env.cells scope.names [])) fp
  have pt := ht s3 (upd H2 D (.lst [])) s3.heap.objs.size (cellsFrom (s3.heap.objs.size + 1) scope.names (cloFrom X.env.cells scope.names [])) fp
  have pe := he s3 (upd H2 D (.lst [])) s3.heap.objs.size (cellsFrom (s3.heap.objs.size + 1) scope.names (cloFrom X.env.cells scope.names [])) fp
  show codeAny _ _ (.compStart (.ListComp elt [⟨tg, iter, ifs, 0⟩] scope pos) 0 (.ref it) (.ref D) (compEnvC scope (cellsFrom (s3.heap.objs.size + 1) scope.names (cloFrom X.env.cells scope.names [])) s3.heap.objs.size X.env)) (compPost (model X.prog X.w) X.A X.xe use Qf (.ref D) s3.heap.objs.size) { s3 with heap := pushCells (s3.heap.push { cls := .type "dict", data := .dict #[] }) scope.names }
  have nfp : ∀ b ∈ fp, (upd H2 D (.lst [])) b = none := fun b hb => (f3 b hb).1.1
  generalize hce : compEnvC scope (cellsFrom (s3.heap.objs.size + 1) scope.names (cloFrom X.env.cells scope.names [])) s3.heap.objs.size X.env = ce at I4 pg pt pe ⊢
  have cL : ce.locals = s3.heap.objs.size := by subst hce; rfl
  generalize hH3 : upd H2 D (.lst []) = H3 at I3 I4 pg pt pe w0 nfp f3
  generalize hs4 : ({ s3 with heap := pushCells (s3.heap.push { cls := .type "dict", data := .dict #[] }) scope.names } : Shared) = s4 at I4 ⊢
  have st4 : tn 0 s4.heap := T.keep _ _ _ st3 fun b _ o e => by rw [← hs4]; exact pushCells_keeps _ _ _ _ (Heap.get?_push_of_some _ e)
  have stat : ∀ {σ' : St} {H' : Hp} {s' : Shared}, Inv (X.blk s3 H3 scope ce fp) [] σ' H' s' → (∀ b ∈ fp, H' b = none) → ∀ b ∈ fp, FpOk (X.blk s3 H3 scope ce fp) [] H' b := fun {σ' H' s'} I' hn b hb =>
    ⟨hn b hb, (I'.ok.exf b hb).1, I'.ok.exfs b hb, .inl hb, fun x c e => (I'.ok.exf b hb).2 x c e, fun p hp => absurd (show p ∈ ([] : List (Addr × Obj)) ++ [] from hp) (by simp)⟩
  have loop : codeAny (model X.prog X.w) X.A (.compLoop (.ListComp elt [⟨tg, iter, ifs, 0⟩] scope pos) 0 (.ref it) (.ref D) ce) (compPost (model X.prog X.w) X.A X.xe use Qf (.ref D) s3.heap.objs.size) s4 := by
    refine compLoop_any (fun n s' => ∃ i H', Inv (X.blk s3 H3 scope ce fp) [] (wipe σ (own.map (·.2))) H' s' ∧ tn i s'.heap ∧ (∀ b ∈ fp, H' b = none) ∧ W i n H') ?_ m0 ⟨0, H3, I4, st4, nfp, w0⟩
    rintro n s5 ⟨i, H5, I5, st5, n5, w5⟩
    rcases turn i n H5 w5 with ⟨stop, qq⟩ | ⟨go, Nx, hNx, step⟩
    · have td := T.done (X.blk s3 H3 scope ce fp) rfl rfl rfl hc i [] s5 _ H5 (fun _ _ => False) I5 (stat I5 n5) st5 stop
      refine thnF td fun r s6 ⟨hr, I6⟩ => ?_
      subst hr
      -- back in the def's context
      have I7 : Inv X pins σ H5 s6 := I3.call' (ch := fp) I6.os I6.base I6.hok I6.bare fun b hb => ⟨(f3 b hb).1.2.2.2.1, (f3 b hb).1.2.1, (f3 b hb).1.2.2.2.2.1, (f3 b hb).1.2.2.2.2.2⟩
      have nC : H5 s3.heap.objs.size = none := by
        have z : H5 ce.locals = none := I6.free
        rw [cL] at z
        exact z
      obtain ⟨m, hn, _⟩ := I6.loc
      have hn : s6.heap.Ns ce.locals m := hn
      rw [cL] at hn
      exact hRR D s3.heap.objs.size s6 m H5 I7 qq hn (I3.fpOk (Nat.le_refl _) nC)
    · have ti := T.item (X.blk s3 H3 scope ce fp) rfl rfl rfl hc i [] s5 _ H5 (fun _ _ => False) I5 (stat I5 n5) st5 go
      refine thnF ti fun r s6 ⟨u, hr, h6⟩ => ?_
      subst hr
      refine thnF h6 fun _ s7 ⟨x, H7, I7, r7, y7, st7, n7⟩ => ?_
      have I7' := I7.pinned (stat I7 n7) (T.obj _ _ st7)
      refine thnF (pg _ s7 _ H7 x u _ I7' r7 (step x H7 y7)) fun _ s8 ⟨σ8, H8, I8, hw8, q8⟩ => ?_
      refine thnF (pt _ s8 σ8 H8 _ I8 q8) fun b s9 ⟨H9, I9, q9⟩ => ?_
      -- the turn's end
      have fin : ∀ {s' : Shared} {H' : Hp}, Inv (X.blk s3 H3 scope ce fp) ([] ++ pinsAt fp s7.heap) σ8 H' s' → Nx H' → ∃ m, m < n ∧ ∃ i H', Inv (X.blk s3 H3 scope ce fp) [] (wipe σ (own.map (·.2))) H' s' ∧ tn i s'.heap ∧ (∀ b ∈ fp, H' b = none) ∧ W i m H' := fun {s' H'} I' nx => by
        obtain ⟨m', hm, w'⟩ := hNx H' nx
        have pin' : ∀ b ∈ fp, ∀ o, s7.heap.get? b = some o → s'.heap.get? b = some o ∧ H' b = none := fun b hb o e =>
          let z := I'.pin (b, o) (List.mem_append_right _ (List.mem_append_right _ (mem_pinsAt hb e)))
          ⟨z.1, z.2.1⟩
        have hl : (wipe σ (own.map (·.2))).length = σ8.length := by rw [← hw8, wipe_length]
        refine ⟨m', hm, i + 1, H', (I'.unpinned (pins := [])).weak hl (fun j v e => ?_), T.keep _ _ _ st7 fun b hb o e => (pin' b hb o e).1, fun b hb => ?_, w'⟩
        · rw [← hw8] at e
          exact (wipe_some e).1
        · obtain ⟨o, e, _⟩ := T.obj _ _ st7 b hb
          exact (pin' b hb o e).2
      cases b with
      | false =>
        simp only [Bool.false_eq_true, if_false] at q9 ⊢
        exact fin I9 q9
      | true =>
        simp only [if_true] at q9 ⊢
        refine thnF (pe _ s9 σ8 H9 _ I9 q9) fun z s10 ⟨yv, H10, I10, r10, acc, hD10, hz10, nx⟩ => ?_
        exact app_ok (X := X.blk s3 H3 scope ce fp) I10 hD10 hz10 r10 fun s11 I11 => fin I11 nx
  exact codeAny_compStart_list loop (T.self X.A 0 _ _ _ st4 loop)
/-- as a value -/
theorem pe_lc {elt tg iter : Expr} {ifs : List Expr} {scope : Scope} {own : List (Str × Nat)} {pos : Pos} {wi : TI} {g : TG} {tt : TT} {te : TE} (hc : X.calm = true) (hN : X.N.Nodup) (hi : PI X tg iter wi) (ok : BlkOk X.N X.env.scope scope own)
    (hg : ∀ (s : Shared) (H : Hp) (C : Addr) (cl : List (Str × Addr)) (fp : List Addr), PG (X.blk s H scope (compEnvC scope cl C X.env) fp) tg g) (ht : ∀ (s : Shared) (H : Hp) (C : Addr) (cl : List (Str × Addr)) (fp : List Addr), PTs (X.blk s H scope (compEnvC scope cl C X.env) fp) ifs tt)
    (he : ∀ (s : Shared) (H : Hp) (C : Addr) (cl : List (Str × Addr)) (fp : List Addr), PE (X.blk s H scope (compEnvC scope cl C X.env) fp) elt te) (hs : ∀ x, foldedSetIterable iter X.env x = pure x := by intro _; rfl) :
    PE X (.ListComp elt [⟨tg, iter, ifs, 0⟩] scope pos) (tLc wi g tt te (own.map (·.2))) := by
  intro pins s σ H Q I h
  rw [eval_ListComp]
  refine lc_core hc hN I hi ok hg ht he hs h fun D C s' m H' I' q hn f => ⟨m, hn, fun h'' sb => ?_⟩
  obtain ⟨f0, f1, f2, f3, f4, f5⟩ := f
  exact ⟨.ref D, H', I'.turned (t' := s'.toks) (fun b o hb e => (sb.2 b hb).trans e) f0 f1 f3 f4 f5, rfl, q⟩
/-- name = [..] on one line, the name a local -/
theorem ps_setLc {i : Nat} {y : Str} {py : Pos} {elt tg iter : Expr} {ifs : List Expr} {scope : Scope} {own : List (Str × Nat)} {pos spos : Pos} {wi : TI} {g : TG} {tt : TT} {te : TE} (hc : X.calm = true) (hN : X.N.Nodup) (hy : X.N[i]? = some y) (hyl : X.env.scope.names.lookup y = some .local)
    (hsw : swapsWith (.ListComp elt [⟨tg, iter, ifs, 0⟩] scope pos) (some (.Name y py)) spos.line X.env = pure true) (hi : PI X tg iter wi) (ok : BlkOk X.N X.env.scope scope own)
    (hg : ∀ (s : Shared) (H : Hp) (C : Addr) (cl : List (Str × Addr)) (fp : List Addr), PG (X.blk s H scope (compEnvC scope cl C X.env) fp) tg g) (ht : ∀ (s : Shared) (H : Hp) (C : Addr) (cl : List (Str × Addr)) (fp : List Addr), PTs (X.blk s H scope (compEnvC scope cl C X.env) fp) ifs tt)
    (he : ∀ (s : Shared) (H : Hp) (C : Addr) (cl : List (Str × Addr)) (fp : List Addr), PE (X.blk s H scope (compEnvC scope cl C X.env) fp) elt te) (hs : ∀ x, foldedSetIterable iter X.env x = pure x := by intro _; rfl) :
    PS X (.Assign [.Name y py] (.ListComp elt [⟨tg, iter, ifs, 0⟩] scope pos) spos) (tAsg (tLc wi g tt te (own.map (·.2))) (gName i)) := by
  intro pins s σ H D I h
  rw [exec_Assign_Name_used _ _ _ _ hsw]
  refine wpAny_bind (wpAny_standAt (wpAny_bind ?_))
  show wpAny _ X.A (do let _ ← comprehension (.ListComp elt [⟨tg, iter, ifs, 0⟩] scope pos) scope X.env (firstIterPos [⟨tg, iter, ifs, 0⟩] pos) (newList []) false (eval iter X.env) (some (assign (.Name y py) X.env))) _ _ s
  have h : tLc wi g tt te (own.map (·.2)) σ H (fun x H1 => gName i x σ H1 D.nx) := h
  refine wpAny_bind (thn (lc_core (Qf := fun _ s' => SP X pins D .next s') hc hN I hi ok hg ht he hs h fun L C s' m H' I' q hn f => ?_) fun _ s' hq => wpAny_pure (wpAny_pure hq))
  show wpAny _ _ (assign (.Name y py) X.env (.ref L)) _ _ _
  refine wpAny_assign_Name (store_ok2 (v := V.ref L) I' hN hy (.inl hyl) rfl (fun s2 I2 ⟨a, sb, ha⟩ => ?_) (.inr hyl))
  obtain ⟨f0, f1, f2, f3, f4, f5⟩ := f
  have haC : C ≠ a := by
    rcases ha with z | z
    · rw [z]; exact f1
    · exact fun e => f4 y a z e.symm
  refine ⟨m, hn.sameBut sb haC, fun h3 sb3 => ?_⟩
  exact ⟨_, H', I2.turned (t' := s2.toks) (fun b o hb e => (sb3.2 b hb).trans e) f0 f1 f3 f4 f5, q⟩
theorem sw_true {elt : Expr} {gs : List Comprehension} {scope : Scope} {pos py : Pos} {y : Str} {l : Nat} {env : Env} (hk : env.scope.kind = .function) (hy : env.scope.names.lookup y = some .local) (hl : (py.line == pos.line) = true)
    (ha : (scope.names.any fun (n, k) => n == y && (k == .local || k == .cell)) = false) : swapsWith (.ListComp elt gs scope pos) (some (.Name y py)) l env = pure true := by
  have ky : env.kindOf y = some .local := hy
  have hb : env.blockKind = .function := by unfold Env.blockKind; rw [hk]; rfl
  unfold swapsWith
  simp only [hb, ky, ha, Expr.pos, hl]
  rfl
end

/-! ### the forms one uses -/
def blkC (N : List Str) (sc scope : Scope) (own : List (Str × Nat)) : Bool :=
  (match scope.kind with | .function => true | _ => false) && (scope.names.all fun y => decide (scope.names.lookup y.1 = some y.2)) && (own.all fun p => decide (N[p.2]? = some p.1)) &&
    (scope.names.all fun y => match y.2 with
      | .free => (match sc.names.lookup y.1 with | some .cell => true | some .free => true | _ => false)
      | .local => decide (y.1 ∈ own.map (·.1)) || decide (y.1 ∉ N)
      | .cell => decide (y.1 ∈ own.map (·.1)) || decide (y.1 ∉ N)
      | _ => true)
theorem blkOk_by {N : List Str} {sc scope : Scope} {own : List (Str × Nat)} (h : blkC N sc scope own = true) : BlkOk N sc scope own := by
  unfold blkC at h
  simp only [Bool.and_eq_true, List.all_eq_true, decide_eq_true_eq] at h
  obtain ⟨⟨⟨h1, h2⟩, h3⟩, h4⟩ := h
  refine ⟨?_, h2, h3, fun y hy e => ?_, fun y hy e => ?_⟩
  · split at h1
    · assumption
    · cases h1
  · have q := h4 y hy
    simp only [e] at q
    split at q <;> first | exact .inl (by assumption) | exact .inr (by assumption) | cases q
  · have q := h4 y hy
    rcases e with e | e <;> (simp only [e, Bool.or_eq_true, decide_eq_true_eq] at q; exact q)
end L2

namespace L2
open PySem PySem.Spec PyProof.Rows

section
variable {prog : Program} {w : World} {A : Around} {R : Result → Shared → Prop} {s : Shared} {elt t0 i0 t1 i1 : Expr} {ifs0 ifs1 : List Expr} {scope : Scope} {pos : Pos} {it acc : Value} {env : Env}
end

section
variable {X : Cx}
end
end L2

namespace L2
open PySem PySem.Spec PyProof.Rows

/-! ### lists of pairs as tables -/
section
variable {κ : Type} [DecidableEq κ]
def valV (kvs : List (κ × V)) (k : κ) : Option V := (kvs.find? fun kv => decide (kv.1 = k)).map (·.2)
/-- in its place, or at the end -/
def putK (kvs : List (κ × V)) (k : κ) (v : V) : List (κ × V) :=
  if (kvs.any fun kv => decide (kv.1 = k)) = true then kvs.map (fun kv => if kv.1 = k then (kv.1, v) else kv) else kvs ++ [(k, v)]
def dropK (kvs : List (κ × V)) (k : κ) : List (κ × V) := kvs.filter fun kv => decide (kv.1 ≠ k)

theorem valV_pos {p : κ × V} {r : List (κ × V)} {k : κ} (e : p.1 = k) : valV (p :: r) k = some p.2 := by simp [valV, List.find?_cons, e]
theorem valV_neg {p : κ × V} {r : List (κ × V)} {k : κ} (e : ¬ p.1 = k) : valV (p :: r) k = valV r k := by simp [valV, List.find?_cons, e]
theorem valV_any (k : κ) : ∀ kvs : List (κ × V), (kvs.any fun kv => decide (kv.1 = k)) = (valV kvs k).isSome
  | [] => rfl
  | p :: r => by
    rw [List.any_cons]
    by_cases e : p.1 = k
    · simp only [valV_pos e, decide_eq_true e, Bool.true_or, Option.isSome_some]
    · rw [valV_neg e, decide_eq_false e, Bool.false_or]; exact valV_any k r
theorem length_putK (kvs : List (κ × V)) (k : κ) (v : V) : (putK kvs k v).length ≤ kvs.length + 1 := by
  unfold putK
  split
  · rw [List.length_map]; omega
  · rw [List.length_append, List.length_cons, List.length_nil]; omega
theorem RelO.isSome_eq {o : Option V} {u : Option Value} (r : RelO o u) : o.isSome = u.isSome := by
  cases o with
  | none => cases u with
    | none => rfl
    | some _ => exact (show False from r).elim
  | some _ => cases u with
    | none => exact (show False from r).elim
    | some _ => rfl
theorem RelO.getD {o : Option V} {u : Option Value} {d : V} {d' : Value} (r : RelO o u) (rd : RelV d d') : RelV (o.getD d) (u.getD d') := by
  cases o with
  | none => cases u with
    | none => exact rd
    | some _ => exact (show False from r).elim
  | some _ => cases u with
    | none => exact (show False from r).elim
    | some _ => exact r

/-- raw tables of the same keys -/
theorem KV.val {kvs : List (κ × V)} {vs : List (κ × Value)} (r : KV kvs vs) (k : κ) : RelO (valV kvs k) (valueAt vs k) := by
  unfold KV at r
  induction r with
  | nil => exact True.intro
  | @cons p q ps qs h t ih =>
    obtain ⟨h1, h2⟩ := h
    by_cases e : p.1 = k
    · have e' : q.1 = k := h1.symm.trans e
      have b : valueAt (q :: qs) k = some q.2 := by simp [valueAt, List.find?_cons, e']
      rw [valV_pos e, b]; exact h2
    · have e' : ¬ q.1 = k := fun z => e (h1.trans z)
      have b : valueAt (q :: qs) k = valueAt qs k := by simp [valueAt, List.find?_cons, e']
      rw [valV_neg e, b]; exact ih
theorem KV.any {kvs : List (κ × V)} {vs : List (κ × Value)} (r : KV kvs vs) (k : κ) : (kvs.any fun kv => decide (kv.1 = k)) = vs.any fun kv => decide (kv.1 = k) := by
  unfold KV at r
  induction r with
  | nil => rfl
  | cons h t ih => rw [List.any_cons, List.any_cons, ih, h.1]
theorem KV.repl {kvs : List (κ × V)} {vs : List (κ × Value)} (r : KV kvs vs) (k : κ) {y : V} {u : Value} (ry : RelV y u) :
    KV (kvs.map fun kv => if kv.1 = k then (kv.1, y) else kv) (vs.map fun kv => if kv.1 = k then (kv.1, u) else kv) := by
  unfold KV at r ⊢
  induction r with
  | nil => exact .nil
  | @cons p q ps qs h t ih =>
    rw [List.map_cons, List.map_cons]
    refine .cons ?_ ih
    obtain ⟨h1, h2⟩ := h
    by_cases e : p.1 = k
    · rw [if_pos e, if_pos (h1.symm.trans e)]; exact ⟨h1, ry⟩
    · rw [if_neg e, if_neg (fun z => e (h1.trans z))]; exact ⟨h1, h2⟩
theorem KV.put {kvs : List (κ × V)} {vs : List (κ × Value)} (r : KV kvs vs) (k : κ) {y : V} {u : Value} (ry : RelV y u) : KV (putK kvs k y) (stored vs k u) := by
  unfold putK stored
  rw [r.any k]
  by_cases e : (vs.any fun kv => decide (kv.1 = k)) = true
  · rw [if_pos e, if_pos e]; exact r.repl k ry
  · rw [if_neg e, if_neg e]; exact Paired.snoc r ⟨rfl, ry⟩
theorem KV.drop {kvs : List (κ × V)} {vs : List (κ × Value)} (r : KV kvs vs) (k : κ) : KV (dropK kvs k) (without vs k) := by
  unfold KV at r ⊢
  unfold dropK without
  induction r with
  | nil => exact .nil
  | @cons p q ps qs h t ih =>
    obtain ⟨h1, h2⟩ := h
    rw [List.filter_cons, List.filter_cons]
    by_cases e : p.1 = k
    · have a : ¬ decide (p.1 ≠ k) = true := by simp [e]
      have b : ¬ decide (q.1 ≠ k) = true := by simp [h1.symm.trans e]
      rw [if_neg a, if_neg b]; exact ih
    · have e' : ¬ q.1 = k := fun z => e (h1.trans z)
      have a : decide (p.1 ≠ k) = true := by simp [e]
      have b : decide (q.1 ≠ k) = true := by simp [e']
      rw [if_pos a, if_pos b]; exact .cons ⟨h1, h2⟩ ih
theorem KV.keys {kvs : List (κ × V)} {vs : List (κ × Value)} (r : KV kvs vs) : kvs.map (·.1) = vs.map (·.1) := by
  unfold KV at r
  induction r with
  | nil => rfl
  | cons h t ih => rw [List.map_cons, List.map_cons, ih, h.1]
theorem KV.length {kvs : List (κ × V)} {vs : List (κ × Value)} (r : KV kvs vs) : kvs.length = vs.length := Paired.length r
end


/-! ### a tracked dict, its keys ints and texts or tuples of these -/
theorem kV_is {P : Program} {w : World} {k : Key} {u : Value} (r : RelV (kV k) u) : (mixKind P w).is k u = true := by
  cases k with
  | inl i => obtain ⟨t, e⟩ := (show ∃ t, u = Value.int i t from r); subst e; exact mixKind_int P w i t
  | inr x => obtain ⟨t, e⟩ := (show ∃ t, u = Value.str x t from r); subst e; exact mixKind_str P w x t
theorem items_are {P : Program} {w : World} : ∀ {ks : List Key} {us : List Value}, Vals (ks.map kV) us → ItemsAre (mixKind P w) ks us
  | [], _, r => by rw [List.map_nil] at r; cases r; exact .nil
  | k :: ks, _, r => by
    rw [List.map_cons] at r
    cases r with
    | cons h t => exact .cons (kV_is h) (items_are t)

/-- raw entries of a dict with tuple keys -/
abbrev KT (H : Hp) : List (List Key × V) → List (List Key × Addr × Value) → Prop := Paired fun p q => p.1 = q.1 ∧ H q.2.1 = some (.tup (p.1.map kV)) ∧ RelV p.2 q.2.2
theorem KT.val {H : Hp} {kvs : List (List Key × V)} {xs : List (List Key × Addr × Value)} (r : KT H kvs xs) (k : List Key) : RelO (valV kvs k) ((atKey xs k).map (·.2)) := by
  induction r with
  | nil => exact True.intro
  | @cons p q ps qs h t ih =>
    obtain ⟨h1, _, h2⟩ := h
    by_cases e : p.1 = k
    · have e' : q.1 = k := h1.symm.trans e
      have b : atKey (q :: qs) k = some q.2 := by simp [atKey, List.find?_cons, e']
      rw [valV_pos e, b]; exact h2
    · have e' : ¬ q.1 = k := fun z => e (h1.trans z)
      have b : atKey (q :: qs) k = atKey qs k := by simp [atKey, List.find?_cons, e']
      rw [valV_neg e, b]; exact ih
theorem KT.repl {H : Hp} {kvs : List (List Key × V)} {xs : List (List Key × Addr × Value)} (r : KT H kvs xs) (k : List Key) {y : V} {u : Value} (ry : RelV y u) :
    KT H (kvs.map fun kv => if kv.1 = k then (kv.1, y) else kv) (xs.map (putAt k u)) := by
  induction r with
  | nil => exact .nil
  | @cons p q ps qs h t ih =>
    rw [List.map_cons, List.map_cons]
    refine .cons ?_ ih
    obtain ⟨h1, h2, h3⟩ := h
    unfold putAt
    by_cases e : p.1 = k
    · rw [if_pos e, if_pos (h1.symm.trans e)]; exact ⟨h1, h2, ry⟩
    · rw [if_neg e, if_neg (fun z => e (h1.trans z))]; exact ⟨h1, h2, h3⟩
theorem KT.put {H : Hp} {kvs : List (List Key × V)} {xs : List (List Key × Addr × Value)} (r : KT H kvs xs) (k : List Key) {b : Addr} {y : V} {u : Value} (hb : H b = some (.tup (k.map kV))) (ry : RelV y u) :
    KT H (putK kvs k y) (storedH xs k b u) := by
  have e : (kvs.any fun kv => decide (kv.1 = k)) = (atKey xs k).isSome := by
    rw [valV_any, (r.val k).isSome_eq, Option.isSome_map]
  unfold putK storedH
  rw [e]
  by_cases q : (atKey xs k).isSome = true
  · rw [if_pos q, if_pos q]; exact r.repl k ry
  · rw [if_neg q, if_neg q]; exact Paired.snoc r ⟨rfl, hb, ry⟩
theorem KT.keeps {H H' : Hp} {kvs : List (List Key × V)} {xs : List (List Key × Addr × Value)} (r : KT H kvs xs) (ht : ∀ b ys, H b = some (.tup ys) → H' b = some (.tup ys)) : KT H' kvs xs :=
  Paired.mapP r fun _ _ z => ⟨z.1, ht _ _ z.2.1, z.2.2⟩

section
variable {P : Program} {w : World} {H : Hp} {h : Heap} {a : Addr}
theorem rd_of {u : HO} (ok : HOk P w H h) (e : Rd H a u) : ObjOk P w H h a u := e.ok ok
theorem dk_rd {kvs : List (Key × V)} (ok : HOk P w H h) (e : Rd H a (.dK kvs)) : kvs.length ≤ sizeLine ∧ (a == sysModules) = false ∧ ∃ vs, KV kvs vs ∧ h.DictOf (mixKind P w) a vs :=
  show ObjOk P w H h a (.dK kvs) from rd_of ok e
theorem dk_of {kvs : List (Key × V)} (ok : HOk P w H h) (e : H a = some (.dK kvs)) : kvs.length ≤ sizeLine ∧ (a == sysModules) = false ∧ ∃ vs, KV kvs vs ∧ h.DictOf (mixKind P w) a vs := dk_rd ok (.inl e)
/-- a tracked tuple of ints and texts is a key -/
theorem key_of {ks : List Key} (ok : HOk P w H h) (e : H a = some (.tup (ks.map kV))) : (tupleKind (mixKind P w)).is h ks a := by
  obtain ⟨_, its, r, o, h1, h2, _, n, h3⟩ := (show ObjOk P w H h a (.tup (ks.map kV)) from ok a _ e)
  exact ⟨o, its.toArray, n, h1, h2, h3, by simpa using items_are r⟩
theorem dt_rd {kvs : List (List Key × V)} (ok : HOk P w H h) (e : Rd H a (.dT kvs)) : kvs.length ≤ sizeLine ∧ (a == sysModules) = false ∧
    ∃ xs, KT H kvs xs ∧ h.DictOfH (tupleKind (mixKind P w)) a xs := by
  obtain ⟨z, y, xs, r, o, es, ep, h1, h2, h3, h4, h5⟩ := (show ObjOk P w H h a (.dT kvs) from rd_of ok e)
  refine ⟨z, y, xs, r, o, es, ep, h1, h2, h3, h4, fun x hx => ?_, h5⟩
  have all : ∀ {l : List (List Key × V)} {m : List (List Key × Addr × Value)}, KT H l m → ∀ x ∈ m, (tupleKind (mixKind P w)).is h x.1 x.2.1 := by
    intro l m q
    induction q with
    | nil => intro x hx; exact nomatch hx
    | @cons p q ps qs hq t ih =>
      intro x hx
      rcases List.mem_cons.mp hx with e | hx
      · subst e
        exact key_of ok (by rw [← hq.1]; exact hq.2.1)
      · exact ih x hx
  exact all r x hx
theorem dt_of {kvs : List (List Key × V)} (ok : HOk P w H h) (e : H a = some (.dT kvs)) : kvs.length ≤ sizeLine ∧ (a == sysModules) = false ∧
    ∃ xs, KT H kvs xs ∧ h.DictOfH (tupleKind (mixKind P w)) a xs := dt_rd ok (.inl e)
end

/-- what the dict at a holds at the key y -/
def DGet (H : Hp) (a : Addr) (y : V) (r : Option V) : Prop :=
  (∃ kvs k, Rd H a (.dK kvs) ∧ y = kV k ∧ r = valV kvs k) ∨ ∃ kvs k b, Rd H a (.dT kvs) ∧ y = .ref b ∧ H b = some (.tup (k.map kV)) ∧ r = valV kvs k
/-- the heap behind a[y] = v -/
def DPut (H : Hp) (a : Addr) (y v : V) (H' : Hp) : Prop :=
  (∃ kvs k, H a = some (.dK kvs) ∧ y = kV k ∧ kvs.length < sizeLine ∧ H' = upd H a (.dK (putK kvs k v))) ∨
  ∃ kvs k b, H a = some (.dT kvs) ∧ y = .ref b ∧ H b = some (.tup (k.map kV)) ∧ kvs.length < sizeLine ∧ H' = upd H a (.dT (putK kvs k v))
theorem DGet.k {H : Hp} {a : Addr} {kvs : List (Key × V)} {k : Key} (e : H a = some (.dK kvs)) : DGet H a (kV k) (valV kvs k) := .inl ⟨kvs, k, .inl e, rfl, rfl⟩
theorem DGet.t {H : Hp} {a b : Addr} {kvs : List (List Key × V)} {k : List Key} (e : H a = some (.dT kvs)) (eb : H b = some (.tup (k.map kV))) : DGet H a (.ref b) (valV kvs k) := .inr ⟨kvs, k, b, .inl e, rfl, eb, rfl⟩
theorem DPut.k {H : Hp} {a : Addr} {kvs : List (Key × V)} {k : Key} {v : V} (e : H a = some (.dK kvs)) (hl : kvs.length < sizeLine) : DPut H a (kV k) v (upd H a (.dK (putK kvs k v))) := .inl ⟨kvs, k, e, rfl, hl, rfl⟩
theorem DPut.t {H : Hp} {a b : Addr} {kvs : List (List Key × V)} {k : List Key} {v : V} (e : H a = some (.dT kvs)) (eb : H b = some (.tup (k.map kV))) (hl : kvs.length < sizeLine) :
    DPut H a (.ref b) v (upd H a (.dT (putK kvs k v))) := .inr ⟨kvs, k, b, e, rfl, eb, hl, rfl⟩


section
variable {X : Cx} {pins : List (Addr × Obj)} {σ : St} {H : Hp} {s : Shared} {a : Addr} {y v : V} {u r : Value} {o : Option V} {A : Around} {E : Value → Shared → Prop}

theorem Inv.big (I : Inv X pins σ H s) : sysModules < s.heap.objs.size := by
  have h : mainGlobals < s.heap.objs.size := (I.mod.glob.keeps I.bk).lt
  exact Nat.lt_trans (by decide) h

/-- d[y], there -/
theorem d_getItem {Q : Value → Shared → Prop} (hu : A.units + 1 < cLine) (I : Inv X pins σ H s) (g : DGet H a y (some v)) (ry : RelV y u) (h : ∀ w' s', Inv X pins σ H s' → RelV v w' → Q w' s') :
    wpAny (model X.prog X.w) A (getItem (.ref a) u) Q E s := by
  rcases g with ⟨kvs, k, e, ey, l⟩ | ⟨kvs, k, b, e, ey, eb, l⟩
  · subst ey
    obtain ⟨z, hd, vs, rel, dd⟩ := dk_rd I.hok e
    obtain ⟨w', hw, rw'⟩ := RelO.some_of (v := v) (o := valueAt vs k) (by rw [l]; exact rel.val k)
    exact wpAny_getItem_of (kV_is ry) dd.mapOf hw (h w' _ (I.tok _) rw')
  · subst ey
    cases (show u = Value.ref b from ry)
    obtain ⟨z, hd, xs, rel, dd⟩ := dt_rd I.hok e
    obtain ⟨w', hw, rw'⟩ := RelO.some_of (v := v) (o := (atKey xs k).map (·.2)) (by rw [l]; exact rel.val k)
    obtain ⟨p, hp, hp2⟩ := Option.map_eq_some_iff.mp hw
    refine wpAny_getItem_heap (tupleKind_room_in1 hu) (key_of I.hok eb) dd hp ?_
    rw [hp2]
    exact h w' _ (I.tok _) rw'
/-- a dict's object is replaced -/
theorem d_write {h' : Heap} {t' : Nat} {ob : HO} (I : Inv X pins σ H s) (mu : Mut (H a)) (hs : Heap.SameBut a s.heap h') (he : ∃ q, h'.get? a = some q) (new : ObjOk X.prog X.w (upd H a ob) h' a ob) :
    Inv X pins σ (upd H a ob) { s with heap := h', toks := t' } :=
  I.write (x := a) (e := a) mu (.inl rfl) (fun b q hb z => (hs.2 b hb).trans z) he new
theorem dk_new {P : Program} {w : World} {H' : Hp} {h' : Heap} {kvs : List (Key × V)} {vs : List (Key × Value)} (z : kvs.length ≤ sizeLine) (hd : (a == sysModules) = false) (rel : KV kvs vs) (dd : h'.DictOf (mixKind P w) a vs) :
    ObjOk P w H' h' a (.dK kvs) := ⟨z, hd, vs, rel, dd⟩
/-- d[y] = v -/
theorem d_setItem {H' : Hp} {Q : Unit → Shared → Prop} (hu : A.units + 1 < cLine) (I : Inv X pins σ H s) (g : DPut H a y v H') (ry : RelV y u) (rv : RelV v r) (h : ∀ s', Inv X pins σ H' s' → Q () s') :
    wpAny (model X.prog X.w) A (setItem (.ref a) u r) Q E s := by
  rcases g with ⟨kvs, k, e, ey, l, eH⟩ | ⟨kvs, k, b, e, ey, eb, l, eH⟩
  · subst ey eH
    obtain ⟨z, hd, vs, rel, dd⟩ := dk_of I.hok e
    have hz : vs.length ≤ sizeLine := by rw [← rel.length]; exact z
    have hl : (putK kvs k v).length ≤ sizeLine := by have := length_putK kvs k v; omega
    refine wpAny_setItem_pairs (hsz := hz) (kV_is ry) dd fun h' dd' hs => h _ ?_
    have he : ∃ q, h'.get? a = some q := let ⟨q, _, _, hq, _⟩ := dd'; ⟨q, hq⟩
    exact d_write I (by rw [e]; exact True.intro) hs he (dk_new hl hd (rel.put k rv) dd')
  · subst ey eH
    cases (show u = Value.ref b from ry)
    obtain ⟨z, hd, xs, rel, dd⟩ := dt_of I.hok e
    have hz : xs.length ≤ sizeLine := by rw [← Paired.length rel]; exact z
    have hl : (putK kvs k v).length ≤ sizeLine := by have := length_putK kvs k v; omega
    refine wpAny_setItem_heap (hsz := hz) (tupleKind_room_in1 hu) (key_of I.hok eb) dd fun h' dd' hs => h _ ?_
    obtain ⟨q, es, ep, hq, h2, h3, h4, _, h5⟩ := dd'
    refine d_write I (by rw [e]; exact True.intro) hs ⟨q, hq⟩ ⟨hl, hd, _, (rel.put k eb rv).keeps fun c ys ec => ?_, q, es, ep, hq, h2, h3, h4, h5⟩
    rw [upd_ne (ne_of ec e (fun z => nomatch z))]
    exact ec
end

section
variable {X : Cx} {pins : List (Addr × Obj)} {σ : St} {H : Hp} {s : Shared} {a : Addr} {kvs : List (Key × V)} {k : Key} {u : Value} {A : Around} {E : Value → Shared → Prop}
end


/-! ### readings and rules -/
/-- the element of a subscription, not a slice -/
def NoSl (i : Expr) : Prop := ∀ ov iv, subscripted i false ov iv = operate [ov, iv] (getItem ov iv)
theorem subD_of {prog : Program} {w : World} {A : Around} {E : Value → Shared → Prop} {s : Shared} {env : Env} {value slice : Expr} {pos : Pos} {T id : String} {Q : Value → Shared → Prop}
    (hl : typeLookup (.type T) "__getitem__" = pure (some (.builtin id))) (hs : NoSl slice)
    (h : wpAny (model prog w) A (eval value env) (fun o s₁ => wpAny (model prog w) A (eval slice env) (fun i s₂ => s₂.TypeIs o T ∧ wpAny (model prog w) A (getItem o i) Q E s₂) E s₁) E s) :
    wpAny (model prog w) A (eval (.Subscript value slice pos) env) Q E s := by
  refine Subscript_ (wpAny_mono h (fun o s₁ h₁ => wpAny_mono h₁ (fun i s₂ h₂ => ?_) fun _ _ x => x) fun _ _ x => x)
  obtain ⟨hT, h₂⟩ := h₂
  unfold subscriptTail
  refine wpAny_bind ?_
  rw [getitemInPython_of_ne hT.not_modules]
  refine wpAny_bind (wpAny_specialOf hT hl ?_)
  have fin : wpAny (model prog w) A (subscripted slice false o i) (fun r s₃ => wpAny (model prog w) A (letTemporaryGo value o r >>= fun _ => pure r) Q E s₃) E s₂ := by
    rw [hs o i]
    exact wpAny_operating (wpAny_mono h₂ (fun r s₃ h₃ => wpAny_bind (wpAny_letTemporaryGo (wpAny_pure h₃))) fun _ _ x => x)
  first
    | exact wpAny_pure (wpAny_bind fin)
    | exact wpAny_bind (wpAny_pure (wpAny_bind fin))
    | exact wpAny_bind fin

theorem dict_typeIs {X : Cx} {pins : List (Addr × Obj)} {σ : St} {H : Hp} {s : Shared} {a : Addr} {y : V} {o : Option V} (I : Inv X pins σ H s) (g : DGet H a y o) : s.TypeIs (.ref a) "dict" := by
  rcases g with ⟨kvs, k, e, _, _⟩ | ⟨kvs, k, b, e, _, _, _⟩
  · obtain ⟨_, _, vs, _, dd⟩ := dk_rd I.hok e
    exact dd.typeIs
  · obtain ⟨_, _, xs, _, dd⟩ := dt_rd I.hok e
    exact dd.typeIs
/-- d[y] -/
def tDGet (td ty : TE) : TE := fun σ H Q => td σ H fun x H1 => ty σ H1 fun y H2 => ∃ a v, x = .ref a ∧ DGet H2 a y (some v) ∧ Q v H2
/-- d[y] = v -/
def sDPut (td ty tv : TE) : TS := fun D σ H => tv σ H fun v H1 => td σ H1 fun x H2 => ty σ H2 fun y H3 => ∃ a H4, x = .ref a ∧ DPut H3 a y v H4 ∧ D.nx σ H4
section
variable {X : Cx} {o i e value : Expr} {pos pos' tpos : Pos} {td ty tv : TE}
theorem pe_dget (hu : X.A.units + 1 < cLine) (ho : PE X o td) (hi : PE X i ty) (hs : NoSl i) : PE X (.Subscript o i pos) (tDGet td ty) := by
  intro pins s σ H Q I h
  refine subD_of PySem.F.slot_dict_getitem.lookup hs (thn (ho pins s σ H _ I h) fun u s1 ⟨x, H1, I1, rx, q1⟩ => thn (hi pins s1 σ H1 _ I1 q1) fun iv s2 ⟨y, H2, I2, ry, a, v, ex, g, q2⟩ => ?_)
  subst ex
  obtain rfl : u = Value.ref a := rx
  exact ⟨dict_typeIs I2 g, d_getItem hu I2 g ry fun w' s3 I3 rw' => ⟨v, H2, I3, rw', q2⟩⟩
theorem ps_dput (hu : X.A.units + 1 < cLine) (ho : PE X o td) (hi : PE X i ty) (hv : PE X value tv) (hs : swapsWith value (some (.Subscript o i pos')) pos.line X.env = pure false) :
    PS X (.Assign [.Subscript o i pos'] value pos) (sDPut td ty tv) := by
  intro pins s σ H D I h
  refine wpAny_Assign_Subscript (thn (hv pins s σ H _ I h) fun r s1 ⟨v, H1, I1, rv, q1⟩ => thn (ho pins s1 σ H1 _ I1 q1) fun u s2 ⟨x, H2, I2, rx, q2⟩ => thn (hi pins s2 σ H2 _ I2 q2) fun iv s3 ⟨y, H3, I3, ry, a, H4, ex, g, q3⟩ => ?_) hs
  subst ex
  obtain rfl : u = Value.ref a := rx
  exact d_setItem hu I3 g ry rv fun s4 I4 => ⟨σ, H4, I4, q3⟩
end


/-! ### displays -/
theorem dk_empty {P : Program} {w : World} {H : Hp} (h : Heap) (hb : sysModules < h.objs.size) : ObjOk P w H (h.push { cls := .type "dict", data := .dict #[] }) h.objs.size (.dK []) :=
  ⟨Nat.zero_le _, beq_eq_false_iff_ne.mpr (Ne.symm (Nat.ne_of_lt hb)), [], .nil, Heap.DictOf.new h⟩
section
variable {X : Cx} {pos : Pos}
end

/-- the pairs of a display, from the left -/
def tPairs : List (TE × TE) → St → Hp → (List (V × V) → Hp → Prop) → Prop
  | [], _, H, Q => Q [] H
  | (tk, tv) :: r, σ, H, Q => tk σ H fun x H1 => tv σ H1 fun y H2 => tPairs r σ H2 fun ps H3 => Q ((x, y) :: ps) H3
abbrev VV : List (V × V) → List (Value × Value) → Prop := Paired fun p q => RelV p.1 q.1 ∧ RelV p.2 q.2
def PPs (X : Cx) (pos : Pos) (keys : List (Option Expr)) (values : List Expr) (trs : List (TE × TE)) : Prop :=
  ∀ (pins : List (Addr × Obj)) (s : Shared) (σ : St) (H : Hp) (Q : List (V × V) → Hp → Prop), Inv X pins σ H s → tPairs trs σ H Q →
    wpAny (model X.prog X.w) X.A (evalPairs (pairTrees keys values X.env pos)) (fun vs s' => ∃ ps H', Inv X pins σ H' s' ∧ VV ps vs ∧ Q ps H') X.xe s
theorem pps_nil {X : Cx} {pos : Pos} : PPs X pos [] [] [] := fun pins s σ H Q I h => pairTrees_nil_walk ⟨[], H, I, .nil, h⟩
theorem pps_cons {X : Cx} {pos : Pos} {k v : Expr} {ks : List (Option Expr)} {vs : List Expr} {tk tv : TE} {trs : List (TE × TE)} (hk : PE X k tk) (hv : PE X v tv) (hr : PPs X pos ks vs trs) :
    PPs X pos (some k :: ks) (v :: vs) ((tk, tv) :: trs) := fun pins s σ H Q I h =>
  pairTrees_cons_walk (thn (hk pins s σ H _ I h) fun u s1 ⟨x, H1, I1, rx, q1⟩ => thn (hv pins s1 σ H1 _ I1 q1) fun w2 s2 ⟨y, H2, I2, ry, q2⟩ =>
    thn (hr pins s2 σ H2 _ I2 q2) fun ws s3 ⟨ps, H3, I3, rel, q3⟩ => ⟨(x, y) :: ps, H3, I3, .cons ⟨rx, ry⟩ rel, q3⟩)

def mergeK (kvs more : List (Key × V)) : List (Key × V) := more.foldl (fun acc kv => putK acc kv.1 kv.2) kvs
theorem KV.merge : ∀ {more : List (Key × V)} {rs : List (Key × Value)} {kvs : List (Key × V)} {vs : List (Key × Value)}, KV more rs → KV kvs vs → KV (mergeK kvs more) (merged vs rs) := by
  intro more rs kvs vs r
  unfold KV at r
  induction r generalizing kvs vs with
  | nil => intro q; exact q
  | @cons p q ps qs h t ih =>
    intro r0
    have e : KV (putK kvs p.1 p.2) (stored vs q.1 q.2) := by
      have := r0.put p.1 h.2
      rw [← h.1]; exact this
    exact ih e
theorem length_mergeK : ∀ (more kvs : List (Key × V)), (mergeK kvs more).length ≤ kvs.length + more.length
  | [], kvs => by show kvs.length ≤ kvs.length + 0; omega
  | p :: r, kvs => by
    have h1 := length_mergeK r (putK kvs p.1 p.2)
    have h2 := length_putK kvs p.1 p.2
    show (mergeK (putK kvs p.1 p.2) r).length ≤ _
    rw [List.length_cons]; omega
theorem carries_of {P : Program} {w : World} : ∀ {kvs : List (Key × V)} {ws : List (Value × Value)}, VV (kvs.map fun kv => (kV kv.1, kv.2)) ws → ∃ rs, Carries (mixKind P w) ws rs ∧ KV kvs rs
  | [], _, r => by rw [List.map_nil] at r; cases r; exact ⟨[], True.intro, .nil⟩
  | p :: kvs, _, r => by
    rw [List.map_cons] at r
    cases r with
    | @cons a b as bs h t =>
      obtain ⟨rs, c, q⟩ := carries_of (P := P) (w := w) t
      obtain ⟨b1, b2⟩ := b
      exact ⟨(p.1, b2) :: rs, ⟨kV_is h.1, rfl, c⟩, .cons ⟨rfl, h.2⟩ q⟩
/-- {k: v, ..} with keys ints and texts; the new dict stands empty while the pairs are made -/
def tDisp (trs : List (TE × TE)) : TE := fun σ H Q => ∀ p, H p = none → tPairs trs σ (upd H p (.dK [])) fun ps H2 => H2 p = some (.dK []) ∧ ∃ kvs : List (Key × V), ps = kvs.map (fun kv => (kV kv.1, kv.2)) ∧ kvs.length ≤ 15 ∧ Q (.ref p) (upd H2 p (.dK (mergeK [] kvs)))
theorem pe_disp {X : Cx} {pos : Pos} {keys : List (Option Expr)} {values : List Expr} {trs : List (TE × TE)} (h : PPs X pos keys values trs) (hall : keys.all (·.isSome) = true) (hl : keys.length = values.length) (h0 : keys ≠ [])
    (h15 : keys.length ≤ 15) : PE X (.Dict keys values pos) (tDisp trs) := by
  intro pins s σ H Q I q
  have hn := I.hok.fresh (Nat.le_refl s.heap.objs.size)
  have I1 := I.laid (a := s.heap.objs.size) (o := .dK []) (h' := s.heap.push { cls := .type "dict", data := .dict #[] }) (t' := s.toks) (fun _ _ q => Heap.get?_push_of_some _ q) (Nat.le_refl _) (dk_empty s.heap I.big)
  refine wpAny_Dict_walk (knd := mixKind X.prog X.w) hall hl h0 h15 (thn (h pins _ σ _ _ I1 (q _ hn)) fun ws s2 ⟨ps, H2, I2, rel, e, kvs, ep, lk, q2⟩ => ?_)
  subst ep
  obtain ⟨rs, c, rk⟩ := carries_of (P := X.prog) (w := X.w) rel
  obtain ⟨z, hd, vs0, r0, dd⟩ := dk_of I2.hok e
  cases r0
  refine ⟨rs, c, dd, fun h' dd' hs => ⟨.ref s.heap.objs.size, _, ?_, rfl, q2⟩⟩
  have hz : (mergeK [] kvs).length ≤ sizeLine := by
    have h1 := length_mergeK kvs []
    rw [List.length_nil] at h1
    rw [sizeLine_eq]; omega
  have he : ∃ q, h'.get? s.heap.objs.size = some q := let ⟨q, _, _, hq, _⟩ := dd'; ⟨q, hq⟩
  exact d_write I2 (by rw [e]; exact True.intro) hs he (dk_new hz hd (rk.merge .nil) dd')


/-! ### methods -/
/-- a method call o.m(e) of a built-in, with one argument: what must be seen of the text -/
structure M1 (X : Cx) (o : Expr) (m : Str) (apos : Pos) (e : Expr) (cpos : Pos) : Prop where
  base : attributeBase o m X.env (eval o X.env) = eval o X.env
  few : ((backTo cpos (starEach [e] X.env)).all (fun x => !x.1) && (backToKw cpos (keywordEach [] X.env)).all (fun x => x.1.isSome)
    && decide (([e] : List Expr).length + ([] : List Keyword).length + (if ([] : List Keyword).isEmpty then 0 else 1) < 30)) = true
  line : (apos.endLine == cpos.line) = true
  trees : backTo cpos (starEach [e] X.env) = [(false, eval e X.env)]
structure M2 (X : Cx) (o : Expr) (m : Str) (apos : Pos) (e f : Expr) (cpos : Pos) : Prop where
  base : attributeBase o m X.env (eval o X.env) = eval o X.env
  few : ((backTo cpos (starEach [e, f] X.env)).all (fun x => !x.1) && (backToKw cpos (keywordEach [] X.env)).all (fun x => x.1.isSome)
    && decide (([e, f] : List Expr).length + ([] : List Keyword).length + (if ([] : List Keyword).isEmpty then 0 else 1) < 30)) = true
  line : (apos.endLine == cpos.line) = true
  trees : backTo cpos (starEach [e, f] X.env) = [(false, eval e X.env), (false, eval f X.env)]

section
variable {X : Cx} {pins : List (Addr × Obj)} {σ : St} {H : Hp} {s : Shared} {a : Addr} {y d : V} {u r : Value} {o : Option V} {A : Around} {E : Value → Shared → Prop}
end

section
variable {X : Cx} {o e f : Expr} {apos cpos : Pos} {td ty tx : TE}
end

/-! ### dict(d): a copy -/
section
variable {X : Cx} {pins : List (Addr × Obj)} {σ : St} {H : Hp} {s : Shared} {a : Addr} {kvs : List (Key × V)} {A : Around} {E : Value → Shared → Prop}
end


section
variable {X : Cx} {pins : List (Addr × Obj)} {σ : St} {H : Hp} {s : Shared} {a : Addr} {y : V} {u : Value} {A : Around} {E : Value → Shared → Prop}
end
end L2

namespace L2
open PySem PySem.Spec PyProof.Rows

section
variable {prog : Program} {w : World} {A : Around} {E : Value → Shared → Prop}
end

section
variable {X : Cx}
end
end L2

namespace L2
open PySem PySem.Spec PyProof.Rows

section
variable {X : Cx} {pins : List (Addr × Obj)} {σ : St} {H : Hp} {s : Shared} {h' : Heap}
/-- several records of ours have turned -/
theorem Inv.turnedL {t' : Nat} {ch : List Addr} (I : Inv X pins σ H s) (k : ∀ b o, b ∉ ch → s.heap.get? b = some o → h'.get? b = some o) (hf : ∀ b ∈ ch, FpOk X pins H b) : Inv X pins σ H { s with heap := h', toks := t' } := by
  have nit : ∀ b u, H b = some u → b ∉ ch := fun b u e z => by
    have q := (hf b z).1
    rw [q] at e; cases e
  refine I.step (g' := s.gens) (d' := s.drawn) (ch := ch) (fun b hb => ⟨(hf b hb).2.2.2.1, (hf b hb).2.1, (hf b hb).2.2.2.2.1, (hf b hb).2.2.2.2.2⟩) (fun b o _ _ hc e _ => k b o hc e) (fun b o _ _ hc e _ => ⟨o.slots, k b o hc e⟩)
    (fun _ _ _ _ n => n) (fun b o hc e => ⟨o, k b o hc e⟩) (fun _ _ e => e) (fun _ _ _ e => e) (fun b ps e => ⟨#[], by rw [e]; simp⟩) (fun m hm => ?_) (fun b u e => ?_) I.bare
  · obtain ⟨o, es, ep, ho, r⟩ := hm
    exact ⟨o, es, ep, k _ o (fun z => (hf _ z).2.1 rfl) ho, r⟩
  · refine (I.hok b u e).stay (fun c v hc q => k c v ?_ q) (fun _ q => q) fun _ _ q => q
    rcases hc with z | z
    · rw [z]; exact nit b u e
    · exact nit c _ z
/-- .. and one new object is laid -/
theorem Inv.turnedNew {t' : Nat} {ch : List Addr} {T : Addr} {ob : HO} (I : Inv X pins σ H s) (k : ∀ b o, b ∉ ch → s.heap.get? b = some o → h'.get? b = some o) (hf : ∀ b ∈ ch, FpOk X pins H b) (hT : s.heap.objs.size ≤ T)
    (new : ObjOk X.prog X.w (upd H T ob) h' T ob) : Inv X pins σ (upd H T ob) { s with heap := h', toks := t' } := by
  have hn : H T = none := I.hok.fresh hT
  have nit : ∀ b u, H b = some u → b ∉ ch := fun b u e z => by
    have q := (hf b z).1
    rw [q] at e; cases e
  refine I.step (g' := s.gens) (d' := s.drawn) (ch := ch) (fun b hb => ⟨(hf b hb).2.2.2.1, (hf b hb).2.1, (hf b hb).2.2.2.2.1, (hf b hb).2.2.2.2.2⟩) (fun b o _ _ hc e _ => k b o hc e) (fun b o _ _ hc e _ => ⟨o.slots, k b o hc e⟩)
    (fun b o _ e n => ?_) (fun b o hc e => ⟨o, k b o hc e⟩) (fun b xs e => ?_) (fun b o u e => ?_) (fun b ps e => ⟨#[], ?_⟩) (fun m hm => ?_) (fun b u e => ?_) I.bare
  · rw [upd_ne (Nat.ne_of_lt (Nat.lt_of_lt_of_le (Heap.lt_size e) hT))]; exact n
  · rw [upd_ne (ne_of_none e hn)]; exact e
  · rw [upd_ne (ne_of_none e hn)]; exact e
  · rw [upd_ne (ne_of_none e hn), e]; simp
  · obtain ⟨o, es, ep, ho, r⟩ := hm
    exact ⟨o, es, ep, k _ o (fun z => (hf _ z).2.1 rfl) ho, r⟩
  · by_cases hb : b = T
    · subst hb
      rw [upd_same] at e
      cases e
      exact new
    · rw [upd_ne hb] at e
      refine (I.hok b u e).stay (fun c v hc q => k c v ?_ q) (fun c q => by rw [upd_ne (ne_of_none q hn)]; exact q) fun c xs q => by rw [upd_ne (ne_of_none q hn)]; exact q
      rcases hc with z | z
      · rw [z]; exact nit b u e
      · exact nit c _ z

/-! ### locking a thing while a statement runs -/
theorem Inv.lock {d : Addr} {u : HO} (I : Inv X pins σ H s) (h : H d = some u) (mu : Mut (some u)) : ∃ od, Inv X pins σ (upd H d (.frz od u)) s := by
  have x := I.hok d u h
  have ex : ∃ od, s.heap.get? d = some od := by
    cases u with
    | lst xs => obtain ⟨_, _, _, _, e⟩ := x; exact ⟨_, e⟩
    | dK kvs => obtain ⟨_, _, _, _, o, _, _, e, _⟩ := x; exact ⟨o, e⟩
    | dT kvs => obtain ⟨_, _, _, _, o, _, _, e, _⟩ := x; exact ⟨o, e⟩
    | set S n => obtain ⟨o, _, _, _, e, _⟩ := x; exact ⟨o, e⟩
    | ins C dx fs => obtain ⟨_, _, _, e, _⟩ := x; exact ⟨_, e⟩
    | ext φ => obtain ⟨_, ⟨_, e⟩, _⟩ := x; exact ⟨_, e⟩
    | _ => exact False.elim mu
  obtain ⟨od, e⟩ := ex
  have new : ObjOk X.prog X.w (upd H d (.frz od u)) s.heap d (.frz od u) := by
    refine ⟨e, x.stay (fun b v _ q => q) (fun b q => ?_) fun b xs q => ?_⟩
    · rw [upd_ne (fun z => by rw [z, h] at q; cases q; exact mu)]; exact q
    · rw [upd_ne (fun z => by rw [z, h] at q; cases q; exact mu)]; exact q
  exact ⟨od, I.write (x := d) (e := d) (t' := s.toks) (h' := s.heap) (by rw [h]; exact mu) (.inl rfl) (fun b v _ q => q) ⟨od, e⟩ new⟩
end
section
variable {X : Cx}
/-! ### one iterator just laid -/
end

/-! ### range with a step -/
section
variable {X : Cx} {tg : Expr}
end
/-! ### reversed(list) -/
section
variable {X : Cx} {tg : Expr}
end

/-! ### a str -/
/-! ### a dict's keys: any dict's entries -/
section
variable {prog : Program} {w : World} {A : Around} {E : Value → Shared → Prop} {s : Shared}
end

/-! ### a locked dict -/
section
variable {X : Cx} {pins : List (Addr × Obj)} {σ : St} {H : Hp} {s : Shared} {d : Addr} {o : Obj}
end

section
variable {P : Program} {w : World} {K : PySem.W.Frag} {tg : Expr} {d : Addr} {o : Obj} {es : Array DictEntry} {ep : Nat}
end

/-! ### for k in d, d.keys(), d.values(), d.items() -/
section
variable {X : Cx} {tg e : Expr} {td : TE} {apos cpos : Pos}
end

/-! ### enumerate(list) -/
/-! ### zip(list, list) -/
theorem boot_zip5 : bootBuiltins "zip" = some (.type "zip") := by decide +kernel
end L2

section 
namespace Bits
open PySem PyProof.Rows

end Bits
end 

section 
namespace TL
open PySem PySem.Builtin PySem.Builtin.Str PySem.StrLaws

abbrev tl (x : Str) : List Nat := x.cps.toList
/-! ### the list functions -/
/-- S stands at the head of l -/
def pre (S l : List Nat) : Bool := l.take S.length == S
/-- l cut at each S from the left; k signs are still to be passed over -/
def spl (S : List Nat) : Nat → List Nat → List Nat → List (List Nat)
  | _, acc, [] => [acc]
  | 0, acc, c :: r => if pre S (c :: r) = true then acc :: spl S (S.length - 1) [] r else spl S 0 (acc ++ [c]) r
  | k + 1, acc, _ :: r => spl S k acc r
/-- what stands before the first S, and behind it -/
def par (S : List Nat) : List Nat → List Nat → Option (List Nat × List Nat)
  | _, [] => none
  | acc, c :: r => if pre S (c :: r) = true then some (acc, (c :: r).drop S.length) else par S (acc ++ [c]) r

/-! ### the model's split and partition are these -/
/-! ### computing spl and par -/
/-! ### digits -/
/-! ### words: x.split() -/
end TL
end 

namespace L2
open PySem PySem.Spec PyProof.Rows

theorem notLong {n : Nat} (h : n ≤ 16777216) : Builtin.Str.tooLong n = false := by
  have e : (2 : Nat) ^ 24 = 16777216 := by decide
  unfold Builtin.Str.tooLong sizeLine
  exact decide_eq_false (by omega)

section
variable {X : Cx} {pins : List (Addr × Obj)} {σ : St} {H : Hp} {s : Shared} {Q : VK}
end

section
variable {X : Cx}

/-! ### of a text alone -/
theorem mt0 {id : String} {C : Str → Prop} {g : Str → V} (rule : ∀ (a : Str) (t : Tok) (s : Shared) (Q : Value → Shared → Prop), C a → (∀ (u : Value) (k : Nat), RelV (g a) u → Q u { s with toks := k }) →
    wpAny (model X.prog X.w) X.A (call (.builtin id) [.str a t]) Q X.xe s) : MtR X id (fun x xs H Q => ∃ a, x = .str a ∧ xs = [] ∧ C a ∧ Q (g a) H) := by
  intro pins s σ H x xs v us Q I rx rs h
  obtain ⟨a, rfl, rfl, hc, h⟩ := h
  obtain ⟨t, rfl⟩ := rx
  cases rs
  exact rule a t s _ hc fun u k r => ⟨g a, H, I.tok k, r, h⟩
theorem mt_lower : MtR X "str.lower" (fun x xs H Q => ∃ a, x = .str a ∧ xs = [] ∧ a.length ≤ 5592405 ∧ Q (.str (Txt.lower a)) H) :=
  mt0 (C := fun a => a.length ≤ 5592405) (g := fun a => .str (Txt.lower a)) fun a _ s _ hc h =>
    PySem.SC.lower (notLong (by have h1 : a.length ≤ 5592405 := hc; have := PyProof.Rows.len_lower a; omega)) (h _ (s.toks + 1) ⟨_, rfl⟩)
/-! ### of a text and a text -/
end

section
variable {X : Cx} {o e : Expr} {to te : TE}
def tM0 (r : V → List V → Hp → VK → Prop) (to : TE) : TE := fun σ H Q => to σ H fun x H1 => (∃ a, x = .str a) ∧ r x [] H1 Q
theorem pe_m0 {id : String} {name : Str} {apos pos : Pos} {r : V → List V → Hp → VK → Prop} (slot : Slot "str" name id) (ty : typeOf (.builtin id) = pure (.type "method_descriptor")) (rule : MtR X id r) (ho : PE X o to)
    (hbase : attributeBase o name X.env (eval o X.env) = eval o X.env := by rfl) (hline : (apos.endLine == pos.line) = true := by rfl) : PE X (.Call (.Attribute o name apos) [] [] pos) (tM0 r to) := by
  intro pins s σ H Q I h
  refine PySem.Call_method0 hbase hline (thn (ho pins s σ H _ I h) fun v s1 ⟨x, H1, I1, r1, q1⟩ => ?_)
  obtain ⟨⟨a, rfl⟩, q1⟩ := q1
  obtain ⟨t, rfl⟩ := _root_.id r1
  exact ⟨"str", _, F.plainAttrs_str, slot, ty, typeIs_str _ _ _, (fun _ e => nomatch e), Calls.callWith_builtin rfl (PySem.evalArgs_none (rule pins s1 σ H1 _ [] _ [] Q I1 r1 .nil q1))⟩
theorem pe_lower {apos pos : Pos} (ho : PE X o to) (hbase : attributeBase o "lower" X.env (eval o X.env) = eval o X.env := by rfl) (hline : (apos.endLine == pos.line) = true := by rfl) :
    PE X (.Call (.Attribute o "lower" apos) [] [] pos) (tM0 (fun x xs H Q => ∃ a, x = .str a ∧ xs = [] ∧ a.length ≤ 5592405 ∧ Q (.str (Txt.lower a)) H) to) :=
  pe_m0 F.slot_str_lower F.type_str_lower mt_lower ho hbase hline
end
end L2

namespace L2
open PySem PySem.Spec PyProof.Rows

section
variable {X : Cx}
end

/-! ### slices of a text -/
theorem IsPart.raw {v : Value} {o : Option Int} (p : IsPart v o) : ∃ l : Option (Int × Tok), v = partValue l ∧ l.map (·.1) = o := by
  cases p with
  | none => exact ⟨none, rfl, rfl⟩
  | int i t => exact ⟨some (i, t), rfl, rfl⟩

/-- a part, clipped, as the text's slice reckons it -/
def clipS (n d : Nat) : Option Int → Int
  | none => (d : Int)
  | some i => max 0 (min (if i < 0 then i + (n : Int) else i) (n : Int))
theorem clipS_eq (n d : Nat) (o : Option Int) : clipS n d o = ((HT.sIx n d o : Nat) : Int) := by
  cases o with
  | none => rfl
  | some v =>
    show max (0 : Int) (min (if v < 0 then v + (n : Int) else v) (n : Int)) = (((if v < 0 then (v + (n : Int)).toNat else min v.toNat n) : Nat) : Int)
    by_cases hv : v < 0
    · simp only [if_pos hv]
      omega
    · simp only [if_neg hv]
      omega
theorem sidx_clip (a b : Option Int) (n : Nat) : Builtin.Str.strSliceIndices a b 1 n = sliceRange (clipS n 0 a) (clipS n n b) 1 := by
  have h1 : ((1 : Int) > 0) = True := by simp
  cases a <;> cases b <;> first
    | rfl
    | (simp only [Builtin.Str.strSliceIndices, clipS, h1, if_true]; rfl)
    | simp [Builtin.Str.strSliceIndices, clipS]
theorem sidx (a b : Option Int) (n : Nat) : Builtin.Str.strSliceIndices a b 1 n = (List.range (HT.sIx n n b - HT.sIx n 0 a)).map (fun k => HT.sIx n 0 a + k) := by
  rw [sidx_clip, clipS_eq, clipS_eq]
  generalize HT.sIx n 0 a = p
  generalize HT.sIx n n b = q
  simp only [sliceRange, show ((1 : Int) > 0) = True from by simp, if_true]
  by_cases hlt : (p : Int) < q
  · have e3 : (((q : Int) - p + 1 - 1) / 1).toNat = q - p := by first | omega | (simp; done) | (simp; omega)
    simp only [hlt, if_true, e3]
    refine List.map_congr_left fun k _ => ?_
    omega
  · have : q - p = 0 := by omega
    simp [hlt, this]

/-- z[lo:hi] -/
def cutS (z : Str) (lo hi : Option Int) : Str :=
  ⟨((z.cps.toList.drop (HT.sIx z.length 0 lo)).take (HT.sIx z.length z.length hi - HT.sIx z.length 0 lo)).toArray⟩
theorem sliceText_cut (z : Str) (lo hi : Option Int) : PySem.StrLaws.sliceText z lo hi = cutS z lo hi := by
  have h1 : HT.sIx z.length 0 lo ≤ z.length := HT.sIx_le _ _ (Nat.zero_le _) _
  have h2 : HT.sIx z.length z.length hi ≤ z.length := HT.sIx_le _ _ (Nat.le_refl _) _
  have hp : HT.sIx z.length 0 lo ≤ max (HT.sIx z.length 0 lo) (HT.sIx z.length z.length hi) := Nat.le_max_left _ _
  have hq : max (HT.sIx z.length 0 lo) (HT.sIx z.length z.length hi) ≤ z.length := Nat.max_le.mpr ⟨h1, h2⟩
  have hd : max (HT.sIx z.length 0 lo) (HT.sIx z.length z.length hi) - HT.sIx z.length 0 lo = HT.sIx z.length z.length hi - HT.sIx z.length 0 lo := by omega
  have e : Builtin.Str.strSliceIndices lo hi 1 z.length =
      Builtin.Str.strSliceIndices (some ((HT.sIx z.length 0 lo : Nat) : Int)) (some ((max (HT.sIx z.length 0 lo) (HT.sIx z.length z.length hi) : Nat) : Int)) 1 z.length := by
    rw [PySem.StrLaws.strSliceIndices_plain hp hq, hd, sidx]
  have e2 : PySem.StrLaws.sliceText z lo hi =
      PySem.StrLaws.sliceText z (some ((HT.sIx z.length 0 lo : Nat) : Int)) (some ((max (HT.sIx z.length 0 lo) (HT.sIx z.length z.length hi) : Nat) : Int)) := by
    unfold PySem.StrLaws.sliceText
    rw [e]
  rw [e2, PySem.StrLaws.sliceText_nat z hp hq, hd]
  rfl
theorem cutS_length (z : Str) (lo hi : Option Int) : (cutS z lo hi).length ≤ z.length := by
  show (((z.cps.toList.drop (HT.sIx z.length 0 lo)).take (HT.sIx z.length z.length hi - HT.sIx z.length 0 lo)).toArray).size ≤ z.cps.size
  rw [List.size_toArray, List.length_take, List.length_drop, Array.length_toList]
  omega
def rSlS : V → Option Int → Option Int → Hp → VK → Prop := fun x lo hi H Q => ∃ z, x = .str z ∧ z.length ≤ sizeLine ∧ Q (.str (cutS z lo hi)) H
theorem sl_str {X : Cx} : SlR X rSlS := by
  intro pins s σ H x v vl vu lo hi sl Q I rx hs pl pu h
  obtain ⟨z, rfl, hz, q⟩ := h
  obtain ⟨t, rfl⟩ := rx
  obtain ⟨os, hos, hcs, hds⟩ := hs
  obtain ⟨l, rfl, rfl⟩ := IsPart.raw pl
  obtain ⟨u, rfl, rfl⟩ := IsPart.raw pu
  refine ⟨"str", _, F.slot_str_getitem.lookup, typeIs_str _ _ _, ?_⟩
  refine wpAny_getItem_str_slice (l := l) (u := u) (st := none) ⟨os, hos, hcs, hds⟩ rfl ?_
  have hl : (PySem.StrLaws.sliceText z (l.map (·.1)) (u.map (·.1))).length ≤ sizeLine := by
    rw [sliceText_cut]
    exact Nat.le_trans (cutS_length z _ _) hz
  rw [← sliceText_cut] at q
  unfold PySem.StrLaws.sliceText at q hl
  show Made.post (if ((1 : Int) == 1 && (Builtin.Str.strSliceIndices (l.map (·.1)) (u.map (·.1)) 1 z.length).length == z.length) = true then Made.val (.str z t)
    else Made.str ⟨((Builtin.Str.strSliceIndices (l.map (·.1)) (u.map (·.1)) 1 z.length).filterMap (z.cps[·]?)).toArray⟩) (EP X pins σ Q) s
  by_cases c : ((1 : Int) == 1 && (Builtin.Str.strSliceIndices (l.map (·.1)) (u.map (·.1)) 1 z.length).length == z.length) = true
  · rw [if_pos c] at q ⊢
    exact ⟨.str z, H, I, ⟨t, rfl⟩, q⟩
  · rw [if_neg c] at q hl ⊢
    exact ⟨hl, .str _, H, I.tok _, ⟨_, rfl⟩, q⟩
end L2

namespace Att
open PySem PySem.W PySem.Calls PyProof.Rows

/-! ### the script -/
theorem ints_of_wellAll {P : Params} {h : Heap} : ∀ (ns : List Int) (vs : List Value), WellAll P h vs (ns.map WData.int) → IntsAre vs ns := by
  intro ns
  induction ns with
  | nil =>
    intro vs w
    rw [List.map_nil] at w
    cases w
    exact .nil
  | cons n ns ih =>
    intro vs w
    rw [List.map_cons] at w
    cases w with
    | cons a b =>
      cases a
      exact .cons _ _ (ih _ b)

theorem script_of {l : OpenLaw} {n : Nat} (hn : l.most = some n) {P : Params} {h : Heap} {args : List WData} {vals : List Value}
    (hpre : l.row.toRowW.claim.pre args = true) (hwl : WellAll P h vals args) :
    ∃ a vs ns, vals = [Value.ref a] ∧ args = [WData.list (ns.map WData.int)] ∧ h.get? a = some { cls := .type "list", data := .seq vs.toArray } ∧ IntsAre vs ns ∧ ns.length ≤ n := by
  have hsh : WShape.hasAll [] args [.list .int] = true := (pre_splitW hpre).1
  have hc : l.pre.holds [] { args := args } = true := (pre_splitW hpre).2
  obtain ⟨d, r, rfl, h1, h2⟩ := hasAllW_cons hsh
  obtain rfl := hasAllW_nil h2
  obtain ⟨xs, rfl, h3⟩ := hasW_list h1
  obtain ⟨ns, rfl⟩ := items_int h3
  have hlen : ns.length ≤ n := by
    unfold OpenLaw.pre at hc
    have h4 : (WTm.not (.lt (.lit (.int (n : Int))) (.len (.arg 0)))).holds [] { args := [.list (ns.map .int)] } = true := by
      have h4 := (holds_andW hc).1
      rw [hn] at h4
      exact h4
    have h5 := condW_of h4 (w_not (w_lt w_lit (w_len_list (w_arg rfl))))
    rw [List.length_map] at h5
    refine Nat.le_of_not_lt fun q => ?_
    have q' : (n : Int) < ((ns.length : Nat) : Int) := by omega
    first
      | (rw [decide_eq_true q'] at h5; exact absurd h5 (by decide))
      | (simp at h5; omega)
  cases hwl with
  | cons w1 w2 =>
    cases w2
    cases w1 with
    | list ho hall => exact ⟨_, _, ns, rfl, rfl, ho, ints_of_wellAll ns _ hall, hlen⟩

theorem post_true (l : OpenLaw) (args : List WData) : l.row.toRowW.claim.post args (.bool true) args = true :=
  postW_of (r := l.row.toRowW) (X := (true == true))
    (show WShape.has [] (.bool true) .bool = true by first | rfl | decide | simp [WShape.has, WShape.arms, WShape.armsAll])
    (show (WTm.eq .res (.lit (.bool true))).value [] { args := args, res := some (.bool true), after := args } = some (.bool (true == true)) from w_eq_bool (w_res rfl) w_lit) rfl

/-! ### the attachment: holds_open's last premise (the goal 'hc' behind k_head) from a wpAny of the law's body -/
/-- the same from a codeAny of the CALL (for a layer whose function contracts speak of calls) -/
theorem attach_call {l : OpenLaw} {n : Nat} {q : Program} {loose : List Str} {XP : (Str → Option Value) → Heap → Prop} {YP : World → Heap → Prop} {d : DefRec}
    (hn : l.most = some n) (hdf : d.params.defaults = [])
    (call : ∀ (w : World) (s₀ s₁ : Shared) (mg mb : Str → Option Value) (fa : Addr) (o : Obj) (pm cd doc : Value) (a : Addr) (vs : List Value) (ns : List Int),
      Ground q loose [] XP w s₀ mg mb s₁.heap → YP w s₁.heap →
      s₁.heap.get? fa = some o → o.data = .func (docDef d.name d.params d.body d.scope pm cd doc) → s₁.heap.CodeRec cd d.name → mg d.name = some (.ref fa) →
      s₁.heap.get? a = some { cls := .type "list", data := .seq vs.toArray } → IntsAre vs ns → ns.length ≤ n → s₁.gens = #[] →
      codeAny (model l.prog w) callerA (.call (.ref fa) ⟨[.ref a], []⟩) (fun r s' => r = .ok (.ret (.bool true)) ∧ OldK s₁.heap s'.heap ∧ s'.os = s₁.os ∧ AllBare s'.gens) s₁) :
    WalkO q loose XP YP l.row.toRowW d [] (fun f vs => PySem.call f vs) := by
  intro w s₀ s₁ mg mb G Y fa o pm cd doc dV kV ho hd hcd hD hmg hg args vals as hpre hlay hrd hwl hlo
  obtain rfl : dV = .none := Dflts.none hD hdf
  obtain rfl : kV = .none := Dflts.noKw hD
  obtain ⟨a, vs, ns, rfl, rfl, hobj, hints, hlen⟩ := script_of hn hpre hwl
  refine enter_call (codeAny_mono (call w s₀ s₁ mg mb fa o pm cd doc a vs ns G Y ho (fd_plain hd) hcd hmg hobj hints hlen hg) fun r s' hq => ?_)
  obtain ⟨rfl, h2, h3, h4⟩ := hq
  exact ⟨.inl ⟨.bool true, .bool true, [], rfl, fun _ => rfl, .bool true, post_true l _, fun _ => ⟨List.Pairwise.nil, fun _ hm => (nomatch hm)⟩⟩, h2, h3, h4⟩

/-! ### rules over ANY heap (no ledger) from facts about the written part K: the library's own take a ledger (News) for what they write -/
section
variable {prog : Program} {w : World} {A : Around} {E : Value → Shared → Prop} {s : Shared} {K : Frag}

/-! the whole heap as the ledger: makes every rule that writes through a ledger a rule over any heap -/
def ledger (h : Heap) (L d : Addr) : List (Addr × Obj) := (List.range h.objs.size).filterMap fun a => if a = L ∨ a = d then none else (h.get? a).map fun o => (a, o)
end
end Att

namespace L2
open PySem PySem.Spec PyProof.Rows

theorem vals_ints : ∀ {vs : List Value} {ns : List Int}, IntsAre vs ns → Vals (ns.map V.int) vs
  | _, _, .nil => .nil
  | _, _, .cons n t h => .cons ⟨t, rfl⟩ (vals_ints h)

end L2

namespace L2
open PySem PySem.Spec PyProof.Rows

end L2

/-! SHORT WORDS over the layer: a def of the text, its body, what a loop and a test want. -/
namespace L2
open PySem PySem.Spec PyProof.Rows

/-! ### the text by places -/
def defArgs (s : Stmt) : Arguments := match s with
  | .FunctionDef _ a _ _ _ _ _ _ _ _ => a
  | _ => { posonlyargs := [], args := [], vararg := none, kwonlyargs := [], kw_defaults := [], kwarg := none, defaults := [] }
def defBody (s : Stmt) : List Stmt := match s with
  | .FunctionDef _ _ b _ _ _ _ _ _ _ => b
  | _ => []
def defScope (s : Stmt) : Scope := match s with
  | .FunctionDef _ _ _ _ _ _ sc _ _ _ => sc
  | _ => { kind := .function, names := [], isGenerator := false, isCoroutine := false }

/-! ### no exception leaves a def -/
abbrev CX0 : CXT := fun _ _ _ _ _ _ => False
abbrev E0 : XK := fun _ _ _ => False
theorem pass0 {X : Cx} : Passes CX0 X E0 := fun _ _ _ _ _ _ _ h => h.elim

/-! ### a def (or method) of the text as it stands behind the top -/
structure Fun (K : PySem.W.Frag) (x qual : Str) (st : Stmt) (f : Addr) (fd : FuncData) : Prop where
  ex : ∃ (oc : Value) (od : Option Addr) (kV doc pm : Value) (an : Option Addr) (cdv ct : Value) (osl : Array (Option Value)),
    fd = PySem.W.fnOf x qual (defArgs st) (defBody st) (defScope st) .none kV doc pm an cdv ct ∧ K.lookup f = some ⟨oc, od, .func fd, osl⟩ ∧ PySem.W.codeIn K cdv qual = true
  kp : PySem.W.keepIn K (.ref f) = true
section
variable {P : Program} {w : World} {K : PySem.W.Frag} {mg : Str → Option Value} {base : Heap}
/-- THE RULE for a def: its body as a term of rules, and the reading of that term -/
theorem Fun.ok {x qual : Str} {st : Stmt} {f : Addr} {fd : FuncData} {N ps : List Str} {k : Nat} {sp : Sp} (F : Fun K x qual st f fd) (S : FnScope N ps (defScope st)) (len : ∀ vs H Q E, sp vs H Q E → vs.length = ps.length)
    (hbody : ∀ (cdv : Value) (A : Around) (outer : List Env) (s : Shared) (H : Hp) (vs : List V) (Q : VK) (E : XK), Room k (A.deeper (envOfC qual (defScope st) s.heap.objs.size f cdv)) → sp vs H Q E →
      ∃ t, PSs (cxOf CX0 P w K mg base N qual (defScope st) f cdv A outer s H E).nox (defBody st) t ∧ t { nx := fun _ H' => Q .non H', rt := Q } (start N vs) H) : FnOk P w K mg base CX0 (k + 1) f fd ps sp := by
  obtain ⟨oc, od, kV, doc, pm, an, cdv, ct, osl, rfl, lk, hcd⟩ := F.ex
  refine fn_of lk hcd S len fun A outer s H vs Q E hr hsp => ?_
  obtain ⟨t, h, q⟩ := hbody cdv A outer s H vs Q E hr hsp
  exact ⟨t, h.nox, q⟩
/-- how its arguments bind (no defaults): h is «fun _ _ _ _ _ _ us hl => match us, hl with | [_, _], _ => rfl», one _ a parameter -/
theorem Fun.binds {x qual : Str} {st : Stmt} {f : Addr} {fd : FuncData} {ps : List Str} (F : Fun K x qual st f fd)
    (h : ∀ (kV doc pm : Value) (an : Option Addr) (cdv ct : Value) (us : List Value), us.length = ps.length → bindArgs (PySem.W.fnOf x qual (defArgs st) (defBody st) (defScope st) .none kV doc pm an cdv ct) ⟨us, []⟩ = pure (ps.zip us)) : Binds K fd ps [] := by
  obtain ⟨oc, od, kV, doc, pm, an, cdv, ct, osl, rfl, lk, hcd⟩ := F.ex
  exact .all (h kV doc pm an cdv ct)
theorem fun_mk {x qual : Str} {st : Stmt} {f : Addr} {oc : Value} {od an : Option Addr} {osl : Array (Option Value)} {kV doc pm cdv ct : Value} (l : K.lookup f = some ⟨oc, od, .func (PySem.W.fnOf x qual (defArgs st) (defBody st) (defScope st) .none kV doc pm an cdv ct), osl⟩)
    (c : PySem.W.codeIn K cdv qual = true) (k : PySem.W.keepIn K (.ref f) = true) : Fun K x qual st f (PySem.W.fnOf x qual (defArgs st) (defBody st) (defScope st) .none kV doc pm an cdv ct) := ⟨⟨oc, od, kV, doc, pm, an, cdv, ct, osl, rfl, l, c⟩, k⟩
end
theorem hu_of {A : Around} {k : Nat} (hr : Room k A) : A.units + 1 < cLine := Nat.lt_of_le_of_lt (Nat.add_le_add_left (by decide : 1 ≤ 64) _) hr.units
/-! ### expressions in short: the name that stands in the i-th slot -/
section
variable {X : Cx}
end

/-! ### tests -/
theorem iteF {A B : Prop} (h : B) : if false = true then A else B := by
  rw [if_neg Bool.false_ne_true]
  exact h
theorem iteT {A B : Prop} (h : A) : if true = true then A else B := by
  rw [if_pos rfl]
  exact h
/-! ### heaps -/
/-- all that was tracked is as it was -/
def Same (H H' : Hp) : Prop := ∀ b o, H b = some o → H' b = some o
theorem Same.refl (H : Hp) : Same H H := fun _ _ h => h
theorem Same.trans {H H1 H2 : Hp} (a : Same H H1) (b : Same H1 H2) : Same H H2 := fun c o h => b c o (a c o h)
theorem Same.free {H H' : Hp} (e : Same H H') {l : Addr} (h : H' l = Option.none) : H l = Option.none := by
  cases q : H l with
  | none => rfl
  | some o =>
    rw [e l o q] at h
    cases h
theorem Same.seq {K : PySem.W.Frag} {H H' : Hp} {a : Addr} {xs : List V} (e : Same H H') (h : SqL K H a xs) : SqL K H' a xs := by
  rcases h with (h | ⟨o, h⟩) | h
  · exact .inl (.inl (e _ _ h))
  · exact .inl (.inr ⟨o, e _ _ h⟩)
  · exact .inr h

/-! ### a dict's pairs: keys that differ -/
section
variable {κ : Type} [DecidableEq κ]
end
/-! ### lists -/
/-- a new instance and its __init__ leave all that was tracked as it was -/
theorem Same.made {H H1 : Hp} {x dx C : Addr} (nx : H x = Option.none) (nd : H dx = Option.none) (k : ∀ b o, (upd (upd H dx (.own x)) x (.ins C dx [])) b = some o → b ≠ x → H1 b = some o) : Same H H1 := fun b o e =>
  k b o (by rw [upd_ne (ne_of_none e nx), upd_ne (ne_of_none e nd)]; exact e) (ne_of_none e nx)
end L2

namespace Pu
open PySem PySem.Spec PyProof.Rows L2

abbrev D := PyData
abbrev Fg := PySem.W.Frag

/-! ### reading that nothing can disturb: tuples, frozen lists, the module's own -/
def FzL (K : Fg) (H : Hp) (a : Addr) (xs : List V) : Prop := (∃ o, H a = some (.frz o (.lst xs))) ∨
    ∃ (o : Obj) (its : Array Value) (n : Nat), K.lookup a = some o ∧ o.cls = .type "list" ∧ o.dict = none ∧ o.data = .seq its n ∧ its.size ≤ sizeLine ∧ Vals xs its.toList
theorem FzL.sq {K : Fg} {H : Hp} {a : Addr} {xs : List V} (h : FzL K H a xs) : SqL K H a xs := by
  rcases h with ⟨o, h⟩ | h
  · exact .inl (.inr ⟨o, h⟩)
  · exact .inr h
mutual
inductive Df (K : Fg) (H : Hp) : V → D → Prop
  | non : Df K H .non .none
  | bl (b : Bool) : Df K H (.bl b) (.bool b)
  | int (i : Int) : Df K H (.int i) (.int i)
  | str (x : Str) : Df K H (.str x) (.str x)
  | lst {a : Addr} {xs : List V} {ds : List D} : FzL K H a xs → DfA K H xs ds → Df K H (.ref a) (.list ds)
  | tup {a : Addr} {xs : List V} {ds : List D} (h : SqT K H a xs) (d : DfA K H xs ds) (t : H a = some (.tup xs) := by first | assumption | exact upd_same) : Df K H (.ref a) (.tuple ds)
inductive DfA (K : Fg) (H : Hp) : List V → List D → Prop
  | nil : DfA K H [] []
  | cons {v : V} {vs : List V} {d : D} {ds : List D} : Df K H v d → DfA K H vs ds → DfA K H (v :: vs) (d :: ds)
end
/-- what every step keeps -/
structure Stb (H H' : Hp) : Prop where
  tups : ∀ b xs, H b = some (.tup xs) → H' b = some (.tup xs)
  frzs : ∀ b o u, H b = some (.frz o u) → H' b = some (.frz o u)
theorem Stb.refl (H : Hp) : Stb H H := ⟨fun _ _ h => h, fun _ _ _ h => h⟩
theorem Stb.trans {H H1 H2 : Hp} (a : Stb H H1) (b : Stb H1 H2) : Stb H H2 := ⟨fun c xs h => b.tups c xs (a.tups c xs h), fun c o u h => b.frzs c o u (a.frzs c o u h)⟩
theorem Stb.same {H H' : Hp} (s : Same H H') : Stb H H' := ⟨fun _ _ h => s _ _ h, fun _ _ _ h => s _ _ h⟩
theorem FzL.mono {K : Fg} {H H' : Hp} {a : Addr} {xs : List V} (s : Stb H H') (h : FzL K H a xs) : FzL K H' a xs := by
  rcases h with ⟨o, h⟩ | h
  · exact .inl ⟨o, s.frzs _ _ _ h⟩
  · exact .inr h
theorem SqT.monoS {K : Fg} {H H' : Hp} {a : Addr} {xs : List V} (s : Stb H H') (h : SqT K H a xs) : SqT K H' a xs := by
  rcases h with (h | ⟨o, h⟩) | h
  · exact .inl (.inl (s.tups _ _ h))
  · exact .inl (.inr ⟨o, s.frzs _ _ _ h⟩)
  · exact .inr h
mutual
theorem Df.mono {K : Fg} {H H' : Hp} (s : Stb H H') : ∀ {v : V} {d : D}, Df K H v d → Df K H' v d
  | _, _, .non => .non
  | _, _, .bl b => .bl b
  | _, _, .int i => .int i
  | _, _, .str x => .str x
  | _, _, .lst h a => .lst (h.mono s) (DfA.mono s a)
  | _, _, .tup h a t => .tup (SqT.monoS s h) (DfA.mono s a) (s.tups _ _ t)
theorem DfA.mono {K : Fg} {H H' : Hp} (s : Stb H H') : ∀ {vs : List V} {ds : List D}, DfA K H vs ds → DfA K H' vs ds
  | _, _, .nil => .nil
  | _, _, .cons h r => .cons (Df.mono s h) (DfA.mono s r)
end
mutual
theorem Df.dp {K : Fg} {H : Hp} : ∀ {v : V} {d : D}, Df K H v d → Dp K H v d
  | _, _, .non => .non
  | _, _, .bl b => .bl b
  | _, _, .int i => .int i
  | _, _, .str x => .str x
  | _, _, .lst h a => .lst h.sq (DfA.dp a)
  | _, _, .tup h a _ => .tup h (DfA.dp a)
theorem DfA.dp {K : Fg} {H : Hp} : ∀ {vs : List V} {ds : List D}, DfA K H vs ds → DpAll K H vs ds
  | _, _, .nil => .nil
  | _, _, .cons h r => .cons (Df.dp h) (DfA.dp r)
end
theorem DfA.length {K : Fg} {H : Hp} : ∀ {vs : List V} {ds : List D}, DfA K H vs ds → vs.length = ds.length
  | _, _, .nil => rfl
  | _, _, .cons _ r => congrArg (· + 1) (DfA.length r)
theorem DfA.append {K : Fg} {H : Hp} : ∀ {vs vs' : List V} {ds ds' : List D}, DfA K H vs ds → DfA K H vs' ds' → DfA K H (vs ++ vs') (ds ++ ds')
  | _, _, _, _, .nil, h => h
  | _, _, _, _, .cons h r, q => .cons h (DfA.append r q)
theorem DfA.get {K : Fg} {H : Hp} : ∀ {vs : List V} {ds : List D} {i : Nat} {d : D}, DfA K H vs ds → ds[i]? = some d → ∃ v, vs[i]? = some v ∧ Df K H v d
  | _, _, _, _, .nil, e => by simp at e
  | _, _, 0, _, .cons h _, e => by simp at e; subst e; exact ⟨_, rfl, h⟩
  | _, _, i + 1, d, .cons _ r, e => by
    obtain ⟨v, h1, h2⟩ := DfA.get (i := i) (d := d) r (by simpa using e)
    exact ⟨v, by simpa using h1, h2⟩
theorem DfA.get' {K : Fg} {H : Hp} : ∀ {vs : List V} {ds : List D} {i : Nat} {v : V}, DfA K H vs ds → vs[i]? = some v → ∃ d, ds[i]? = some d ∧ Df K H v d
  | _, _, _, _, .nil, e => by simp at e
  | _, _, 0, _, .cons h _, e => by simp at e; subst e; exact ⟨_, rfl, h⟩
  | _, _, i + 1, d, .cons _ r, e => by
    obtain ⟨v, h1, h2⟩ := DfA.get' (i := i) (v := d) r (by simpa using e)
    exact ⟨v, by simpa using h1, h2⟩
theorem DfA.take {K : Fg} {H : Hp} : ∀ {vs : List V} {ds : List D} (n : Nat), DfA K H vs ds → DfA K H (vs.take n) (ds.take n)
  | _, _, 0, _ => .nil
  | _, _, _ + 1, .nil => .nil
  | _, _, n + 1, .cons h r => .cons h (DfA.take n r)
theorem DfA.drop {K : Fg} {H : Hp} : ∀ {vs : List V} {ds : List D} (n : Nat), DfA K H vs ds → DfA K H (vs.drop n) (ds.drop n)
  | _, _, 0, h => h
  | _, _, _ + 1, .nil => .nil
  | _, _, n + 1, .cons _ r => DfA.drop n r
theorem DfA.dropLast {K : Fg} {H : Hp} {vs : List V} {ds : List D} (h : DfA K H vs ds) : DfA K H vs.dropLast ds.dropLast := by
  rw [List.dropLast_eq_take, List.dropLast_eq_take, ← h.length]
  exact h.take _
theorem DfA.reverse {K : Fg} {H : Hp} : ∀ {vs : List V} {ds : List D}, DfA K H vs ds → DfA K H vs.reverse ds.reverse
  | _, _, .nil => .nil
  | _, _, .cons h r => by
    rw [List.reverse_cons, List.reverse_cons]
    exact DfA.append (DfA.reverse r) (.cons h .nil)

/-! ### what a name holds -/
inductive S1 where
  | imm (d : D) | lst (ds : List D) | dct (kvs : List (Str × D)) | set (ks : List Str) | fd (kvs : List (List Key × D)) | box (ds : List D)
def inK (ks : List Str) : Key → Bool
  | .inr k => decide (k ∈ ks)
  | .inl _ => false
abbrev En := List (Option S1)
inductive DfK (K : Fg) (H : Hp) : List (Key × V) → List (Str × D) → Prop
  | nil : DfK K H [] []
  | cons {k : Str} {v : V} {vs : List (Key × V)} {d : D} {ds : List (Str × D)} : Df K H v d → DfK K H vs ds → DfK K H ((Sum.inr k, v) :: vs) ((k, d) :: ds)
theorem DfK.mono {K : Fg} {H H' : Hp} (s : Stb H H') : ∀ {vs : List (Key × V)} {ds : List (Str × D)}, DfK K H vs ds → DfK K H' vs ds
  | _, _, .nil => .nil
  | _, _, .cons h r => .cons (h.mono s) (DfK.mono s r)
/-- a dict whose keys are tuples, never changed any more -/
inductive DfT (K : Fg) (H : Hp) : List (List Key × V) → List (List Key × D) → Prop
  | nil : DfT K H [] []
  | cons {k : List Key} {v : V} {vs : List (List Key × V)} {d : D} {ds : List (List Key × D)} : Df K H v d → DfT K H vs ds → DfT K H ((k, v) :: vs) ((k, d) :: ds)
theorem DfT.mono {K : Fg} {H H' : Hp} (s : Stb H H') : ∀ {vs : List (List Key × V)} {ds : List (List Key × D)}, DfT K H vs ds → DfT K H' vs ds
  | _, _, .nil => .nil
  | _, _, .cons h r => .cons (h.mono s) (DfT.mono s r)
def Sl (K : Fg) (H0 : Hp) (P : List Addr) (H : Hp) : S1 → V → Prop
  | .imm d, v => Df K H v d
  | .lst ds, v => ∃ a vs, v = .ref a ∧ H a = some (.lst vs) ∧ DfA K H vs ds ∧ H0 a = none
  | .dct kvs, v => ∃ a vs, v = .ref a ∧ H a = some (.dK vs) ∧ DfK K H vs kvs ∧ (H0 a = none ∨ a ∈ P)
  | .box ds, v => ∃ a vs, v = .ref a ∧ H a = some (.lst vs) ∧ DfA K H vs ds ∧ (H0 a = none ∨ a ∈ P)
  | .set ks, v => ∃ a m, v = .ref a ∧ H a = some (.set (inK ks) m) ∧ m ≤ ks.length ∧ H0 a = none
  | .fd kvs, v => ∃ a o vs, v = .ref a ∧ H a = some (.frz o (.dT vs)) ∧ DfT K H vs kvs
theorem Sl.fdm {K : Fg} {H0 H H' : Hp} {P : List Addr} {kvs : List (List Key × D)} {v : V} (s : Stb H H') (h : Sl K H0 P H (.fd kvs) v) : Sl K H0 P H' (.fd kvs) v := by
  obtain ⟨a, o, vs, e, h1, h2⟩ := h
  exact ⟨a, o, vs, e, s.frzs _ _ _ h1, h2.mono s⟩
def S1.own : S1 → Bool
  | .imm _ => false
  | .fd _ => false
  | _ => true
/-- what a def may change for its caller -/
def S1.mut : S1 → Bool
  | .dct _ => true
  | .box _ => true
  | _ => false
/-- the world of a def: the module, the heap at its entry, the address of the dict that it may change -/
structure Wd where
  K : Fg
  H0 : Hp
  P : List Addr
structure Rel (W : Wd) (ρ : En) (σ : L2.St) (H : Hp) : Prop where
  len : ρ.length = σ.length
  sl : ∀ (i : Nat) (s : S1), ρ[i]? = some (some s) → ∃ v, σ[i]? = some (some v) ∧ Sl W.K W.H0 W.P H s v
  stb : Stb W.H0 H
  kp : ∀ b o, W.H0 b = some o → b ∉ W.P → H b = some o
  dis : ∀ (i j : Nat) (s s' : S1) (a : Addr), i ≠ j → ρ[i]? = some (some s) → ρ[j]? = some (some s') → s.own = true → s'.own = true → σ[i]? = some (some (.ref a)) → σ[j]? ≠ some (some (.ref a))
  par : ∀ (k : Nat) (p : Addr), W.P[k]? = some p → ∀ s : S1, s.mut = true → ρ[k]? = some (some s) → σ[k]? = some (some (.ref p))
  pdk : ∀ p, p ∈ W.P → W.H0 p ≠ none ∧ H p ≠ none

theorem same_none {H H' : Hp} {p : Addr} (q : Same H H') (z : H' p = none) : H p = none := by
  cases h : H p with
  | none => rfl
  | some o => rw [q _ _ h] at z; cases z
theorem upd_some {H : Hp} {a p : Addr} {o : HO} (h : H p ≠ none) : upd H a o p ≠ none := by
  by_cases e : p = a
  · subst e; rw [upd_same]; intro z; cases z
  · rw [upd_ne e]; exact h
theorem Sl.imm_mono {K : Fg} {H0 H H' : Hp} {P : List Addr} {s : S1} {v : V} (q : Same H H') (h : Sl K H0 P H s v) : Sl K H0 P H' s v := by
  cases s with
  | imm d => exact Df.mono (.same q) h
  | fd d => exact Sl.fdm (.same q) h
  | lst ds => obtain ⟨a, vs, e, h1, h2, h3⟩ := h; exact ⟨a, vs, e, q _ _ h1, h2.mono (.same q), h3⟩
  | set ds => obtain ⟨a, vs, e, h1, h2, h3⟩ := h; exact ⟨a, vs, e, q _ _ h1, h2, h3⟩
  | box ds => obtain ⟨a, vs, e, h1, h2, h3⟩ := h; exact ⟨a, vs, e, q _ _ h1, h2.mono (.same q), h3⟩
  | dct kvs => obtain ⟨a, vs, e, h1, h2, h3⟩ := h; exact ⟨a, vs, e, q _ _ h1, h2.mono (.same q), h3⟩
section
variable {W : Wd} {ρ : En} {σ : L2.St} {H H' : Hp}
/-- nothing is changed, something may be laid -/
theorem Rel.same (R : Rel W ρ σ H) (q : Same H H') : Rel W ρ σ H' where
  len := R.len
  sl := fun i s e => by
    obtain ⟨v, h1, h2⟩ := R.sl i s e
    exact ⟨v, h1, h2.imm_mono q⟩
  stb := R.stb.trans (.same q)
  kp := fun b o e n => q _ _ (R.kp b o e n)
  dis := R.dis
  par := R.par
  pdk := fun p e => ⟨(R.pdk p e).1, fun z => (R.pdk p e).2 (same_none q z)⟩
theorem Rel.get (R : Rel W ρ σ H) {i : Nat} {d : D} (e : ρ[i]? = some (some (.imm d))) : ∃ v, σ[i]? = some (some v) ∧ Df W.K H v d := R.sl i _ e
theorem getElem?_set_some {α : Type} {l : List α} {i j : Nat} {x y : α} (h : (l.set i x)[j]? = some y) : (j = i ∧ y = x) ∨ (j ≠ i ∧ l[j]? = some y) := by
  rw [List.getElem?_set] at h
  split at h
  · rename_i e
    split at h
    · exact .inl ⟨e.symm, (Option.some.inj h).symm⟩
    · cases h
  · rename_i e
    exact .inr ⟨fun z => e z.symm, h⟩
theorem set_self {α : Type} {l : List α} {i : Nat} {x : α} (h : i < l.length) : (l.set i x)[i]? = some x := by rw [List.getElem?_set_self h]
theorem set_other {α : Type} {l : List α} {i j : Nat} {x : α} (h : j ≠ i) : (l.set i x)[j]? = l[j]? := by rw [List.getElem?_set_ne (Ne.symm h)]
/-- a name gets data -/
theorem Rel.setI (R : Rel W ρ σ H) {i : Nat} {v : V} {d : D} (hi : i < ρ.length) (h : Df W.K H v d) : Rel W (ρ.set i (some (.imm d))) (σ.set i (some v)) H where
  len := by rw [List.length_set, List.length_set]; exact R.len
  sl := fun j s e => by
    replace e := getElem?_set_some e; rcases e with ⟨rfl, e⟩ | ⟨n, e⟩
    · cases e
      exact ⟨v, set_self (by rw [← R.len]; exact hi), h⟩
    · obtain ⟨u, h1, h2⟩ := R.sl j s e
      exact ⟨u, by rw [set_other n]; exact h1, h2⟩
  stb := R.stb
  kp := R.kp
  dis := fun j k s s' a n e1 e2 o1 o2 => by
    replace e1 := getElem?_set_some e1; rcases e1 with ⟨rfl, e1⟩ | ⟨n1, e1⟩
    · cases e1; cases o1
    · replace e2 := getElem?_set_some e2; rcases e2 with ⟨rfl, e2⟩ | ⟨n2, e2⟩
      · cases e2; cases o2
      · rw [set_other n1, set_other n2]
        exact R.dis j k s s' a n e1 e2 o1 o2
  par := fun k p e s hm z => by
    replace z := getElem?_set_some z; rcases z with ⟨_, z⟩ | ⟨n, z⟩
    · cases z; cases hm
    · rw [set_other n]; exact R.par k p e s hm z
  pdk := R.pdk
/-- an address that no name owns -/
def Free (W : Wd) (ρ : En) (σ : L2.St) (a : Addr) : Prop := W.H0 a = none ∧ ∀ (j : Nat) (s : S1), ρ[j]? = some (some s) → s.own = true → σ[j]? ≠ some (some (.ref a))
/-- a name gets a list of its own -/
theorem Rel.setL (R : Rel W ρ σ H) {i : Nat} {a : Addr} {vs : List V} {ds : List D} (hi : i < ρ.length) (ha : H a = some (.lst vs)) (hv : DfA W.K H vs ds) (fr : Free W ρ σ a) :
    Rel W (ρ.set i (some (.lst ds))) (σ.set i (some (.ref a))) H where
  len := by rw [List.length_set, List.length_set]; exact R.len
  sl := fun j s e => by
    replace e := getElem?_set_some e; rcases e with ⟨rfl, e⟩ | ⟨n, e⟩
    · cases e
      exact ⟨.ref a, set_self (by rw [← R.len]; exact hi), a, vs, rfl, ha, hv, fr.1⟩
    · obtain ⟨u, h1, h2⟩ := R.sl j s e
      exact ⟨u, by rw [set_other n]; exact h1, h2⟩
  stb := R.stb
  kp := R.kp
  dis := fun j k s s' b n e1 e2 o1 o2 z => by
    replace e1 := getElem?_set_some e1; rcases e1 with ⟨rfl, e1⟩ | ⟨n1, e1⟩
    · cases e1
      rw [set_self (by rw [← R.len]; exact hi)] at z
      cases z
      replace e2 := getElem?_set_some e2; rcases e2 with ⟨rfl, e2⟩ | ⟨n2, e2⟩
      · exact absurd rfl n
      · rw [set_other n2]
        exact fr.2 k s' e2 o2
    · rw [set_other n1] at z
      replace e2 := getElem?_set_some e2; rcases e2 with ⟨rfl, e2⟩ | ⟨n2, e2⟩
      · cases e2
        rw [set_self (by rw [← R.len]; exact hi)]
        intro q
        cases q
        exact fr.2 j s e1 o1 z
      · rw [set_other n2]
        exact R.dis j k s s' b n e1 e2 o1 o2 z
  par := fun k p e s hm z => by
    replace z := getElem?_set_some z; rcases z with ⟨_, z⟩ | ⟨n, z⟩
    · cases z; cases hm
    · rw [set_other n]; exact R.par k p e s hm z
  pdk := R.pdk
/-- the abstract heap changes at a, which the name i owns as a list, and nobody else -/
theorem Rel.updL (R : Rel W ρ σ H) {i : Nat} {a : Addr} {vs vs' : List V} {ds ds' : List D} (e : ρ[i]? = some (some (.lst ds))) (ev : σ[i]? = some (some (.ref a))) (ha : H a = some (.lst vs)) (h0 : W.H0 a = none) (hv : DfA W.K H vs' ds') :
    Rel W (ρ.set i (some (.lst ds'))) σ (upd H a (.lst vs')) := by
  have hst : Stb H (upd H a (.lst vs')) := ⟨fun b xs h => by rw [upd_ne (ne_of h ha (by intro z; cases z))]; exact h, fun b o u h => by rw [upd_ne (ne_of h ha (by intro z; cases z))]; exact h⟩
  have hi : i < ρ.length := (List.getElem?_eq_some_iff.mp e).1
  refine ⟨by rw [List.length_set]; exact R.len, fun j s z => ?_, R.stb.trans hst, fun b o z n => ?_, fun j k s s' b n e1 e2 o1 o2 => ?_, fun k p q s hm z => ?_, fun p q => ?_⟩
  · replace z := getElem?_set_some z; rcases z with ⟨rfl, z⟩ | ⟨n, z⟩
    · cases z
      exact ⟨.ref a, ev, a, vs', rfl, upd_same, hv.mono hst, h0⟩
    · obtain ⟨u, h1, h2⟩ := R.sl j s z
      refine ⟨u, h1, ?_⟩
      cases s with
      | imm d => exact Df.mono hst h2
      | fd d => exact Sl.fdm hst h2
      | lst es =>
        obtain ⟨b, ws, rfl, g1, g2, g3⟩ := h2
        have nb : b ≠ a := fun q => R.dis i j _ _ a (Ne.symm n) e z rfl rfl ev (by rw [h1, q])
        exact ⟨b, ws, rfl, by rw [upd_ne nb]; exact g1, g2.mono hst, g3⟩
      | set es =>
        obtain ⟨b, m, rfl, g1, g2, g3⟩ := h2
        have nb : b ≠ a := fun q => R.dis i j _ _ a (Ne.symm n) e z rfl rfl ev (by rw [h1, q])
        exact ⟨b, m, rfl, by rw [upd_ne nb]; exact g1, g2, g3⟩
      | box es =>
        obtain ⟨b, m, rfl, g1, g2, g3⟩ := h2
        have nb : b ≠ a := fun q => R.dis i j _ _ a (Ne.symm n) e z rfl rfl ev (by rw [h1, q])
        exact ⟨b, m, rfl, by rw [upd_ne nb]; exact g1, g2.mono hst, g3⟩
      | dct kvs =>
        obtain ⟨b, ws, rfl, g1, g2, g3⟩ := h2
        exact ⟨b, ws, rfl, by rw [upd_ne (ne_of g1 ha (by intro z; cases z))]; exact g1, g2.mono hst, g3⟩
  · rw [upd_ne (ne_of_none z h0)]
    exact R.kp b o z n
  · have f : ∀ (m : Nat) (t : S1), (ρ.set i (some (.lst ds')))[m]? = some (some t) → t.own = true → ∃ t', ρ[m]? = some (some t') ∧ t'.own = true := fun m t q o => by
      replace q := getElem?_set_some q; rcases q with ⟨rfl, q⟩ | ⟨_, q⟩
      · exact ⟨_, e, rfl⟩
      · exact ⟨t, q, o⟩
    obtain ⟨t1, q1, p1⟩ := f j s e1 o1
    obtain ⟨t2, q2, p2⟩ := f k s' e2 o2
    exact R.dis j k t1 t2 b n q1 q2 p1 p2
  · replace z := getElem?_set_some z; rcases z with ⟨_, z⟩ | ⟨n, z⟩
    · cases z; cases hm
    · exact R.par k p q s hm z
  · exact ⟨(R.pdk p q).1, upd_some (R.pdk p q).2⟩
/-- a list that is nobody's is frozen -/
theorem Rel.frzF (R : Rel W ρ σ H) {a : Addr} {vs : List V} {o : Obj} (ha : H a = some (.lst vs)) (fr : Free W ρ σ a) : Rel W ρ σ (upd H a (.frz o (.lst vs))) := by
  have hst : Stb H (upd H a (.frz o (.lst vs))) := ⟨fun b xs h => by rw [upd_ne (ne_of h ha (by intro z; cases z))]; exact h, fun b o u h => by rw [upd_ne (ne_of h ha (by intro z; cases z))]; exact h⟩
  refine ⟨R.len, fun j s z => ?_, R.stb.trans hst, fun b o z n => ?_, R.dis, R.par, fun p q => ?_⟩
  · obtain ⟨u, h1, h2⟩ := R.sl j s z
    refine ⟨u, h1, ?_⟩
    cases s with
    | imm d => exact Df.mono hst h2
    | fd d => exact Sl.fdm hst h2
    | lst es =>
      obtain ⟨b, ws, rfl, g1, g2, g3⟩ := h2
      have nb : b ≠ a := fun q => fr.2 j _ z rfl (by rw [h1, q])
      exact ⟨b, ws, rfl, by rw [upd_ne nb]; exact g1, g2.mono hst, g3⟩
    | set es =>
      obtain ⟨b, m, rfl, g1, g2, g3⟩ := h2
      have nb : b ≠ a := fun q => fr.2 j _ z rfl (by rw [h1, q])
      exact ⟨b, m, rfl, by rw [upd_ne nb]; exact g1, g2, g3⟩
    | box es =>
      obtain ⟨b, m, rfl, g1, g2, g3⟩ := h2
      have nb : b ≠ a := fun q => fr.2 j _ z rfl (by rw [h1, q])
      exact ⟨b, m, rfl, by rw [upd_ne nb]; exact g1, g2.mono hst, g3⟩
    | dct kvs =>
      obtain ⟨b, ws, rfl, g1, g2, g3⟩ := h2
      exact ⟨b, ws, rfl, by rw [upd_ne (ne_of g1 ha (by intro z; cases z))]; exact g1, g2.mono hst, g3⟩
  · rw [upd_ne (ne_of_none z fr.1)]
    exact R.kp b _ z n
  · exact ⟨(R.pdk p q).1, upd_some (R.pdk p q).2⟩
theorem frz_stb {a : Addr} {vs : List V} {o : Obj} (ha : H a = some (.lst vs)) : Stb H (upd H a (.frz o (.lst vs))) := ⟨fun b xs h => by rw [upd_ne (ne_of h ha (by intro z; cases z))]; exact h, fun b o u h => by rw [upd_ne (ne_of h ha (by intro z; cases z))]; exact h⟩
/-- a name lets its list go: it is nobody's then -/
theorem Rel.drop (R : Rel W ρ σ H) {i : Nat} : Rel W (ρ.set i none) σ H where
  len := by rw [List.length_set]; exact R.len
  sl := fun j s e => by
    replace e := getElem?_set_some e; rcases e with ⟨_, e⟩ | ⟨n, e⟩
    · cases e
    · exact R.sl j s e
  stb := R.stb
  kp := R.kp
  dis := fun j k s s' a n e1 e2 o1 o2 => by
    replace e1 := getElem?_set_some e1; rcases e1 with ⟨_, e1⟩ | ⟨n1, e1⟩
    · cases e1
    · replace e2 := getElem?_set_some e2; rcases e2 with ⟨_, e2⟩ | ⟨n2, e2⟩
      · cases e2
      · exact R.dis j k s s' a n e1 e2 o1 o2
  par := fun k p e s hm z => by
    replace z := getElem?_set_some z; rcases z with ⟨_, z⟩ | ⟨n, z⟩
    · cases z
    · exact R.par k p e s hm z
  pdk := R.pdk
theorem Rel.dropFree (R : Rel W ρ σ H) {i : Nat} {a : Addr} {ds : List D} (e : ρ[i]? = some (some (.lst ds))) (ev : σ[i]? = some (some (.ref a))) : Free W (ρ.set i none) σ a := by
  obtain ⟨v, h1, a', vs, rfl, h2, h3, h4⟩ := R.sl i _ e
  rw [ev] at h1
  cases h1
  refine ⟨h4, fun j s z o q => ?_⟩
  replace z := getElem?_set_some z; rcases z with ⟨_, z⟩ | ⟨n, z⟩
  · cases z
  · exact R.dis i j _ s a (Ne.symm n) e z rfl o ev q
/-- the name takes up what it held, as data -/
theorem Rel.putI (R : Rel W ρ σ H) {i : Nat} {v : V} {d : D} (hi : i < ρ.length) (ev : σ[i]? = some (some v)) (h : Df W.K H v d) : Rel W (ρ.set i (some (.imm d))) σ H := by
  have q := R.setI hi h
  have e : σ.set i (some v) = σ := by
    apply List.ext_getElem?
    intro j
    by_cases n : j = i
    · subst n
      rw [set_self (by rw [← R.len]; exact hi), ev]
    · rw [set_other n]
  rw [e] at q
  exact q
theorem Rel.fresh (R : Rel W ρ σ H) {a : Addr} (h : H a = none) : Free W ρ σ a := by
  have h0 : W.H0 a = none := by
    cases q : W.H0 a with
    | none => rfl
    | some o =>
      by_cases e : a ∈ W.P
      · exact absurd h (R.pdk a e).2
      · have := R.kp a o q e
        rw [h] at this; cases this
  refine ⟨h0, fun j s e o q => ?_⟩
  obtain ⟨v, h1, h2⟩ := R.sl j s e
  rw [q] at h1
  cases h1
  cases s with
  | imm d => cases o
  | fd d => cases o
  | lst ds => obtain ⟨b, vs, e1, h2, _⟩ := h2; cases e1; rw [h] at h2; cases h2
  | set ds => obtain ⟨b, vs, e1, h2, _⟩ := h2; cases e1; rw [h] at h2; cases h2
  | dct ds => obtain ⟨b, vs, e1, h2, _⟩ := h2; cases e1; rw [h] at h2; cases h2
  | box ds => obtain ⟨b, vs, e1, h2, _⟩ := h2; cases e1; rw [h] at h2; cases h2
end
end Pu

namespace Pu
open PySem PySem.Spec PyProof.Rows L2

/-! ### the mirror's monad -/
structure XD where
  cls : Str
  fs : List (Str × D)
inductive Ou (α : Type) where
  | ok (a : α) (ρ : En) | ex (c : XD) (ρ : En) | no
abbrev MM (α : Type) := En → Ou α
def pu {α : Type} (a : α) : MM α := fun ρ => .ok a ρ
def bd {α β : Type} (m : MM α) (f : α → MM β) : MM β := fun ρ => match m ρ with
  | .ok a ρ' => f a ρ'
  | .ex c ρ' => .ex c ρ'
  | .no => .no
def lift {α : Type} (o : Option α) : MM α := fun ρ => match o with
  | some a => .ok a ρ
  | none => .no
def Got {α : Type} (o : Ou α) (k : α → En → Prop) : Prop := match o with
  | .ok a ρ => k a ρ
  | _ => False
theorem got_bd {α β : Type} {m : MM α} {f : α → MM β} {ρ : En} {k : β → En → Prop} (h : Got (bd m f ρ) k) : Got (m ρ) fun a ρ' => Got (f a ρ') k := by
  unfold bd at h
  cases e : m ρ with
  | ok a ρ' => rw [e] at h; exact h
  | ex c ρ' => rw [e] at h; exact h
  | no => rw [e] at h; exact h
theorem got_imp {α : Type} {o : Ou α} {k k' : α → En → Prop} (h : Got o k) (f : ∀ a ρ, k a ρ → k' a ρ) : Got o k' := by
  cases o with
  | ok a ρ => exact f a ρ h
  | ex c ρ => exact h
  | no => exact h
theorem got_lift {α : Type} {o : Option α} {ρ : En} {k : α → En → Prop} (h : Got (lift o ρ) k) : ∃ a, o = some a ∧ k a ρ := by
  cases o with
  | some a => exact ⟨a, rfl, h⟩
  | none => exact h.elim

/-! ### a step of an expression -/
def NotOwn (ρ : En) (σ : L2.St) (b : Addr) : Prop := ∀ (j : Nat) (s : S1), ρ[j]? = some (some s) → s.own = true → σ[j]? ≠ some (some (.ref b))
structure Go (ρ ρ' : En) (σ : L2.St) (H H' : Hp) : Prop where
  stb : Stb H H'
  fr : ∀ b o, H b = some o → NotOwn ρ σ b → H' b = some o
  shr : ∀ (j : Nat) (s : S1), ρ'[j]? = some (some s) → s.own = true → ∃ s', ρ[j]? = some (some s') ∧ s'.own = true
theorem Go.refl {ρ : En} {σ : L2.St} {H : Hp} : Go ρ ρ σ H H := ⟨.refl H, fun _ _ h _ => h, fun _ s h o => ⟨s, h, o⟩⟩
theorem Go.same {ρ : En} {σ : L2.St} {H H' : Hp} (q : Same H H') : Go ρ ρ σ H H' := ⟨.same q, fun _ _ h _ => q _ _ h, fun _ s h o => ⟨s, h, o⟩⟩
theorem Go.notOwn {ρ ρ' : En} {σ : L2.St} {H H' : Hp} (g : Go ρ ρ' σ H H') {b : Addr} (n : NotOwn ρ σ b) : NotOwn ρ' σ b := fun j s e o => by
  obtain ⟨s', e', o'⟩ := g.shr j s e o
  exact n j s' e' o'
theorem Go.trans {ρ ρ1 ρ2 : En} {σ : L2.St} {H H1 H2 : Hp} (a : Go ρ ρ1 σ H H1) (b : Go ρ1 ρ2 σ H1 H2) : Go ρ ρ2 σ H H2 :=
  ⟨a.stb.trans b.stb, fun c o h n => b.fr c o (a.fr c o h n) (a.notOwn n), fun j s e o => by
    obtain ⟨s', e', o'⟩ := b.shr j s e o
    exact a.shr j s' e' o'⟩

/-! ### readings by mirrors -/
def tR (W : Wd) (m : MM D) : TE := fun σ H Q => ∃ ρ, Rel W ρ σ H ∧ Got (m ρ) fun d ρ' => ∀ v H', Go ρ ρ' σ H H' → Rel W ρ' σ H' → Df W.K H' v d → Q v H'
/-- it was not there, or a name's own -/
def Nw (ρ : En) (σ : L2.St) (H : Hp) (a : Addr) : Prop := H a = none ∨ ∃ (j : Nat) (s : S1), ρ[j]? = some (some s) ∧ s.own = true ∧ σ[j]? = some (some (.ref a))
theorem Nw.ne {ρ : En} {σ : L2.St} {H : Hp} {a b : Addr} {o : HO} (n : Nw ρ σ H a) (h : H b = some o) (q : NotOwn ρ σ b) : b ≠ a := by
  rintro rfl
  rcases n with n | ⟨j, s, e, ow, ev⟩
  · rw [h] at n; cases n
  · exact q j s e ow ev
def tL (W : Wd) (m : MM (List D)) : TE := fun σ H Q => ∃ ρ, Rel W ρ σ H ∧ Got (m ρ) fun ds ρ' => ∀ a vs H', Go ρ ρ' σ H H' → Rel W ρ' σ H' → H' a = some (.lst vs) → DfA W.K H' vs ds → Free W ρ' σ a → Nw ρ σ H a → Q (.ref a) H'
def tT (W : Wd) (m : MM Bool) : TT := fun σ H Q => ∃ ρ, Rel W ρ σ H ∧ Got (m ρ) fun b ρ' => ∀ H', Go ρ ρ' σ H H' → Rel W ρ' σ H' → Q b H'
def tA (W : Wd) (m : MM (List D)) : TA := fun σ H Q => ∃ ρ, Rel W ρ σ H ∧ Got (m ρ) fun ds ρ' => ∀ vs H', Go ρ ρ' σ H H' → Rel W ρ' σ H' → DfA W.K H' vs ds → Q vs H'
theorem weak {X : Cx} {e : Expr} {t t' : TE} (h : PE X e t) (w : ∀ σ H Q, t' σ H Q → t σ H Q) : PE X e t' := fun pins s σ H Q I q => h pins s σ H Q I (w σ H Q q)
theorem weakT {X : Cx} {e : Expr} {t t' : TT} (h : PT X e t) (w : ∀ σ H Q, t' σ H Q → t σ H Q) : PT X e t' := fun pins s σ H Q I q => h pins s σ H Q I (w σ H Q q)
theorem weakW {X : Cx} {e : Expr} {t t' : TT} (h : PW X e t) (w : ∀ σ H Q, t' σ H Q → t σ H Q) : PW X e t' := fun wh pins s σ H Q I q => h wh pins s σ H Q I (w σ H Q q)
theorem weakA {X : Cx} {e : List Expr} {t t' : TA} (h : PA X e t) (w : ∀ σ H Q, t' σ H Q → t σ H Q) : PA X e t' := fun pos pins s σ H Q I q => h pos pins s σ H Q I (w σ H Q q)
theorem weakS {X : Cx} {e : Stmt} {t t' : TS} (h : PS X e t) (w : ∀ D σ H, t' D σ H → t D σ H) : PS X e t' := fun pins s σ H D I q => h pins s σ H D I (w D σ H q)
theorem weakSs {X : Cx} {e : List Stmt} {t t' : TS} (h : PSs X e t) (w : ∀ D σ H, t' D σ H → t D σ H) : PSs X e t' := fun pins s σ H D I q => h pins s σ H D I (w D σ H q)
section
variable {W : Wd} {ρ : En} {σ : L2.St} {H : Hp}
theorem tR_bd {α : Type} {m : MM D} {f : D → MM α} {k : α → En → Prop} {Q : VK} (R : Rel W ρ σ H) (g : Got (bd m f ρ) k)
    (q : ∀ v H' d ρ', Go ρ ρ' σ H H' → Rel W ρ' σ H' → Df W.K H' v d → Got (f d ρ') k → Q v H') : tR W m σ H Q :=
  ⟨ρ, R, got_imp (got_bd g) fun d ρ' g' v H' go R' df => q v H' d ρ' go R' df g'⟩
theorem tL_bd {α : Type} {m : MM (List D)} {f : List D → MM α} {k : α → En → Prop} {Q : VK} (R : Rel W ρ σ H) (g : Got (bd m f ρ) k)
    (q : ∀ a vs H' d ρ', Go ρ ρ' σ H H' → Rel W ρ' σ H' → H' a = some (.lst vs) → DfA W.K H' vs d → Free W ρ' σ a → Nw ρ σ H a → Got (f d ρ') k → Q (.ref a) H') : tL W m σ H Q :=
  ⟨ρ, R, got_imp (got_bd g) fun d ρ' g' a vs H' go R' h1 h2 h3 h4 => q a vs H' d ρ' go R' h1 h2 h3 h4 g'⟩
theorem tT_bd {α : Type} {m : MM Bool} {f : Bool → MM α} {k : α → En → Prop} {Q : Bool → Hp → Prop} (R : Rel W ρ σ H) (g : Got (bd m f ρ) k)
    (q : ∀ H' d ρ', Go ρ ρ' σ H H' → Rel W ρ' σ H' → Got (f d ρ') k → Q d H') : tT W m σ H Q :=
  ⟨ρ, R, got_imp (got_bd g) fun d ρ' g' H' go R' => q H' d ρ' go R' g'⟩
theorem tA_bd {α : Type} {m : MM (List D)} {f : List D → MM α} {k : α → En → Prop} {Q : List V → Hp → Prop} (R : Rel W ρ σ H) (g : Got (bd m f ρ) k)
    (q : ∀ vs H' ds ρ', Go ρ ρ' σ H H' → Rel W ρ' σ H' → DfA W.K H' vs ds → Got (f ds ρ') k → Q vs H') : tA W m σ H Q :=
  ⟨ρ, R, got_imp (got_bd g) fun d ρ' g' v H' go R' df => q v H' d ρ' go R' df g'⟩
end
abbrev wd (X : Cx) (H0 : Hp) (P : List Addr) : Wd := ⟨X.K, H0, P⟩

/-! ### the mirrors -/
def mC (d : D) : MM D := fun ρ => .ok d ρ
/-- a name read: a list of its own is data from now on -/
def mV (i : Nat) : MM D := fun ρ => match ρ[i]? with
  | some (some (.imm d)) => .ok d ρ
  | some (some (.lst ds)) => .ok (.list ds) (ρ.set i (some (.imm (.list ds))))
  | _ => .no
/-- a name's list, handed on -/
def mVL (i : Nat) : MM (List D) := fun ρ => match ρ[i]? with
  | some (some (.lst ds)) => .ok ds (ρ.set i none)
  | _ => .no
def mBin (f : D → D → Option D) (a b : MM D) : MM D := bd a fun x => bd b fun y => lift (f x y)
def mBinL (f : D → D → Option (List D)) (a b : MM D) : MM (List D) := bd a fun x => bd b fun y => lift (f x y)
def mUn (f : D → Option D) (a : MM D) : MM D := bd a fun x => lift (f x)
def mCmp (f : D → D → Option Bool) (a b : MM D) : MM Bool := bd a fun x => bd b fun y => lift (f x y)
def bl (m : MM Bool) : MM D := bd m fun b => pu (.bool b)
def mNil : MM (List D) := pu []
def mCons (a : MM D) (r : MM (List D)) : MM (List D) := bd a fun x => bd r fun xs => pu (x :: xs)
def fz (m : MM (List D)) : MM D := bd m fun ds => pu (.list ds)
def sized (n : Nat) : Bool := decide (n ≤ sizeLine)
def mTup (m : MM (List D)) : MM D := bd m fun ds => lift (if sized ds.length then some (.tuple ds) else none)
def mLst (m : MM (List D)) : MM (List D) := bd m fun ds => lift (if sized ds.length then some ds else none)
def mAnd (a b : MM Bool) : MM Bool := bd a fun c => if c then b else pu false
def mOr (a b : MM Bool) : MM Bool := bd a fun c => if c then pu true else b
def mNot (a : MM Bool) : MM Bool := bd a fun c => pu (!c)
def mIf {α : Type} (c : MM Bool) (a b : MM α) : MM α := bd c fun b' => if b' then a else b
def truth : D → Option Bool
  | .none => some false
  | .bool b => some b
  | .int i => some (i != 0)
  | .str y => if sized y.length then some ((y.length : Int) != 0) else none
  | .list ds => some (!ds.isEmpty)
  | .tuple ds => some (!ds.isEmpty)
  | .dict _ => none
def mTru (a : MM D) : MM Bool := bd a fun x => lift (truth x)
/-- a name's own list: is it empty -/
def mTruL (i : Nat) : MM Bool := fun ρ => match ρ[i]? with
  | some (some (.lst ds)) => .ok (!ds.isEmpty) ρ
  | _ => .no

section
variable {X : Cx} {H0 : Hp} {P : List Addr} {pos : Pos}
theorem re_non {j} : PE X (.Constant .none j pos) (tR (wd X H0 P) (mC .none)) := weak pe_non fun σ H Q ⟨ρ, R, g⟩ => g .non H .refl R .non
theorem re_bool {b j} : PE X (.Constant (.bool b) j pos) (tR (wd X H0 P) (mC (.bool b))) := weak pe_bl fun σ H Q ⟨ρ, R, g⟩ => g (.bl b) H .refl R (.bl b)
theorem re_int {i j} : PE X (.Constant (.int i) j pos) (tR (wd X H0 P) (mC (.int i))) := weak pe_int fun σ H Q ⟨ρ, R, g⟩ => g (.int i) H .refl R (.int i)
theorem re_str {x j} : PE X (.Constant (.str x) j pos) (tR (wd X H0 P) (mC (.str x))) := weak pe_str fun σ H Q ⟨ρ, R, g⟩ => g (.str x) H .refl R (.str x)
theorem notOwn_ne {ρ : En} {σ : L2.St} {i : Nat} {s : S1} {a b : Addr} (e : ρ[i]? = some (some s)) (o : s.own = true) (ev : σ[i]? = some (some (.ref a))) (n : NotOwn ρ σ b) : b ≠ a := fun z => n i s e o (by rw [ev, z])
theorem Free.of_go {W : Wd} {ρ ρ' : En} {σ : L2.St} {H H' : Hp} {a : Addr} (f : Free W ρ σ a) (g : Go ρ ρ' σ H H') : Free W ρ' σ a := ⟨f.1, fun j s e o => by
  obtain ⟨s', e', o'⟩ := g.shr j s e o
  exact f.2 j s' e' o'⟩
/-- a name -/
theorem re_var (i : Nat) {x : Str} (hN : X.N[i]? = some x := by rfl) (hv : Vis X.env.scope x := by first | exact Or.inl rfl | exact Or.inr (Or.inl rfl) | exact Or.inr (Or.inr rfl)) (hd : (x == ("__debug__" : Str)) = false := by decide)
    (hcd : (x == ("__classdict__" : Str)) = false := by decide) : PE X (.Name x pos) (tR (wd X H0 P) (mV i)) := by
  intro pins s σ H Q I ⟨ρ, R, g⟩
  unfold mV at g
  split at g
  · rename_i d e
    obtain ⟨v, h1, h2⟩ := R.get e
    exact pe_var hN hv hd hcd pins s σ H Q I ⟨v, h1, g v H .refl R h2⟩
  · rename_i ds e
    obtain ⟨v, h1, a, vs, rfl, h2, h3, h4⟩ := R.sl i _ e
    refine thn (pe_var hN hv hd hcd pins s σ H (fun v' H' => v' = .ref a ∧ H' = H) I ⟨_, h1, rfl, rfl⟩) fun u s1 ⟨v', H1, I1, r1, e1, e2⟩ => ?_
    subst e1 e2
    obtain ⟨od, I2⟩ := I1.lock h2 trivial
    have hi : i < ρ.length := (List.getElem?_eq_some_iff.mp e).1
    have fr := R.dropFree e h1
    have R1 := (R.drop (i := i)).frzF (o := od) h2 fr
    have df : Df X.K (upd H1 a (.frz od (.lst vs))) (.ref a) (.list ds) := .lst (.inl ⟨od, upd_same⟩) (h3.mono (frz_stb h2))
    have R2 := R1.putI (i := i) (d := .list ds) (by rw [List.length_set]; exact hi) h1 df
    rw [List.set_set] at R2
    refine ⟨.ref a, _, I2, r1, g (.ref a) _ ⟨frz_stb h2, fun b o hb n => ?_, fun j s' e' o => ?_⟩ R2 df⟩
    · rw [upd_ne (notOwn_ne e rfl h1 n)]
      exact hb
    · rcases getElem?_set_some e' with ⟨_, e'⟩ | ⟨n, e'⟩
      · cases e'; cases o
      · exact ⟨s', e', o⟩
  · exact g.elim
/-- a name's own list handed on -/
theorem rl_var (i : Nat) {x : Str} (hN : X.N[i]? = some x := by rfl) (hv : Vis X.env.scope x := by first | exact Or.inl rfl | exact Or.inr (Or.inl rfl) | exact Or.inr (Or.inr rfl)) (hd : (x == ("__debug__" : Str)) = false := by decide)
    (hcd : (x == ("__classdict__" : Str)) = false := by decide) : PE X (.Name x pos) (tL (wd X H0 P) (mVL i)) := by
  intro pins s σ H Q I ⟨ρ, R, g⟩
  unfold mVL at g
  split at g
  · rename_i ds e
    obtain ⟨v, h1, a, vs, rfl, h2, h3, h4⟩ := R.sl i _ e
    refine pe_var hN hv hd hcd pins s σ H Q I ⟨_, h1, g a vs H ⟨.refl H, fun _ _ h _ => h, fun j s' e' o => ?_⟩ (R.drop (i := i)) h2 h3 (R.dropFree e h1) (.inr ⟨i, _, e, rfl, h1⟩)⟩
    rcases getElem?_set_some e' with ⟨_, e'⟩ | ⟨n, e'⟩
    · cases e'
    · exact ⟨s', e', o⟩
  · exact g.elim
/-- a list that was made is data from now on -/
theorem re_fz {e : Expr} {m : MM (List D)} (h : PE X e (tL (wd X H0 P) m)) : PE X e (tR (wd X H0 P) (fz m)) := by
  intro pins s σ H Q I ⟨ρ, R, g⟩
  refine thn (h pins s σ H (fun v H1 => ∃ a vs ds ρ1, v = .ref a ∧ Go ρ ρ1 σ H H1 ∧ Rel (wd X H0 P) ρ1 σ H1 ∧ H1 a = some (.lst vs) ∧ DfA X.K H1 vs ds ∧ Free (wd X H0 P) ρ1 σ a ∧ Nw ρ σ H a ∧
    ∀ v H', Go ρ ρ1 σ H H' → Rel (wd X H0 P) ρ1 σ H' → Df X.K H' v (.list ds) → Q v H') I (tL_bd R g fun a vs H1 ds ρ1 go R1 h1 h2 h3 h4 g1 => ⟨a, vs, ds, ρ1, rfl, go, R1, h1, h2, h3, h4, g1⟩)) fun u s1 ⟨v, H1, I1, r1, a, vs, ds, ρ1, e1, go, R1, h1, h2, h3, h4, g1⟩ => ?_
  subst e1
  obtain ⟨od, I2⟩ := I1.lock h1 trivial
  refine ⟨.ref a, _, I2, r1, g1 _ _ ⟨go.stb.trans (frz_stb h1), fun b o hb n => ?_, go.shr⟩ (R1.frzF h1 h3) (.lst (.inl ⟨od, upd_same⟩) (h2.mono (frz_stb h1)))⟩
  rw [upd_ne (h4.ne hb n)]
  exact go.fr b o hb n
end
end Pu

namespace Pu
open PySem PySem.Spec PyProof.Rows L2

/-! ### the model's own steps that the layer lacks -/
theorem tuple_addW0 (l b : Addr) (items items2 : Array Value) (n n2 : Nat) (dd dd2 : Option Addr) (sl sl2 : Array (Option Value)) (hc0 : items.isEmpty = true) :
    Meets (Builtin.«tuple.__add__» ⟨[.ref l, .ref b], []⟩) (fun _ R s => s.heap.get? l = some { cls := .type "tuple", dict := dd, data := .seq items n, slots := sl } ∧ s.heap.get? b = some { cls := .type "tuple", dict := dd2, data := .seq items2 n2, slots := sl2 } ∧ R (.ok (.ret (Value.ref b))) { s with heap := s.heap, toks := s.toks }) :=
  .of_wp fun prog w A R s h => by obtain ⟨hp, g, d, tk, os⟩ := s; obtain ⟨hl, hb, h⟩ := h; have f1 := AutoSeq1.idx_int; have f2 := AutoSeq1.sub_tuple_tuple; have f3 := AutoSeq1.sub_list_list; have f4 := AutoSeq1.sub_tuple_list; have f5 := AutoSeq1.sub_list_tuple; wp_walk using wpAny_loadPart' hl, wpAny_loadPart' hb; exact ⟨_, rfl, h⟩
theorem cat_tup0 {prog : Program} {w : World} {A : Around} {E : Value → Shared → Prop} {s : Shared} {t b : Addr} {ws : List Value} {Q : Value → Shared → Prop} (ht : IsTup s.heap t (([] : List Value)).toArray) (hb : IsTup s.heap b ws.toArray)
    (h1 : Q (.ref b) s) : wpAny (model prog w) A (binaryOp .Add (.ref t) (.ref b)) Q E s := by
  obtain ⟨⟨cls, dd, data, sl⟩, ho, hc, n, hd⟩ := id ht
  obtain ⟨⟨cls2, dd2, data2, sl2⟩, ho2, hc2, n2, hd2⟩ := id hb
  simp only at hc hd hc2 hd2
  subst hc hd hc2 hd2
  exact concat_meets ⟨_, ho, rfl⟩ ⟨_, ho2, rfl⟩ noFill_tuple_add seq_tuple_add PySem.F.slot_tuple_add PySem.F.entry_tuple_add (PySem.F.args_tuple_add_2 _ _)
      (tuple_addW0 t b _ ws.toArray n n2 dd dd2 sl sl2 (by simp)) ⟨ho, ho2, h1⟩

/-! ### operators on data -/
def rD (K : Fg) (f : D → D → Option D) : R2 := fun x y H Q => ∃ a b d, Df K H x a ∧ Df K H y b ∧ f a b = some d ∧ ∀ v H', Same H H' → Df K H' v d → Q v H'
def fAdd : D → D → Option D
  | .int i, .int j => some (.int (i + j))
  | .str a, .str b => if sized (a.length + b.length) then some (.str (a ++ b)) else none
  | .tuple a, .tuple b => if sized (a.length + b.length) then some (.tuple (a ++ b)) else none
  | _, _ => none
def fSub : D → D → Option D
  | .int i, .int j => some (.int (i - j))
  | _, _ => none
def fMul : D → D → Option D
  | .int i, .int j => if decide (i.natAbs < 2 ^ 63) || decide (j.natAbs < 2 ^ 63) then some (.int (i * j)) else none
  | _, _ => none
def fDiv : D → D → Option D
  | .int i, .int j => if decide (0 < j) && decide (j < 1073741824) then some (.int (i / j)) else none
  | _, _ => none
def fMod : D → D → Option D
  | .int i, .int j => if decide (0 < j) then some (.int (i % j)) else none
  | _, _ => none
def fPow : D → D → Option D
  | .int i, .int j => if decide (0 ≤ j) && decide (j ≤ 1000) && decide (i.natAbs < 2 ^ 64) then some (.int (i ^ j.toNat)) else none
  | _, _ => none
theorem of_sized {n : Nat} (h : sized n = true) : n ≤ sizeLine := of_decide_eq_true h
theorem same_upd {H : Hp} {p : Addr} (h : H p = none) (o : HO) : Same H (upd H p o) := fun b u q => by rw [upd_ne (ne_of_none q h)]; exact q
section
variable {X : Cx}
theorem op_addD : OpR X (binaryOp .Add) (rD X.K fAdd) := by
  intro pins s σ H x y v u Q I rx ry ⟨a, b, d, ha, hb, hf, q⟩
  unfold fAdd at hf
  split at hf
  · cases ha; cases hb
    obtain rfl := Option.some.inj hf
    exact op_add pins s σ H _ _ v u Q I rx ry ⟨_, _, rfl, rfl, q _ _ (Same.refl _) (.int _)⟩
  · cases ha; cases hb
    split at hf
    · rename_i hz
      obtain rfl := Option.some.inj hf
      exact op_add_str pins s σ H _ _ v u Q I rx ry ⟨_, _, rfl, rfl, of_sized hz, q _ _ (Same.refl _) (.str _)⟩
    · cases hf
  · rename_i xs ys
    split at hf
    · rename_i hz
      obtain rfl := Option.some.inj hf
      obtain ⟨a1, h1⟩ : ∃ a1, x = .ref a1 := by cases ha; exact ⟨_, rfl⟩
      obtain ⟨b1, h2⟩ : ∃ b1, y = .ref b1 := by cases hb; exact ⟨_, rfl⟩
      subst h1 h2
      have hz := of_sized hz
      cases ha with
      | tup s1 da t_s1 =>
        rename_i vs1
        cases hb with
        | tup s2 db t_s2 =>
          rename_i vs2
          have l1 := da.length
          have l2 := db.length
          by_cases e1 : vs1 = []
          · subst e1
            cases da
            cases rx
            cases ry
            obtain ⟨its, r1, p1, _⟩ := I.tuple s1
            obtain ⟨its2, r2, p2, _⟩ := I.tuple s2
            cases r1
            exact cat_tup0 p1 p2 ⟨.ref b1, H, I, rfl, q _ _ (Same.refl _) (.tup s2 db)⟩
          · refine op_catT pins s σ H _ _ v u Q I rx ry ⟨a1, b1, vs1, vs2, rfl, rfl, s1, s2, e1, by omega, fun e2 => ?_, fun e2 p hp => ?_⟩
            · subst e2
              cases db
              rw [List.append_nil] at q
              exact q _ _ (Same.refl _) (.tup s1 da)
            · exact q _ _ (same_upd hp _) (.tup (.inl (.inl upd_same)) ((da.append db).mono (.same (same_upd hp _))))
    · cases hf
  · cases hf
theorem op_subD : OpR X (binaryOp .Sub) (rD X.K fSub) := by
  intro pins s σ H x y v u Q I rx ry ⟨a, b, d, ha, hb, hf, q⟩
  unfold fSub at hf
  split at hf
  · cases ha; cases hb
    obtain rfl := Option.some.inj hf
    exact op_sub pins s σ H _ _ v u Q I rx ry ⟨_, _, rfl, rfl, q _ _ (Same.refl _) (.int _)⟩
  · cases hf
theorem natAbs63 {i : Int} (h : i.natAbs < 2 ^ 63) : -(2 ^ 64) < i ∧ i < 2 ^ 64 := by omega
theorem op_mulD : OpR X (binaryOp .Mult) (rD X.K fMul) := by
  intro pins s σ H x y v u Q I rx ry ⟨a, b, d, ha, hb, hf, q⟩
  unfold fMul at hf
  split at hf
  · cases ha; cases hb
    split at hf
    · rename_i h
      obtain rfl := Option.some.inj hf
      refine op_mul pins s σ H _ _ v u Q I rx ry ⟨_, _, rfl, rfl, ?_, q _ _ (Same.refl _) (.int _)⟩
      rcases Bool.or_eq_true _ _ ▸ h with h | h
      · exact .inl (natAbs63 (of_decide_eq_true h))
      · exact .inr (natAbs63 (of_decide_eq_true h))
    · cases hf
  · cases hf
theorem op_divD : OpR X (binaryOp .FloorDiv) (rD X.K fDiv) := by
  intro pins s σ H x y v u Q I rx ry ⟨a, b, d, ha, hb, hf, q⟩
  unfold fDiv at hf
  split at hf
  · cases ha; cases hb
    split at hf
    · rename_i h
      obtain rfl := Option.some.inj hf
      rw [Bool.and_eq_true] at h
      exact op_fdiv pins s σ H _ _ v u Q I rx ry ⟨_, _, rfl, rfl, ⟨of_decide_eq_true h.1, of_decide_eq_true h.2⟩, q _ _ (Same.refl _) (.int _)⟩
    · cases hf
  · cases hf
theorem op_modD : OpR X (binaryOp .Mod) (rD X.K fMod) := by
  intro pins s σ H x y v u Q I rx ry ⟨a, b, d, ha, hb, hf, q⟩
  unfold fMod at hf
  split at hf
  · cases ha; cases hb
    split at hf
    · rename_i h
      obtain rfl := Option.some.inj hf
      exact op_mod pins s σ H _ _ v u Q I rx ry ⟨_, _, rfl, rfl, of_decide_eq_true h, q _ _ (Same.refl _) (.int _)⟩
    · cases hf
  · cases hf
theorem op_powD : OpR X (binaryOp .Pow) (rD X.K fPow) := by
  intro pins s σ H x y v u Q I rx ry ⟨a, b, d, ha, hb, hf, q⟩
  unfold fPow at hf
  split at hf
  · cases ha; cases hb
    split at hf
    · rename_i h
      obtain rfl := Option.some.inj hf
      rw [Bool.and_eq_true, Bool.and_eq_true] at h
      have h2 := of_decide_eq_true h.1.2
      exact op_pow pins s σ H _ _ v u Q I rx ry ⟨_, _, rfl, rfl, ⟨of_decide_eq_true h.1.1, by omega, of_decide_eq_true h.2⟩, q _ _ (Same.refl _) (.int _)⟩
    · cases hf
  · cases hf
variable {H0 : Hp} {P : List Addr} {pos : Pos} {a b : Expr} {ma mb : MM D}
theorem re_op {op : Operator} {f : D → D → Option D} (ho : OpR X (binaryOp op) (rD X.K f)) (ha : PE X a (tR (wd X H0 P) ma)) (hb : PE X b (tR (wd X H0 P) mb)) : PE X (.BinOp a op b pos) (tR (wd X H0 P) (mBin f ma mb)) :=
  weak (pe_op ho ha hb) fun σ H Q ⟨ρ, R, g⟩ => tR_bd R g fun v H1 d ρ1 go1 R1 d1 g1 => tR_bd R1 g1 fun u H2 e ρ2 go2 R2 d2 g2 => by
    obtain ⟨z, hz, k⟩ := got_lift g2
    exact ⟨d, e, z, d1.mono go2.stb, d2, hz, fun w H' sm dw => k w H' ((go1.trans go2).trans (.same sm)) (R2.same sm) dw⟩

/-! ### comparisons -/
def rB (K : Fg) (f : D → D → Option Bool) : R2 := fun x y H Q => ∃ a b c, Df K H x a ∧ Df K H y b ∧ f a b = some c ∧ Q (.bl c) H
def fI (p : Int → Int → Bool) : D → D → Option Bool
  | .int i, .int j => some (p i j)
  | _, _ => none
abbrev fLt := fI fun i j => decide (i < j)
abbrev fGt := fI fun i j => decide (j < i)
abbrev fGe := fI fun i j => decide (j ≤ i)
theorem op_intR {op : CmpOp} {p : Int → Int → Bool} (h : OpR X (compareOp op) (rI0 fun i j => .bl (p i j))) : OpR X (compareOp op) (rB X.K (fI p)) := by
  intro pins s σ H x y v u Q I rx ry ⟨a, b, d, ha, hb, hf, q⟩
  unfold fI at hf
  split at hf
  · cases ha; cases hb
    obtain rfl := Option.some.inj hf
    exact h pins s σ H _ _ v u Q I rx ry ⟨_, _, rfl, rfl, q⟩
  · cases hf
theorem op_ltR : OpR X (compareOp .Lt) (rB X.K fLt) := op_intR op_lt
theorem op_gtR : OpR X (compareOp .Gt) (rB X.K fGt) := op_intR op_gt
theorem op_geR : OpR X (compareOp .GtE) (rB X.K fGe) := op_intR op_ge
def isN : D → Bool
  | .none => true
  | _ => false
def fIs : D → D → Option Bool
  | a, .none => some (isN a)
  | .bool c, .bool d => some (c == d)
  | _, _ => none
def fIsNot : D → D → Option Bool
  | a, .none => some (!isN a)
  | .bool c, .bool d => some (c != d)
  | _, _ => none
theorem rt_cmp {op : CmpOp} {f : D → D → Option Bool} (ho : OpR X (compareOp op) (rB X.K f)) (ha : PE X a (tR (wd X H0 P) ma)) (hb : PE X b (tR (wd X H0 P) mb)) (hm : behindInMarks op b = false := by first | exact nobehind _ (by decide) (by decide) | rfl) :
    PT X (.Compare a [op] [b] pos) (tT (wd X H0 P) (mCmp f ma mb)) :=
  weakT (pt_cmpR ho ha hb hm) fun σ H Q ⟨ρ, R, g⟩ => tR_bd R g fun v H1 d ρ1 go1 R1 d1 g1 => tR_bd R1 g1 fun u H2 e ρ2 go2 R2 d2 g2 => by
    obtain ⟨z, hz, k⟩ := got_lift g2
    exact ⟨d, e, z, d1.mono go2.stb, d2, hz, z, rfl, k H2 (go1.trans go2) R2⟩
theorem re_cmp {op : CmpOp} {f : D → D → Option Bool} (ho : OpR X (compareOp op) (rB X.K f)) (ha : PE X a (tR (wd X H0 P) ma)) (hb : PE X b (tR (wd X H0 P) mb)) (hm : behindInMarks op b = false := by first | exact nobehind _ (by decide) (by decide) | rfl) :
    PE X (.Compare a [op] [b] pos) (tR (wd X H0 P) (bl (mCmp f ma mb))) :=
  weak (pe_cmpR ho ha hb hm) fun σ H Q ⟨ρ, R, g⟩ => tR_bd R (got_bd g) fun v H1 d ρ1 go1 R1 d1 g1 => tR_bd R1 g1 fun u H2 e ρ2 go2 R2 d2 g2 => by
    obtain ⟨z, hz, k⟩ := got_lift g2
    exact ⟨d, e, z, d1.mono go2.stb, d2, hz, k (.bl z) H2 (go1.trans go2) R2 (.bl z)⟩
/-! ### tests -/
variable {ta tb' : MM Bool} {rest : List Expr} {e : Expr} {m : MM D}
theorem tru_df {K : Fg} {H : Hp} {x : V} {d : D} {k : Bool} (h : Df K H x d) (e : truth d = some k) : TruV K x H k := by
  cases h with
  | non => exact (Option.some.inj e).symm
  | bl b => exact (Option.some.inj e).symm
  | int i => exact (Option.some.inj e).symm
  | str y =>
    have e : (if sized y.length then some ((y.length : Int) != 0) else none) = some k := e
    split at e
    · rename_i hz
      exact ⟨of_sized hz, (Option.some.inj e).symm⟩
    · cases e
  | lst h a => exact .inl ⟨_, h.sq, by rw [← Option.some.inj e]; cases a <;> rfl⟩
  | tup h a t_h => exact .inr (.inl ⟨_, h, by rw [← Option.some.inj e]; cases a <;> rfl⟩)
theorem rt_tru (he : PE X e (tR (wd X H0 P) m)) (hp : ∀ whole, isTrue e X.env whole = (do let v ← whole; standAt e.pos; holding [v] (truthy v)) := by intro _; rfl) : PT X e (tT (wd X H0 P) (mTru m)) :=
  weakT (pt_truth he hp) fun σ H Q ⟨ρ, R, g⟩ => tR_bd R g fun v H1 d ρ1 go1 R1 d1 g1 => by
    obtain ⟨k, hk, g2⟩ := got_lift g1
    exact ⟨k, tru_df d1 hk, g2 H1 go1 R1⟩
/-- a name's own list as a test -/
theorem rt_truL (i : Nat) {x : Str} (hN : X.N[i]? = some x := by rfl) (hv : Vis X.env.scope x := by first | exact Or.inl rfl | exact Or.inr (Or.inl rfl) | exact Or.inr (Or.inr rfl)) (hd : (x == ("__debug__" : Str)) = false := by decide)
    (hcd : (x == ("__classdict__" : Str)) = false := by decide) (hp : ∀ whole, isTrue (.Name x pos) X.env whole = (do let v ← whole; standAt (Expr.pos (.Name x pos)); holding [v] (truthy v)) := by intro _; rfl) : PT X (.Name x pos) (tT (wd X H0 P) (mTruL i)) :=
  weakT (pt_truth (pe_var hN hv hd hcd) hp) fun σ H Q ⟨ρ, R, g⟩ => by
    unfold mTruL at g
    split at g
    · rename_i ds e
      obtain ⟨v, h1, a, vs, rfl, h2, h3, h4⟩ := R.sl i _ e
      exact ⟨.ref a, h1, !ds.isEmpty, .inl ⟨vs, .of h2, by cases h3 <;> rfl⟩, g H .refl R⟩
    · exact g.elim
theorem rt_not (ha : PT X a (tT (wd X H0 P) ta)) : PT X (.UnaryOp .Not a pos) (tT (wd X H0 P) (mNot ta)) :=
  weakT (pt_not ha) fun σ H Q ⟨ρ, R, g⟩ => tT_bd R g fun H1 c ρ1 go1 R1 g1 => g1 H1 go1 R1
theorem rw_and1 (ha : PT X a (tT (wd X H0 P) ta)) : PW X (.BoolOp .And [a] pos) (tT (wd X H0 P) ta) := pw_and1 ha
theorem rw_or1 (ha : PT X a (tT (wd X H0 P) ta)) : PW X (.BoolOp .Or [a] pos) (tT (wd X H0 P) ta) := pw_or1 ha
theorem rw_and (ha : PT X a (tT (wd X H0 P) ta)) (hb : PW X (.BoolOp .And (b :: rest) pos) (tT (wd X H0 P) tb')) : PW X (.BoolOp .And (a :: b :: rest) pos) (tT (wd X H0 P) (mAnd ta tb')) :=
  weakW (pw_and ha hb) fun σ H Q ⟨ρ, R, g⟩ => tT_bd R g fun H1 c ρ1 go1 R1 g1 => by
    cases c with
    | true => exact iteT ⟨ρ1, R1, got_imp g1 fun b ρ2 k H2 go2 R2 => k H2 (go1.trans go2) R2⟩
    | false => exact iteF (g1 H1 go1 R1)
theorem rw_or (ha : PT X a (tT (wd X H0 P) ta)) (hb : PW X (.BoolOp .Or (b :: rest) pos) (tT (wd X H0 P) tb')) : PW X (.BoolOp .Or (a :: b :: rest) pos) (tT (wd X H0 P) (mOr ta tb')) :=
  weakW (pw_or ha hb) fun σ H Q ⟨ρ, R, g⟩ => tT_bd R g fun H1 c ρ1 go1 R1 g1 => by
    cases c with
    | false => exact iteF ⟨ρ1, R1, got_imp g1 fun b ρ2 k H2 go2 R2 => k H2 (go1.trans go2) R2⟩
    | true => exact iteT (g1 H1 go1 R1)
/-- and, or, not as values: the parts True or False -/
def isB : D → Option Bool
  | .bool b => some b
  | _ => none
def mB (m : MM D) : MM Bool := bd m fun d => lift (isB d)
def mAndV (a b : MM D) : MM D := bd (mB a) fun c => if c then b else pu (.bool false)
def mOrV (a b : MM D) : MM D := bd (mB a) fun c => if c then pu (.bool true) else b
def mNotV (a : MM D) : MM D := bd (mB a) fun c => pu (.bool (!c))
/-! ### argument lists, displays -/
variable {es : List Expr} {mr : MM (List D)}
theorem ra_nil : PA X [] (tA (wd X H0 P) mNil) := weakA pa_nil fun σ H Q ⟨ρ, R, g⟩ => g [] H .refl R .nil
theorem ra_cons (ha : PE X e (tR (wd X H0 P) m)) (hr : PA X es (tA (wd X H0 P) mr)) (hs : starEach (e :: es) X.env = (false, eval e X.env) :: starEach es X.env := by rfl) : PA X (e :: es) (tA (wd X H0 P) (mCons m mr)) :=
  weakA (pa_cons ha hr hs) fun σ H Q ⟨ρ, R, g⟩ => tR_bd R g fun v H1 d ρ1 go1 R1 d1 g1 => tA_bd R1 g1 fun vs H2 ds ρ2 go2 R2 d2 g2 => g2 (v :: vs) H2 (go1.trans go2) R2 (.cons (d1.mono go2.stb) d2)
theorem re_tup {x1} (h : PA X es (tA (wd X H0 P) mr)) : PE X (.Tuple es x1 pos) (tR (wd X H0 P) (mTup mr)) :=
  weak (pe_tup h) fun σ H Q ⟨ρ, R, g⟩ => tA_bd R g fun vs H1 ds ρ1 go1 R1 d1 g1 => by
    obtain ⟨z, hz, k⟩ := got_lift g1
    split at hz
    · rename_i hs
      obtain rfl := Option.some.inj hz
      refine ⟨by rw [d1.length]; exact of_sized hs, fun p hp => k _ _ (go1.trans (.same (same_upd hp _))) (R1.same (same_upd hp _)) (.tup (.inl (.inl upd_same)) (d1.mono (.same (same_upd hp _))))⟩
    · cases hz
theorem rl_lst (h : PA X es (tA (wd X H0 P) mr)) : PE X (.List es pos) (tL (wd X H0 P) (mLst mr)) :=
  weak (pe_lst h) fun σ H Q ⟨ρ, R, g⟩ => tA_bd R g fun vs H1 ds ρ1 go1 R1 d1 g1 => by
    obtain ⟨z, hz, k⟩ := got_lift g1
    split at hz
    · rename_i hs
      obtain rfl := Option.some.inj hz
      refine ⟨by rw [d1.length]; exact of_sized hs, fun p hp => k p vs _ (go1.trans (.same (same_upd hp _))) (R1.same (same_upd hp _)) upd_same (d1.mono (.same (same_upd hp _))) (R1.fresh hp) ?_⟩
      cases q : H p with
      | none => exact .inl q
      | some o =>
        by_cases n : NotOwn ρ σ p
        · have := go1.fr p o q n
          rw [hp] at this
          cases this
        · refine .inr (Classical.byContradiction fun z => n fun j s e o' ev => z ⟨j, s, e, o', ev⟩)
    · cases hz
end
end Pu

namespace Pu
open PySem PySem.Spec PyProof.Rows L2

/-! ### x[i] -/
def fIx : D → D → Option D
  | .list ds, .int i => atI ds i
  | .tuple ds, .int i => atI ds i
  | .str z, .int i => if sized z.length then (atI z.cps.toList i).map fun c => .str ⟨#[c]⟩ else none
  | _, _ => none
theorem DfA.at {K : Fg} {H : Hp} {vs : List V} {ds : List D} {i : Int} {d : D} (h : DfA K H vs ds) (e : atI ds i = some d) : ∃ v, atI vs i = some v ∧ Df K H v d := by
  unfold atI at e ⊢
  rw [h.length]
  cases q : ixN ds.length i with
  | none => rw [q] at e; cases e
  | some j =>
    rw [q] at e
    obtain ⟨v, h1, h2⟩ := h.get (i := j) (d := d) e
    exact ⟨v, h1, h2⟩
section
variable {X : Cx} {H0 : Hp} {P : List Addr} {pos : Pos} {a b e : Expr} {ma mb m : MM D}
theorem ix_D : IxR X (rD X.K fIx) := by
  intro value slice pins s σ H x y v u Q I rx ry ⟨a, b, d, ha, hb, hf, q⟩ hs
  unfold fIx at hf
  split at hf
  · cases hb
    cases ha with
    | lst h1 h2 =>
      obtain ⟨w, e1, e2⟩ := h2.at hf
      exact ix_list value slice pins s σ H _ _ v u Q I rx ry ⟨_, _, _, w, rfl, rfl, h1.sq, e1, q _ _ (Same.refl _) e2⟩ hs
  · cases hb
    cases ha with
    | tup h1 h2 t_h1 =>
      obtain ⟨w, e1, e2⟩ := h2.at hf
      exact ix_tup value slice pins s σ H _ _ v u Q I rx ry ⟨_, _, _, w, rfl, rfl, h1, e1, q _ _ (Same.refl _) e2⟩ hs
  · cases hb
    cases ha
    split at hf
    · rename_i hz
      obtain ⟨c, e1, e2⟩ := Option.map_eq_some_iff.mp hf
      subst e2
      exact ix_str value slice pins s σ H _ _ v u Q I rx ry ⟨_, _, c, rfl, rfl, of_sized hz, e1, q _ _ (Same.refl _) (.str _)⟩ hs
    · cases hf
  · cases hf
theorem re_ix (ha : PE X a (tR (wd X H0 P) ma)) (hb : PE X b (tR (wd X H0 P) mb)) (hs : PlainIx b := by intro _ _; rfl) : PE X (.Subscript a b pos) (tR (wd X H0 P) (mBin fIx ma mb)) :=
  weak (pe_ix ix_D ha hb hs) fun σ H Q ⟨ρ, R, g⟩ => tR_bd R g fun v H1 d ρ1 go1 R1 d1 g1 => tR_bd R1 g1 fun u H2 e ρ2 go2 R2 d2 g2 => by
    obtain ⟨z, hz, k⟩ := got_lift g2
    exact ⟨d, e, z, d1.mono go2.stb, d2, hz, fun w H' sm dw => k w H' ((go1.trans go2).trans (.same sm)) (R2.same sm) dw⟩
/-- an item of a name's own list: the list stays the name's -/
def mIxL (i : Nat) (mb : MM D) : MM D := fun ρ => match ρ[i]? with
  | some (some (.lst _)) => bd mb (fun y ρ' => match ρ'[i]? with
      | some (some (.lst ds)) => lift (fIx (.list ds) y) ρ'
      | _ => .no) ρ
  | _ => .no
theorem re_ixL (i : Nat) {x : Str} {p1 : Pos} (hb : PE X b (tR (wd X H0 P) mb)) (hs : PlainIx b := by intro _ _; rfl) (hN : X.N[i]? = some x := by rfl) (hv : Vis X.env.scope x := by first | exact Or.inl rfl | exact Or.inr (Or.inl rfl) | exact Or.inr (Or.inr rfl)) (hd : (x == ("__debug__" : Str)) = false := by decide)
    (hcd : (x == ("__classdict__" : Str)) = false := by decide) : PE X (.Subscript (.Name x p1) b pos) (tR (wd X H0 P) (mIxL i mb)) :=
  weak (pe_ix ix_list (pe_var hN hv hd hcd) hb hs) fun σ H Q ⟨ρ, R, g⟩ => by
    unfold mIxL at g
    split at g
    · rename_i ds0 e0
      obtain ⟨v, h1, a, vs0, rfl, _⟩ := R.sl i _ e0
      refine ⟨.ref a, h1, tR_bd R g fun u H2 y ρ2 go2 R2 d2 g2 => ?_⟩
      dsimp only at g2
      split at g2
      · rename_i ds e
        obtain ⟨z, hz, k⟩ := got_lift g2
        obtain ⟨v', h1', a', vs, rfl, h2, h3, h4⟩ := R2.sl i _ e
        rw [h1] at h1'
        cases h1'
        unfold fIx at hz
        split at hz
        · rename_i heq
          cases heq
          cases d2
          obtain ⟨w, e1, e2⟩ := h3.at hz
          exact ⟨a, vs, _, w, rfl, rfl, .of h2, e1, k w H2 go2 R2 e2⟩
        all_goals (first | cases hz | (rename_i heq; cases heq) | (rename_i heq _; cases heq))
      · exact g2.elim
    · exact g.elim

/-! ### x[lo:hi] -/
def pI : D → Option (Option Int)
  | .int i => some (some i)
  | _ => none
def mNoP : MM (Option Int) := pu none
def mPt (m : MM D) : MM (Option Int) := bd m fun d => lift (pI d)
def tO (W : Wd) (m : MM (Option Int)) : TO := fun σ H Q => ∃ ρ, Rel W ρ σ H ∧ Got (m ρ) fun o ρ' => ∀ H', Go ρ ρ' σ H H' → Rel W ρ' σ H' → Q o H'
theorem tO_bd {W : Wd} {ρ : En} {σ : L2.St} {H : Hp} {α : Type} {m : MM (Option Int)} {f : Option Int → MM α} {k : α → En → Prop} {Q : Option Int → Hp → Prop} (R : Rel W ρ σ H) (g : Got (bd m f ρ) k)
    (q : ∀ H' d ρ', Go ρ ρ' σ H H' → Rel W ρ' σ H' → Got (f d ρ') k → Q d H') : tO W m σ H Q :=
  ⟨ρ, R, got_imp (got_bd g) fun d ρ' g' H' go R' => q H' d ρ' go R' g'⟩
theorem weakO {eo : Option Expr} {t t' : TO} (h : PO X eo t) (w : ∀ σ H Q, t' σ H Q → t σ H Q) : PO X eo t' := fun pins s σ H Q I q => h pins s σ H Q I (w σ H Q q)
theorem ro_none : PO X none (tO (wd X H0 P) mNoP) := weakO po_none fun σ H Q ⟨ρ, R, g⟩ => g H .refl R
theorem ro_some (h : PE X e (tR (wd X H0 P) m)) : PO X (some e) (tO (wd X H0 P) (mPt m)) := weakO (po_some h) fun σ H Q ⟨ρ, R, g⟩ => tR_bd R g fun v H1 d ρ1 go1 R1 d1 g1 => by
  obtain ⟨o, ho, k⟩ := got_lift g1
  unfold pI at ho
  split at ho
  · cases d1
    obtain rfl := Option.some.inj ho
    exact ⟨_, rfl, k H1 go1 R1⟩
  · cases ho
def cutD {α : Type} (xs : List α) (lo hi : Option Int) : List α := (xs.drop (HT.sIx xs.length 0 lo)).take (HT.sIx xs.length xs.length hi - HT.sIx xs.length 0 lo)
theorem DfA.cut {K : Fg} {H : Hp} {vs : List V} {ds : List D} (lo hi : Option Int) (h : DfA K H vs ds) : DfA K H (cutV vs lo hi) (cutD ds lo hi) := by
  unfold cutV cutD
  rw [h.length]
  exact (h.drop _).take _
/-- the whole tuple, cut: it is itself -/
theorem getItem_tuple_whole {prog : Program} {w : World} {A : Around} {E : Value → Shared → Prop} {s : Shared} {t sl : Addr} {items : Array Value} {vl vu : Value} {lo hi : Option Int} {Q : Value → Shared → Prop} (ht : IsTup s.heap t items) (hs : s.heap.IsSliceOf sl vl vu .none) (pl : IsPart vl lo) (pu : IsPart vu hi)
    (hw : HT.sIx items.size 0 lo = 0 ∧ HT.sIx items.size items.size hi = items.size)
    (h : Q (.ref t) s) : wpAny (model prog w) A (getItem (.ref t) (.ref sl)) Q E s := by
  obtain ⟨os, hos, hcs, hds⟩ := id hs
  have hTs : s.TypeIs (.ref sl) "slice" := ⟨os, hos, hcs⟩
  unfold getItem
  try with_reducible refine wpAny_holding ?_
  first | refine wpAny_bind (wpAny_pure ?_) | skip
  refine wpAny_bind (wpAny_sequenceKey ht.typeIs (by decide) ?_)
  refine wpAny_bind (wpAny_callSpecial?_slot (name := Str.ofString "__getitem__") ht.typeIs PyProof.Rows.slot_tuple_getitem
    (wpAny_call_entry PyProof.Rows.slot_tuple_getitem ht.typeIs entry_tuple_getitem ?_ (args_tuple_getitem _ _)))
  show wpAny _ _ (Builtin.Tuple.tupleItemsOf (.ref t) >>= _) _ _ s
  refine wpAny_bind (tupleItemsOf_ ht ?_)
  refine wpAny_bind (wpAny_typeOf hTs ?_)
  rw [if_pos (by decide)]
  refine wpAny_bind (HT.sliceApplied_gen hs pl pu ?_)
  have hyes : (((HT.sIx items.size 0 lo : Nat) : Int) == 0 && (1 : Int) == 1 && (HT.sIx items.size items.size hi - HT.sIx items.size 0 lo) == items.size) = true := by
    rw [hw.1, hw.2]; simp
  show wpAny _ _ (if (((HT.sIx items.size 0 lo : Nat) : Int) == 0 && (1 : Int) == 1 && (HT.sIx items.size items.size hi - HT.sIx items.size 0 lo) == items.size) = true then _ else _) _ _ s
  rw [if_pos hyes]
  refine wpAny_bind (m := Builtin.Tuple.tupleIsExact _) (wpAny_bind (wpAny_typeOf ht.typeIs (wpAny_pure ?_)))
  rw [if_pos (by decide)]
  first
    | exact wpAny_bind (wpAny_rule (wpAny_pure ⟨_, rfl, wpAny_pure h⟩))
    | exact wpAny_bind (wpAny_pure (wpAny_pure ⟨_, rfl, wpAny_pure h⟩))
end
end Pu

namespace Pu
open PySem PySem.Spec PyProof.Rows L2
section
variable {X : Cx} {H0 : Hp} {P : List Addr} {pos : Pos} {a b e : Expr} {ma mb m : MM D}
def fSl : D → Option Int → Option Int → Option D
  | .tuple ds, lo, hi => some (.tuple (cutD ds lo hi))
  | .str z, lo, hi => if sized z.length then some (.str (cutS z lo hi)) else none
  | _, _, _ => none
def rSl (K : Fg) : V → Option Int → Option Int → Hp → VK → Prop := fun x lo hi H Q => ∃ a d, Df K H x a ∧ fSl a lo hi = some d ∧ ∀ v H', Same H H' → Df K H' v d → Q v H'
theorem cutD_whole {α : Type} {xs : List α} {lo hi : Option Int} (h : HT.sIx xs.length 0 lo = 0 ∧ HT.sIx xs.length xs.length hi = xs.length) : cutD xs lo hi = xs := by
  unfold cutD
  rw [h.1, h.2]
  simp
theorem sl_D : SlR X (rSl X.K) := by
  intro pins s σ H x v vl vu lo hi sl Q I rx hs pl pu ⟨a, d, ha, hf, q⟩
  unfold fSl at hf
  split at hf
  · rename_i ds
    obtain rfl := Option.some.inj hf
    obtain ⟨a1, h1⟩ : ∃ a1, x = .ref a1 := by cases ha; exact ⟨_, rfl⟩
    subst h1
    cases ha with
    | tup s1 da t_s1 =>
      rename_i vs
      by_cases hw : HT.sIx vs.length 0 lo = 0 ∧ HT.sIx vs.length vs.length hi = vs.length
      · cases rx
        obtain ⟨its, r, ht, hz⟩ := I.tuple s1
        have hlen : its.toArray.size = vs.length := by rw [List.size_toArray]; exact r.length.symm
        refine ⟨"tuple", _, PyProof.Rows.slot_tuple_getitem.lookup, ht.typeIs, ?_⟩
        refine getItem_tuple_whole ht hs pl pu (by rw [hlen]; exact hw) ⟨.ref a1, H, I, rfl, q _ _ (Same.refl _) ?_⟩
        rw [cutD_whole (by rw [← da.length]; exact hw)]
        exact .tup s1 da
      · exact sl_tup pins s σ H _ v vl vu lo hi sl Q I rx hs pl pu ⟨a1, vs, rfl, s1, hw, fun p hp => q _ _ (same_upd hp _) (.tup (.inl (.inl upd_same)) ((da.cut lo hi).mono (.same (same_upd hp _))))⟩
  · cases ha
    split at hf
    · rename_i hz
      obtain rfl := Option.some.inj hf
      exact sl_str pins s σ H _ v vl vu _ _ sl Q I rx hs pl pu ⟨_, rfl, of_sized hz, q _ _ (Same.refl _) (.str _)⟩
    · cases hf
  · cases hf
def mSl (m : MM D) (l u : MM (Option Int)) : MM D := bd m fun x => bd l fun lo => bd u fun hi => lift (fSl x lo hi)
def fSlL : D → Option Int → Option Int → Option (List D)
  | .list ds, lo, hi => some (cutD ds lo hi)
  | _, _, _ => none
def mSlL (m : MM D) (l u : MM (Option Int)) : MM (List D) := bd m fun x => bd l fun lo => bd u fun hi => lift (fSlL x lo hi)
variable {lo hi : Option Expr} {ml mu : MM (Option Int)} {p2 : Pos}
theorem re_sl (he : PE X e (tR (wd X H0 P) m)) (hl : PO X lo (tO (wd X H0 P) ml)) (hu : PO X hi (tO (wd X H0 P) mu)) : PE X (.Subscript e (.Slice lo hi none p2) pos) (tR (wd X H0 P) (mSl m ml mu)) :=
  weak (pe_slice sl_D he hl hu) fun σ H Q ⟨ρ, R, g⟩ => tR_bd R g fun v H1 d ρ1 go1 R1 d1 g1 => tO_bd R1 g1 fun H2 l ρ2 go2 R2 g2 => tO_bd R2 g2 fun H3 u ρ3 go3 R3 g3 => by
    obtain ⟨z, hz, k⟩ := got_lift g3
    exact ⟨d, z, d1.mono (go2.stb.trans go3.stb), hz, fun w H' sm dw => k w H' (((go1.trans go2).trans go3).trans (.same sm)) (R3.same sm) dw⟩
theorem Nw.of_fresh {ρ ρ1 : En} {σ : L2.St} {H H1 : Hp} {p : Addr} (go : Go ρ ρ1 σ H H1) (hp : H1 p = none) : Nw ρ σ H p := by
  cases q : H p with
  | none => exact .inl q
  | some o =>
    by_cases n : NotOwn ρ σ p
    · have := go.fr p o q n
      rw [hp] at this
      cases this
    · exact .inr (Classical.byContradiction fun z => n fun j s e o' ev => z ⟨j, s, e, o', ev⟩)
theorem rl_sl (he : PE X e (tR (wd X H0 P) m)) (hl : PO X lo (tO (wd X H0 P) ml)) (hu : PO X hi (tO (wd X H0 P) mu)) : PE X (.Subscript e (.Slice lo hi none p2) pos) (tL (wd X H0 P) (mSlL m ml mu)) :=
  weak (pe_slice sl_list he hl hu) fun σ H Q ⟨ρ, R, g⟩ => tR_bd R g fun v H1 d ρ1 go1 R1 d1 g1 => tO_bd R1 g1 fun H2 l ρ2 go2 R2 g2 => tO_bd R2 g2 fun H3 u ρ3 go3 R3 g3 => by
    obtain ⟨z, hz, k⟩ := got_lift g3
    unfold fSlL at hz
    split at hz
    · obtain rfl := Option.some.inj hz
      have d3 := d1.mono (go2.stb.trans go3.stb)
      cases d3 with
      | lst h1 h2 =>
        exact ⟨_, _, rfl, h1.sq, fun p hp => k p _ _ (((go1.trans go2).trans go3).trans (.same (same_upd hp _))) (R3.same (same_upd hp _)) upd_same ((h2.cut l u).mono (.same (same_upd hp _))) (R3.fresh hp) (.of_fresh ((go1.trans go2).trans go3) hp)⟩
    · cases hz

/-! ### calls of built-ins -/
def rC (K : Fg) (g : List D → Option D) : List V → Hp → VK → Prop := fun xs H Q => ∃ ds d, DfA K H xs ds ∧ g ds = some d ∧ ∀ v H', Same H H' → Df K H' v d → Q v H'
def rCL (K : Fg) (g : List D → Option (List D)) : List V → Hp → VK → Prop := fun xs H Q => ∃ ds d, DfA K H xs ds ∧ g ds = some d ∧ ∀ p vs, H p = none → DfA K H vs d → Q (.ref p) (upd H p (.lst vs))
def mCall (g : List D → Option D) (m : MM (List D)) : MM D := bd m fun ds => lift (g ds)
def mCallL (g : List D → Option (List D)) (m : MM (List D)) : MM (List D) := bd m fun ds => lift (g ds)
variable {es : List Expr} {mr : MM (List D)} {x : Str} {p : Pos} {id T : String}
theorem re_callB {g : List D → Option D} (hc : CallR X (.builtin id) (rC X.K g)) (hg : Gl X x) (hm : X.mg x = none) (hv : bootBuiltins x = some (.builtin id)) (ha : PA X (e :: es) (tA (wd X H0 P) mr)) (hn : x ≠ "__name__" := by decide) (hdb : (x == ("__debug__" : Str)) = false := by decide)
    (he : starEach (e :: es) X.env = (false, eval e X.env) :: starEach es X.env := by rfl) (hpl : (backTo pos (starEach es X.env)).any (·.1) = false := by rfl) : PE X (.Call (.Name x p) (e :: es) [] pos) (tR (wd X H0 P) (mCall g mr)) :=
  weak (pe_callB hc hg hm hv ha hn hdb he hpl) fun σ H Q ⟨ρ, R, g⟩ => tA_bd R g fun vs H1 ds ρ1 go1 R1 d1 g1 => by
    obtain ⟨z, hz, k⟩ := got_lift g1
    exact ⟨ds, z, d1, hz, fun v H' sm dv => k v H' (go1.trans (.same sm)) (R1.same sm) dv⟩
theorem re_callT {g : List D → Option D} (hc : CallR X (.type T) (rC X.K g)) (hg : Gl X x) (hm : X.mg x = none) (hv : bootBuiltins x = some (.type T)) (ha : PA X (e :: es) (tA (wd X H0 P) mr)) (hn : x ≠ "__name__" := by decide) (hdb : (x == ("__debug__" : Str)) = false := by decide)
    (he : starEach (e :: es) X.env = (false, eval e X.env) :: starEach es X.env := by rfl) (hpl : (backTo pos (starEach es X.env)).any (·.1) = false := by rfl) : PE X (.Call (.Name x p) (e :: es) [] pos) (tR (wd X H0 P) (mCall g mr)) :=
  weak (pe_callTy hc hg hm hv ha hn hdb he hpl) fun σ H Q ⟨ρ, R, g⟩ => tA_bd R g fun vs H1 ds ρ1 go1 R1 d1 g1 => by
    obtain ⟨z, hz, k⟩ := got_lift g1
    exact ⟨ds, z, d1, hz, fun v H' sm dv => k v H' (go1.trans (.same sm)) (R1.same sm) dv⟩
theorem rl_callT {g : List D → Option (List D)} (hc : CallR X (.type T) (rCL X.K g)) (hg : Gl X x) (hm : X.mg x = none) (hv : bootBuiltins x = some (.type T)) (ha : PA X (e :: es) (tA (wd X H0 P) mr)) (hn : x ≠ "__name__" := by decide) (hdb : (x == ("__debug__" : Str)) = false := by decide)
    (he : starEach (e :: es) X.env = (false, eval e X.env) :: starEach es X.env := by rfl) (hpl : (backTo pos (starEach es X.env)).any (·.1) = false := by rfl) : PE X (.Call (.Name x p) (e :: es) [] pos) (tL (wd X H0 P) (mCallL g mr)) :=
  weak (pe_callTy hc hg hm hv ha hn hdb he hpl) fun σ H Q ⟨ρ, R, g⟩ => tA_bd R g fun vs H1 ds ρ1 go1 R1 d1 g1 => by
    obtain ⟨z, hz, k⟩ := got_lift g1
    exact ⟨ds, z, d1, hz, fun p vs hp dv => k p vs _ (go1.trans (.same (same_upd hp _))) (R1.same (same_upd hp _)) upd_same (dv.mono (.same (same_upd hp _))) (R1.fresh hp) (.of_fresh go1 hp)⟩
def gLen : List D → Option D
  | [.list ds] => some (.int ds.length)
  | [.tuple ds] => some (.int ds.length)
  | [.str z] => if sized z.length then some (.int z.length) else none
  | _ => none
theorem cr_len : CallR X (.builtin "len") (rC X.K gLen) := by
  intro pins s σ H xs us Q I r ⟨ds, d, hd, hg, q⟩
  unfold gLen at hg
  split at hg
  · obtain rfl := Option.some.inj hg
    cases hd with
    | cons h t =>
      cases t
      cases h with
      | lst h1 h2 =>
        have l := h2.length
        exact call_len pins s σ H _ us Q I r ⟨_, _, rfl, .inl ⟨_, h1.sq, rfl⟩, q _ _ (Same.refl _) (by rw [l]; exact .int _)⟩
  · obtain rfl := Option.some.inj hg
    cases hd with
    | cons h t =>
      cases t
      cases h with
      | tup h1 h2 t_h1 =>
        have l := h2.length
        exact call_len pins s σ H _ us Q I r ⟨_, _, rfl, .inr ⟨_, h1, rfl⟩, q _ _ (Same.refl _) (by rw [l]; exact .int _)⟩
  · split at hg
    · rename_i hz
      obtain rfl := Option.some.inj hg
      cases hd with
      | cons h t =>
        cases t
        cases h
        exact call_len pins s σ H _ us Q I r ⟨_, _, rfl, ⟨of_sized hz, rfl⟩, q _ _ (Same.refl _) (.int _)⟩
    · cases hg
  · cases hg
def gTuple : List D → Option D
  | [.list ds] => some (.tuple ds)
  | [.tuple ds] => some (.tuple ds)
  | _ => none
theorem cr_tuple : CallR X (.type "tuple") (rC X.K gTuple) := by
  intro pins s σ H xs us Q I r ⟨ds, d, hd, hg, q⟩
  unfold gTuple at hg
  split at hg
  · obtain rfl := Option.some.inj hg
    cases hd with
    | cons h t =>
      cases t
      cases h with
      | lst h1 h2 => exact call_tuple_of pins s σ H _ us Q I r ⟨_, _, rfl, .inl ⟨h1.sq, fun l hl => q _ _ (same_upd hl _) (.tup (.inl (.inl upd_same)) (h2.mono (.same (same_upd hl _))))⟩⟩
  · obtain rfl := Option.some.inj hg
    cases hd with
    | cons h t =>
      cases t
      cases h with
      | tup h1 h2 t_h1 => exact call_tuple_of pins s σ H _ us Q I r ⟨_, _, rfl, .inr ⟨h1, q _ _ (Same.refl _) (.tup h1 h2)⟩⟩
  · cases hg
def gList : List D → Option (List D)
  | [.list ds] => some ds
  | [.tuple ds] => some ds
  | _ => none
theorem cr_list : CallR X (.type "list") (rCL X.K gList) := by
  intro pins s σ H xs us Q I r ⟨ds, d, hd, hg, q⟩
  unfold gList at hg
  split at hg
  · obtain rfl := Option.some.inj hg
    cases hd with
    | cons h t =>
      cases t
      cases h with
      | lst h1 h2 => exact call_list_of pins s σ H _ us Q I r ⟨_, _, rfl, .inl h1.sq, fun l hl => q l _ hl h2⟩
  · obtain rfl := Option.some.inj hg
    cases hd with
    | cons h t =>
      cases t
      cases h with
      | tup h1 h2 t_h1 => exact call_list_of pins s σ H _ us Q I r ⟨_, _, rfl, .inr h1, fun l hl => q l _ hl h2⟩
  · cases hg
def gMax : List D → Option D
  | [.int i, .int j] => some (.int (if j > i then j else i))
  | _ => none
/-! ### isinstance -/
def tyD : D → String
  | .none => "NoneType"
  | .bool _ => "bool"
  | .int _ => "int"
  | .str _ => "str"
  | .list _ => "list"
  | .tuple _ => "tuple"
  | .dict _ => "dict"
def isT (T : String) (d : D) : Bool := (tyD d == T) || (tyD d == "bool" && T == "int")
def mIsi (T : String) (m : MM D) : MM D := bd m fun d => pu (.bool (isT T d))
theorem isi_df {pins : List (Addr × Obj)} {σ : L2.St} {H : Hp} {s : Shared} {A : Around} {E : Value → Shared → Prop} {Q : Value → Shared → Prop} {c : Value} {bb : Bool} {x : V} {u : Value} {d : D} (I : Inv X pins σ H s) (rx : RelV x u) (h : Df X.K H x d) (hk : PySem.W.kitOne X.K (.type (tyD d)) c = some bb) (q : ∀ tk, Q (.bool bb) { s with toks := tk }) :
    wpAny (model X.prog X.w) A (call (.builtin "isinstance") [u, c]) Q E s := by
  cases h with
  | non => exact isinst_ok I rx .non hk q
  | bl b => exact isinst_ok I rx (.bl b) hk q
  | int i => exact isinst_ok I rx (.int i) hk q
  | str i => exact isinst_ok I rx (.str i) hk q
  | lst h1 h2 =>
    cases rx
    obtain ⟨its, _, ⟨o, n, e1, e2, e3, e4⟩, _⟩ := I.list h1.sq
    exact PySem.W.kia_one PySem.W.kitx_list I.kIn ⟨o, e1, e2⟩ hk (fun z => nomatch z) q
  | tup h1 h2 t_h1 =>
    cases rx
    obtain ⟨its, _, ⟨o, e1, e2, e3⟩, _⟩ := I.tuple h1
    exact PySem.W.kia_one PySem.W.kitx_tuple I.kIn ⟨o, e1, e2⟩ hk (fun z => nomatch z) q
theorem re_isi {y : Str} {p' : Pos} (T : String) (hT : ∀ d : D, PySem.W.kitOne X.K (.type (tyD d)) (.type T) = some (isT T d)) (hg : Gl X "isinstance") (hm : X.mg "isinstance" = none) (hg2 : Gl X y) (hm2 : X.mg y = none) (hv2 : bootBuiltins y = some (.type T))
    (ha : PE X e (tR (wd X H0 P) m)) (hn : y ≠ "__name__" := by decide) (hdb : (y == ("__debug__" : Str)) = false := by decide)
    (he : starEach (e :: [Expr.Name y p']) X.env = (false, eval e X.env) :: starEach [Expr.Name y p'] X.env := by rfl) (hpl : (backTo pos (starEach [Expr.Name y p'] X.env)).any (·.1) = false := by rfl) :
    PE X (.Call (.Name "isinstance" p) (e :: [Expr.Name y p']) [] pos) (tR (wd X H0 P) (mIsi T m)) := by
  have hc : CallR X (.builtin "isinstance") (fun xs H Q => ∃ z d, xs = [z, .ty T] ∧ Df X.K H z d ∧ Q (.bl (isT T d)) H) := by
    intro pins s σ H xs us Q I r ⟨z, d, e1, hd, q⟩
    subst e1
    obtain ⟨u, v, rfl, ru, rv⟩ := r.two
    cases rv
    exact isi_df I ru hd (hT d) fun tk => ⟨.bl _, H, I.tok tk, rfl, q⟩
  refine weak (pe_callB (t := tCons (tR (wd X H0 P) m) (tCons (tC (.ty T)) tNil)) hc hg hm (by decide +kernel) (pa_cons ha (pa_cons (pe_bltn hg2 hm2 hv2 rfl hn hdb) pa_nil) he) (by decide) (by decide) he hpl) fun σ H Q ⟨ρ, R, g⟩ => ?_
  exact tR_bd R g fun v H1 d ρ1 go1 R1 d1 g1 => ⟨v, d, rfl, d1, g1 _ H1 go1 R1 (.bl _)⟩
theorem kit_bool (K : Fg) : ∀ d : D, PySem.W.kitOne K (.type (tyD d)) (.type "bool") = some (isT "bool" d) := by
  intro d; cases d <;> first | rfl | kernel_rfl
end
end Pu

namespace Pu
open PySem PySem.Spec PyProof.Rows L2

/-! ### a name's own list changed by its methods -/
theorem list_extW (l : Addr) (items : Array Value) (n : Nat) (b : Addr) (items2 : Array Value) (n2 : Nat) (dd : Option Addr) (sl : Array (Option Value)) (hc0 : ¬(!items.isEmpty && Builtin.List.listTooLong (items.size + items2.size)) = true) (hc1 : items.size ≤ sizeLine) (hs2 : items.size + items2.size ≤ sizeLine + 1) :
    Meets (Builtin.«list.extend» ⟨[.ref l, .ref b], []⟩) (fun _ R s => s.heap.get? l = some { cls := .type "list", dict := none, data := .seq items n, slots := #[] } ∧ s.heap.get? b = some { cls := .type "list", dict := dd, data := .seq items2 n2, slots := sl } ∧ R (.ok (.ret Value.none)) { s with heap := s.heap.update l (Obj.mapSeq fun x => x ++ items2), toks := s.toks }) :=
  .of_wp fun prog w A R s h => by
    obtain ⟨hp, g, d, tk, os⟩ := s; obtain ⟨hl, hb, h⟩ := h; have f1 := AutoSeq1.idx_int; have f2 := AutoSeq1.sub_tuple_tuple; have f3 := AutoSeq1.sub_list_list; have f4 := AutoSeq1.sub_tuple_list; have f5 := AutoSeq1.sub_list_tuple
    have hz' : (items ++ items2).size ≤ sizeLine + 1 := by rw [Array.size_append]; exact hs2
    wp_walk using (wpAny_updateSeq hl rfl (hz := hc1) (_hz' := hz')), wpAny_loadPart' hl, wpAny_loadPart' hb; exact ⟨_, rfl, h⟩
theorem list_extT (l : Addr) (items : Array Value) (n : Nat) (b : Addr) (items2 : Array Value) (n2 : Nat) (dd : Option Addr) (sl : Array (Option Value)) (hc0 : ¬(!items.isEmpty && Builtin.List.listTooLong (items.size + items2.size)) = true) (hc1 : items.size ≤ sizeLine) (hs2 : items.size + items2.size ≤ sizeLine + 1) :
    Meets (Builtin.«list.extend» ⟨[.ref l, .ref b], []⟩) (fun _ R s => s.heap.get? l = some { cls := .type "list", dict := none, data := .seq items n, slots := #[] } ∧ s.heap.get? b = some { cls := .type "tuple", dict := dd, data := .seq items2 n2, slots := sl } ∧ R (.ok (.ret Value.none)) { s with heap := s.heap.update l (Obj.mapSeq fun x => x ++ items2), toks := s.toks }) :=
  .of_wp fun prog w A R s h => by
    obtain ⟨hp, g, d, tk, os⟩ := s; obtain ⟨hl, hb, h⟩ := h; have f1 := AutoSeq1.idx_int; have f2 := AutoSeq1.sub_tuple_tuple; have f3 := AutoSeq1.sub_list_list; have f4 := AutoSeq1.sub_tuple_list; have f5 := AutoSeq1.sub_list_tuple
    have hz' : (items ++ items2).size ≤ sizeLine + 1 := by rw [Array.size_append]; exact hs2
    wp_walk using (wpAny_updateSeq hl rfl (hz := hc1) (_hz' := hz')), wpAny_loadPart' hl, wpAny_loadPart' hb; exact ⟨_, rfl, h⟩
def rM (K : Fg) (f : List D → List D → Option (D × List D)) : V → List V → Hp → VK → Prop := fun x vs H Q => ∃ l xs ds as d ds', x = .ref l ∧ H l = some (.lst xs) ∧ DfA K H xs ds ∧ DfA K H vs as ∧ f ds as = some (d, ds') ∧
  ∀ v xs', DfA K H xs' ds' → Df K H v d → Q v (upd H l (.lst xs'))
def fApp : List D → List D → Option (D × List D)
  | ds, [d] => if decide (ds.length < sizeLine) then some (.none, ds ++ [d]) else none
  | _, _ => none
def fExt : List D → List D → Option (D × List D)
  | ds, [.list es] => if sized (ds.length + es.length) then some (.none, ds ++ es) else none
  | ds, [.tuple es] => if sized (ds.length + es.length) then some (.none, ds ++ es) else none
  | _, _ => none
def fPop : List D → List D → Option (D × List D)
  | ds, [] => (ds[ds.length - 1]?).map fun d => (d, ds.dropLast)
  | _, _ => none
section
variable {X : Cx}
theorem mt_app : MtR X "list.append" (rM X.K fApp) := by
  intro pins s σ H x vs v us Q I rx rv ⟨l, xs, ds, as, d, ds', e1, h1, h2, h3, hf, q⟩
  subst e1
  unfold fApp at hf
  split at hf
  · split at hf
    · rename_i hz
      obtain ⟨rfl, rfl⟩ := Prod.mk.inj (Option.some.inj hf)
      cases h3 with
      | cons h t =>
        cases t
        exact mt_append pins s σ H _ _ v us Q I rx rv ⟨l, xs, _, rfl, rfl, h1, by rw [h2.length]; exact of_decide_eq_true hz, q _ _ (h2.append (.cons h .nil)) .non⟩
    · cases hf
  · cases hf
theorem mt_popD : MtR X "list.pop" (rM X.K fPop) := by
  intro pins s σ H x vs v us Q I rx rv ⟨l, xs, ds, as, d, ds', e1, h1, h2, h3, hf, q⟩
  subst e1
  unfold fPop at hf
  split at hf
  · cases h3
    obtain ⟨y, hy, e⟩ := Option.map_eq_some_iff.mp hf
    obtain ⟨rfl, rfl⟩ := Prod.mk.inj e
    obtain ⟨w, hw, dw⟩ := h2.get hy
    exact mt_pop pins s σ H _ _ v us Q I rx rv ⟨l, xs, w, rfl, rfl, h1, by rw [h2.length]; exact hw, q w _ h2.dropLast dw⟩
  · cases hf
theorem mt_ext : MtR X "list.extend" (rM X.K fExt) := by
  intro pins s σ H x vs v us Q I rx rv ⟨l, xs, ds, as, d, ds', e1, h1, h2, h3, hf, q⟩
  subst e1
  cases rx
  obtain ⟨z, its, n, r, hl, e⟩ := I.lstM h1
  have hlen := h2.length
  have door : ∀ its2 : List Value, its.length + its2.length ≤ sizeLine → ¬ (!its.toArray.isEmpty && Builtin.List.listTooLong (its.toArray.size + its2.toArray.size)) = true := fun its2 hz => by
    rw [notLongL (by rw [List.size_toArray, List.size_toArray]; exact hz), Bool.and_false]
    exact Bool.false_ne_true
  unfold fExt at hf
  split at hf
  · split at hf
    · rename_i hz
      have hz := of_sized hz
      obtain ⟨rfl, rfl⟩ := Prod.mk.inj (Option.some.inj hf)
      cases h3 with
      | cons h t =>
        cases t
        obtain ⟨u, rfl, ru⟩ := rv.one
        cases h with
        | lst g1 g2 =>
          cases ru
          have gl := g2.length
          obtain ⟨its2, r2, ⟨⟨cls, dd, data, sl⟩, n2, o1, o2, o3, o4⟩, _⟩ := I.list g1.sq
          simp only at o2 o3 o4
          subst o2 o3 o4
          have r2l := r2.length
          refine call_meets F.slot_list_extend ⟨_, e, rfl⟩ F.entry_list_extend (F.args_list_extend_2 _ _)
            (list_extW l its.toArray n _ its2.toArray n2 none sl (door its2 (by omega)) (by rw [List.size_toArray]; omega) (by rw [List.size_toArray, List.size_toArray]; omega)) ⟨e, o1, ?_⟩
          refine ⟨.non, _, I.lset (its' := its ++ its2) h1 e (by simp) (r.append r2) ?_, rfl, q .non _ (h2.append g2) .non⟩
          rw [List.length_append]
          omega
    · cases hf
  · split at hf
    · rename_i hz
      have hz := of_sized hz
      obtain ⟨rfl, rfl⟩ := Prod.mk.inj (Option.some.inj hf)
      cases h3 with
      | cons h t =>
        cases t
        obtain ⟨u, rfl, ru⟩ := rv.one
        cases h with
        | tup g1 g2 t_g1 =>
          cases ru
          have gl := g2.length
          obtain ⟨its2, r2, ⟨⟨cls, dd, data, sl⟩, o1, o2, n2, o4⟩, _⟩ := I.tuple g1
          simp only at o2 o4
          subst o2 o4
          have r2l := r2.length
          refine call_meets F.slot_list_extend ⟨_, e, rfl⟩ F.entry_list_extend (F.args_list_extend_2 _ _)
            (list_extT l its.toArray n _ its2.toArray n2 dd sl (door its2 (by omega)) (by rw [List.size_toArray]; omega) (by rw [List.size_toArray, List.size_toArray]; omega)) ⟨e, o1, ?_⟩
          refine ⟨.non, _, I.lset (its' := its ++ its2) h1 e (by simp) (r.append r2) ?_, rfl, q .non _ (h2.append g2) .non⟩
          rw [List.length_append]
          omega
    · cases hf
  · cases hf
variable {H0 : Hp} {P : List Addr} {apos cpos : Pos} {e : Expr} {es : List Expr} {mr : MM (List D)} {x : Str} {p1 : Pos} {name : Str} {id : String}
def mMut (i : Nat) (f : List D → List D → Option (D × List D)) (m : MM (List D)) : MM D := fun ρ => match ρ[i]? with
  | some (some (.lst _)) => bd m (fun as ρ' => match ρ'[i]? with
      | some (some (.lst ds)) => (match f ds as with
          | some (d, ds') => .ok d (ρ'.set i (some (.lst ds')))
          | none => .no)
      | _ => .no) ρ
  | _ => .no
theorem mut_step {W : Wd} {ρ : En} {σ : L2.St} {H : Hp} {i : Nat} {a : Addr} {ds as ds' : List D} {d : D} {vs xs : List V} {f : List D → List D → Option (D × List D)} {Q : VK} (R : Rel W ρ σ H) (e : ρ[i]? = some (some (.lst ds))) (h1 : σ[i]? = some (some (.ref a))) (ha : H a = some (.lst vs)) (hv : DfA W.K H vs ds) (h0 : W.H0 a = none)
    (hx : DfA W.K H xs as) (hf : f ds as = some (d, ds'))
    (k : ∀ v H', Go ρ (ρ.set i (some (.lst ds'))) σ H H' → Rel W (ρ.set i (some (.lst ds'))) σ H' → Df W.K H' v d → Q v H') : rM W.K f (.ref a) xs H Q :=
  ⟨a, vs, ds, as, d, ds', rfl, ha, hv, hx, hf, fun v xs' h2 h3 => by
    have st : Stb H (upd H a (.lst xs')) := ⟨fun b ys h => by rw [upd_ne (ne_of h ha (by intro z; cases z))]; exact h, fun b o u h => by rw [upd_ne (ne_of h ha (by intro z; cases z))]; exact h⟩
    refine k v _ ⟨st, fun b o hb n => ?_, fun j s e' o => ?_⟩ (R.updL e h1 ha h0 h2) (h3.mono st)
    · rw [upd_ne (notOwn_ne e rfl h1 n)]; exact hb
    · rcases getElem?_set_some e' with ⟨rfl, e'⟩ | ⟨n, e'⟩
      · exact ⟨_, e, rfl⟩
      · exact ⟨s, e', o⟩⟩
theorem re_mut (i : Nat) {f : List D → List D → Option (D × List D)} (slot : Slot "list" name id) (hty : typeOf (.builtin id) = pure (.type "method_descriptor")) (hm : MtR X id (rM X.K f)) (ha : PA X (e :: es) (tA (wd X H0 P) mr))
    (hN : X.N[i]? = some x := by rfl) (hv : Vis X.env.scope x := by first | exact Or.inl rfl | exact Or.inr (Or.inl rfl) | exact Or.inr (Or.inr rfl)) (hd : (x == ("__debug__" : Str)) = false := by decide) (hcd : (x == ("__classdict__" : Str)) = false := by decide)
    (hbase : attributeBase (.Name x p1) name X.env (eval (.Name x p1) X.env) = eval (.Name x p1) X.env := by rfl)
    (hfew : ((backTo cpos (starEach (e :: es) X.env)).all (fun x => !x.1) && (backToKw cpos (keywordEach [] X.env)).all (fun x => x.1.isSome)
      && decide ((e :: es).length + ([] : List Keyword).length + (if ([] : List Keyword).isEmpty then 0 else 1) < 30)) = true := by rfl)
    (hline : (apos.endLine == cpos.line) = true := by rfl) (hs : starEach (e :: es) X.env = (false, eval e X.env) :: starEach es X.env := by rfl) (hplain : (backTo cpos (starEach es X.env)).any (·.1) = false := by rfl) :
    PE X (.Call (.Attribute (.Name x p1) name apos) (e :: es) [] cpos) (tR (wd X H0 P) (mMut i f mr)) :=
  weak (pe_bm PySem.F.plainAttrs_list slot hty hm (pe_var hN hv hd hcd) ha hbase hfew hline hs hplain) fun σ H Q ⟨ρ, R, g⟩ => by
    unfold mMut at g
    split at g
    · rename_i ds0 e0
      obtain ⟨v, h1, a, vs0, rfl, g1, _⟩ := R.sl i _ e0
      refine ⟨.ref a, h1, .inl ⟨rfl, _, .of g1⟩, tA_bd R g fun xs H2 as ρ2 go2 R2 d2 g2 => ?_⟩
      try dsimp only at g2
      split at g2
      · rename_i ds e
        split at g2
        · rename_i d ds' hf
          obtain ⟨v', h1', a', vs, rfl, h2, h3, h4⟩ := R2.sl i _ e
          rw [h1] at h1'
          cases h1'
          exact mut_step R2 e h1 h2 h3 h4 d2 hf fun v H' go R' dv => g2 v H' (go2.trans go) R' dv
        · exact g2.elim
      · exact g2.elim
    · exact g.elim
theorem re_mut0 (i : Nat) {f : List D → List D → Option (D × List D)} (slot : Slot "list" name id) (hty : typeOf (.builtin id) = pure (.type "method_descriptor")) (hm : MtR X id (rM X.K f))
    (hN : X.N[i]? = some x := by rfl) (hv : Vis X.env.scope x := by first | exact Or.inl rfl | exact Or.inr (Or.inl rfl) | exact Or.inr (Or.inr rfl)) (hd : (x == ("__debug__" : Str)) = false := by decide) (hcd : (x == ("__classdict__" : Str)) = false := by decide)
    (hbase : attributeBase (.Name x p1) name X.env (eval (.Name x p1) X.env) = eval (.Name x p1) X.env := by rfl) (hline : (apos.endLine == cpos.line) = true := by rfl) :
    PE X (.Call (.Attribute (.Name x p1) name apos) [] [] cpos) (tR (wd X H0 P) (mMut i f mNil)) :=
  weak (pe_bm0 PySem.F.plainAttrs_list slot hty hm (pe_var hN hv hd hcd) hbase hline) fun σ H Q ⟨ρ, R, g⟩ => by
    unfold mMut at g
    split at g
    · rename_i ds0 e0
      obtain ⟨v, h1, a, vs0, rfl, h2, h3, h4⟩ := R.sl i _ e0
      refine ⟨.ref a, h1, .inl ⟨rfl, _, .of h2⟩, ?_⟩
      have g2 := got_bd g
      have g2 : Got (match ρ[i]? with
          | some (some (.lst ds)) => (match f ds [] with
              | some (d, ds') => Ou.ok d (ρ.set i (some (.lst ds')))
              | none => .no)
          | _ => .no) fun d ρ' => ∀ v H', Go ρ ρ' σ H H' → Rel (wd X H0 P) ρ' σ H' → Df X.K H' v d → Q v H' := g2
      rw [e0] at g2
      try dsimp only at g2
      split at g2
      · rename_i d ds' hf
        exact mut_step R e0 h1 h2 h3 h4 .nil hf fun v H' go R' dv => g2 v H' go R' dv
      · exact g2.elim
    · exact g.elim
/-- what may be asked of a name's own list, which stays the name's: len, isinstance -/
def mPk (i : Nat) (g : List D → Option D) : MM D := fun ρ => match ρ[i]? with
  | some (some (.lst ds)) => lift (g ds) ρ
  | _ => .no
def rBp (K : Fg) (f : D → D → Option Bool) : R2 := fun x y H Q => ∃ a b c, Dp K H x a ∧ Dp K H y b ∧ f a b = some c ∧ Q (.bl c) H
end
end Pu

namespace Pu
open PySem PySem.Spec PyProof.Rows L2

/-! ### statements -/
inductive RV where
  | imm (d : D) | own (ds : List D)
inductive Fl where
  | nx (ρ : En) | rt (r : RV) (ρ : En) | bk (ρ : En) | ct (ρ : En) | ex (c : XD) (ρ : En) | no
abbrev MS := En → Fl
def Rv (W : Wd) (H : Hp) : RV → V → Prop
  | .imm d, v => Df W.K H v d
  | .own ds, v => ∃ a vs, v = .ref a ∧ H a = some (.lst vs) ∧ DfA W.K H vs ds ∧ W.H0 a = none
def GotS (W : Wd) (G : Hp) (E : Ends) : Fl → Prop
  | .nx ρ => ∀ σ H, Stb G H → Rel W ρ σ H → E.nx σ H
  | .rt r ρ => ∀ v σ H, Stb G H → Rel W ρ σ H → Rv W H r v → E.rt v H
  | .bk ρ => ∀ σ H, Stb G H → Rel W ρ σ H → E.bk σ H
  | .ct ρ => ∀ σ H, Stb G H → Rel W ρ σ H → E.ct σ H
  | .ex _ _ => False
  | .no => False
theorem GotS.mono {W : Wd} {G G' : Hp} {E : Ends} {fl : Fl} (s : Stb G G') (h : GotS W G E fl) : GotS W G' E fl := by
  cases fl with
  | nx ρ => exact fun σ H st R => h σ H (s.trans st) R
  | rt r ρ => exact fun v σ H st R => h v σ H (s.trans st) R
  | bk ρ => exact fun σ H st R => h σ H (s.trans st) R
  | ct ρ => exact fun σ H st R => h σ H (s.trans st) R
  | ex c ρ => exact h
  | no => exact h
def tS (W : Wd) (m : MS) : TS := fun E σ H => ∃ ρ, Rel W ρ σ H ∧ GotS W H E (m ρ)
/-- an expression, then a statement -/
def bs {α : Type} (m : MM α) (f : α → MS) : MS := fun ρ => match m ρ with
  | .ok a ρ' => f a ρ'
  | .ex c ρ' => .ex c ρ'
  | .no => .no
theorem got_bs {α : Type} {W : Wd} {G : Hp} {E : Ends} {m : MM α} {f : α → MS} {ρ : En} (h : GotS W G E (bs m f ρ)) : Got (m ρ) fun a ρ' => GotS W G E (f a ρ') := by
  unfold bs at h
  cases e : m ρ with
  | ok a ρ' => rw [e] at h; exact h
  | ex c ρ' => rw [e] at h; exact h
  | no => rw [e] at h; exact h
def sNx : MS := fun ρ => .nx ρ
def sSeq (a b : MS) : MS := fun ρ => match a ρ with
  | .nx ρ' => b ρ'
  | r => r
def sDrop (m : MM D) : MS := bs m fun _ => sNx
def sRet (m : MM D) : MS := bs m fun d ρ => .rt (.imm d) ρ
def sRetL (m : MM (List D)) : MS := bs m fun d ρ => .rt (.own d) ρ
def sIf (c : MM Bool) (a b : MS) : MS := bs c fun k => if k then a else b
/-- a name gets data, a list of its own -/
def sSet (i : Nat) (m : MM D) : MS := bs m fun d ρ => if i < ρ.length then .nx (ρ.set i (some (.imm d))) else .no
def sSetL (i : Nat) (m : MM (List D)) : MS := bs m fun d ρ => if i < ρ.length then .nx (ρ.set i (some (.lst d))) else .no
section
variable {X : Cx} {H0 : Hp} {P : List Addr} {pos : Pos} {e : Expr} {m : MM D} {ml : MM (List D)} {st : Stmt} {rest a b : List Stmt} {m1 m2 : MS}
theorem rss_nil : PSs X [] (tS (wd X H0 P) sNx) := weakSs pss_nil fun E σ H ⟨ρ, R, g⟩ => g σ H (.refl _) R
theorem rss_one (h : PS X st (tS (wd X H0 P) m1)) : PSs X [st] (tS (wd X H0 P) m1) := pss_one h
theorem rss_cons (h1 : PS X st (tS (wd X H0 P) m1)) (h2 : PSs X rest (tS (wd X H0 P) m2)) : PSs X (st :: rest) (tS (wd X H0 P) (sSeq m1 m2)) :=
  weakSs (pss_cons h1 h2) fun E σ H ⟨ρ, R, g⟩ => ⟨ρ, R, by
    unfold sSeq at g
    cases q : m1 ρ with
    | nx ρ' => rw [q] at g; exact fun σ' H' st R' => ⟨ρ', R', GotS.mono st g⟩
    | rt r ρ' => rw [q] at g; exact g
    | bk ρ' => rw [q] at g; exact g
    | ct ρ' => rw [q] at g; exact g
    | ex c ρ' => rw [q] at g; exact g.elim
    | no => rw [q] at g; exact g.elim⟩
theorem rs_expr (he : PE X e (tR (wd X H0 P) m)) (hs : swapsWith e none pos.line X.env = pure false := by rfl) : PS X (.Expr e pos) (tS (wd X H0 P) (sDrop m)) :=
  weakS (ps_expr he hs) fun E σ H ⟨ρ, R, g⟩ => ⟨ρ, R, got_imp (got_bs g) fun d ρ' k v H' go R' dv => k σ H' go.stb R'⟩
theorem rs_ret (he : PE X e (tR (wd X H0 P) m)) : PS X (.Return (some e) pos) (tS (wd X H0 P) (sRet m)) :=
  weakS (ps_ret he) fun E σ H ⟨ρ, R, g⟩ => ⟨ρ, R, got_imp (got_bs g) fun d ρ' k v H' go R' dv => k v σ H' go.stb R' dv⟩
theorem rs_retL (he : PE X e (tL (wd X H0 P) ml)) : PS X (.Return (some e) pos) (tS (wd X H0 P) (sRetL ml)) :=
  weakS (ps_ret he) fun E σ H ⟨ρ, R, g⟩ => ⟨ρ, R, got_imp (got_bs g) fun d ρ' k a vs H' go R' h1 h2 h3 h4 => k _ σ H' go.stb R' ⟨a, vs, rfl, h1, h2, h3.1⟩⟩
theorem rs_if {c : Expr} {mc : MM Bool} (hc : PT X c (tT (wd X H0 P) mc)) (ha : PSs X a (tS (wd X H0 P) m1)) (hb : PSs X b (tS (wd X H0 P) m2)) : PS X (.If c a b pos) (tS (wd X H0 P) (sIf mc m1 m2)) :=
  weakS (ps_if hc ha hb) fun E σ H ⟨ρ, R, g⟩ => ⟨ρ, R, got_imp (got_bs g) fun c ρ' k H' go R' => by
    cases c with
    | true => exact iteT ⟨ρ', R', GotS.mono go.stb k⟩
    | false => exact iteF ⟨ρ', R', GotS.mono go.stb k⟩⟩
theorem set_imm {W : Wd} {G : Hp} {E : Ends} {ρ : En} {σ : L2.St} {H : Hp} {i : Nat} {v : V} {d : D} (st : Stb G H) (R : Rel W ρ σ H) (dv : Df W.K H v d) (k : GotS W G E (if i < ρ.length then Fl.nx (ρ.set i (some (.imm d))) else .no)) : E.nx (σ.set i (some v)) H := by
  split at k
  · rename_i hi
    exact k _ _ st (R.setI hi dv)
  · exact k.elim
theorem rs_set {i : Nat} {x : Str} {pos' : Pos} (hN : X.N.Nodup) (he : PE X e (tR (wd X H0 P) m)) (hi : X.N[i]? = some x := by rfl) (hx : Loc X.env.scope x := by first | exact Or.inl rfl | exact Or.inr rfl) (hs : swapsWith e (some (.Name x pos')) pos.line X.env = pure false := by rfl) (hf : X.fn x = true ∨ X.env.scope.names.lookup x = some .local := by first | exact .inl rfl | exact .inr rfl) :
    PS X (.Assign [.Name x pos'] e pos) (tS (wd X H0 P) (sSet i m)) :=
  weakS (ps_set hN hi hx he hs hf) fun E σ H ⟨ρ, R, g⟩ => ⟨ρ, R, got_imp (got_bs g) fun d ρ' k v H' go R' dv => set_imm go.stb R' dv k⟩
theorem rs_setL {i : Nat} {x : Str} {pos' : Pos} (hN : X.N.Nodup) (he : PE X e (tL (wd X H0 P) ml)) (hi : X.N[i]? = some x := by rfl) (hx : Loc X.env.scope x := by first | exact Or.inl rfl | exact Or.inr rfl) (hs : swapsWith e (some (.Name x pos')) pos.line X.env = pure false := by rfl) (hf : X.fn x = true ∨ X.env.scope.names.lookup x = some .local := by first | exact .inl rfl | exact .inr rfl) :
    PS X (.Assign [.Name x pos'] e pos) (tS (wd X H0 P) (sSetL i ml)) :=
  weakS (ps_set hN hi hx he hs hf) fun E σ H ⟨ρ, R, g⟩ => ⟨ρ, R, got_imp (got_bs g) fun d ρ' k a vs H' go R' h1 h2 h3 h4 => by
    split at k
    · rename_i hi
      exact k _ _ go.stb (R'.setL hi h1 h2 h3)
    · exact k.elim⟩

/-! ### targets: a name, names in brackets -/
def gN (i : Nat) : D → En → Option En := fun d ρ => if i < ρ.length then some (ρ.set i (some (.imm d))) else none
def gs (is : List Nat) : List D → En → Option En := fun ds ρ => match is, ds with
  | [], [] => some ρ
  | i :: is, d :: ds => (gN i d ρ).bind (gs is ds)
  | _, _ => none
def gT (is : List Nat) : D → En → Option En := fun d ρ => match d with
  | .tuple ds => gs is ds ρ
  | _ => none
/-- a target keeps the mirror; of the names only those of is are stored -/
def PGm (X : Cx) (H0 : Hp) (P : List Addr) (tg : Expr) (g : TG) (is : List Nat) (f : D → En → Option En) : Prop :=
  PG X tg g ∧ ∀ v d ρ ρ' σ H Q, Rel (wd X H0 P) ρ σ H → Df X.K H v d → f d ρ = some ρ' → (∀ σ', Rel (wd X H0 P) ρ' σ' H → (∀ vs : List Nat, (∀ i ∈ is, i ∈ vs) → wipe σ' vs = wipe σ vs) → Q σ' H) → g v σ H Q
theorem wipe_get {σ : L2.St} {vs : List Nat} {j : Nat} : (wipe σ vs)[j]? = if j ∈ vs then (if j < σ.length then some none else none) else σ[j]? := by
  induction vs with
  | nil => simp [wipe]
  | cons v vs ih =>
    unfold wipe
    by_cases e : j = v
    · subst e
      rw [if_pos (List.mem_cons_self)]
      by_cases hl : j < σ.length
      · rw [if_pos hl, List.getElem?_set_self (by rw [wipe_length]; exact hl)]
      · rw [if_neg hl, List.getElem?_eq_none (by rw [List.length_set, wipe_length]; omega)]
    · rw [List.getElem?_set_ne (Ne.symm e), ih]
      by_cases hm : j ∈ vs
      · rw [if_pos hm, if_pos (List.mem_cons_of_mem _ hm)]
      · rw [if_neg hm, if_neg (fun z => (List.mem_cons.mp z).elim e hm)]
theorem wipe_set {σ : L2.St} {vs : List Nat} {i : Nat} {v : Option V} (h : i ∈ vs) : wipe (σ.set i v) vs = wipe σ vs := by
  apply List.ext_getElem?
  intro j
  rw [wipe_get, wipe_get]
  by_cases hm : j ∈ vs
  · rw [if_pos hm, if_pos hm, List.length_set]
  · rw [if_neg hm, if_neg hm, List.getElem?_set_ne (show i ≠ j from fun z => hm (z ▸ h))]
theorem gm_name {i : Nat} {x : Str} (hN : X.N.Nodup) (hi : X.N[i]? = some x := by rfl) (hx : Loc X.env.scope x := by first | exact Or.inl rfl | exact Or.inr rfl) (hf : X.fn x = true ∨ X.env.scope.names.lookup x = some .local := by first | exact .inl rfl | exact .inr rfl) : PGm X H0 P (.Name x pos) (gName i) [i] (gN i) :=
  ⟨pg_name hN hi hx hf, fun v d ρ ρ' σ H Q R dv hf k => by
    unfold gN at hf
    split at hf
    · rename_i h
      obtain rfl := Option.some.inj hf
      exact k _ (R.setI h dv) fun vs hv => wipe_set (hv i (List.mem_singleton.mpr rfl))
    · cases hf⟩
def PGms (X : Cx) (H0 : Hp) (P : List Addr) (ts : List Expr) (g : TGs) (is : List Nat) : Prop :=
  PGs X ts g ∧ ∀ vs ds ρ ρ' σ H Q, Rel (wd X H0 P) ρ σ H → DfA X.K H vs ds → gs is ds ρ = some ρ' → (∀ σ', Rel (wd X H0 P) ρ' σ' H → (∀ ws : List Nat, (∀ i ∈ is, i ∈ ws) → wipe σ' ws = wipe σ ws) → Q σ' H) → g vs σ H Q
theorem gms_nil : PGms X H0 P [] gNil [] := ⟨pgs_nil, fun vs ds ρ ρ' σ H Q R dv hf k => by
  cases dv with
  | nil => obtain rfl := Option.some.inj hf; exact ⟨rfl, k _ R fun _ _ => rfl⟩
  | cons _ _ => cases hf⟩
theorem gms_cons {i : Nat} {is : List Nat} {tg : Expr} {ts : List Expr} {g : TG} {gr : TGs} (h1 : PGm X H0 P tg g [i] (gN i)) (h2 : PGms X H0 P ts gr is) (hs : (assignEach (tg :: ts) X.env).map (·.2) = assign tg X.env :: (assignEach ts X.env).map (·.2) := by rfl) :
    PGms X H0 P (tg :: ts) (gCons g gr) (i :: is) := ⟨pgs_cons h1.1 h2.1 hs, fun vs ds ρ ρ' σ H Q R dv hf k => by
  cases dv with
  | nil => cases hf
  | cons h t =>
    obtain ⟨ρ1, e1, e2⟩ := Option.bind_eq_some_iff.mp hf
    exact ⟨_, _, rfl, h1.2 _ _ _ _ _ _ _ R h e1 fun σ1 R1 w1 => h2.2 _ _ _ _ _ _ _ R1 t e2 fun σ2 R2 w2 => k σ2 R2 fun ws hw =>
      (w2 ws fun z hz => hw z (List.mem_cons_of_mem _ hz)).trans (w1 ws fun z hz => hw z (by rw [List.mem_singleton.mp hz]; exact List.mem_cons_self))⟩⟩
theorem gs_len : ∀ {is : List Nat} {ds : List D} {ρ ρ' : En}, gs is ds ρ = some ρ' → ds.length = is.length
  | [], [], _, _, _ => rfl
  | _ :: is, _ :: ds, ρ, ρ', h => by
    obtain ⟨ρ1, _, e2⟩ := Option.bind_eq_some_iff.mp h
    rw [List.length_cons, List.length_cons, gs_len e2]
  | [], _ :: _, _, _, h => by cases h
  | _ :: _, [], _, _, h => by cases h
theorem gm_tup {ts : List Expr} {k : Nat} {g : TGs} {is : List Nat} (hc : X.calm = true) (h : PGms X H0 P ts g is) (hn : (assignEach ts X.env).length = is.length := by rfl) (hst : (assignEach ts X.env).findIdx? (·.1) = none := by rfl) :
    PGm X H0 P (.Tuple ts k pos) (gTup X.K is.length g) is (gT is) := ⟨pg_tup hc h.1 hn hst, fun v d ρ ρ' σ H Q R dv hf k => by
  unfold gT at hf
  split at hf
  · cases dv with
    | tup h1 h2 t_h1 => exact ⟨_, _, rfl, h1, by rw [h2.length, gs_len hf], h.2 _ _ _ _ _ _ _ R h2 hf k⟩
  · cases hf⟩
/-! ### for -/
def forD (g : D → En → Option En) (b : MS) : List D → MS
  | [] => fun ρ => .nx ρ
  | d :: r => fun ρ => match g d ρ with
    | none => .no
    | some ρ1 => match b ρ1 with
      | .nx ρ2 => forD g b r ρ2
      | .ct ρ2 => forD g b r ρ2
      | .bk ρ2 => .nx ρ2
      | .rt v ρ2 => .rt v ρ2
      | .ex c ρ2 => .ex c ρ2
      | .no => .no
/-- one turn, by what is wanted of the rest -/
theorem for_turn {W : Wd} {G : Hp} {E : Ends} {f : D → En → Option En} {mb : MS} {d : D} {r : List D} {ρ : En} {Nx : L2.St → Hp → Prop} (h : GotS W G E (forD f mb (d :: r) ρ))
    (nx : ∀ ρ2 σ H, Stb G H → Rel W ρ2 σ H → GotS W G E (forD f mb r ρ2) → Nx σ H) : ∃ ρ1, f d ρ = some ρ1 ∧ GotS W G { E with nx := Nx, ct := Nx, bk := E.nx } (mb ρ1) := by
  unfold forD at h
  split at h
  · exact h.elim
  · rename_i ρ1 e1
    refine ⟨ρ1, e1, ?_⟩
    split at h
    · rename_i ρ2 e2
      rw [e2]
      exact fun σ H st R => nx ρ2 σ H st R h
    · rename_i ρ2 e2
      rw [e2]
      exact fun σ H st R => nx ρ2 σ H st R h
    · rename_i ρ2 e2
      rw [e2]
      exact h
    · rename_i v ρ2 e2
      rw [e2]
      exact h
    · exact h.elim
    · exact h.elim
variable {tg iter : Expr} {g : TG} {f : D → En → Option En} {body : List Stmt} {mb : MS}
def seqD : D → Option (List D)
  | .list ds => some ds
  | .tuple ds => some ds
  | _ => none
theorem drop_get {α : Type} {l : List α} {i : Nat} {d : α} (h : l[i]? = some d) : l.drop i = d :: l.drop (i + 1) := by
  obtain ⟨h1, h2⟩ := List.getElem?_eq_some_iff.mp h
  rw [List.drop_eq_getElem_cons h1, h2]

/-! ### what is walked: it yields ds -/
structure Src (K : Fg) (J : It) (ds : List D) (H : Hp) : Prop where
  go : ∀ H1 i, Stb H H1 → i < ds.length → J.go i H1
  yld : ∀ H1 H2 i x, Stb H H1 → J.yld i H1 x H2 → i < ds.length → Same H1 H2 ∧ ∃ d, ds[i]? = some d ∧ Df K H2 x d
  stop : ∀ H1 i, Stb H H1 → ds.length ≤ i → J.stop i H1
def PIm (X : Cx) (H0 : Hp) (P : List Addr) (tg iter : Expr) (wi : TI) (ms : MM (List D)) : Prop :=
  PI X tg iter wi ∧ ∀ ρ σ H (k : List D → En → Prop) (R : It → Hp → Prop), Rel (wd X H0 P) ρ σ H → Got (ms ρ) k →
    (∀ J ds ρ' H', Go ρ ρ' σ H H' → Rel (wd X H0 P) ρ' σ H' → Src X.K J ds H' → k ds ρ' → R J H') → wi σ H R
def iSeq (K : Fg) (tl : TE) : TI := fun σ H R => tl σ H fun x H1 => ∃ a, x = .ref a ∧ (((∃ xs, SqL K H1 a xs) ∧ R (Itl K a) H1) ∨ ((∃ xs, SqT K H1 a xs) ∧ R (Itt K a) H1))
theorem pi_seq {l : Expr} {tl : TE} (hl : PE X l tl) : PI X tg l (iSeq X.K tl) := by
  intro pins s σ H R I h
  refine thn (hl pins s σ H _ I h) fun v s1 ⟨x, H1, I1, r1, q1⟩ => ?_
  obtain ⟨a, e, ⟨⟨xs, hq⟩, q⟩ | ⟨⟨xs, hq⟩, q⟩⟩ := q1
  · subst e
    cases r1
    obtain ⟨its, rv, p, hz⟩ := I1.list hq
    refine wpAny_pyIter_list p.isList ?_
    refine ⟨s1.heap.objs.size, [s1.heap.objs.size], _, _, H1, rfl, I1.kept (t' := s1.toks) fun b o e => Heap.get?_push_of_some _ e, turn_list a _, ⟨_, Heap.get?_push_size _ rfl, rfl, rfl⟩, fun b hb => ?_, q⟩
    have e : b = s1.heap.objs.size := by simpa using hb
    subst e
    exact I1.fpOk (Nat.le_refl _) (I1.hok.fresh (Nat.le_refl _))
  · subst e
    cases r1
    obtain ⟨its, rv, p, hz⟩ := I1.tuple hq
    refine wpAny_pyIter_tuple (show s1.heap.IsTuple a its.toArray from p) ?_
    refine ⟨s1.heap.objs.size, [s1.heap.objs.size], _, _, H1, rfl, I1.kept (t' := s1.toks) fun b o e => Heap.get?_push_of_some _ e, turn_tuple a _, ⟨_, Heap.get?_push_size _ rfl, rfl, rfl⟩, fun b hb => ?_, q⟩
    have e : b = s1.heap.objs.size := by simpa using hb
    subst e
    exact I1.fpOk (Nat.le_refl _) (I1.hok.fresh (Nat.le_refl _))
def msSeq (m : MM D) : MM (List D) := bd m fun x => lift (seqD x)
theorem src_list {K : Fg} {H : Hp} {a : Addr} {vs : List V} {ds : List D} (h1 : FzL K H a vs) (h2 : DfA K H vs ds) : Src K (Itl K a) ds H where
  go := fun H1 i st hi => by
    have hi' : i < vs.length := by rw [h2.length]; exact hi
    exact ⟨vs, vs[i], (h1.mono st).sq, by simp [hi']⟩
  yld := fun H1 H2 i x st y hi => by
    obtain ⟨e, y⟩ := y
    subst e
    obtain ⟨d, e1, e2⟩ := h2.get' (y vs (h1.mono st).sq)
    exact ⟨Same.refl _, d, e1, e2.mono st⟩
  stop := fun H1 i st hi => ⟨vs, (h1.mono st).sq, by rw [h2.length]; exact hi⟩
theorem src_tup {K : Fg} {H : Hp} {a : Addr} {vs : List V} {ds : List D} (h1 : SqT K H a vs) (h2 : DfA K H vs ds) : Src K (Itt K a) ds H where
  go := fun H1 i st hi => by
    have hi' : i < vs.length := by rw [h2.length]; exact hi
    exact ⟨vs, vs[i], SqT.monoS st h1, by simp [hi']⟩
  yld := fun H1 H2 i x st y hi => by
    obtain ⟨e, y⟩ := y
    subst e
    obtain ⟨d, e1, e2⟩ := h2.get' (y vs (SqT.monoS st h1))
    exact ⟨Same.refl _, d, e1, e2.mono st⟩
  stop := fun H1 i st hi => ⟨vs, SqT.monoS st h1, by rw [h2.length]; exact hi⟩
theorem im_seq (he : PE X iter (tR (wd X H0 P) m)) : PIm X H0 P tg iter (iSeq X.K (tR (wd X H0 P) m)) (msSeq m) :=
  ⟨pi_seq he, fun ρ σ H k R0 R g q => tR_bd R g fun v H1 d ρ1 go1 R1 d1 g1 => by
    obtain ⟨ds, hds, k1⟩ := got_lift g1
    unfold seqD at hds
    split at hds
    · obtain rfl := Option.some.inj hds
      cases d1 with
      | lst h1 h2 => exact ⟨_, rfl, .inl ⟨⟨_, h1.sq⟩, q _ _ _ _ go1 R1 (src_list h1 h2) k1⟩⟩
    · obtain rfl := Option.some.inj hds
      cases d1 with
      | tup h1 h2 t_h1 => exact ⟨_, rfl, .inr ⟨⟨_, h1⟩, q _ _ _ _ go1 R1 (src_tup h1 h2) k1⟩⟩
    · cases hds⟩
def rngD (n : Nat) : List D := (List.range n).map fun (k : Nat) => PyData.int (k : Int)
def rgD : List D → Option (List D)
  | [.int j] => if decide (-(2 ^ 62) ≤ j) && decide (j < 2 ^ 62) then some (rngD j.toNat) else none
  | _ => none
def msRng (m : MM (List D)) : MM (List D) := bd m fun as => lift (rgD as)
theorem src_rng {K : Fg} {H : Hp} {n : Nat} : Src K (Itr 0 n) (rngD n) H where
  go := fun H1 i st hi => by unfold rngD at hi; rw [List.length_map, List.length_range] at hi; exact hi
  yld := fun H1 H2 i x st y hi => by
    obtain ⟨e, y⟩ := y
    subst e y
    unfold rngD at hi ⊢
    rw [List.length_map, List.length_range] at hi
    refine ⟨Same.refl _, .int (i : Int), by rw [List.getElem?_map, List.getElem?_range hi]; rfl, ?_⟩
    rw [Int.zero_add]
    exact .int _
  stop := fun H1 i st hi => by unfold rngD at hi; rw [List.length_map, List.length_range] at hi; exact hi
theorem im_rng {ea : Expr} {mr : MM (List D)} {p1 p2 : Pos} (hgl : Gl X "range") (hm : X.mg "range" = none) (he : PA X [ea] (tA (wd X H0 P) mr)) (hse : starEach [ea] X.env = [(false, eval ea X.env)] := by rfl) :
    PIm X H0 P tg (.Call (.Name "range" p1) [ea] [] p2) (iRng1 (tA (wd X H0 P) mr)) (msRng mr) :=
  ⟨pi_range1 hgl hm he hse, fun ρ σ H k R0 R g q => tA_bd R g fun vs H1 as ρ1 go1 R1 d1 g1 => by
    obtain ⟨ds, hds, k1⟩ := got_lift g1
    unfold rgD at hds
    split at hds
    · split at hds
      · rename_i j hj
        rw [Bool.and_eq_true] at hj
        obtain rfl := Option.some.inj hds
        cases d1 with
        | cons h t =>
          cases t
          cases h
          exact ⟨j, rfl, of_decide_eq_true hj.1, of_decide_eq_true hj.2, q _ _ _ _ go1 R1 src_rng k1⟩
      · cases hds
    · cases hds⟩
def sFor (ms : MM (List D)) (f : D → En → Option En) (mb : MS) : MS := bs ms fun ds => forD f mb ds
theorem rs_for {wi : TI} {is : List Nat} {ms : MM (List D)} (hp : PassesOwn (model X.prog X.w) X.A X.env X.xe) (hc : X.calm = true) (hi : PIm X H0 P tg iter wi ms) (hg : PGm X H0 P tg g is f) (hb : PSs X body (tS (wd X H0 P) mb))
    (hsf : ∀ x, foldedSetIterable iter X.env x = pure x := by intro _; rfl) : PS X (.For tg iter body [] pos) (tS (wd X H0 P) (sFor ms f mb)) := by
  refine weakS (ps_for hp hc hi.1 hg.1 hb hsf) fun E σ H ⟨ρ, R, g0⟩ => ?_
  refine hi.2 ρ σ H _ _ R (got_bs g0) fun J ds ρ' H' go R' S k => ?_
  replace k := GotS.mono go.stb k
  refine ⟨fun i m σ H1 => m = ds.length - i ∧ i ≤ ds.length ∧ Stb H' H1 ∧ ∃ ρ1, Rel (wd X H0 P) ρ1 σ H1 ∧ GotS (wd X H0 P) H' E (forD f mb (ds.drop i) ρ1), ⟨ds.length, rfl, Nat.zero_le _, .refl _, ρ', R', k⟩, ?_⟩
  rintro i m σ1 H1 ⟨rfl, hi, st, ρ1, R1, k1⟩
  by_cases hlt : i < ds.length
  · refine .inr ⟨S.go H1 i st hlt, fun σ2 H2 => Stb H' H2 ∧ ∃ ρ3, Rel (wd X H0 P) ρ3 σ2 H2 ∧ GotS (wd X H0 P) H' E (forD f mb (ds.drop (i + 1)) ρ3), fun σ' H2 z => ⟨_, by omega, rfl, hlt, z⟩, fun x H2 y => ?_⟩
    obtain ⟨sm, d, hd, dx⟩ := S.yld H1 H2 i x st y hlt
    rw [drop_get hd] at k1
    obtain ⟨ρ2, e2, k2⟩ := for_turn k1 fun ρ3 σ3 H3 st3 R3 k3 => (⟨st3, ρ3, R3, k3⟩ : Stb H' H3 ∧ ∃ ρ3, Rel (wd X H0 P) ρ3 σ3 H3 ∧ GotS (wd X H0 P) H' E (forD f mb (ds.drop (i + 1)) ρ3))
    exact hg.2 x d ρ1 ρ2 σ1 H2 _ (R1.same sm) dx e2 fun σ' R2 _ => ⟨ρ2, R2, GotS.mono (st.trans (.same sm)) k2⟩
  · have e : i = ds.length := by omega
    subst e
    rw [List.drop_length] at k1
    exact .inl ⟨S.stop H1 _ st (Nat.le_refl _), k1 σ1 H1 st R1⟩

/-! ### while: at most n turns -/
def whileD (c : MM Bool) (b : MS) : Nat → MS
  | 0 => fun _ => .no
  | n + 1 => fun ρ => match c ρ with
    | .ok true ρ1 => (match b ρ1 with
      | .nx ρ2 => whileD c b n ρ2
      | .ct ρ2 => whileD c b n ρ2
      | .bk ρ2 => .nx ρ2
      | .rt v ρ2 => .rt v ρ2
      | .ex x ρ2 => .ex x ρ2
      | .no => .no)
    | .ok false ρ1 => .nx ρ1
    | .ex x ρ1 => .ex x ρ1
    | .no => .no
theorem rs_while (N : Nat) {c : Expr} {mc : MM Bool} (hp : PassesOwn (model X.prog X.w) X.A X.env X.xe) (hc : PT X c (tT (wd X H0 P) mc)) (hb : PSs X body (tS (wd X H0 P) mb)) : PS X (.While c body [] pos) (tS (wd X H0 P) (whileD mc mb N)) := by
  refine weakS (ps_while hp hc hb) fun E σ H ⟨ρ, R, g0⟩ => ?_
  refine ⟨fun n σ H1 => ∃ ρ1, Stb H H1 ∧ Rel (wd X H0 P) ρ1 σ H1 ∧ GotS (wd X H0 P) H E (whileD mc mb n ρ1), ⟨N, ρ, .refl _, R, g0⟩, fun n σ1 H1 ⟨ρ1, st, R1, k1⟩ => ?_⟩
  cases n with
  | zero => exact k1.elim
  | succ n =>
    unfold whileD at k1
    refine ⟨ρ1, R1, ?_⟩
    cases q : mc ρ1 with
    | ok b ρ2 =>
      rw [q] at k1
      refine fun H2 go R2 => ?_
      cases b with
      | true =>
        refine iteT ⟨fun σ3 H3 => ∃ ρ3, Stb H H3 ∧ Rel (wd X H0 P) ρ3 σ3 H3 ∧ GotS (wd X H0 P) H E (whileD mc mb n ρ3), fun σ3 H3 z => ⟨n, Nat.lt_succ_self n, z⟩, ρ2, R2, ?_⟩
        dsimp only at k1
        have s2 := st.trans go.stb
        split at k1
        · rename_i ρ3 e3
          rw [e3]
          exact fun σ3 H3 st3 R3 => ⟨ρ3, s2.trans st3, R3, k1⟩
        · rename_i ρ3 e3
          rw [e3]
          exact fun σ3 H3 st3 R3 => ⟨ρ3, s2.trans st3, R3, k1⟩
        · rename_i ρ3 e3
          rw [e3]
          exact fun σ3 H3 st3 R3 => k1 σ3 H3 (s2.trans st3) R3
        · rename_i v ρ3 e3
          rw [e3]
          exact fun v σ3 H3 st3 R3 => k1 v σ3 H3 (s2.trans st3) R3
        · exact k1.elim
        · exact k1.elim
      | false => exact iteF (k1 σ1 H2 (st.trans go.stb) R2)
    | ex c ρ2 => rw [q] at k1; exact k1.elim
    | no => rw [q] at k1; exact k1.elim
end
end Pu

namespace Pu
open PySem PySem.Spec PyProof.Rows L2

/-! ### comprehensions -/
def wipeE (vs : List Nat) (ρ : En) : En := vs.foldr (fun i ρ => ρ.set i none) ρ
theorem wipeE_get {ρ : En} {vs : List Nat} {j : Nat} : (wipeE vs ρ)[j]? = if j ∈ vs then (if j < ρ.length then some none else none) else ρ[j]? := by
  induction vs with
  | nil => simp [wipeE]
  | cons v vs ih =>
    have hl : (wipeE vs ρ).length = ρ.length := by
      clear ih
      induction vs with
      | nil => rfl
      | cons a r ih => show ((wipeE r ρ).set a none).length = _; rw [List.length_set, ih]
    show ((wipeE vs ρ).set v none)[j]? = _
    by_cases e : j = v
    · subst e
      rw [if_pos (List.mem_cons_self)]
      by_cases h : j < ρ.length
      · rw [if_pos h, List.getElem?_set_self (by rw [hl]; exact h)]
      · rw [if_neg h, List.getElem?_eq_none (by rw [List.length_set, hl]; omega)]
    · rw [List.getElem?_set_ne (Ne.symm e), ih]
      by_cases hm : j ∈ vs
      · rw [if_pos hm, if_pos (List.mem_cons_of_mem _ hm)]
      · rw [if_neg hm, if_neg (fun z => (List.mem_cons.mp z).elim e hm)]
theorem wipeE_length {ρ : En} : ∀ {vs : List Nat}, (wipeE vs ρ).length = ρ.length
  | [] => rfl
  | v :: vs => by show ((wipeE vs ρ).set v none).length = _; rw [List.length_set, wipeE_length]
theorem wipeE_some {ρ : En} {vs : List Nat} {j : Nat} {s : S1} (h : (wipeE vs ρ)[j]? = some (some s)) : j ∉ vs ∧ ρ[j]? = some (some s) := by
  rw [wipeE_get] at h
  split at h
  · split at h <;> cases h
  · rename_i n
    exact ⟨n, h⟩
theorem wipe_out' {σ : L2.St} {vs : List Nat} {j : Nat} (h : j ∉ vs) : (wipe σ vs)[j]? = σ[j]? := by rw [wipe_get, if_neg h]
section
variable {W : Wd} {ρ : En} {σ : L2.St} {H : Hp} {vs : List Nat}
theorem Rel.wipe (R : Rel W ρ σ H) : Rel W (wipeE vs ρ) (wipe σ vs) H where
  len := by rw [wipeE_length, wipe_length]; exact R.len
  sl := fun i s e => by
    obtain ⟨n, e⟩ := wipeE_some e
    obtain ⟨v, h1, h2⟩ := R.sl i s e
    exact ⟨v, by rw [wipe_out' n]; exact h1, h2⟩
  stb := R.stb
  kp := R.kp
  dis := fun i j s s' a n e1 e2 o1 o2 => by
    obtain ⟨n1, e1⟩ := wipeE_some e1
    obtain ⟨n2, e2⟩ := wipeE_some e2
    rw [wipe_out' n1, wipe_out' n2]
    exact R.dis i j s s' a n e1 e2 o1 o2
  par := fun k p e s hm z => by
    obtain ⟨n, z⟩ := wipeE_some z
    rw [wipe_out' n]
    exact R.par k p e s hm z
  pdk := R.pdk
theorem Rel.unwipe (R : Rel W (wipeE vs ρ) (L2.wipe σ vs) H) : Rel W (wipeE vs ρ) σ H where
  len := by have := R.len; rw [wipe_length] at this; exact this
  sl := fun i s e => by
    obtain ⟨n, _⟩ := wipeE_some e
    obtain ⟨v, h1, h2⟩ := R.sl i s e
    exact ⟨v, by rw [wipe_out' n] at h1; exact h1, h2⟩
  stb := R.stb
  kp := R.kp
  dis := fun i j s s' a n e1 e2 o1 o2 => by
    have q := R.dis i j s s' a n e1 e2 o1 o2
    rw [wipe_out' (wipeE_some e1).1, wipe_out' (wipeE_some e2).1] at q
    exact q
  par := fun k p e s hm z => by
    have q := R.par k p e s hm z
    rw [wipe_out' (wipeE_some z).1] at q
    exact q
  pdk := R.pdk
/-- a list that is nobody's changes -/
theorem Rel.updF (R : Rel W ρ σ H) {a : Addr} {xs : List V} {o : HO} (ha : H a = some (.lst xs)) (fr : Free W ρ σ a) : Rel W ρ σ (upd H a o) := by
  have hst : Stb H (upd H a o) := ⟨fun b xs h => by rw [upd_ne (ne_of h ha (by intro z; cases z))]; exact h, fun b o u h => by rw [upd_ne (ne_of h ha (by intro z; cases z))]; exact h⟩
  refine ⟨R.len, fun j s z => ?_, R.stb.trans hst, fun b o z n => ?_, R.dis, R.par, fun p q => ?_⟩
  · obtain ⟨u, h1, h2⟩ := R.sl j s z
    refine ⟨u, h1, ?_⟩
    cases s with
    | imm d => exact Df.mono hst h2
    | fd d => exact Sl.fdm hst h2
    | lst es =>
      obtain ⟨b, ws, rfl, g1, g2, g3⟩ := h2
      have nb : b ≠ a := fun q => fr.2 j _ z rfl (by rw [h1, q])
      exact ⟨b, ws, rfl, by rw [upd_ne nb]; exact g1, g2.mono hst, g3⟩
    | set es =>
      obtain ⟨b, m, rfl, g1, g2, g3⟩ := h2
      have nb : b ≠ a := fun q => fr.2 j _ z rfl (by rw [h1, q])
      exact ⟨b, m, rfl, by rw [upd_ne nb]; exact g1, g2, g3⟩
    | box es =>
      obtain ⟨b, m, rfl, g1, g2, g3⟩ := h2
      have nb : b ≠ a := fun q => fr.2 j _ z rfl (by rw [h1, q])
      exact ⟨b, m, rfl, by rw [upd_ne nb]; exact g1, g2.mono hst, g3⟩
    | dct kvs =>
      obtain ⟨b, ws, rfl, g1, g2, g3⟩ := h2
      exact ⟨b, ws, rfl, by rw [upd_ne (ne_of g1 ha (by intro z; cases z))]; exact g1, g2.mono hst, g3⟩
  · rw [upd_ne (ne_of_none z fr.1)]
    exact R.kp b _ z n
  · exact ⟨(R.pdk p q).1, upd_some (R.pdk p q).2⟩
theorem updF_stb {a : Addr} {xs : List V} {o : HO} (ha : H a = some (.lst xs)) : Stb H (upd H a o) := ⟨fun b xs h => by rw [upd_ne (ne_of h ha (by intro z; cases z))]; exact h, fun b o u h => by rw [upd_ne (ne_of h ha (by intro z; cases z))]; exact h⟩
end
def lcD (vs : List Nat) (f : D → En → Option En) (tt : MM Bool) (te : MM D) : List D → List D → MM (List D)
  | [], acc => pu acc
  | d :: r, acc => fun ρ => match f d ρ with
    | none => .no
    | some ρ1 => match tt ρ1 with
      | .ok true ρ2 => (match te ρ2 with
        | .ok y ρ3 => if acc.length < sizeLine then lcD vs f tt te r (acc ++ [y]) (wipeE vs ρ3) else .no
        | .ex c ρ3 => .ex c ρ3
        | .no => .no)
      | .ok false ρ2 => lcD vs f tt te r acc (wipeE vs ρ2)
      | .ex c ρ2 => .ex c ρ2
      | .no => .no
def mLc (vs : List Nat) (ms : MM (List D)) (f : D → En → Option En) (tt : MM Bool) (te : MM D) : MM (List D) := bd ms fun ds => fun ρ => lcD vs f tt te ds [] (wipeE vs ρ)
def mYes : MM Bool := pu true
theorem lc_turn {vs : List Nat} {f : D → En → Option En} {tt : MM Bool} {te : MM D} {d : D} {r acc : List D} {ρ : En} {k : List D → En → Prop} (h : Got (lcD vs f tt te (d :: r) acc ρ) k) :
    ∃ ρ1, f d ρ = some ρ1 ∧ Got (tt ρ1) fun b ρ2 => if b = true then Got (te ρ2) fun y ρ3 => acc.length < sizeLine ∧ Got (lcD vs f tt te r (acc ++ [y]) (wipeE vs ρ3)) k else Got (lcD vs f tt te r acc (wipeE vs ρ2)) k := by
  unfold lcD at h
  split at h
  · exact h.elim
  · rename_i ρ1 e1
    refine ⟨ρ1, e1, ?_⟩
    split at h
    · rename_i ρ2 e2
      rw [e2]
      change (if true = true then (Got (te ρ2) fun y ρ3 => acc.length < sizeLine ∧ Got (lcD vs f tt te r (acc ++ [y]) (wipeE vs ρ3)) k) else Got (lcD vs f tt te r acc (wipeE vs ρ2)) k)
      refine iteT ?_
      split at h
      · rename_i y ρ3 e3
        rw [e3]
        split at h
        · rename_i hz
          exact ⟨hz, h⟩
        · exact h.elim
      · exact h.elim
      · exact h.elim
    · rename_i ρ2 e2
      rw [e2]
      change (if false = true then (Got (te ρ2) fun y ρ3 => acc.length < sizeLine ∧ Got (lcD vs f tt te r (acc ++ [y]) (wipeE vs ρ3)) k) else Got (lcD vs f tt te r acc (wipeE vs ρ2)) k)
      exact iteF h
    · exact h.elim
    · exact h.elim
/-- where a block stands against its def -/
structure Blk (vs : List Nat) (ρ' ρ1 : En) (σ : L2.St) (H' H1 : Hp) : Prop where
  stb : Stb H' H1
  fr : ∀ b o, H' b = some o → NotOwn ρ' σ b → H1 b = some o
  shr : ∀ (j : Nat) (s : S1), ρ1[j]? = some (some s) → s.own = true → j ∉ vs ∧ ∃ s', ρ'[j]? = some (some s') ∧ s'.own = true
section
variable {X : Cx} {H0 : Hp} {P : List Addr} {pos : Pos} {tg iter elt : Expr} {ifs : List Expr} {scope : Scope} {own : List (Str × Nat)} {wi : TI} {g : TG} {is : List Nat} {f : D → En → Option En} {ms : MM (List D)} {mt : MM Bool} {me : MM D}
theorem rts_nil : PTs X [] (tT (wd X H0 P) mYes) := fun pins s σ H Q I ⟨ρ, R, g⟩ => pts_nil pins s σ H Q I (g H .refl R)
theorem rts_one {c : Expr} (h : PT X c (tT (wd X H0 P) mt)) : PTs X [c] (tT (wd X H0 P) mt) := pts_one h
theorem gN_own {i : Nat} {d : D} {ρ ρ' : En} (h : gN i d ρ = some ρ') {j : Nat} {s : S1} (e : ρ'[j]? = some (some s)) (o : s.own = true) : ρ[j]? = some (some s) := by
  unfold gN at h
  split at h
  · obtain rfl := Option.some.inj h
    rcases getElem?_set_some e with ⟨_, e⟩ | ⟨_, e⟩
    · cases e; cases o
    · exact e
  · cases h
theorem gs_own : ∀ {is : List Nat} {ds : List D} {ρ ρ' : En}, gs is ds ρ = some ρ' → ∀ {j : Nat} {s : S1}, ρ'[j]? = some (some s) → s.own = true → ρ[j]? = some (some s)
  | [], [], _, _, h, _, _, e, _ => by obtain rfl := Option.some.inj h; exact e
  | _ :: is, _ :: ds, ρ, ρ', h, _, _, e, o => by
    obtain ⟨ρ1, e1, e2⟩ := Option.bind_eq_some_iff.mp h
    exact gN_own e1 (gs_own e2 e o) o
  | [], _ :: _, _, _, h, _, _, _, _ => by cases h
  | _ :: _, [], _, _, h, _, _, _, _ => by cases h
theorem gT_own {is : List Nat} {d : D} {ρ ρ' : En} (h : gT is d ρ = some ρ') {j : Nat} {s : S1} (e : ρ'[j]? = some (some s)) (o : s.own = true) : ρ[j]? = some (some s) := by
  unfold gT at h
  split at h
  · exact gs_own h e o
  · cases h
theorem lc_read {σ : L2.St} {H : Hp} {ρ : En} {Q : VK} (hsub : ∀ i ∈ is, i ∈ own.map (·.2)) (hown : ∀ d ρ ρ', f d ρ = some ρ' → ∀ (j : Nat) (s : S1), ρ'[j]? = some (some s) → s.own = true → ρ[j]? = some (some s))
    (hgm : ∀ v d ρ ρ' σ H Q, Rel (wd X H0 P) ρ σ H → Df X.K H v d → f d ρ = some ρ' → (∀ σ', Rel (wd X H0 P) ρ' σ' H → (∀ vs : List Nat, (∀ i ∈ is, i ∈ vs) → wipe σ' vs = wipe σ vs) → Q σ' H) → g v σ H Q)
    (him : ∀ ρ σ H (k : List D → En → Prop) (R : It → Hp → Prop), Rel (wd X H0 P) ρ σ H → Got (ms ρ) k →
    (∀ J ds ρ' H', Go ρ ρ' σ H H' → Rel (wd X H0 P) ρ' σ H' → Src X.K J ds H' → k ds ρ' → R J H') → wi σ H R)
    (R : Rel (wd X H0 P) ρ σ H) (g0 : Got (mLc (own.map (·.2)) ms f mt me ρ) fun ds ρ' => ∀ a vs H', Go ρ ρ' σ H H' → Rel (wd X H0 P) ρ' σ H' → H' a = some (.lst vs) → DfA X.K H' vs ds → Free (wd X H0 P) ρ' σ a → Nw ρ σ H a → Q (.ref a) H') :
    tLc wi g (tT (wd X H0 P) mt) (tR (wd X H0 P) me) (own.map (·.2)) σ H Q := by
  refine him ρ σ H _ _ R (got_bd g0) fun J ds ρ' H' go R' S k => fun Dd hD => ?_
  have frD := R'.fresh hD
  have key : ∀ {ρ1 : En}, (∀ (j : Nat) (s : S1), ρ1[j]? = some (some s) → s.own = true → j ∉ own.map (·.2) ∧ ∃ s', ρ'[j]? = some (some s') ∧ s'.own = true) → ∀ {σ2 : L2.St}, (∀ j, j ∉ own.map (·.2) → σ2[j]? = σ[j]?) → NotOwn ρ1 σ2 Dd ∧ ∀ b, NotOwn ρ' σ b → NotOwn ρ1 σ2 b := fun {ρ1} shr {σ2} hσ => by
    have : ∀ b, NotOwn ρ' σ b → NotOwn ρ1 σ2 b := fun b n j s e o q => by
      obtain ⟨nj, s', e', o'⟩ := shr j s e o
      rw [hσ j nj] at q
      exact n j s' e' o' q
    exact ⟨this Dd frD.2, this⟩
  refine ⟨fun i m H1 => m = ds.length - i ∧ i ≤ ds.length ∧ ∃ ρ1 vacc acc, Rel (wd X H0 P) (wipeE (own.map (·.2)) ρ1) (wipe σ (own.map (·.2))) H1 ∧ Blk (own.map (·.2)) ρ' (wipeE (own.map (·.2)) ρ1) σ H' H1 ∧ H1 Dd = some (.lst vacc) ∧ DfA X.K H1 vacc acc ∧
      Got (lcD (own.map (·.2)) f mt me (ds.drop i) acc (wipeE (own.map (·.2)) ρ1)) fun ds ρe => ∀ a vs H2, Go ρ ρe σ H H2 → Rel (wd X H0 P) ρe σ H2 → H2 a = some (.lst vs) → DfA X.K H2 vs ds → Free (wd X H0 P) ρe σ a → Nw ρ σ H a → Q (.ref a) H2,
    ⟨ds.length, rfl, Nat.zero_le _, ρ', [], [], (R'.same (same_upd hD _)).wipe, ⟨.same (same_upd hD _), fun b o h _ => same_upd hD _ b o h, fun j s e o => ⟨(wipeE_some e).1, s, (wipeE_some e).2, o⟩⟩, upd_same, .nil, k⟩, ?_⟩
  rintro i m H1 ⟨rfl, hi, ρ1, vacc, acc, R1, B1, hD1, dacc, k1⟩
  by_cases hlt : i < ds.length
  · refine .inr ⟨S.go H1 i B1.stb hlt, fun H2 => ∃ ρ1 vacc acc, Rel (wd X H0 P) (wipeE (own.map (·.2)) ρ1) (wipe σ (own.map (·.2))) H2 ∧ Blk (own.map (·.2)) ρ' (wipeE (own.map (·.2)) ρ1) σ H' H2 ∧ H2 Dd = some (.lst vacc) ∧ DfA X.K H2 vacc acc ∧
      Got (lcD (own.map (·.2)) f mt me (ds.drop (i + 1)) acc (wipeE (own.map (·.2)) ρ1)) fun ds ρe => ∀ a vs H2, Go ρ ρe σ H H2 → Rel (wd X H0 P) ρe σ H2 → H2 a = some (.lst vs) → DfA X.K H2 vs ds → Free (wd X H0 P) ρe σ a → Nw ρ σ H a → Q (.ref a) H2,
      fun H2 z => ⟨_, by omega, rfl, hlt, z⟩, fun x H2 y => ?_⟩
    obtain ⟨sm, d, hd, dx⟩ := S.yld H1 H2 i x B1.stb y hlt
    rw [drop_get hd] at k1
    obtain ⟨ρ2, e2, k2⟩ := lc_turn k1
    have ww : wipe (wipe σ (own.map (·.2))) (own.map (·.2)) = wipe σ (own.map (·.2)) := by
      apply List.ext_getElem?
      intro j
      rw [wipe_get, wipe_get]
      split
      · rw [wipe_length]
      · rfl
    refine hgm x d _ ρ2 _ H2 _ (R1.same sm) dx e2 fun σ2 R2 hw => ⟨(hw _ hsub).trans ww, ρ2, R2, ?_⟩
    have hσ2 : ∀ j, j ∉ own.map (·.2) → σ2[j]? = σ[j]? := fun j nj => by
      have q := congrArg (fun l => l[j]?) (hw (own.map (·.2)) hsub)
      simp only at q
      rw [wipe_out' nj, wipe_out' nj, wipe_out' nj] at q
      exact q
    have sh2 : ∀ (j : Nat) (s : S1), ρ2[j]? = some (some s) → s.own = true → j ∉ own.map (·.2) ∧ ∃ s', ρ'[j]? = some (some s') ∧ s'.own = true := fun j s e o => B1.shr j s (hown _ _ _ e2 j s e o) o
    refine got_imp k2 fun b ρ3 k3 H3 go3 R3 => ?_
    have sh3 : ∀ (j : Nat) (s : S1), ρ3[j]? = some (some s) → s.own = true → j ∉ own.map (·.2) ∧ ∃ s', ρ'[j]? = some (some s') ∧ s'.own = true := fun j s e o => by
      obtain ⟨s', e', o'⟩ := go3.shr j s e o
      exact sh2 j s' e' o'
    have hD2 := sm _ _ hD1
    have hD3 := go3.fr _ _ hD2 (key sh2 hσ2).1
    have hw2 := hw (own.map (·.2)) hsub
    cases b with
    | false =>
      have k3 : Got _ _ := (if_neg Bool.false_ne_true) ▸ k3
      refine iteF ⟨ρ3, vacc, acc, ?_, ⟨(B1.stb.trans (.same sm)).trans go3.stb, fun b o h n => go3.fr b o (sm _ _ (B1.fr b o h n)) ((key sh2 hσ2).2 b n), fun j s e o => sh3 j s (wipeE_some e).2 o⟩, hD3, (dacc.mono (.same sm)).mono go3.stb, k3⟩
      have q := R3.wipe (vs := own.map (·.2))
      rw [hw2, ww] at q
      exact q
    | true =>
      have k3 : Got _ _ := (if_pos rfl) ▸ k3
      refine iteT ⟨ρ3, R3, got_imp k3 fun y ρ4 k4 v H4 go4 R4 dv => ?_⟩
      have sh4 : ∀ (j : Nat) (s : S1), ρ4[j]? = some (some s) → s.own = true → j ∉ own.map (·.2) ∧ ∃ s', ρ'[j]? = some (some s') ∧ s'.own = true := fun j s e o => by
        obtain ⟨s', e', o'⟩ := go4.shr j s e o
        exact sh3 j s' e' o'
      have hD4 := go4.fr _ _ hD3 (key sh3 hσ2).1
      have dacc4 := ((dacc.mono (.same sm)).mono go3.stb).mono go4.stb
      refine ⟨vacc, hD4, by rw [dacc.length]; exact k4.1, ρ4, vacc ++ [v], acc ++ [y], ?_, ⟨(((B1.stb.trans (.same sm)).trans go3.stb).trans go4.stb).trans (updF_stb hD4), fun b o h n => ?_, fun j s e o => sh4 j s (wipeE_some e).2 o⟩, upd_same, (dacc4.append (.cons dv .nil)).mono (updF_stb hD4), k4.2⟩
      · have fr4 : Free (wd X H0 P) ρ4 σ2 Dd := ⟨frD.1, (key sh4 hσ2).1⟩
        have q := (R4.updF (o := .lst (vacc ++ [v])) hD4 fr4).wipe (vs := own.map (·.2))
        rw [hw2, ww] at q
        exact q
      · rw [upd_ne (ne_of_none h hD)]
        exact go4.fr b o (go3.fr b o (sm _ _ (B1.fr b o h n)) ((key sh2 hσ2).2 b n)) ((key sh3 hσ2).2 b n)
  · have e : i = ds.length := by omega
    subst e
    rw [List.drop_length] at k1
    have k1 : ∀ a vs H2, Go ρ (wipeE (own.map (·.2)) ρ1) σ H H2 → Rel (wd X H0 P) (wipeE (own.map (·.2)) ρ1) σ H2 → H2 a = some (.lst vs) → DfA X.K H2 vs acc → Free (wd X H0 P) (wipeE (own.map (·.2)) ρ1) σ a → Nw ρ σ H a → Q (.ref a) H2 := k1
    refine .inl ⟨S.stop H1 _ B1.stb (Nat.le_refl _), k1 Dd vacc H1 (go.trans ⟨B1.stb, B1.fr, fun j s e o => (B1.shr j s e o).2⟩) R1.unwipe hD1 dacc ⟨frD.1, (key B1.shr (σ2 := σ) fun _ _ => rfl).1⟩ (.of_fresh go hD)⟩
theorem rl_lc (hc : X.calm = true) (hN : X.N.Nodup) (hi : PIm X H0 P tg iter wi ms) (ok : BlkOk X.N X.env.scope scope own)
    (hg : ∀ (s : Shared) (H : Hp) (C : Addr) (cl : List (Str × Addr)) (fp : List Addr), PGm (X.blk s H scope (compEnvC scope cl C X.env) fp) H0 P tg g is f)
    (ht : ∀ (s : Shared) (H : Hp) (C : Addr) (cl : List (Str × Addr)) (fp : List Addr), PTs (X.blk s H scope (compEnvC scope cl C X.env) fp) ifs (tT (wd X H0 P) mt))
    (he : ∀ (s : Shared) (H : Hp) (C : Addr) (cl : List (Str × Addr)) (fp : List Addr), PE (X.blk s H scope (compEnvC scope cl C X.env) fp) elt (tR (wd X H0 P) me))
    (hsub : ∀ i ∈ is, i ∈ own.map (·.2)) (hown : ∀ d ρ ρ', f d ρ = some ρ' → ∀ (j : Nat) (s : S1), ρ'[j]? = some (some s) → s.own = true → ρ[j]? = some (some s)) (hs : ∀ x, foldedSetIterable iter X.env x = pure x := by intro _; rfl) :
    PE X (.ListComp elt [⟨tg, iter, ifs, 0⟩] scope pos) (tL (wd X H0 P) (mLc (own.map (·.2)) ms f mt me)) := by
  intro pins s σ H Q I ⟨ρ, R, g0⟩
  exact pe_lc hc hN hi.1 ok (fun s H C cl fp => (hg s H C cl fp).1) ht he hs pins s σ H Q I (lc_read hsub hown (hg s H 0 [] []).2 hi.2 R g0)
/-- name = [..] on one line -/
theorem rs_setLc {i : Nat} {y : Str} {py spos : Pos} (hc : X.calm = true) (hN : X.N.Nodup) (hi : PIm X H0 P tg iter wi ms) (ok : BlkOk X.N X.env.scope scope own)
    (hg : ∀ (s : Shared) (H : Hp) (C : Addr) (cl : List (Str × Addr)) (fp : List Addr), PGm (X.blk s H scope (compEnvC scope cl C X.env) fp) H0 P tg g is f)
    (ht : ∀ (s : Shared) (H : Hp) (C : Addr) (cl : List (Str × Addr)) (fp : List Addr), PTs (X.blk s H scope (compEnvC scope cl C X.env) fp) ifs (tT (wd X H0 P) mt))
    (he : ∀ (s : Shared) (H : Hp) (C : Addr) (cl : List (Str × Addr)) (fp : List Addr), PE (X.blk s H scope (compEnvC scope cl C X.env) fp) elt (tR (wd X H0 P) me))
    (hsub : ∀ i ∈ is, i ∈ own.map (·.2)) (hown : ∀ d ρ ρ', f d ρ = some ρ' → ∀ (j : Nat) (s : S1), ρ'[j]? = some (some s) → s.own = true → ρ[j]? = some (some s))
    (hsw : swapsWith (.ListComp elt [⟨tg, iter, ifs, 0⟩] scope pos) (some (.Name y py)) spos.line X.env = pure true) (hy : X.N[i]? = some y := by rfl) (hyl : X.env.scope.names.lookup y = some .local := by rfl) (hs : ∀ x, foldedSetIterable iter X.env x = pure x := by intro _; rfl) :
    PS X (.Assign [.Name y py] (.ListComp elt [⟨tg, iter, ifs, 0⟩] scope pos) spos) (tS (wd X H0 P) (sSetL i (mLc (own.map (·.2)) ms f mt me))) := by
  intro pins s σ H E I ⟨ρ, R, g0⟩
  refine ps_setLc hc hN hy hyl hsw hi.1 ok (fun s H C cl fp => (hg s H C cl fp).1) ht he hs pins s σ H E I (lc_read hsub hown (hg s H 0 [] []).2 hi.2 R (got_imp (got_bs g0) fun d ρ' k a vs H' go R' h1 h2 h3 h4 => ?_))
  split at k
  · rename_i hl
    exact k _ _ go.stb (R'.setL hl h1 h2 h3)
  · exact k.elim
end
end Pu

namespace Pu
open PySem PySem.Spec PyProof.Rows L2

/-! ### code tables: they grow, and nobody sees it -/
def tabP (P : Addr) (h : Heap) : Prop := ∃ ps : Array Value, h.get? P = some { cls := .none, data := .fields ps } ∧ TriplesOk ps.toList
def Tab (P : Addr) : HO := .ext (tabP P)
theorem tabP.ok {Pr : Program} {w : World} {H : Hp} {P : Addr} {h : Heap} (t : tabP P h) : ObjOk Pr w H h P (Tab P) :=
  ⟨t, let ⟨ps, e, _⟩ := t; ⟨_, e⟩, fun h1 h2 ⟨ps, e, r⟩ k => ⟨ps, k _ e, r⟩⟩
section
variable {X : Cx} {pins : List (Addr × Obj)} {σ : L2.St} {H : Hp} {s s' : Shared} {P : Addr}
end
/-- a code object of the module, and its table -/
def CodeK (K : Fg) (c P : Addr) : Prop := ∃ o vs file tf flags tg inF text tt, K.lookup c = some o ∧ o.cls = .type "code" ∧ o.data = .fields vs ∧ vs.getD 11 .none = .ref P ∧ vs.getD 18 .none = .str file tf ∧ vs.getD 7 .none = .int flags tg ∧ vs.getD 9 .none = .bool inF ∧ vs.getD 10 .none = .int text tt ∧ vs[11]? = some (.ref P)
theorem CodeK.at {K : Fg} {c P : Addr} {h : Heap} (C : CodeK K c P) (X : K.In h) {ps : Array Value} (e : h.get? P = some { cls := .none, data := .fields ps }) (t : TriplesOk ps.toList) : h.IsCode c P ps ∧ h.TableAt c P ps := by
  obtain ⟨o, vs, file, tf, flags, tg, inF, text, tt, k, hc, hd, h11, h18, h7, h9, h10, h11'⟩ := C
  have ho := X c o k
  have ne : c ≠ P := by
    rintro rfl
    rw [ho] at e
    cases e
    cases hc
  exact ⟨⟨o, vs, file, tf, flags, tg, inF, text, tt, _, ho, hd, h11, h18, h7, h9, h10, e, rfl, t, ne⟩, ⟨o, vs, ho, hc, hd, h11'⟩, e⟩
/-! ### what a generator expression's own part says, of one item -/
end Pu

namespace Pu
open PySem PySem.Spec PyProof.Rows L2
/-! ### len(y) > G, G a written number of the module's top, y a tuple -/
end Pu

namespace Pu
open PySem PySem.Spec PyProof.Rows L2

section
variable {X : Cx} {pins : List (Addr × Obj)} {σ : L2.St} {H : Hp} {s : Shared}
end
/-! ### all(..), any(..) of a generator expression -/
def TbW (T : List Addr) (H0 : Hp) (P : List Addr) : Prop := ∀ p ∈ T, H0 p = some (Tab p) ∧ p ∉ P
def BM (base : Heap) (mg : Str → Option Value) : Prop := ∃ bm ob, BMod base mainGlobals mg bm ob
theorem TbW.now {T : List Addr} {H0 : Hp} {P : List Addr} {K : Fg} {ρ : En} {σ : L2.St} {H : Hp} (h : TbW T H0 P) (R : Rel ⟨K, H0, P⟩ ρ σ H) : ∀ p ∈ T, H p = some (Tab p) := fun p hp => R.kp p _ (h p hp).1 (h p hp).2
section
variable {X : Cx} {H0 : Hp} {P : List Addr} {pos p py gpos : Pos} {T : List Addr} {y : Str} {iter elt : Expr} {scope : Scope} {f : D → Option Bool} {m : MM D} {k : Nat}
end
end Pu

namespace Pu
open PySem PySem.Spec PyProof.Rows L2

/-! ### a dict with written keys that a name owns -/
def valD (kvs : List (Str × D)) (k : Str) : Option D := (kvs.find? fun kv => decide (kv.1 = k)).map (·.2)
def putD (kvs : List (Str × D)) (k : Str) (v : D) : List (Str × D) :=
  if (kvs.any fun kv => decide (kv.1 = k)) = true then kvs.map (fun kv => if kv.1 = k then (kv.1, v) else kv) else kvs ++ [(k, v)]
theorem inr_eq {a b : Str} : decide ((Sum.inr a : Key) = Sum.inr b) = decide (a = b) := key_rr a b
theorem DfK.val {K : Fg} {H : Hp} {k : Str} : ∀ {vs : List (Key × V)} {ds : List (Str × D)} {d : D}, DfK K H vs ds → valD ds k = some d → ∃ v, valV vs (Sum.inr k) = some v ∧ Df K H v d
  | _, _, _, .nil, e => by cases e
  | _, _, d, .cons (k := k') (v := v) (vs := vs) (ds := ds) h r, e => by
    unfold valD at e
    rw [List.find?_cons] at e
    by_cases q : k' = k
    · rw [decide_eq_true q] at e
      obtain rfl := Option.some.inj e
      exact ⟨v, valV_pos (by rw [q]), h⟩
    · rw [decide_eq_false q] at e
      obtain ⟨v', h1, h2⟩ := DfK.val (k := k) r e
      exact ⟨v', by rw [valV_neg fun z => q (Sum.inr.inj z)]; exact h1, h2⟩
theorem DfK.any {K : Fg} {H : Hp} {k : Str} : ∀ {vs : List (Key × V)} {ds : List (Str × D)}, DfK K H vs ds → (vs.any fun kv => decide (kv.1 = (Sum.inr k : Key))) = ds.any fun kv => decide (kv.1 = k)
  | _, _, .nil => rfl
  | _, _, .cons h r => by rw [List.any_cons, List.any_cons, DfK.any r, inr_eq]
theorem DfK.map {K : Fg} {H : Hp} {k : Str} {v : V} {d : D} (hv : Df K H v d) : ∀ {vs : List (Key × V)} {ds : List (Str × D)}, DfK K H vs ds → DfK K H (vs.map fun kv => if kv.1 = (Sum.inr k : Key) then (kv.1, v) else kv) (ds.map fun kv => if kv.1 = k then (kv.1, d) else kv)
  | _, _, .nil => .nil
  | _, _, .cons (k := k') h r => by
    rw [List.map_cons, List.map_cons]
    by_cases q : k' = k
    · rw [if_pos (by rw [q]), if_pos q]
      exact .cons hv (DfK.map hv r)
    · rw [if_neg (fun z => q (Sum.inr.inj z)), if_neg q]
      exact .cons h (DfK.map hv r)
theorem DfK.snoc {K : Fg} {H : Hp} {k : Str} {v : V} {d : D} (hv : Df K H v d) : ∀ {vs : List (Key × V)} {ds : List (Str × D)}, DfK K H vs ds → DfK K H (vs ++ [(Sum.inr k, v)]) (ds ++ [(k, d)])
  | _, _, .nil => .cons hv .nil
  | _, _, .cons h r => .cons h (DfK.snoc hv r)
theorem DfK.put {K : Fg} {H : Hp} {k : Str} {v : V} {d : D} (hv : Df K H v d) {vs : List (Key × V)} {ds : List (Str × D)} (h : DfK K H vs ds) : DfK K H (putK vs (Sum.inr k) v) (putD ds k d) := by
  unfold putK putD
  rw [h.any]
  split
  · exact h.map hv
  · exact h.snoc hv
theorem DfK.length {K : Fg} {H : Hp} : ∀ {vs : List (Key × V)} {ds : List (Str × D)}, DfK K H vs ds → vs.length = ds.length
  | _, _, .nil => rfl
  | _, _, .cons _ r => congrArg (· + 1) (DfK.length r)
section
variable {W : Wd} {ρ : En} {σ : L2.St} {H H' : Hp}
/-- the dict that the name i owns has changed, and nothing else that stood -/
theorem Rel.chgD (R : Rel W ρ σ H) {i : Nat} {p : Addr} {kvs kvs' : List (Str × D)} {vk' : List (Key × V)} (e : ρ[i]? = some (some (.dct kvs))) (ev : σ[i]? = some (some (.ref p))) (keep : ∀ b o, H b = some o → b ≠ p → H' b = some o) (st : Stb H H') (hp : H' p = some (.dK vk')) (hk : DfK W.K H' vk' kvs') :
    Rel W (ρ.set i (some (.dct kvs'))) σ H' := by
  obtain ⟨v0, h1, a0, vs0, rfl, g1, g2, g3⟩ := R.sl i _ e
  rw [ev] at h1
  cases h1
  have hi : i < ρ.length := (List.getElem?_eq_some_iff.mp e).1
  refine ⟨by rw [List.length_set]; exact R.len, fun j s z => ?_, R.stb.trans st, fun b o z n => ?_, fun j k s s' b n e1 e2 o1 o2 => ?_, fun k p' q s2 hm z => ?_, fun p' q => ?_⟩
  · replace z := getElem?_set_some z; rcases z with ⟨rfl, z⟩ | ⟨n, z⟩
    · cases z
      exact ⟨.ref p, ev, p, vk', rfl, hp, hk, g3⟩
    · obtain ⟨u, h1, h2⟩ := R.sl j s z
      refine ⟨u, h1, ?_⟩
      cases s with
      | imm d => exact Df.mono st h2
      | fd d => exact Sl.fdm st h2
      | lst es =>
        obtain ⟨b, ws, rfl, q1, q2, q3⟩ := h2
        exact ⟨b, ws, rfl, keep _ _ q1 (ne_of q1 g1 (by intro z; cases z)), q2.mono st, q3⟩
      | set es =>
        obtain ⟨b, m, rfl, q1, q2, q3⟩ := h2
        exact ⟨b, m, rfl, keep _ _ q1 (ne_of q1 g1 (by intro z; cases z)), q2, q3⟩
      | box es =>
        obtain ⟨b, m, rfl, q1, q2, q3⟩ := h2
        exact ⟨b, m, rfl, keep _ _ q1 (ne_of q1 g1 (by intro z; cases z)), q2.mono st, q3⟩
      | dct es =>
        obtain ⟨b, ws, rfl, q1, q2, q3⟩ := h2
        have nb : b ≠ p := fun q => R.dis i j _ _ p (Ne.symm n) e z rfl rfl ev (by rw [h1, q])
        exact ⟨b, ws, rfl, keep _ _ q1 nb, q2.mono st, q3⟩
  · refine keep _ _ (R.kp b o z n) fun q => ?_
    subst q
    rcases g3 with g3 | g3
    · rw [g3] at z; cases z
    · exact n g3
  · have f : ∀ (m : Nat) (t : S1), (ρ.set i (some (.dct kvs')))[m]? = some (some t) → t.own = true → ∃ t', ρ[m]? = some (some t') ∧ t'.own = true := fun m t q o => by
      replace q := getElem?_set_some q; rcases q with ⟨rfl, q⟩ | ⟨_, q⟩
      · exact ⟨_, e, rfl⟩
      · exact ⟨t, q, o⟩
    obtain ⟨t1, q1, p1⟩ := f j s e1 o1
    obtain ⟨t2, q2, p2⟩ := f k s' e2 o2
    exact R.dis j k t1 t2 b n q1 q2 p1 p2
  · replace z := getElem?_set_some z; rcases z with ⟨rfl, z⟩ | ⟨n, z⟩
    · exact R.par _ p' q _ rfl e
    · exact R.par k p' q s2 hm z
  · refine ⟨(R.pdk p' q).1, fun z => ?_⟩
    by_cases hpp : p' = p
    · rw [hpp, hp] at z; cases z
    · cases h : H p' with
      | none => exact (R.pdk p' q).2 h
      | some o => rw [keep _ _ h hpp] at z; cases z
theorem upd_stbK {a : Addr} {vs : List (Key × V)} {o : HO} (ha : H a = some (.dK vs)) : Stb H (upd H a o) := ⟨fun b xs h => by rw [upd_ne (ne_of h ha (by intro z; cases z))]; exact h, fun b o u h => by rw [upd_ne (ne_of h ha (by intro z; cases z))]; exact h⟩
/-- a name gets a dict of its own; not the first name where that one is the caller's -/
theorem Rel.setD (R : Rel W ρ σ H) {i : Nat} {a : Addr} {vs : List (Key × V)} {kvs : List (Str × D)} (hi : i < ρ.length) (h0 : W.P.length ≤ i) (ha : H a = some (.dK vs)) (hv : DfK W.K H vs kvs) (fr : Free W ρ σ a) :
    Rel W (ρ.set i (some (.dct kvs))) (σ.set i (some (.ref a))) H where
  len := by rw [List.length_set, List.length_set]; exact R.len
  sl := fun j s e => by
    replace e := getElem?_set_some e; rcases e with ⟨rfl, e⟩ | ⟨n, e⟩
    · cases e
      exact ⟨.ref a, set_self (by rw [← R.len]; exact hi), a, vs, rfl, ha, hv, .inl fr.1⟩
    · obtain ⟨u, h1, h2⟩ := R.sl j s e
      exact ⟨u, by rw [set_other n]; exact h1, h2⟩
  stb := R.stb
  kp := R.kp
  dis := fun j k s s' b n e1 e2 o1 o2 z => by
    replace e1 := getElem?_set_some e1; rcases e1 with ⟨rfl, e1⟩ | ⟨n1, e1⟩
    · cases e1
      rw [set_self (by rw [← R.len]; exact hi)] at z
      cases z
      replace e2 := getElem?_set_some e2; rcases e2 with ⟨rfl, e2⟩ | ⟨n2, e2⟩
      · exact absurd rfl n
      · rw [set_other n2]
        exact fr.2 k s' e2 o2
    · rw [set_other n1] at z
      replace e2 := getElem?_set_some e2; rcases e2 with ⟨rfl, e2⟩ | ⟨n2, e2⟩
      · cases e2
        rw [set_self (by rw [← R.len]; exact hi)]
        intro q
        cases q
        exact fr.2 j s e1 o1 z
      · rw [set_other n2]
        exact R.dis j k s s' b n e1 e2 o1 o2 z
  par := fun k p e s hm z => by
    have hk : k ≠ i := fun q => by
      have := (List.getElem?_eq_some_iff.mp e).1
      omega
    rw [set_other hk] at z ⊢
    exact R.par k p e s hm z
  pdk := R.pdk
end
section
variable {X : Cx} {H0 : Hp} {P : List Addr} {pos : Pos} {e : Expr} {m : MM D} {x : Str} {p1 : Pos}
/-- name['k'] -/
def mDG (i : Nat) (k : Str) : MM D := fun ρ => match ρ[i]? with
  | some (some (.dct kvs)) => lift (valD kvs k) ρ
  | _ => .no
theorem re_dget (i : Nat) {k : Str} {j} {p2 : Pos} (hu : X.A.units + 1 < cLine) (hN : X.N[i]? = some x := by rfl) (hv : Vis X.env.scope x := by first | exact Or.inl rfl | exact Or.inr (Or.inl rfl) | exact Or.inr (Or.inr rfl)) (hd : (x == ("__debug__" : Str)) = false := by decide) (hcd : (x == ("__classdict__" : Str)) = false := by decide)
    (hs : NoSl (.Constant (.str k) j p2) := by intro _ _; rfl) : PE X (.Subscript (.Name x p1) (.Constant (.str k) j p2) pos) (tR (wd X H0 P) (mDG i k)) :=
  weak (pe_dget hu (pe_var hN hv hd hcd) pe_str hs) fun σ H Q ⟨ρ, R, g⟩ => by
    unfold mDG at g
    split at g
    · rename_i kvs e0
      obtain ⟨d, hd, k1⟩ := got_lift g
      obtain ⟨v, h1, a, vs0, rfl, h2, h3, h4⟩ := R.sl i _ e0
      obtain ⟨w, hw, dw⟩ := h3.val hd
      exact ⟨.ref a, h1, a, w, rfl, hw ▸ DGet.k (k := Sum.inr k) h2, k1 w H .refl R dw⟩
    · exact g.elim
/-- name['k'] = e -/
def sDP (i : Nat) (k : Str) (m : MM D) : MS := bs m fun d ρ => match ρ[i]? with
  | some (some (.dct kvs)) => if kvs.length < sizeLine then .nx (ρ.set i (some (.dct (putD kvs k d)))) else .no
  | _ => .no
theorem rs_dset (i : Nat) {k : Str} {j} {p2 pos' : Pos} (hu : X.A.units + 1 < cLine) (he : PE X e (tR (wd X H0 P) m)) (hN : X.N[i]? = some x := by rfl) (hv : Vis X.env.scope x := by first | exact Or.inl rfl | exact Or.inr (Or.inl rfl) | exact Or.inr (Or.inr rfl)) (hd : (x == ("__debug__" : Str)) = false := by decide) (hcd : (x == ("__classdict__" : Str)) = false := by decide)
    (hs : swapsWith e (some (.Subscript (.Name x p1) (.Constant (.str k) j p2) pos')) pos.line X.env = pure false := by rfl) : PS X (.Assign [.Subscript (.Name x p1) (.Constant (.str k) j p2) pos'] e pos) (tS (wd X H0 P) (sDP i k m)) :=
  weakS (ps_dput hu (pe_var hN hv hd hcd) pe_str he hs) fun E σ H ⟨ρ, R, g⟩ => ⟨ρ, R, got_imp (got_bs g) fun d ρ' k1 v H' go R' dv => by
    split at k1
    · rename_i kvs e0
      split at k1
      · rename_i hz
        obtain ⟨v0, h1, a, vs0, rfl, h2, h3, h4⟩ := R'.sl i _ e0
        refine ⟨.ref a, h1, a, _, rfl, DPut.k (k := Sum.inr k) h2 (by rw [h3.length]; exact hz), ?_⟩
        exact k1 _ _ (go.stb.trans (upd_stbK h2)) (R'.chgD e0 h1 (fun b o hb n => by rw [upd_ne n]; exact hb) (upd_stbK h2) upd_same ((h3.put dv).mono (upd_stbK h2)))
      · exact k1.elim
    · exact k1.elim⟩
/-- {'k': e, ..} -/
def mPairs : List (Str × MM D) → MM (List (Str × D))
  | [] => pu []
  | (k, m) :: r => bd m fun d => bd (mPairs r) fun kds => pu ((k, d) :: kds)
def mergeD (kvs more : List (Str × D)) : List (Str × D) := more.foldl (fun acc kv => putD acc kv.1 kv.2) kvs
inductive PPm (X : Cx) (H0 : Hp) (P : List Addr) (pos : Pos) : List (Option Expr) → List Expr → List (Str × MM D) → Prop
  | nil : PPm X H0 P pos [] [] []
  | cons {k : Str} {j} {p2 : Pos} {e : Expr} {m : MM D} {ks : List (Option Expr)} {es : List Expr} {ms : List (Str × MM D)} : PE X e (tR (wd X H0 P) m) → PPm X H0 P pos ks es ms → PPm X H0 P pos (some (.Constant (.str k) j p2) :: ks) (e :: es) ((k, m) :: ms)
abbrev trsOf (W : Wd) (ms : List (Str × MM D)) : List (TE × TE) := ms.map fun km => (tC (.str km.1), tR W km.2)
theorem PPm.pps {ks : List (Option Expr)} {es : List Expr} {ms : List (Str × MM D)} (h : PPm X H0 P pos ks es ms) : PPs X pos ks es (trsOf (wd X H0 P) ms) := by
  induction h with
  | nil => exact pps_nil
  | cons he _ ih => exact pps_cons pe_str he ih
inductive DfP (K : Fg) (H : Hp) : List (V × V) → List (Str × D) → Prop
  | nil : DfP K H [] []
  | cons {k : Str} {v : V} {vs : List (V × V)} {d : D} {ds : List (Str × D)} : Df K H v d → DfP K H vs ds → DfP K H ((.str k, v) :: vs) ((k, d) :: ds)
theorem DfP.keys {K : Fg} {H : Hp} : ∀ {vs : List (V × V)} {ds : List (Str × D)}, DfP K H vs ds → ∃ kvs : List (Key × V), vs = kvs.map (fun kv => (kV kv.1, kv.2)) ∧ kvs.length = ds.length ∧ DfK K H kvs ds
  | _, _, .nil => ⟨[], rfl, rfl, .nil⟩
  | _, _, .cons (k := k) (v := v) h r => by
    obtain ⟨kvs, e1, e2, e3⟩ := DfP.keys r
    exact ⟨(Sum.inr k, v) :: kvs, by rw [e1]; rfl, by rw [List.length_cons, List.length_cons, e2], .cons h e3⟩
theorem DfK.merge {K : Fg} {H : Hp} : ∀ {ms : List (Key × V)} {ds : List (Str × D)} {vs : List (Key × V)} {kvs : List (Str × D)}, DfK K H ms ds → DfK K H vs kvs → DfK K H (mergeK vs ms) (mergeD kvs ds)
  | _, _, _, _, .nil, h => h
  | _, _, _, _, .cons (k := k) d r, h => by have q := DfK.merge r (h.put (k := k) d); exact q
theorem DfP.mono {K : Fg} {H H' : Hp} (s : Stb H H') : ∀ {vs : List (V × V)} {ds : List (Str × D)}, DfP K H vs ds → DfP K H' vs ds
  | _, _, .nil => .nil
  | _, _, .cons h r => .cons (h.mono s) (DfP.mono s r)
theorem pairs_read {W : Wd} {σ : L2.St} {p : Addr} {o : HO} : ∀ {ms : List (Str × MM D)} {ρ : En} {H : Hp} {k : List (Str × D) → En → Prop} {Q : List (V × V) → Hp → Prop}, Rel W ρ σ H → Got (mPairs ms ρ) k → H p = some o → NotOwn ρ σ p →
    (∀ ps kds ρ' H', Go ρ ρ' σ H H' → Rel W ρ' σ H' → H' p = some o → DfP W.K H' ps kds → kds.length = ms.length → k kds ρ' → Q ps H') → tPairs (trsOf W ms) σ H Q
  | [], ρ, H, k, Q, R, g, hp, n, q => q [] [] ρ H .refl R hp .nil rfl g
  | (k0, m) :: r, ρ, H, k, Q, R, g, hp, n, q => by
    show tR W m σ H _
    refine tR_bd R g fun v H1 d ρ1 go1 R1 d1 g1 => ?_
    refine pairs_read (ms := r) R1 (got_bd g1) (go1.fr _ _ hp n) (go1.notOwn n) fun ps kds ρ2 H2 go2 R2 hp2 dp hl k2 => ?_
    exact q _ _ ρ2 H2 (go1.trans go2) R2 hp2 (.cons (d1.mono go2.stb) dp) (by rw [List.length_cons, List.length_cons, hl]) k2
/-- name = {'k': e, ..} -/
def sSetD (i : Nat) (ms : List (Str × MM D)) : MS := bs (mPairs ms) fun kds ρ => if i < ρ.length then .nx (ρ.set i (some (.dct (mergeD [] kds)))) else .no
theorem disp_read {σ : L2.St} {H : Hp} {ρ : En} {ms : List (Str × MM D)} {k : List (Str × D) → En → Prop} {Q : VK} (R : Rel (wd X H0 P) ρ σ H) (g : Got (mPairs ms ρ) k) (h15 : ms.length ≤ 15)
    (q : ∀ p vs kds ρ' H', Go ρ ρ' σ H H' → Rel (wd X H0 P) ρ' σ H' → H' p = some (.dK vs) → DfK X.K H' vs (mergeD [] kds) → Free (wd X H0 P) ρ' σ p → H p = none → k kds ρ' → Q (.ref p) H') : tDisp (trsOf (wd X H0 P) ms) σ H Q := by
  intro p hp
  have fr := R.fresh hp
  refine pairs_read (p := p) (o := .dK []) (R.same (same_upd hp _)) g upd_same fr.2 fun ps kds ρ' H2 go R2 hp2 dp hl k2 => ?_
  obtain ⟨kvs, e1, e2, e3⟩ := dp.keys
  refine ⟨hp2, kvs, e1, by omega, ?_⟩
  have fr2 : Free (wd X H0 P) ρ' σ p := fr.of_go go
  have R3 : Rel (wd X H0 P) ρ' σ (upd H2 p (.dK (mergeK [] kvs))) := by
    have hst := upd_stbK (o := .dK (mergeK [] kvs)) hp2
    refine ⟨R2.len, fun j s z => ?_, R2.stb.trans hst, fun b o z n => ?_, R2.dis, R2.par, fun p' q => ?_⟩
    · obtain ⟨u, h1, h2⟩ := R2.sl j s z
      refine ⟨u, h1, ?_⟩
      cases s with
      | imm d => exact Df.mono hst h2
      | fd d => exact Sl.fdm hst h2
      | lst es =>
        obtain ⟨b, ws, rfl, g1, g2, g3⟩ := h2
        have nb : b ≠ p := fun q => fr2.2 j _ z rfl (by rw [h1, q])
        exact ⟨b, ws, rfl, by rw [upd_ne nb]; exact g1, g2.mono hst, g3⟩
      | set es =>
        obtain ⟨b, m, rfl, g1, g2, g3⟩ := h2
        have nb : b ≠ p := fun q => fr2.2 j _ z rfl (by rw [h1, q])
        exact ⟨b, m, rfl, by rw [upd_ne nb]; exact g1, g2, g3⟩
      | box es =>
        obtain ⟨b, m, rfl, g1, g2, g3⟩ := h2
        have nb : b ≠ p := fun q => fr2.2 j _ z rfl (by rw [h1, q])
        exact ⟨b, m, rfl, by rw [upd_ne nb]; exact g1, g2.mono hst, g3⟩
      | dct kvs =>
        obtain ⟨b, ws, rfl, g1, g2, g3⟩ := h2
        have nb : b ≠ p := fun q => fr2.2 j _ z rfl (by rw [h1, q])
        exact ⟨b, ws, rfl, by rw [upd_ne nb]; exact g1, g2.mono hst, g3⟩
    · rw [upd_ne (ne_of_none z fr.1)]
      exact R2.kp b _ z n
    · exact ⟨(R2.pdk p' q).1, upd_some (R2.pdk p' q).2⟩
  refine q p _ kds ρ' _ ⟨((Stb.same (same_upd hp _)).trans go.stb).trans (upd_stbK hp2), fun b o hb n => ?_, go.shr⟩ R3 upd_same ((e3.merge .nil).mono (upd_stbK hp2)) fr2 hp k2
  rw [upd_ne (ne_of_none hb hp)]
  exact go.fr b o (same_upd hp _ b o hb) n
theorem rs_setD {i : Nat} {ks : List (Option Expr)} {es : List Expr} {ms : List (Str × MM D)} {pos' pos2 : Pos} (hN : X.N.Nodup) (h0 : P.length ≤ i) (h : PPm X H0 P pos2 ks es ms) (h15 : ms.length ≤ 15) (hall : ks.all (·.isSome) = true := by rfl) (hl : ks.length = es.length := by rfl) (hne : ks ≠ [] := by intro z; cases z) (hk15 : ks.length ≤ 15 := by decide)
    (hi : X.N[i]? = some x := by rfl) (hx : Loc X.env.scope x := by first | exact Or.inl rfl | exact Or.inr rfl) (hs : swapsWith (.Dict ks es pos2) (some (.Name x pos')) pos.line X.env = pure false := by rfl) (hf : X.fn x = true ∨ X.env.scope.names.lookup x = some .local := by first | exact .inl rfl | exact .inr rfl) :
    PS X (.Assign [.Name x pos'] (.Dict ks es pos2) pos) (tS (wd X H0 P) (sSetD i ms)) :=
  weakS (ps_set hN hi hx (pe_disp h.pps hall hl hne hk15) hs hf) fun E σ H ⟨ρ, R, g⟩ => disp_read R (got_bs g) h15 fun p vs kds ρ' H' go R' hp dk fr hn k1 => by
    split at k1
    · rename_i hl
      exact k1 _ _ go.stb (R'.setD hl h0 hp dk fr)
    · exact k1.elim

/-! ### what a def promises -/
inductive Re where
  | ok (r : RV) | no
def Rv' (K : Fg) (H H' : Hp) : RV → V → Prop
  | .imm d, v => Df K H' v d
  | .own ds, v => ∃ a vs, v = .ref a ∧ H a = none ∧ H' a = some (.lst vs) ∧ DfA K H' vs ds
def TbH (T : List Addr) (H : Hp) : Prop := ∀ p ∈ T, H p = some (Tab p)
def spI (T : List Addr) (K : Fg) (n : Nat) (m : List D → Re) : Sp := fun vs H Q _ => vs.length = n ∧ TbH T H ∧ ∃ ds, DfA K H vs ds ∧ match m ds with
  | .ok r => ∀ v H', Same H H' → Rv' K H H' r v → Q v H'
  | .no => False
def enI (n : Nat) (ds : List D) : En := ds.map (fun d => some (.imm d)) ++ List.replicate (n - ds.length) none
def mfn (n : Nat) (mb : MS) (ds : List D) : Re := match mb (enI n ds) with
  | .rt r _ => .ok r
  | .nx _ => .ok (.imm .none)
  | _ => .no
theorem enI_get {n : Nat} {ds : List D} {i : Nat} {s : S1} (h : (enI n ds)[i]? = some (some s)) : ∃ d, s = .imm d ∧ ds[i]? = some d := by
  unfold enI at h
  by_cases hi : i < ds.length
  · rw [List.getElem?_append_left (by rw [List.length_map]; exact hi), List.getElem?_map] at h
    cases e : ds[i]? with
    | none => rw [e] at h; cases h
    | some d => rw [e] at h; cases h; exact ⟨d, rfl, rfl⟩
  · rw [List.getElem?_append_right (by rw [List.length_map]; omega), List.getElem?_replicate] at h
    split at h <;> cases h
theorem start_get {N : List Str} {vs : List V} {i : Nat} {v : V} (h : vs[i]? = some v) : (L2.start N vs)[i]? = some (some v) := by
  unfold L2.start
  have hi : i < vs.length := (List.getElem?_eq_some_iff.mp h).1
  rw [List.getElem?_append_left (by rw [List.length_map]; exact hi), List.getElem?_map, h]
  rfl
theorem rel_start {K : Fg} {H : Hp} {N : List Str} {vs : List V} {ds : List D} (h : DfA K H vs ds) : Rel ⟨K, H, []⟩ (enI N.length ds) (L2.start N vs) H where
  len := by unfold enI L2.start; rw [List.length_append, List.length_append, List.length_map, List.length_map, List.length_replicate, List.length_replicate, h.length]
  sl := fun i s e => by
    obtain ⟨d, rfl, e'⟩ := enI_get e
    obtain ⟨v, h1, h2⟩ := h.get e'
    exact ⟨v, start_get h1, h2⟩
  stb := .refl H
  kp := fun b o e _ => e
  dis := fun i j s s' a n e1 e2 o1 o2 => by
    obtain ⟨d, rfl, _⟩ := enI_get e1
    cases o1
  par := fun k p e => by simp at e
  pdk := fun p e => nomatch e
variable {Pr : Program} {w : World} {K : PySem.W.Frag} {mg : Str → Option Value} {base : Heap}
theorem Fun.ok' {x qual : Str} {st : Stmt} {f : Addr} {fd : FuncData} {N ps : List Str} {k : Nat} {sp : Sp} (F : Fun K x qual st f fd) (S : FnScope N ps (defScope st)) (len : ∀ vs H Q E, sp vs H Q E → vs.length = ps.length)
    (hbody : ∀ (cdv : Value) (A : Around) (outer : List Env) (s : Shared) (H : Hp) (vs : List V) (Q : VK) (E : XK), fd.code = cdv → Room k (A.deeper (envOfC qual (defScope st) s.heap.objs.size f cdv)) → sp vs H Q E →
      ∃ t, PSs (cxOf CX0 Pr w K mg base N qual (defScope st) f cdv A outer s H E).nox (defBody st) t ∧ t { nx := fun _ H' => Q .non H', rt := Q } (start N vs) H) : FnOk Pr w K mg base CX0 (k + 1) f fd ps sp := by
  obtain ⟨oc, od, kV, doc, pm, an, cdv, ct, osl, rfl, lk, hcd⟩ := F.ex
  refine fn_of lk hcd S len fun A outer s H vs Q E hr hsp => ?_
  obtain ⟨t, h, q⟩ := hbody cdv A outer s H vs Q E rfl hr hsp
  exact ⟨t, h.nox, q⟩
theorem fn_pure {T : List Addr} {x qual : Str} {st : Stmt} {f : Addr} {fd : FuncData} {N ps : List Str} {k : Nat} {mb : MS} (F : Fun K x qual st f fd) (S : FnScope N ps (defScope st))
    (hb : ∀ (cdv : Value) (A : Around) (outer : List Env) (s : Shared) (H : Hp) (E : XK), Room k (A.deeper (envOfC qual (defScope st) s.heap.objs.size f cdv)) → TbW T H [] → fd.code = cdv → PSs (cxOf CX0 Pr w K mg base N qual (defScope st) f cdv A outer s H E).nox (defBody st) (tS ⟨K, H, []⟩ mb)) :
    FnOk Pr w K mg base CX0 (k + 1) f fd ps (spI T K ps.length (mfn N.length mb)) := by
  refine Fun.ok' F S (fun vs H Q E h => h.1) (fun cdv A outer s H vs Q E hcd hr h => ?_)
  obtain ⟨hl, hT, ds, hd, hm⟩ := h
  refine ⟨_, hb cdv A outer s H E hr (fun p hp => ⟨hT p hp, fun z => nomatch z⟩) hcd, ?_⟩
  refine ⟨_, rel_start hd, ?_⟩
  unfold mfn at hm
  have sm : ∀ {ρ : En} {σ : L2.St} {H' : Hp}, Rel ⟨K, H, []⟩ ρ σ H' → Same H H' := fun R b o e => R.kp b o e (fun z => nomatch z)
  cases q : mb (enI N.length ds) with
  | nx ρ => rw [q] at hm; exact fun σ H' st' R => hm _ _ (sm R) .non
  | rt r ρ =>
    rw [q] at hm
    refine fun v σ H' st' R hv => hm v H' (sm R) ?_
    cases r with
    | imm d => exact hv
    | own es => obtain ⟨a, us, e1, e2, e3, e4⟩ := hv; exact ⟨a, us, e1, e4, e2, e3⟩
  | bk ρ => rw [q] at hm; exact hm.elim
  | ct ρ => rw [q] at hm; exact hm.elim
  | ex c ρ => rw [q] at hm; exact hm.elim
  | no => rw [q] at hm; exact hm.elim
/-- f(e, ..) -/
def mCF (m : List D → Re) (ma : MM (List D)) : MM D := bd ma fun ds ρ => match m ds with
  | .ok (.imm d) => .ok d ρ
  | _ => .no
def mCFL (m : List D → Re) (ma : MM (List D)) : MM (List D) := bd ma fun ds ρ => match m ds with
  | .ok (.own d) => .ok d ρ
  | _ => .no
variable {k n : Nat} {f : Addr} {fd : FuncData} {ps : List Str} {mf : List D → Re} {es : List Expr} {mr : MM (List D)} {p : Pos}
theorem re_call {T : List Addr} (F : FnOk X.prog X.w X.K X.mg X.base CX0 k f fd ps (spI T X.K n mf)) (hr : Room k X.A) (hT : TbW T H0 P) (hg : Gl X x) (hm : X.mg x = some (.ref f)) (hk : PySem.W.keepIn X.K (.ref f) = true) (hb : Binds X.K fd ps []) (hn : (e :: es).length = n)
    (ha : PA X (e :: es) (tA (wd X H0 P) mr)) (hlen : ∀ ρ ds ρ', mr ρ = .ok ds ρ' → ds.length = (e :: es).length) (hdb : (x == ("__debug__" : Str)) = false := by decide) (he : starEach (e :: es) X.env = (false, eval e X.env) :: starEach es X.env := by rfl) (hpl : (backTo pos (starEach es X.env)).any (·.1) = false := by rfl) :
    PE X (.Call (.Name x p) (e :: es) [] pos) (tR (wd X H0 P) (mCF mf mr)) :=
  weak (pe_call (dvs := []) (E := E0) F hr hg hm hk hb .nil pass0 ha hdb he hpl) fun σ H Q ⟨ρ, R, g⟩ => by
    have g' := got_bd g
    refine ⟨ρ, R, ?_⟩
    cases q : mr ρ with
    | ok ds ρ1 =>
      rw [q] at g'
      refine fun vs H1 go1 R1 d1 => ?_
      show spI T X.K n mf (vs ++ []) H1 Q E0
      rw [List.append_nil]
      refine ⟨by rw [d1.length, hlen _ _ _ q, hn], hT.now R1, ds, d1, ?_⟩
      have g' : Got (match mf ds with
        | .ok (.imm d) => Ou.ok d ρ1
        | _ => .no) fun d ρ' => ∀ v H', Go ρ ρ' σ H H' → Rel (wd X H0 P) ρ' σ H' → Df X.K H' v d → Q v H' := g'
      split at g'
      · rename_i d hd
        rw [hd]
        exact fun v H' sm dv => g' v H' (go1.trans (.same sm)) (R1.same sm) dv
      · exact g'.elim
    | ex c ρ1 => rw [q] at g'; exact g'.elim
    | no => rw [q] at g'; exact g'.elim
theorem rl_call {T : List Addr} (F : FnOk X.prog X.w X.K X.mg X.base CX0 k f fd ps (spI T X.K n mf)) (hr : Room k X.A) (hT : TbW T H0 P) (hg : Gl X x) (hm : X.mg x = some (.ref f)) (hk : PySem.W.keepIn X.K (.ref f) = true) (hb : Binds X.K fd ps []) (hn : (e :: es).length = n)
    (ha : PA X (e :: es) (tA (wd X H0 P) mr)) (hlen : ∀ ρ ds ρ', mr ρ = .ok ds ρ' → ds.length = (e :: es).length) (hdb : (x == ("__debug__" : Str)) = false := by decide) (he : starEach (e :: es) X.env = (false, eval e X.env) :: starEach es X.env := by rfl) (hpl : (backTo pos (starEach es X.env)).any (·.1) = false := by rfl) :
    PE X (.Call (.Name x p) (e :: es) [] pos) (tL (wd X H0 P) (mCFL mf mr)) :=
  weak (pe_call (dvs := []) (E := E0) F hr hg hm hk hb .nil pass0 ha hdb he hpl) fun σ H Q ⟨ρ, R, g⟩ => by
    have g' := got_bd g
    refine ⟨ρ, R, ?_⟩
    cases q : mr ρ with
    | ok ds ρ1 =>
      rw [q] at g'
      refine fun vs H1 go1 R1 d1 => ?_
      show spI T X.K n mf (vs ++ []) H1 Q E0
      rw [List.append_nil]
      refine ⟨by rw [d1.length, hlen _ _ _ q, hn], hT.now R1, ds, d1, ?_⟩
      have g' : Got (match mf ds with
        | .ok (.own d) => Ou.ok d ρ1
        | _ => .no) fun ds ρ' => ∀ a vs H', Go ρ ρ' σ H H' → Rel (wd X H0 P) ρ' σ H' → H' a = some (.lst vs) → DfA X.K H' vs ds → Free (wd X H0 P) ρ' σ a → Nw ρ σ H a → Q (.ref a) H' := g'
      split at g'
      · rename_i d hd
        rw [hd]
        intro v H' sm dv
        obtain ⟨a, us, rfl, e1, e2, e3⟩ := dv
        exact g' a us H' (go1.trans (.same sm)) (R1.same sm) e2 e3 (R1.fresh e1) (.of_fresh go1 e1)
      · exact g'.elim
    | ex c ρ1 => rw [q] at g'; exact g'.elim
    | no => rw [q] at g'; exact g'.elim
end
end Pu

namespace Pu
open PySem PySem.Spec PyProof.Rows L2

inductive ReS where
  | ok (r : RV) (kvs : List (Str × D)) | no
def spD (T : List Addr) (K : Fg) (n : Nat) (m : List (Str × D) → List D → ReS) : Sp := fun vs H Q _ => vs.length = n ∧ TbH T H ∧ ∃ p vk kvs rest ds, vs = .ref p :: rest ∧ H p = some (.dK vk) ∧ DfK K H vk kvs ∧ DfA K H rest ds ∧ match m kvs ds with
  | .ok r kvs' => ∀ v H' vk', (∀ b o, H b = some o → b ≠ p → H' b = some o) → Stb H H' → H' p = some (.dK vk') → DfK K H' vk' kvs' → Rv' K H H' r v → Q v H'
  | .no => False
def endS (r : RV) (ρ : En) : ReS := match ρ[(0 : Nat)]? with
  | some (some (S1.dct kvs)) => .ok r kvs
  | _ => .no
def mfnS (n : Nat) (mb : MS) (kvs : List (Str × D)) (ds : List D) : ReS := match mb (some (.dct kvs) :: enI (n - 1) ds) with
  | .rt r ρ => endS r ρ
  | .nx ρ => endS (.imm .none) ρ
  | _ => .no
theorem rel_startS {K : Fg} {H : Hp} {N : List Str} {p : Addr} {vk : List (Key × V)} {kvs : List (Str × D)} {vs : List V} {ds : List D} (hN : 0 < N.length) (hp : H p = some (.dK vk)) (hk : DfK K H vk kvs) (h : DfA K H vs ds) :
    Rel ⟨K, H, [p]⟩ (some (.dct kvs) :: enI (N.length - 1) ds) (L2.start N (.ref p :: vs)) H := by
  have key : ∀ (i : Nat) (s : S1), ((some (S1.dct kvs) :: enI (N.length - 1) ds) : En)[i]? = some (some s) → (i = 0 ∧ s = .dct kvs) ∨ ∃ j d, i = j + 1 ∧ s = .imm d ∧ ds[j]? = some d := fun i s e => by
    cases i with
    | zero => cases e; exact .inl ⟨rfl, rfl⟩
    | succ j =>
      have e : (enI (N.length - 1) ds)[j]? = some (some s) := e
      obtain ⟨d, rfl, e'⟩ := enI_get e
      exact .inr ⟨j, d, rfl, rfl, e'⟩
  refine ⟨?_, fun i s e => ?_, .refl H, fun b o e _ => e, fun i j s s' a n e1 e2 o1 o2 => ?_, fun k p' e s hm z => ?_, fun p' e => ?_⟩
  · unfold enI L2.start
    rw [List.length_cons, List.length_append, List.length_append, List.length_map, List.length_map, List.length_replicate, List.length_replicate, List.length_cons, h.length]
    omega
  · rcases key i s e with ⟨rfl, rfl⟩ | ⟨j, d, rfl, rfl, e'⟩
    · exact ⟨.ref p, start_get rfl, p, vk, rfl, hp, hk, .inr (List.mem_singleton.mpr rfl)⟩
    · obtain ⟨v, h1, h2⟩ := h.get e'
      exact ⟨v, start_get (by rw [List.getElem?_cons_succ]; exact h1), h2⟩
  · rcases key i s e1 with ⟨rfl, rfl⟩ | ⟨_, d, rfl, rfl, _⟩
    · rcases key j s' e2 with ⟨rfl, rfl⟩ | ⟨_, d, rfl, rfl, _⟩
      · exact absurd rfl n
      · cases o2
    · cases o1
  · cases k with
    | zero => obtain rfl := Option.some.inj e; exact start_get rfl
    | succ k => simp at e
  · obtain rfl := List.mem_singleton.mp e
    have hne : H p' ≠ none := by rw [hp]; intro z; cases z
    exact ⟨hne, hne⟩
section
variable {Pr : Program} {w : World} {K : PySem.W.Frag} {mg : Str → Option Value} {base : Heap}
theorem fn_state {T : List Addr} {x qual : Str} {st : Stmt} {f : Addr} {fd : FuncData} {N ps : List Str} {k : Nat} {mb : MS} (F : Fun K x qual st f fd) (S : FnScope N ps (defScope st)) (hN : 0 < N.length)
    (hb : ∀ (cdv : Value) (A : Around) (outer : List Env) (s : Shared) (H : Hp) (E : XK) (p : Addr), Room k (A.deeper (envOfC qual (defScope st) s.heap.objs.size f cdv)) → TbW T H [p] → fd.code = cdv → PSs (cxOf CX0 Pr w K mg base N qual (defScope st) f cdv A outer s H E).nox (defBody st) (tS ⟨K, H, [p]⟩ mb)) :
    FnOk Pr w K mg base CX0 (k + 1) f fd ps (spD T K ps.length (mfnS N.length mb)) := by
  refine Fun.ok' F S (fun vs H Q E h => h.1) (fun cdv A outer s H vs Q E hcd hr h => ?_)
  obtain ⟨hl, hT, p, vk, kvs, rest, ds, rfl, hp, hk, hd, hm⟩ := h
  refine ⟨_, hb cdv A outer s H E p hr (fun b hb => ⟨hT b hb, fun z => by obtain rfl := List.mem_singleton.mp z; have e := hT _ hb; rw [hp] at e; cases e⟩) hcd, _, rel_startS hN hp hk hd, ?_⟩
  unfold mfnS at hm
  have fin : ∀ {r : RV} {ρ : En} {σ : L2.St} {H' : Hp} {v : V}, Rel ⟨K, H, [p]⟩ ρ σ H' → Rv' K H H' r v → (match endS r ρ with
      | .ok r kvs' => ∀ v H' vk', (∀ b o, H b = some o → b ≠ p → H' b = some o) → Stb H H' → H' p = some (.dK vk') → DfK K H' vk' kvs' → Rv' K H H' r v → Q v H'
      | .no => False) → Q v H' := fun {r ρ σ H' v} R hv h => by
    unfold endS at h
    cases e : ρ[0]? with
    | none => rw [e] at h; exact h.elim
    | some o =>
      cases o with
      | none => rw [e] at h; exact h.elim
      | some s =>
        cases s with
        | imm d => rw [e] at h; exact h.elim
        | fd d => rw [e] at h; exact h.elim
        | lst d => rw [e] at h; exact h.elim
        | set d => rw [e] at h; exact h.elim
        | box d => rw [e] at h; exact h.elim
        | dct kvs' =>
          rw [e] at h
          obtain ⟨v0, h1, a, vk', rfl, g1, g2, _⟩ := R.sl 0 _ e
          have e2 := R.par 0 p rfl _ rfl e
          rw [h1] at e2
          cases e2
          exact h v H' vk' (fun b o hb n => R.kp b o hb fun z => n (List.mem_singleton.mp z)) R.stb g1 g2 hv
  cases q : mb (some (.dct kvs) :: enI (N.length - 1) ds) with
  | nx ρ => rw [q] at hm; exact fun σ H' st' R => fin R (r := .imm .none) (show Df K H' .non .none from .non) hm
  | rt r ρ =>
    rw [q] at hm
    refine fun v σ H' st' R hv => fin R (r := r) ?_ hm
    cases r with
    | imm d => exact hv
    | own es => obtain ⟨a, us, e1, e2, e3, e4⟩ := hv; exact ⟨a, us, e1, e4, e2, e3⟩
  | bk ρ => rw [q] at hm; exact hm.elim
  | ct ρ => rw [q] at hm; exact hm.elim
  | ex c ρ => rw [q] at hm; exact hm.elim
  | no => rw [q] at hm; exact hm.elim
end
section
variable {X : Cx} {H0 : Hp} {P : List Addr} {pos : Pos} {e : Expr} {m : MM D} {x y : Str} {p1 p : Pos} {k n : Nat} {f : Addr} {fd : FuncData} {ps : List Str} {mf : List (Str × D) → List D → ReS} {es : List Expr} {mr : MM (List D)}
/-- f(state, e, ..): the name's dict may change -/
def mCS (i : Nat) (mf : List (Str × D) → List D → ReS) (mr : MM (List D)) : MM D := fun ρ => match ρ[i]? with
  | some (some (.dct _)) => bd mr (fun ds ρ' => match ρ'[i]? with
      | some (some (.dct kvs)) => (match mf kvs ds with
          | .ok (.imm d) kvs' => .ok d (ρ'.set i (some (.dct kvs')))
          | _ => .no)
      | _ => .no) ρ
  | _ => .no
theorem re_callS {T : List Addr} (i : Nat) (F : FnOk X.prog X.w X.K X.mg X.base CX0 k f fd ps (spD T X.K n mf)) (hr : Room k X.A) (hT : TbW T H0 P) (hg : Gl X x) (hm : X.mg x = some (.ref f)) (hk : PySem.W.keepIn X.K (.ref f) = true) (hb : Binds X.K fd ps []) (hn : es.length + 1 = n)
    (ha : PA X es (tA (wd X H0 P) mr)) (hlen : ∀ ρ ds ρ', mr ρ = .ok ds ρ' → ds.length = es.length) (hN : X.N[i]? = some y := by rfl) (hv : Vis X.env.scope y := by first | exact Or.inl rfl | exact Or.inr (Or.inl rfl) | exact Or.inr (Or.inr rfl)) (hd : (y == ("__debug__" : Str)) = false := by decide) (hcd : (y == ("__classdict__" : Str)) = false := by decide)
    (hdb : (x == ("__debug__" : Str)) = false := by decide) (he : starEach (.Name y p1 :: es) X.env = (false, eval (.Name y p1) X.env) :: starEach es X.env := by rfl) (hpl : (backTo pos (starEach es X.env)).any (·.1) = false := by rfl) :
    PE X (.Call (.Name x p) (.Name y p1 :: es) [] pos) (tR (wd X H0 P) (mCS i mf mr)) :=
  weak (pe_call (dvs := []) (E := E0) F hr hg hm hk hb .nil pass0 (pa_cons (pe_var hN hv hd hcd) ha he) hdb he hpl) fun σ H Q ⟨ρ, R, g⟩ => by
    unfold mCS at g
    split at g
    · rename_i kvs0 e0
      obtain ⟨v, h1, a, vs0, rfl, _⟩ := R.sl i _ e0
      refine ⟨.ref a, h1, ρ, R, ?_⟩
      have g' := got_bd g
      cases q : mr ρ with
      | ok ds ρ1 =>
        rw [q] at g'
        refine fun vs H1 go1 R1 d1 => ?_
        show spD T X.K n mf ((.ref a :: vs) ++ []) H1 Q E0
        rw [List.append_nil]
        have g' : Got (match ρ1[i]? with
          | some (some (.dct kvs)) => (match mf kvs ds with
              | .ok (.imm d) kvs' => Ou.ok d (ρ1.set i (some (.dct kvs')))
              | _ => .no)
          | _ => .no) fun d ρ' => ∀ v H', Go ρ ρ' σ H H' → Rel (wd X H0 P) ρ' σ H' → Df X.K H' v d → Q v H' := g'
        split at g'
        · rename_i kvs e1
          obtain ⟨v1, h1', a1, vk, rfl, g1, g2, g3⟩ := R1.sl i _ e1
          rw [h1] at h1'
          cases h1'
          refine ⟨by rw [List.length_cons, d1.length, hlen _ _ _ q, hn], hT.now R1, a, vk, kvs, vs, ds, rfl, g1, g2, d1, ?_⟩
          split at g'
          · rename_i d kvs' hmf
            rw [hmf]
            intro v H' vk' keep st hp hk' dv
            refine g' v H' (go1.trans ⟨st, fun b o hb nn => keep b o hb (notOwn_ne e1 rfl h1 nn), fun j s e' o => ?_⟩) (R1.chgD e1 h1 keep st hp hk') dv
            rcases getElem?_set_some e' with ⟨rfl, e'⟩ | ⟨nn, e'⟩
            · exact ⟨_, e1, rfl⟩
            · exact ⟨s, e', o⟩
          · exact g'.elim
        · exact g'.elim
      | ex c ρ1 => rw [q] at g'; exact g'.elim
      | no => rw [q] at g'; exact g'.elim
    · exact g.elim
end
end Pu

namespace L2
open PySem PySem.Spec PyProof.Rows
section
variable {prog : Program} {w : World} {A : Around} {E : Value → Shared → Prop}
end
end L2

namespace L2
open PySem PySem.Spec PyProof.Rows
section
variable {X : Cx}
end
end L2
namespace Pu
open PySem PySem.Spec PyProof.Rows L2
theorem len_nil : ∀ (ρ : En) (ds : List D) (ρ' : En), mNil ρ = .ok ds ρ' → ds.length = 0 := fun ρ ds ρ' h => by
  cases h
  rfl
theorem len_cons {m : MM D} {mr : MM (List D)} {n : Nat} (h : ∀ (ρ : En) (ds : List D) (ρ' : En), mr ρ = .ok ds ρ' → ds.length = n) : ∀ (ρ : En) (ds : List D) (ρ' : En), mCons m mr ρ = .ok ds ρ' → ds.length = n + 1 := fun ρ ds ρ' e => by
  unfold mCons bd at e
  cases q : m ρ with
  | ok d ρ1 =>
    rw [q] at e
    dsimp only at e
    cases q2 : mr ρ1 with
    | ok ds2 ρ2 =>
      rw [q2] at e
      cases e
      rw [List.length_cons, h _ _ _ q2]
    | ex c ρ2 => rw [q2] at e; cases e
    | no => rw [q2] at e; cases e
  | ex c ρ1 => rw [q] at e; cases e
  | no => rw [q] at e; cases e
/-! ### dict(pairs)[k] -/
section
variable {X : Cx} {H0 : Hp} {P : List Addr} {pos : Pos} {a b e : Expr} {ma mb m : MM D}
/-! ### list + list -/
theorem list_addW (l b : Addr) (items items2 : Array Value) (n n2 : Nat) (dd dd2 : Option Addr) (sl sl2 : Array (Option Value)) (hc0 : items.size + items2.size ≤ sizeLine) :
    Meets (Builtin.«list.__add__» ⟨[.ref l, .ref b], []⟩) (fun _ R s => s.heap.get? l = some { cls := .type "list", dict := dd, data := .seq items n, slots := sl } ∧ s.heap.get? b = some { cls := .type "list", dict := dd2, data := .seq items2 n2, slots := sl2 } ∧ R (.ok (.ret (Value.ref s.heap.objs.size))) { s with heap := s.heap.push { cls := Value.type "list", data := Data.seq (items ++ items2) }, toks := s.toks }) :=
  .of_wp fun prog w A R s h => by obtain ⟨hp, g, d, tk, os⟩ := s; obtain ⟨hl, hb, h⟩ := h; have f1 := AutoSeq1.idx_int; have f2 := AutoSeq1.sub_tuple_tuple; have f3 := AutoSeq1.sub_list_list; have f4 := AutoSeq1.sub_tuple_list; have f5 := AutoSeq1.sub_list_tuple; wp_walk using wpAny_loadPart' hl, wpAny_loadPart' hb; exact ⟨_, rfl, h⟩
def fCat : D → D → Option (List D)
  | .list a, .list b => if sized (a.length + b.length) then some (a ++ b) else none
  | _, _ => none
def rDL (K : Fg) (f : D → D → Option (List D)) : R2 := fun x y H Q => ∃ a b ds, Df K H x a ∧ Df K H y b ∧ f a b = some ds ∧ ∀ p vs, H p = none → DfA K H vs ds → Q (.ref p) (upd H p (.lst vs))
theorem op_catL : OpR X (binaryOp .Add) (rDL X.K fCat) := by
  intro pins s σ H x y v u Q I rx ry ⟨a, b, ds, ha, hb, hf, q⟩
  unfold fCat at hf
  split at hf
  · split at hf
    · rename_i hz
      have hz := of_sized hz
      obtain rfl := Option.some.inj hf
      cases ha with
      | lst s1 da =>
        cases hb with
        | lst s2 db =>
          cases rx
          cases ry
          have l1 := da.length
          have l2 := db.length
          obtain ⟨its, r1, ⟨⟨cls, dd, data, sl⟩, n, o1, o2, o3, o4⟩, _⟩ := I.list s1.sq
          obtain ⟨its2, r2, ⟨⟨cls2, dd2, data2, sl2⟩, n2, p1, p2, p3, p4⟩, _⟩ := I.list s2.sq
          simp only at o2 o3 o4 p2 p3 p4
          subst o2 o3 o4 p2 p3 p4
          have r1l := r1.length
          have r2l := r2.length
          refine concat_meets ⟨_, o1, rfl⟩ ⟨_, p1, rfl⟩ noFill_list_add seq_list_add PySem.F.slot_list_add PySem.F.entry_list_add (PySem.F.args_list_add_2 _ _)
            (list_addW _ _ its.toArray its2.toArray n n2 none none sl sl2 (by rw [List.size_toArray, List.size_toArray]; omega)) ⟨o1, p1, ?_⟩
          have ea : its.toArray ++ its2.toArray = (its ++ its2).toArray := by simp
          rw [ea]
          exact ⟨.ref _, _, I.lnew (t' := s.toks) (r1.append r2) (by rw [List.length_append]; omega), rfl, q _ _ I.fresh (da.append db)⟩
    · cases hf
  · cases hf
theorem rl_cat (ha : PE X a (tR (wd X H0 P) ma)) (hb : PE X b (tR (wd X H0 P) mb)) : PE X (.BinOp a .Add b pos) (tL (wd X H0 P) (mBinL fCat ma mb)) :=
  weak (pe_op op_catL ha hb) fun σ H Q ⟨ρ, R, g⟩ => tR_bd R g fun v H1 d ρ1 go1 R1 d1 g1 => tR_bd R1 g1 fun u H2 e ρ2 go2 R2 d2 g2 => by
    obtain ⟨z, hz, k⟩ := got_lift g2
    exact ⟨d, e, z, d1.mono go2.stb, d2, hz, fun p vs hp dv => k p vs _ ((go1.trans go2).trans (.same (same_upd hp _))) (R2.same (same_upd hp _)) upd_same (dv.mono (.same (same_upd hp _))) (R2.fresh hp) (.of_fresh (go1.trans go2) hp)⟩
/-- -n -/
def fNeg : D → Option D
  | .int i => some (.int (-i))
  | _ => none
theorem re_neg (ha : PE X a (tR (wd X H0 P) ma)) : PE X (.UnaryOp .USub a pos) (tR (wd X H0 P) (mUn fNeg ma)) :=
  weak (pe_un un_neg ha) fun σ H Q ⟨ρ, R, g⟩ => tR_bd R g fun v H1 d ρ1 go1 R1 d1 g1 => by
    obtain ⟨z, hz, k⟩ := got_lift g1
    unfold fNeg at hz
    split at hz
    · cases d1
      obtain rfl := Option.some.inj hz
      exact ⟨_, rfl, k _ H1 go1 R1 (.int _)⟩
    · cases hz
end
end Pu

namespace Pu
open PySem PySem.Spec PyProof.Rows L2

/-! ### the law itself -/
def spLaw (T : List Addr) (K : Fg) : Sp := fun vs H Q _ => ∃ (a : Addr) (ns : List Int), vs = [.ref a] ∧ TbH T H ∧ FzL K H a (ns.map V.int) ∧ ns.length ≤ 63 ∧ ∀ H', TbH T H' → Q (.bl true) H'
theorem ints_df {K : Fg} {H : Hp} : ∀ ns : List Int, DfA K H (ns.map V.int) (ns.map PyData.int)
  | [] => .nil
  | n :: r => .cons (.int n) (ints_df r)
theorem law_ok {T : List Addr} {P : Program} {w : World} {K : Fg} {mg : Str → Option Value} {base : Heap} {k : Nat} {f : Addr} {fd : FuncData} {m : List D → Re} (F : FnOk P w K mg base CX0 k f fd ["script"] (spI T K 1 m)) (h : ∀ ns : List Int, ns.length ≤ 63 → m [.list (ns.map PyData.int)] = .ok (.imm (.bool true))) :
    FnOk P w K mg base CX0 k f fd ["script"] (spLaw T K) := F.imp fun vs H Q E ⟨a, ns, e, hT, hS, hl, q⟩ => by
  subst e
  refine ⟨rfl, hT, [.list (ns.map PyData.int)], .cons (.lst hS (ints_df ns)) .nil, ?_⟩
  rw [h ns hl]
  intro v H' sm dv
  cases dv
  exact q H' fun p hp => sm _ _ (hT p hp)
theorem law_callT {T : List Addr} {P : Program} {w : World} {K : PySem.W.Frag} {mg mb : Str → Option Value} {k : Nat} {fa a : Addr} {fd : FuncData} {x : Str} {s₁ : Shared} {vs : List Value} {ns : List Int}
    (KX : K.In s₁.heap) (hns : s₁.heap.Ns mainGlobals mg) (hb : s₁.heap.Ns builtinsNs mb) (hbb : ∀ x : Str, x ≠ "__name__" → mb x = bootBuiltins x) (hlim : s₁.heap.NoLimit) (hg : s₁.gens = #[]) (hbm : BM s₁.heap mg)
    (ha : s₁.heap.get? a = some { cls := .type "list", data := .seq vs.toArray }) (hi : IntsAre vs ns) (hl : ns.length ≤ 63) (hr : Room k callerA)
    (hT : ∀ p ∈ T, ∃ c, s₁.heap.TableAt c p #[]) (hKT : ∀ p ∈ T, K.lookup p = none)
    (F : ∀ base : Heap, K.In base → base.Ns mainGlobals mg → BM base mg → FnOk P w K mg base CX0 k fa fd [x] (spLaw T K)) (hbind : ∀ (s : Shared) (u : Value), BindsTo s fd ⟨[u], []⟩ [(x, u)]) :
    codeAny (model P w) callerA (.call (.ref fa) ⟨[.ref a], []⟩) (fun r s' => r = .ok (.ret (.bool true)) ∧ OldK s₁.heap s'.heap ∧ s'.os = s₁.os ∧ AllBare s'.gens) s₁ := by
  have rv := vals_ints hi
  have lenV := hi.length
  have core : ∀ H : Hp, (∀ b, H b = none ∨ (b ∈ T ∧ H b = some (Tab b)) ∨ (b = a ∧ K.lookup a = none ∧ ∃ o xs, H b = some (.frz o (.lst xs)))) → TbH T H → FzL K H a (ns.map V.int) → HOk P w H s₁.heap →
      codeAny (model P w) callerA (.call (.ref fa) ⟨[.ref a], []⟩) (fun r s' => r = .ok (.ret (.bool true)) ∧ OldK s₁.heap s'.heap ∧ s'.os = s₁.os ∧ AllBare s'.gens) s₁ := by
    intro H hH hTH hS hok
    have base_of : ∀ {b : Addr} {o : Obj}, s₁.heap.get? b = some o → H b = none → (hidT s₁.heap H).get? b = some o := fun e n => hidT_get e n
    have noA : ∀ {b : Addr} {o : Obj}, s₁.heap.get? b = some o → (∀ ps, o.data ≠ .fields ps) → (∀ a n, o.data ≠ .seq a n) → H b = none := fun {b o} e d1 d2 => by
      rcases hH b with z | ⟨hb, z⟩ | ⟨rfl, _⟩
      · exact z
      · obtain ⟨c, _, e'⟩ := hT b hb
        rw [e] at e'; cases e'
        exact absurd rfl (d1 #[])
      · rw [ha] at e; cases e
        exact absurd rfl (d2 _ _)
    have nsK : ∀ {b : Addr} {m : Str → Option Value}, s₁.heap.Ns b m → (hidT s₁.heap H).Ns b m := fun {b m} ⟨o, es, ep, e, d, r⟩ => ⟨o, es, ep, base_of e (noA e (fun ps z => by rw [d] at z; cases z) (fun _ _ z => by rw [d] at z; cases z)), d, r⟩
    have hKb : K.In (hidT s₁.heap H) := fun b o e => base_of (KX b o e) (by
      rcases hH b with z | ⟨hb, z⟩ | ⟨rfl, hk, _⟩
      · exact z
      · rw [hKT b hb] at e; cases e
      · rw [hk] at e; cases e)
    have hM : Mod K mg (hidT s₁.heap H) := ⟨hKb, nsK hns, ⟨mb, nsK hb, hbb⟩, let ⟨mc, h1, h2⟩ := hlim; ⟨mc, nsK h1, h2⟩⟩
    have hBB : BM (hidT s₁.heap H) mg := by
      obtain ⟨bm, ob, M⟩ := hbm
      exact ⟨bm, ob, nsK M.ns, M.name, M.ne, base_of M.obj (noA M.obj (fun ps z => by rw [M.data] at z; cases z) (fun _ _ z => by rw [M.data] at z; cases z)), M.cls, M.dict, M.data⟩
    have e0 : Env0 P w K mg (hidT s₁.heap H) callerA [] s₁ H := ⟨rfl, hM, fun b o e => of_hidT e, Nat.le_of_eq (hidT_size _ _), trivial, fun b hb => absurd (show b ∈ ([] : List Addr) from hb) (by simp), hok, .of_eq hg⟩
    refine codeAny_mono ((F _ hKb (nsK hns) hBB).run callerA [] s₁ H ⟨[.ref a], []⟩ [.ref a] [.ref a] (fun v H' => v = .bl true ∧ TbH T H') (fun _ _ _ => False) hr e0 (hbind s₁ (.ref a)) (.cons rfl .nil) ⟨a, ns, rfl, hTH, hS, hl, fun H' h => ⟨rfl, h⟩⟩) fun r s' h => ?_
    cases r with
    | error e => exact False.elim h
    | ok fl =>
      cases fl with
      | next => exact False.elim h
      | brk => exact False.elim h
      | cont => exact False.elim h
      | ret u =>
        obtain ⟨v, H', os, bare, un, hok', r', q, hT'⟩ := h
        subst q
        obtain rfl : u = Value.bool true := r'
        have kept : ∀ b o, s₁.heap.get? b = some o → b ∉ T → s'.heap.get? b = some o := fun b o e nb => by
          rcases hH b with z | ⟨hb, z⟩ | ⟨rfl, hk, ob, xs, z⟩
          · exact un.keep b o e z (by intro z; exact absurd (show b ∈ ([] : List Addr) from z) (by simp)) (by simp)
          · exact absurd hb nb
          · have z2 := un.frzs b ob _ z
            obtain ⟨e1, _⟩ := hok b _ z
            obtain ⟨e2, _⟩ := hok' b _ z2
            rw [e] at e1; cases e1
            exact e2
        refine ⟨rfl, ⟨fun b o e => ?_, fun b o e => ?_⟩, os, bare⟩
        · by_cases hb : b ∈ T
          · obtain ⟨c, t⟩ := hT b hb
            obtain ⟨⟨ps, e2, _⟩, _⟩ := hok' b _ (hT' b hb)
            have e1 := t.2
            rw [e] at e1
            cases e1
            exact .inr (.inl ⟨t.isCodeTable, rfl, #[], ps, rfl, by rw [e2]; simp⟩)
          · exact .inl (kept b o e hb)
        · by_cases hb : b ∈ T
          · obtain ⟨⟨ps, e2, _⟩, _⟩ := hok' b _ (hT' b hb)
            exact ⟨_, e2⟩
          · exact ⟨o, kept b o e hb⟩
  have tab0 : ∀ b ∈ T, tabP b s₁.heap := fun b hb => by
    obtain ⟨c, t⟩ := hT b hb
    exact ⟨#[], t.2, trivial⟩
  have naT : a ∉ T := fun h => by
    obtain ⟨c, t⟩ := hT a h
    have := t.2
    rw [ha] at this
    cases this
  cases hk : K.lookup a with
  | some o =>
    have e := KX a o hk
    rw [ha] at e
    cases e
    refine core (fun b => if b ∈ T then some (Tab b) else none) (fun b => ?_) (fun p hp => if_pos hp) (.inr ⟨_, vs.toArray, _, hk, rfl, rfl, rfl, by rw [List.size_toArray, lenV]; exact Nat.le_trans hl (by decide), by simpa using rv⟩) (fun b u z => ?_)
    · by_cases hb : b ∈ T
      · exact .inr (.inl ⟨hb, if_pos hb⟩)
      · exact .inl (if_neg hb)
    · by_cases hb : b ∈ T
      · have z' := (if_pos hb).symm.trans z
        cases z'
        exact (tab0 b hb).ok
      · have z' := (if_neg hb).symm.trans z
        cases z'
  | none =>
    refine core (fun b => if b ∈ T then some (Tab b) else if b = a then some (.frz { cls := .type "list", data := .seq vs.toArray } (.lst (ns.map V.int))) else none) (fun b => ?_) (fun p hp => if_pos hp) (.inl ⟨{ cls := .type "list", data := .seq vs.toArray }, (if_neg naT).trans (if_pos rfl)⟩) (fun b u z => ?_)
    · by_cases hb : b ∈ T
      · exact .inr (.inl ⟨hb, if_pos hb⟩)
      · by_cases hba : b = a
        · exact .inr (.inr ⟨hba, hk, _, _, (if_neg hb).trans (if_pos hba)⟩)
        · exact .inl ((if_neg hb).trans (if_neg hba))
    · by_cases hb : b ∈ T
      · have z' := (if_pos hb).symm.trans z
        cases z'
        exact (tab0 b hb).ok
      · by_cases hba : b = a
        · have z' := ((if_neg hb).trans (if_pos hba)).symm.trans z
          cases z'
          subst hba
          exact ⟨ha, by rw [List.length_map]; exact Nat.le_trans hl (by decide), vs, _, rv, ha⟩
        · have z' := ((if_neg hb).trans (if_neg hba)).symm.trans z
          cases z'
theorem noTab {K : PySem.W.Frag} {h : Heap} {mg : Str → Option Value} {c p : Addr} (KX : K.In h) (hc : PySem.W.kb_classed K = true) (hns : h.Ns mainGlobals mg) (hlim : h.NoLimit) (t : h.TableAt c p #[]) : K.lookup p = none := by
  cases q : K.lookup p with
  | none => rfl
  | some o =>
    have e := KX p o q
    have e2 := t.2
    rw [e] at e2
    cases e2
    have z := List.all_eq_true.mp hc (p, _) (PySem.W.kb_mem q)
    simp only [Bool.or_eq_true, decide_eq_true_eq, beq_iff_eq] at z
    rcases z with (z | z) | z
    · exact absurd rfl z
    · subst z
      obtain ⟨_, ⟨o, es, ep, ho, hd, _⟩, _⟩ := hlim
      rw [e] at ho; cases ho; cases hd
    · subst z
      obtain ⟨o, es, ep, ho, hd, _⟩ := hns
      rw [e] at ho; cases ho; cases hd
/-- the tables of the defs that a text names -/
abbrev Tabs (q : Program) (mg : Str → Option Value) (h : Heap) : Prop := ∀ (nm : Str) (dd : DefRec), (recsOf q).find? (fun e => e.name == nm) = some dd → ∀ (f : Addr) (o : Obj) (fd : FuncData), mg nm = some (.ref f) → h.get? f = some o → o.data = .func fd → ∃ c P, fd.code = .ref c ∧ Based h h c P #[]
theorem walk {l : PySem.W.OpenLaw} {q : Program} {loose : List Str} {XP : (Str → Option Value) → Heap → Prop} {YP : World → Heap → Prop} {d : DefRec} {K : Params → PySem.W.Frag} {k : Nat} (hn : l.most = some 63) (hdf : d.params.defaults = []) (hr : Room k callerA)
    (hY : ∀ (w : World) (h : Heap), YP w h → (K w.params).In h)
    (F : ∀ (w : World) (mg : Str → Option Value) (fa : Addr) (h : Heap), (K w.params).In h → h.Ns mainGlobals mg → mg d.name = some (.ref fa) → Tabs q mg h →
      ∃ (T : List Addr) (fd : FuncData), ((∀ p ∈ T, ∃ c, h.TableAt c p #[]) ∧ (T ≠ [] → PySem.W.kb_classed (K w.params) = true)) ∧ (∀ (s : Shared) (u : Value), BindsTo s fd ⟨[u], []⟩ [("script", u)]) ∧ ∀ base : Heap, (K w.params).In base → base.Ns mainGlobals mg → BM base mg → FnOk l.prog w (K w.params) mg base CX0 k fa fd ["script"] (spLaw T (K w.params))) :
    PySem.W.WalkO q loose XP YP l.row.toRowW d [] (fun f vs => PySem.call f vs) := by
  refine Att.attach_call hn hdf fun w s₀ s₁ mg mb fa o pm cd doc a vs ns G Y ho hd hcd hmg hobj hints hlen hg => ?_
  have KX := hY w _ Y
  obtain ⟨T, fd, ⟨hT, hcl⟩, hb, hF⟩ := F w mg fa _ KX G.T.g hmg (fun nm dd e f o fd h1 h2 h3 => PySem.W.based_of_top G.T e h1 h2 h3)
  refine law_callT KX G.T.g G.T.b G.T.builtins G.T.nolimit hg (PySem.W.bmod_of_top G.T) hobj hints hlen hr hT (fun p hp => ?_) hF hb
  obtain ⟨c, t⟩ := hT p hp
  exact noTab KX (hcl (List.ne_nil_of_mem hp)) G.T.g G.T.nolimit t
end Pu

namespace Pu
open PySem PySem.Spec PyProof.Rows L2
/-! ### x in y -/
section
variable {X : Cx}
end
end Pu

namespace Pu
open PySem PySem.Spec PyProof.Rows L2
/-! ### comparisons of deep things -/
def shW (d : D) : Bool := d.canLay0 && decide (d.depth ≤ 180)
def fEqW (a b : D) : Option Bool := if shW a && shW b then some (PyData.eqv a b) else none
def fNeW (a b : D) : Option Bool := if shW a && shW b then some (!PyData.eqv a b) else none
theorem unitsW {k : Nat} {A : Around} (r : Room k A) : A.units + 180 < cLine := by have := r.un; omega
theorem roomW {A : Around} {da db : PyData} (h : shW da = true) (hu : A.units + 180 < cLine) : A.units + min da.depth db.depth < cLine := by
  have h1 : da.depth ≤ 180 := of_decide_eq_true (Bool.and_eq_true_iff.mp h).2
  have h2 : min da.depth db.depth ≤ da.depth := Nat.min_le_left _ _
  omega
section
variable {X : Cx}
theorem op_eqPW (hu : X.A.units + 180 < cLine) : OpR X (compareOp .Eq) (rBp X.K fEqW) := by
  intro pins s σ H x y v u Q I rx ry ⟨a, b, d, ha, hb, hf, q⟩
  unfold fEqW at hf
  split at hf
  · rename_i h
    rw [Bool.and_eq_true] at h
    obtain rfl := Option.some.inj hf
    obtain ⟨as, r1⟩ := Dp.reads I a x v ha rx
    obtain ⟨bs, r2⟩ := Dp.reads I b y u hb ry
    exact SeqAt.compareEq_reads r1 r2 (Bool.and_eq_true_iff.mp h.1).1 (Bool.and_eq_true_iff.mp h.2).1 (roomW h.1 hu) ⟨.bl _, H, I, rfl, q⟩
  · cases hf
theorem op_nePW (hu : X.A.units + 180 < cLine) : OpR X (compareOp .NotEq) (rBp X.K fNeW) := by
  intro pins s σ H x y v u Q I rx ry ⟨a, b, d, ha, hb, hf, q⟩
  unfold fNeW at hf
  split at hf
  · rename_i h
    rw [Bool.and_eq_true] at h
    obtain rfl := Option.some.inj hf
    obtain ⟨as, r1⟩ := Dp.reads I a x v ha rx
    obtain ⟨bs, r2⟩ := Dp.reads I b y u hb ry
    exact SeqAt.compareNe_reads r1 r2 (Bool.and_eq_true_iff.mp h.1).1 (Bool.and_eq_true_iff.mp h.2).1 (roomW h.1 hu) ⟨.bl _, H, I, rfl, q⟩
  · cases hf
theorem op_eqRW (hu : X.A.units + 180 < cLine) : OpR X (compareOp .Eq) (rB X.K fEqW) := by
  intro pins s σ H x y v u Q I rx ry ⟨a, b, d, ha, hb, hf, q⟩
  exact op_eqPW hu pins s σ H x y v u Q I rx ry ⟨a, b, d, ha.dp, hb.dp, hf, q⟩
theorem op_neRW (hu : X.A.units + 180 < cLine) : OpR X (compareOp .NotEq) (rB X.K fNeW) := by
  intro pins s σ H x y v u Q I rx ry ⟨a, b, d, ha, hb, hf, q⟩
  exact op_nePW hu pins s σ H x y v u Q I rx ry ⟨a, b, d, ha.dp, hb.dp, hf, q⟩
end
/-! ### sep.join, text.split -/
section
variable {X : Cx} {H0 : Hp} {P : List Addr} {pos apos : Pos} {a b e : Expr} {ma mb m : MM D}
/-! ### int(x) -/
/-! ### {..}[k] -/
end

/-! ### str(i), text * i -/
section
variable {X : Cx}
theorem foldl_size (a : Array Nat) : ∀ (m : Nat) (acc : Array Nat), ((List.replicate m a).foldl (· ++ ·) acc).size = acc.size + m * a.size
  | 0, acc => by simp
  | m + 1, acc => by
    rw [List.replicate_succ, List.foldl_cons, foldl_size a m, Array.size_append, Nat.succ_mul]
    omega
def repS (x : Str) (n : Int) : Str := if n < 1 then Str.empty else if (n == 1 || x.length == 0) = true then x else ⟨(List.replicate n.toNat x.cps).foldl (· ++ ·) #[]⟩
def fMulS : D → D → Option D
  | .str x, .int n => if decide (0 ≤ n) && decide (n ≤ 1000) && decide (x.length ≤ 1000) then some (.str (repS x n)) else none
  | _, _ => none
theorem op_mulS : OpR X (binaryOp .Mult) (rD X.K fMulS) := by
  intro pins s σ H x y v u Q I rx ry ⟨a, b, d, ha, hb, hf, q⟩
  unfold fMulS at hf
  split at hf
  · rename_i z n
    cases ha; cases hb
    split at hf
    · rename_i h
      obtain rfl := Option.some.inj hf
      rw [Bool.and_eq_true, Bool.and_eq_true] at h
      obtain ⟨⟨h1, h2⟩, h3⟩ := h
      have h1 := of_decide_eq_true h1
      have h2 := of_decide_eq_true h2
      have h3 := of_decide_eq_true h3
      obtain ⟨t, rfl⟩ := rx
      obtain ⟨t', rfl⟩ := ry
      have fin : ∀ (u : Value) (k : Nat), RelV (.str (repS z n)) u → EP X pins σ Q u { s with toks := k } := fun u k r => ⟨.str _, H, I.tok k, r, q _ _ (Same.refl _) (.str _)⟩
      have hm : z.length * n.toNat ≤ 1000000 := by
        have : n.toNat ≤ 1000 := by omega
        calc z.length * n.toNat ≤ 1000 * 1000 := Nat.mul_le_mul h3 this
          _ = 1000000 := rfl
      refine PySem.P.mul_str (by rw [decide_eq_false (by omega), decide_eq_false (by omega)]; rfl) (fun g1 _ => ?_) (fun _ _ => notLong (by omega)) ?_
      · have : (2 ^ 63 - 1 : Int) / n ≥ (2 ^ 63 - 1 : Int) / 1000 := by
          refine Int.le_ediv_of_mul_le (by omega) ?_
          have : (2 ^ 63 - 1 : Int) / 1000 * n ≤ (2 ^ 63 - 1 : Int) / 1000 * 1000 := Int.mul_le_mul_of_nonneg_left h2 (by decide)
          omega
        omega
      · have e := fin
        unfold repS at e
        by_cases c1 : n < 1
        · rw [if_pos c1] at e ⊢
          exact ⟨by decide, e _ _ ⟨_, rfl⟩⟩
        · rw [if_neg c1] at e ⊢
          by_cases c2 : (n == 1 || z.length == 0) = true
          · rw [if_pos c2] at e ⊢
            exact e _ s.toks ⟨_, rfl⟩
          · rw [if_neg c2] at e ⊢
            refine ⟨?_, e _ _ ⟨_, rfl⟩⟩
            show (((List.replicate n.toNat z.cps).foldl (· ++ ·) #[]).size : Nat) ≤ sizeLine
            rw [foldl_size, sizeLine_eq]
            have e5 : z.cps.size = z.length := rfl
            rw [e5, Nat.mul_comm]
            show 0 + _ ≤ _
            omega
    · cases hf
  · cases hf
end
/-! ### y in G, G a written tuple of texts of the module's top -/
end Pu

namespace Pu
open PySem PySem.Spec PyProof.Rows L2
/-! ### tuple * i -/
section
variable {X : Cx}
/-! ### all([..]) -/
end
end Pu

namespace Pu
open PySem PySem.Spec PyProof.Rows L2
/-! ### sum of a list of numbers, min of two numbers, bool -/
section
variable {X : Cx}
end
end Pu

namespace Pu
open PySem PySem.Spec PyProof.Rows L2

/-! ### list(enumerate(tuple)), near the model -/
section
variable {prog : Program} {w : World} {A : Around} {E : Value → Shared → Prop} {s : Shared}
theorem nx_tup {c p : Addr} {i : Nat} {xs : Array Value} {y : Value} {Q : Value → Shared → Prop} (gi : s.heap.IsTupleIter c p i) (gt : s.heap.IsTuple p xs) (gy : xs[i]? = some y)
    (k : ∀ h', h'.IsTupleIter c p (i + 1) → Heap.SameBut c s.heap h' → Q y { s with heap := h' }) : wpAny (model prog w) A (Builtin.SmallTypes.nextOf (.ref c)) Q E s := by
  obtain ⟨o, go, gc, gd⟩ := id gi
  obtain ⟨ol, g1, _, nl, g2⟩ := gt
  unfold Builtin.SmallTypes.nextOf
  refine wpAny_bind (wpAny_callSpecial?_slot (name := Str.ofString "__next__") gi.typeIs PySem.F.slot_tuple_iterator_next (wpAny_call_entry PySem.F.slot_tuple_iterator_next gi.typeIs PySem.F.entry_tuple_iterator_next ?_ (PySem.F.args_tuple_iterator_next_1 _)))
  show wpAny _ _ (field (.ref c) 0 >>= _) _ _ s
  refine wpAny_bind (wpAny_field go gd (x := .ref p) rfl ?_)
  show wpAny _ _ (if (Value.ref p == Value.none) = true then _ else _) _ _ s
  rw [if_neg (show ¬ ((Value.ref p == Value.none) = true) from Bool.false_ne_true)]
  show wpAny _ _ (field (.ref c) 1 >>= _) _ _ s
  refine wpAny_bind (wpAny_field go gd (x := .int i 0) rfl ?_)
  show wpAny _ _ (seqItems? (.ref p) >>= _) _ _ s
  refine wpAny_bind (wpAny_seqItems g1 g2 ?_)
  simp only [Int.toNat_natCast, gy]
  refine wpAny_bind (wpAny_setField go gd (by simp) (wpAny_pure ⟨y, rfl, wpAny_pure (k _ ?_ (Heap.SameBut.update ..))⟩))
  refine ⟨_, Heap.get?_update_self _ go (Obj.isFreed_of_fields (Obj.data_mapFields gd _)), (Obj.cls_mapFields ..).trans gc, ?_⟩
  rw [Obj.data_mapFields gd]
  simp [rawInt]
theorem nx_tupEnd {c p : Addr} {i : Nat} {xs : Array Value} {Q : Value → Shared → Prop} (nh : A.handled = none) (gi : s.heap.IsTupleIter c p i) (gt : s.heap.IsTuple p xs) (gy : xs[i]? = none)
    (k : ∀ h' z, Heap.ExtBut c s.heap h' → (∃ o, h'.get? z = some o ∧ o.cls = .type "StopIteration") → E (.ref z) { s with heap := h' }) : wpAny (model prog w) A (Builtin.SmallTypes.nextOf (.ref c)) Q E s := by
  obtain ⟨o, go, gc, gd⟩ := id gi
  obtain ⟨ol, g1, _, nl, g2⟩ := gt
  unfold Builtin.SmallTypes.nextOf
  refine wpAny_bind (wpAny_callSpecial?_slot (name := Str.ofString "__next__") gi.typeIs PySem.F.slot_tuple_iterator_next (wpAny_call_entry PySem.F.slot_tuple_iterator_next gi.typeIs PySem.F.entry_tuple_iterator_next ?_ (PySem.F.args_tuple_iterator_next_1 _)))
  show wpAny _ _ (field (.ref c) 0 >>= _) _ _ s
  refine wpAny_bind (wpAny_field go gd (x := .ref p) rfl ?_)
  show wpAny _ _ (if (Value.ref p == Value.none) = true then _ else _) _ _ s
  rw [if_neg (show ¬ ((Value.ref p == Value.none) = true) from Bool.false_ne_true)]
  show wpAny _ _ (field (.ref c) 1 >>= _) _ _ s
  refine wpAny_bind (wpAny_field go gd (x := .int i 0) rfl ?_)
  show wpAny _ _ (seqItems? (.ref p) >>= _) _ _ s
  refine wpAny_bind (wpAny_seqItems g1 g2 ?_)
  simp only [Int.toNat_natCast, gy]
  refine wpAny_bind (wpAny_rule (wpAny_bind (wpAny_setField go gd (by simp) ?_)))
  show wpAny _ _ (newExc (.type "StopIteration") [] >>= _) _ _ (_ : Shared)
  apply wpAny_bind
  simp only [newExc, newTuple]
  refine wpAny_bind (wpAny_newObj_type (s := _) ?_ (by size_fits))
  refine wpAny_bind (m := firstArgMember _ _) (wpAny_of_eq (a := (Value.none)) (by first | rfl | (simp only [firstArgMember]; rfl)) ?_)
  refine wpAny_newObj_type (s := _) ?_ (by size_fits)
  simp only [raiseNew]
  apply wpAny_bind; refine wpAny_handled ?_
  first | rw [nh] | rw [show A.in1.handled = none from nh]
  refine wpAny_bind (wpAny_pure (wpAny_throw (k _ _ (((Heap.SameBut.update ..).extBut.push _).push _) ⟨_, Heap.get?_push_size _ rfl, rfl⟩)))
theorem lv {a : Addr} {o : Obj} {Q : Option Obj → Shared → Prop} (g : s.heap.get? a = some o) (k : Q (some o) s) : wpAny (model prog w) A (loadIfAlive a) Q E s := by
  have k' : Q (s.heap.get? a) s := by rw [g]; exact k
  exact fun _ _ _ => k'
section
variable {q c : Addr} {fp : List Addr} {n i : Nat} {P : Nat → Value → Prop} {St : Nat → Heap → Prop}
end
end
end Pu

namespace Pu
open PySem PySem.Spec PyProof.Rows L2

section
variable {prog : Program} {w : World} {A : Around} {E : Value → Shared → Prop} {s : Shared} {R : Result → Shared → Prop}
/-- the pairs laid so far, from B on -/
def Prs (B : Addr) (P : Nat → Value → Prop) (h : Heap) (acc : Array Value) (i : Nat) : Prop :=
  acc = ((List.range i).map fun j => Value.ref (B + j)).toArray ∧ ∀ j, j < i → ∃ tk x, P j x ∧ h.get? (B + j) = some { cls := .type "tuple", data := .seq #[.int j tk, x] }
theorem Prs.push {B : Addr} {P : Nat → Value → Prop} {h h' : Heap} {acc : Array Value} {i tk : Nat} {x : Value} (p : Prs B P h acc i) (k : ∀ j, j < i → ∀ o, h.get? (B + j) = some o → h'.get? (B + j) = some o) (px : P i x)
    (g : h'.get? (B + i) = some { cls := .type "tuple", data := .seq #[.int i tk, x] }) : Prs B P h' (acc.push (.ref (B + i))) (i + 1) := by
  obtain ⟨e, f⟩ := p
  refine ⟨by rw [e, List.range_succ, List.map_append, List.push_toArray]; rfl, fun j hj => ?_⟩
  by_cases z : j = i
  · subst z; exact ⟨tk, x, px, g⟩
  · obtain ⟨tk', x', p', g'⟩ := f j (by omega)
    exact ⟨tk', x', p', k j (by omega) _ g'⟩
theorem Prs.size {B : Addr} {P : Nat → Value → Prop} {h : Heap} {acc : Array Value} {i : Nat} (p : Prs B P h acc i) : acc.size = i := by rw [p.1]; simp
theorem far {u B : Addr} (j : Nat) (h : u < B) : B + j ≠ u := Nat.ne_of_gt (Nat.lt_of_lt_of_le h (Nat.le_add_right _ _))
end
end Pu

namespace Pu
open PySem PySem.Spec PyProof.Rows L2

section
variable {X : Cx}
end
end Pu

namespace Pu
open PySem PySem.Spec PyProof.Rows L2

section
variable {X : Cx} {H0 : Hp} {P : List Addr} {e iter tg : Expr} {m : MM D}
end
end Pu

namespace Pu
open PySem PySem.Spec PyProof.Rows L2
/-! ### reversed(range(n)) -/
section
variable {prog : Program} {w : World} {A : Around} {E : Value → Shared → Prop} {s : Shared}
end
section
variable {X : Cx} {tg : Expr}
end
section
variable {X : Cx} {H0 : Hp} {P : List Addr} {tg : Expr}
end
end Pu

namespace Pu
open PySem PySem.Spec PyProof.Rows L2
/-! ### reversed(tuple) -/
section
variable {prog : Program} {w : World} {A : Around} {E : Value → Shared → Prop} {s : Shared}
end
section
variable {X : Cx} {tg : Expr}
end
section
variable {X : Cx} {H0 : Hp} {P : List Addr} {tg : Expr}
end
end Pu

namespace Pu
open PySem PySem.Spec PyProof.Rows L2
/-! ### generators are never forgotten -/
/-! ### a generator expression's life, by any predicate of the state -/
def prJ (Φ : Nat → Shared → Prop) (tr : Nat → Bool) (n : Nat) : Protocol := fun m _ v z kap => (v = .bool (tr (n - 1 - m)) ∧ Φ (n - m) z) ∧ ∀ z', Φ (n - m) z' → kap (.send .none) z'
def enJ (Fn : Shared → Prop) : GenEnd := fun m _ r z => r = .ok .next ∧ (m = 0 ∧ Fn z)
section
variable {prog : Program} {w : World} {A : Around} {elt iter : Expr} {y : Str} {py gpos : Pos} {scope : Scope} {it a : Addr} {cenv : Env} {n g : Nat} {Φ : Nat → Shared → Prop} {Fn : Shared → Prop} {tr : Nat → Bool}
/-- the generator ahead of its item j -/
structure StJ (prog : Program) (w : World) (A : Around) (g : Nat) (Φ : Nat → Shared → Prop) (Fn : Shared → Prop) (tr : Nat → Bool) (n j : Nat) (z : Shared) : Prop where
  st : Φ j z
  gs : ∃ gs, z.gens[g]? = some gs ∧ ∀ z', Φ j z' → gs.Goes (model prog w) A.in1 (enJ Fn) (prJ Φ tr n) (n - j) (.send .none) z'
/-- what a state predicate must allow -/
structure OkJ (a : Addr) (g : Nat) (Φ : Nat → Shared → Prop) (Fn En : Shared → Prop) : Prop where
  set : ∀ j z x, Φ j z → x.bare = true → Φ j (z.setGen g x)
  gen : ∀ j z, Φ j z → z.heap.IsGen a g ∧ z.heap.NoLimit ∧ g < z.gens.size
  mid : ∀ j z, Φ j z → En z
  fin : ∀ z h', Fn z → (∀ b o, z.heap.get? b = some o → h'.get? b = some o) → En { z.setGen g .finished with heap := h' }
end
end Pu

namespace Pu
open PySem PySem.Spec PyProof.Rows L2
theorem Inv.gens {X : Cx} {pins : List (Addr × Obj)} {σ : L2.St} {H : Hp} {s : Shared} {gg : Array GenState} (I : Inv X pins σ H s) (hb : AllBare gg) : Inv X pins σ H { s with gens := gg } :=
  ⟨I.ok, I.os, hb, I.base, I.loc, I.cell, I.free, I.freeC, I.pin, I.hok, I.len⟩
section
variable {X : Cx} {pins : List (Addr × Obj)} {σ : L2.St} {H : Hp} {s : Shared}
end
section
variable {X : Cx} {H0 : Hp} {P : List Addr} {pos p py gpos : Pos} {T : List Addr} {y : Str} {iter elt : Expr} {scope : Scope} {me : MM D} {ms : MM (List D)} {wi : TI} {k : Nat}
end
end Pu

namespace Pu
open PySem PySem.Spec PyProof.Rows L2
/-! ### a dict at a name: d[e], e in d, e not in d; f(dict(e), ..) -/
theorem DfK.sm {K : Fg} {H : Hp} {k : Str} : ∀ {vs : List (Key × V)} {ds : List (Str × D)}, DfK K H vs ds → (valV vs (Sum.inr k)).isSome = (valD ds k).isSome
  | _, _, .nil => rfl
  | _, _, .cons (k := k') h r => by
    have ih := DfK.sm (k := k) r
    unfold valV valD at ih ⊢
    rw [List.find?_cons, List.find?_cons]
    show (Option.map _ (match decide ((Sum.inr k' : Key) = Sum.inr k) with | true => _ | false => _)).isSome = _
    rw [inr_eq]
    cases decide (k' = k) with
    | true => rfl
    | false => exact ih
section
variable {X : Cx} {H0 : Hp} {P : List Addr} {pos p1 : Pos} {x : Str} {e : Expr} {m : MM D}
variable {k n : Nat} {f : Addr} {fd : FuncData} {ps : List Str} {mf : List (Str × D) → List D → ReS} {es : List Expr} {mr : MM (List D)} {p : Pos}
end
/-! ### x in s, s a list or a tuple, by the things' data -/
def fInD (x y : D) : Option Bool := match y with
  | .list ds => if PyData.canLayAll0 ds && shW x then some (ds.any fun z => PyData.eqv z x) else none
  | .tuple ds => if PyData.canLayAll0 ds && shW x then some (ds.any fun z => PyData.eqv z x) else none
  | _ => none
def fNotInD (x y : D) : Option Bool := (fInD x y).map (!·)
theorem unitsV {k : Nat} {A : Around} (r : Room k A) : A.units + 190 < cLine := by have := r.un; omega
theorem roomV {A : Around} {x : D} {n : Nat} (h : shW x = true) (hu : A.units + 190 < cLine) : A.units + 1 + min n x.depth < cLine := by
  have h1 : x.depth ≤ 180 := of_decide_eq_true (Bool.and_eq_true_iff.mp h).2
  have h2 : min n x.depth ≤ x.depth := Nat.min_le_right _ _
  omega
theorem op_inD {X : Cx} (hu : X.A.units + 190 < cLine) : OpR X (compareOp .In) (rB X.K fInD) := by
  intro pins s σ H x y v u Q I rx ry ⟨a, b, c, ha, hb, hf, q⟩
  obtain ⟨as, r1⟩ := Dp.reads I a x v ha.dp rx
  obtain ⟨bs, r2⟩ := Dp.reads I b y u hb.dp ry
  unfold fInD at hf
  split at hf
  · split at hf
    · rename_i h
      rw [Bool.and_eq_true] at h
      obtain rfl := Option.some.inj hf
      exact SeqAt.in_list_reads r2 r1 h.1 (Bool.and_eq_true_iff.mp h.2).1 (roomV h.2 hu) ⟨.bl _, H, I, rfl, q⟩
    · cases hf
  · split at hf
    · rename_i h
      rw [Bool.and_eq_true] at h
      obtain rfl := Option.some.inj hf
      exact SeqAt.in_tuple_reads r2 r1 h.1 (Bool.and_eq_true_iff.mp h.2).1 (roomV h.2 hu) ⟨.bl _, H, I, rfl, q⟩
    · cases hf
  · cases hf
theorem op_notInD {X : Cx} (hu : X.A.units + 190 < cLine) : OpR X (compareOp .NotIn) (rB X.K fNotInD) := by
  intro pins s σ H x y v u Q I rx ry ⟨a, b, c, ha, hb, hf, q⟩
  obtain ⟨c', hg, rfl⟩ := Option.map_eq_some_iff.mp hf
  obtain ⟨as, r1⟩ := Dp.reads I a x v ha.dp rx
  obtain ⟨bs, r2⟩ := Dp.reads I b y u hb.dp ry
  unfold fInD at hg
  split at hg
  · split at hg
    · rename_i h
      rw [Bool.and_eq_true] at h
      obtain rfl := Option.some.inj hg
      exact SeqAt.notIn_list_reads r2 r1 h.1 (Bool.and_eq_true_iff.mp h.2).1 (roomV h.2 hu) ⟨.bl _, H, I, rfl, q⟩
    · cases hg
  · split at hg
    · rename_i h
      rw [Bool.and_eq_true] at h
      obtain rfl := Option.some.inj hg
      exact SeqAt.notIn_tuple_reads r2 r1 h.1 (Bool.and_eq_true_iff.mp h.2).1 (roomV h.2 hu) ⟨.bl _, H, I, rfl, q⟩
    · cases hg
  · cases hg
end Pu

namespace Pu
open PySem PySem.Spec PyProof.Rows L2
/-! ### repr of plain data -/
end Pu

namespace Pu
open PySem PySem.Spec PyProof.Rows L2
/-! ### sets of texts -/
section
variable {W : Wd} {ρ : En} {σ : L2.St} {H H' : Hp}
end
section
variable {X : Cx} {H0 : Hp} {P : List Addr} {pos p1 : Pos} {x : Str} {e : Expr} {m : MM D}
end
end Pu

namespace Pu
open PySem PySem.Spec PyProof.Rows L2
/-! ### e in a name's own list of texts; its .count(text) -/
section
variable {X : Cx} {H0 : Hp} {P : List Addr} {pos p1 : Pos} {x : Str} {e : Expr} {m : MM D}
end
end Pu

namespace Pu
open PySem PySem.Spec PyProof.Rows L2
/-! ### tuple * 0 -/
section
variable {X : Cx}
end
end Pu

namespace L2
open PySem PySem.Spec PyProof.Rows
/-! ### dict(pairs) whose keys are tuples -/
def mergedH (acc rest : List (List Key × Addr × Value)) : List (List Key × Addr × Value) := rest.foldl (fun acc q => storedH acc q.1 q.2.1 q.2.2) acc
def mergeT (kvs more : List (List Key × V)) : List (List Key × V) := more.foldl (fun acc kv => putK acc kv.1 kv.2) kvs
theorem KT.merge {H : Hp} {more : List (List Key × V)} {rs : List (List Key × Addr × Value)} (r : KT H more rs) : ∀ {kvs : List (List Key × V)} {vs : List (List Key × Addr × Value)}, KT H kvs vs → KT H (mergeT kvs more) (mergedH vs rs) := by
  induction r with
  | nil => intro kvs vs q; exact q
  | @cons p q ps qs h t ih =>
    intro kvs vs k
    obtain ⟨h1, h2, h3⟩ := h
    have := KT.put k p.1 h2 h3
    rw [show storedH vs p.1 q.2.1 q.2.2 = storedH vs q.1 q.2.1 q.2.2 by rw [h1]] at this
    exact ih this
section
variable {prog : Program} {w : World} {A : Around} {E : Value → Shared → Prop}
end
end L2
namespace Pu
open PySem PySem.Spec PyProof.Rows L2
/-! ### a dict whose keys are tuples of ints and texts, never changed: x = dict(e), x[k], k in x, k not in x -/
def valF (kvs : List (List Key × D)) (k : List Key) : Option D := (kvs.find? fun kv => decide (kv.1 = k)).map (·.2)
def putF (kvs : List (List Key × D)) (k : List Key) (d : D) : List (List Key × D) := if (kvs.any fun kv => decide (kv.1 = k)) = true then kvs.map (fun kv => if kv.1 = k then (kv.1, d) else kv) else kvs ++ [(k, d)]
def mergeF (kvs more : List (List Key × D)) : List (List Key × D) := more.foldl (fun acc kv => putF acc kv.1 kv.2) kvs
theorem DfT.val {K : Fg} {H : Hp} {k : List Key} {d : D} : ∀ {vs : List (List Key × V)} {ds : List (List Key × D)}, DfT K H vs ds → valF ds k = some d → ∃ v, valV vs k = some v ∧ Df K H v d
  | _, _, .nil, e => by cases e
  | _, _, .cons (k := k') (v := v') (d := d') h r, e => by
    unfold valF at e
    rw [List.find?_cons] at e
    by_cases q : k' = k
    · rw [decide_eq_true q] at e
      cases e
      exact ⟨v', valV_pos q, h⟩
    · rw [decide_eq_false q] at e
      obtain ⟨v, h1, h2⟩ := DfT.val r e
      exact ⟨v, by rw [valV_neg q]; exact h1, h2⟩
theorem DfT.sm {K : Fg} {H : Hp} {k : List Key} : ∀ {vs : List (List Key × V)} {ds : List (List Key × D)}, DfT K H vs ds → (valV vs k).isSome = (valF ds k).isSome
  | _, _, .nil => rfl
  | _, _, .cons (k := k') h r => by
    unfold valF
    rw [List.find?_cons]
    by_cases q : k' = k
    · rw [decide_eq_true q, valV_pos q]
      rfl
    · rw [decide_eq_false q, valV_neg q]
      exact DfT.sm r
theorem DfT.repl {K : Fg} {H : Hp} {k : List Key} {v : V} {d : D} (h : Df K H v d) : ∀ {vs : List (List Key × V)} {ds : List (List Key × D)}, DfT K H vs ds → DfT K H (vs.map fun kv => if kv.1 = k then (kv.1, v) else kv) (ds.map fun kv => if kv.1 = k then (kv.1, d) else kv)
  | _, _, .nil => .nil
  | _, _, .cons (k := k') h' r => by
    rw [List.map_cons, List.map_cons]
    by_cases q : k' = k
    · rw [if_pos q, if_pos q]; exact .cons h (DfT.repl h r)
    · rw [if_neg q, if_neg q]; exact .cons h' (DfT.repl h r)
theorem DfT.snoc {K : Fg} {H : Hp} {k : List Key} {v : V} {d : D} (h : Df K H v d) : ∀ {vs : List (List Key × V)} {ds : List (List Key × D)}, DfT K H vs ds → DfT K H (vs ++ [(k, v)]) (ds ++ [(k, d)])
  | _, _, .nil => .cons h .nil
  | _, _, .cons h' r => .cons h' (DfT.snoc h r)
theorem DfT.anyK {K : Fg} {H : Hp} {k : List Key} : ∀ {vs : List (List Key × V)} {ds : List (List Key × D)}, DfT K H vs ds → (vs.any fun kv => decide (kv.1 = k)) = (ds.any fun kv => decide (kv.1 = k))
  | _, _, .nil => rfl
  | _, _, .cons h r => by rw [List.any_cons, List.any_cons, DfT.anyK r]
theorem DfT.put {K : Fg} {H : Hp} {k : List Key} {v : V} {d : D} (h : Df K H v d) {vs : List (List Key × V)} {ds : List (List Key × D)} (r : DfT K H vs ds) : DfT K H (putK vs k v) (putF ds k d) := by
  unfold putK putF
  rw [r.anyK]
  by_cases q : (ds.any fun kv => decide (kv.1 = k)) = true
  · rw [if_pos q, if_pos q]; exact r.repl h
  · rw [if_neg q, if_neg q]; exact r.snoc h
theorem DfT.merge {K : Fg} {H : Hp} : ∀ {more : List (List Key × V)} {dm : List (List Key × D)}, DfT K H more dm → ∀ {vs : List (List Key × V)} {ds : List (List Key × D)}, DfT K H vs ds → DfT K H (mergeT vs more) (mergeF ds dm)
  | _, _, .nil, _, _, r => r
  | _, _, .cons h t, _, _, r => DfT.merge t (r.put h)
section
variable {X : Cx} {H0 : Hp} {P : List Addr} {pos p1 p2 : Pos} {x : Str} {a b e : Expr} {ma mb m : MM D}
end
end Pu

namespace L2
open PySem PySem.Spec PyProof.Rows
section
variable {X : Cx} {pos : Pos}
end
end L2
namespace Pu
open PySem PySem.Spec PyProof.Rows L2
end Pu

namespace L2
open PySem PySem.Spec PyProof.Rows
/-! ### sorted(xs), xs a list or a tuple of texts -/
section
variable {prog : Program} {w : World} {A : Around} {E : Value → Shared → Prop} {s : Shared}
end
end L2
namespace Pu
open PySem PySem.Spec PyProof.Rows L2
/-! ### the order of texts -/
section
variable {X : Cx} {H0 : Hp} {P : List Addr} {pos p1 p2 : Pos} {x : Str} {a b e : Expr} {ma mb m : MM D}
variable {es : List Expr} {mr : MM (List D)} {p : Pos} {id : String}
/-! ### e.count(text), e any list of texts -/
end
end Pu

namespace L2
open PySem PySem.Spec PyProof.Rows
section
variable {prog : Program} {w : World} {A : Around} {E : Value → Shared → Prop}
end
end L2
namespace Pu
open PySem PySem.Spec PyProof.Rows L2
section
variable {X : Cx} {H0 : Hp} {P : List Addr} {pos p1 p2 : Pos} {x : Str} {a b e : Expr} {ma mb m : MM D}
/-! ### dict(e)[k], the keys tuples, e a list or a tuple of pairs -/
/-! ### name = dict(e), the keys texts -/
end
end Pu

namespace Pu
open PySem PySem.Spec PyProof.Rows L2
/-! ### a list that a def may change for its caller -/
section
variable {W : Wd} {ρ : En} {σ : L2.St} {H H' : Hp}
/-- the list that the name i holds has changed, and nothing else that stood -/
theorem Rel.chgB (R : Rel W ρ σ H) {i : Nat} {p : Addr} {ds ds' : List D} {vs' : List V} (e : ρ[i]? = some (some (.box ds))) (ev : σ[i]? = some (some (.ref p))) (keep : ∀ b o, H b = some o → b ≠ p → H' b = some o) (st : Stb H H') (hp : H' p = some (.lst vs')) (hk : DfA W.K H' vs' ds') :
    Rel W (ρ.set i (some (.box ds'))) σ H' := by
  obtain ⟨v0, h1, a0, vs0, rfl, g1, g2, g3⟩ := R.sl i _ e
  rw [ev] at h1
  cases h1
  have hi : i < ρ.length := (List.getElem?_eq_some_iff.mp e).1
  refine ⟨by rw [List.length_set]; exact R.len, fun j s z => ?_, R.stb.trans st, fun b o z n => ?_, fun j k s s' b n e1 e2 o1 o2 => ?_, fun k p' q s2 hm z => ?_, fun p' q => ?_⟩
  · replace z := getElem?_set_some z; rcases z with ⟨rfl, z⟩ | ⟨n, z⟩
    · cases z
      exact ⟨.ref p, ev, p, vs', rfl, hp, hk, g3⟩
    · obtain ⟨u, h1, h2⟩ := R.sl j s z
      refine ⟨u, h1, ?_⟩
      cases s with
      | imm d => exact Df.mono st h2
      | fd d => exact Sl.fdm st h2
      | lst es =>
        obtain ⟨b, ws, rfl, q1, q2, q3⟩ := h2
        have nb : b ≠ p := fun q => R.dis i j _ _ p (Ne.symm n) e z rfl rfl ev (by rw [h1, q])
        exact ⟨b, ws, rfl, keep _ _ q1 nb, q2.mono st, q3⟩
      | set es =>
        obtain ⟨b, m, rfl, q1, q2, q3⟩ := h2
        exact ⟨b, m, rfl, keep _ _ q1 (ne_of q1 g1 (by intro z; cases z)), q2, q3⟩
      | box es =>
        obtain ⟨b, ws, rfl, q1, q2, q3⟩ := h2
        have nb : b ≠ p := fun q => R.dis i j _ _ p (Ne.symm n) e z rfl rfl ev (by rw [h1, q])
        exact ⟨b, ws, rfl, keep _ _ q1 nb, q2.mono st, q3⟩
      | dct es =>
        obtain ⟨b, ws, rfl, q1, q2, q3⟩ := h2
        have nb : b ≠ p := fun q => R.dis i j _ _ p (Ne.symm n) e z rfl rfl ev (by rw [h1, q])
        exact ⟨b, ws, rfl, keep _ _ q1 nb, q2.mono st, q3⟩
  · refine keep _ _ (R.kp b o z n) fun q => ?_
    subst q
    rcases g3 with g3 | g3
    · rw [g3] at z; cases z
    · exact n g3
  · have f : ∀ (m : Nat) (t : S1), (ρ.set i (some (.box ds')))[m]? = some (some t) → t.own = true → ∃ t', ρ[m]? = some (some t') ∧ t'.own = true := fun m t q o => by
      replace q := getElem?_set_some q; rcases q with ⟨rfl, q⟩ | ⟨_, q⟩
      · exact ⟨_, e, rfl⟩
      · exact ⟨t, q, o⟩
    obtain ⟨t1, q1, p1⟩ := f j s e1 o1
    obtain ⟨t2, q2, p2⟩ := f k s' e2 o2
    exact R.dis j k t1 t2 b n q1 q2 p1 p2
  · replace z := getElem?_set_some z; rcases z with ⟨rfl, z⟩ | ⟨n, z⟩
    · exact R.par _ p' q _ rfl e
    · exact R.par k p' q s2 hm z
  · refine ⟨(R.pdk p' q).1, fun z => ?_⟩
    by_cases hpp : p' = p
    · rw [hpp, hp] at z; cases z
    · cases h : H p' with
      | none => exact (R.pdk p' q).2 h
      | some o => rw [keep _ _ h hpp] at z; cases z
theorem upd_stbB {a : Addr} {vs : List V} {o : HO} (ha : H a = some (.lst vs)) : Stb H (upd H a o) := ⟨fun b xs h => by rw [upd_ne (ne_of h ha (by intro z; cases z))]; exact h, fun b o u h => by rw [upd_ne (ne_of h ha (by intro z; cases z))]; exact h⟩
/-- a name gets a list of its own that it will hand on -/
theorem Rel.setB (R : Rel W ρ σ H) {i : Nat} {a : Addr} {vs : List V} {ds : List D} (hi : i < ρ.length) (h0 : W.P.length ≤ i) (ha : H a = some (.lst vs)) (hv : DfA W.K H vs ds) (fr : Free W ρ σ a) :
    Rel W (ρ.set i (some (.box ds))) (σ.set i (some (.ref a))) H where
  len := by rw [List.length_set, List.length_set]; exact R.len
  sl := fun j s e => by
    replace e := getElem?_set_some e; rcases e with ⟨rfl, e⟩ | ⟨n, e⟩
    · cases e
      exact ⟨.ref a, set_self (by rw [← R.len]; exact hi), a, vs, rfl, ha, hv, .inl fr.1⟩
    · obtain ⟨u, h1, h2⟩ := R.sl j s e
      exact ⟨u, by rw [set_other n]; exact h1, h2⟩
  stb := R.stb
  kp := R.kp
  dis := fun j k s s' b n e1 e2 o1 o2 z => by
    replace e1 := getElem?_set_some e1; rcases e1 with ⟨rfl, e1⟩ | ⟨n1, e1⟩
    · cases e1
      rw [set_self (by rw [← R.len]; exact hi)] at z
      cases z
      replace e2 := getElem?_set_some e2; rcases e2 with ⟨rfl, e2⟩ | ⟨n2, e2⟩
      · exact absurd rfl n
      · rw [set_other n2]
        exact fr.2 k s' e2 o2
    · rw [set_other n1] at z
      replace e2 := getElem?_set_some e2; rcases e2 with ⟨rfl, e2⟩ | ⟨n2, e2⟩
      · cases e2
        rw [set_self (by rw [← R.len]; exact hi)]
        intro q
        cases q
        exact fr.2 j s e1 o1 z
      · rw [set_other n2]
        exact R.dis j k s s' b n e1 e2 o1 o2 z
  par := fun k p e s hm z => by
    have hk : k ≠ i := fun q => by
      have := (List.getElem?_eq_some_iff.mp e).1
      omega
    rw [set_other hk] at z ⊢
    exact R.par k p e s hm z
  pdk := R.pdk
end
/-! ### what a def with such a list promises -/
inductive ReB where
  | ok (r : RV) (bs : List D) | no
def spB (T : List Addr) (K : Fg) (n : Nat) (m : List D → List D → ReB) : Sp := fun vs H Q _ => vs.length = n ∧ TbH T H ∧ ∃ p bv bs rest ds, vs = .ref p :: rest ∧ H p = some (.lst bv) ∧ DfA K H bv bs ∧ DfA K H rest ds ∧ match m bs ds with
  | .ok r bs' => ∀ v H' bv', (∀ b o, H b = some o → b ≠ p → H' b = some o) → Stb H H' → H' p = some (.lst bv') → DfA K H' bv' bs' → Rv' K H H' r v → Q v H'
  | .no => False
def endB (r : RV) (ρ : En) : ReB := match ρ[(0 : Nat)]? with
  | some (some (S1.box bs)) => .ok r bs
  | _ => .no
def mfnB (n : Nat) (mb : MS) (bs : List D) (ds : List D) : ReB := match mb (some (.box bs) :: enI (n - 1) ds) with
  | .rt r ρ => endB r ρ
  | .nx ρ => endB (.imm .none) ρ
  | _ => .no
theorem rel_startB {K : Fg} {H : Hp} {N : List Str} {p : Addr} {bv : List V} {bs : List D} {vs : List V} {ds : List D} (hN : 0 < N.length) (hp : H p = some (.lst bv)) (hk : DfA K H bv bs) (h : DfA K H vs ds) :
    Rel ⟨K, H, [p]⟩ (some (.box bs) :: enI (N.length - 1) ds) (L2.start N (.ref p :: vs)) H := by
  have key : ∀ (i : Nat) (s : S1), ((some (S1.box bs) :: enI (N.length - 1) ds) : En)[i]? = some (some s) → (i = 0 ∧ s = .box bs) ∨ ∃ j d, i = j + 1 ∧ s = .imm d ∧ ds[j]? = some d := fun i s e => by
    cases i with
    | zero => cases e; exact .inl ⟨rfl, rfl⟩
    | succ j =>
      have e : (enI (N.length - 1) ds)[j]? = some (some s) := e
      obtain ⟨d, rfl, e'⟩ := enI_get e
      exact .inr ⟨j, d, rfl, rfl, e'⟩
  refine ⟨?_, fun i s e => ?_, .refl H, fun b o e _ => e, fun i j s s' a n e1 e2 o1 o2 => ?_, fun k p' e s hm z => ?_, fun p' e => ?_⟩
  · unfold enI L2.start
    rw [List.length_cons, List.length_append, List.length_append, List.length_map, List.length_map, List.length_replicate, List.length_replicate, List.length_cons, h.length]
    omega
  · rcases key i s e with ⟨rfl, rfl⟩ | ⟨j, d, rfl, rfl, e'⟩
    · exact ⟨.ref p, start_get rfl, p, bv, rfl, hp, hk, .inr (List.mem_singleton.mpr rfl)⟩
    · obtain ⟨v, h1, h2⟩ := h.get e'
      exact ⟨v, start_get (by rw [List.getElem?_cons_succ]; exact h1), h2⟩
  · rcases key i s e1 with ⟨rfl, rfl⟩ | ⟨_, d, rfl, rfl, _⟩
    · rcases key j s' e2 with ⟨rfl, rfl⟩ | ⟨_, d, rfl, rfl, _⟩
      · exact absurd rfl n
      · cases o2
    · cases o1
  · cases k with
    | zero => obtain rfl := Option.some.inj e; exact start_get rfl
    | succ k => simp at e
  · obtain rfl := List.mem_singleton.mp e
    have hne : H p' ≠ none := by rw [hp]; intro z; cases z
    exact ⟨hne, hne⟩
section
variable {Pr : Program} {w : World} {K : PySem.W.Frag} {mg : Str → Option Value} {base : Heap}
theorem fn_box {T : List Addr} {x qual : Str} {st : Stmt} {f : Addr} {fd : FuncData} {N ps : List Str} {k : Nat} {mb : MS} (F : Fun K x qual st f fd) (S : FnScope N ps (defScope st)) (hN : 0 < N.length)
    (hb : ∀ (cdv : Value) (A : Around) (outer : List Env) (s : Shared) (H : Hp) (E : XK) (p : Addr), Room k (A.deeper (envOfC qual (defScope st) s.heap.objs.size f cdv)) → TbW T H [p] → fd.code = cdv → PSs (cxOf CX0 Pr w K mg base N qual (defScope st) f cdv A outer s H E).nox (defBody st) (tS ⟨K, H, [p]⟩ mb)) :
    FnOk Pr w K mg base CX0 (k + 1) f fd ps (spB T K ps.length (mfnB N.length mb)) := by
  refine Fun.ok' F S (fun vs H Q E h => h.1) (fun cdv A outer s H vs Q E hcd hr h => ?_)
  obtain ⟨hl, hT, p, bv, bs, rest, ds, rfl, hp, hk, hd, hm⟩ := h
  refine ⟨_, hb cdv A outer s H E p hr (fun b hb => ⟨hT b hb, fun z => by obtain rfl := List.mem_singleton.mp z; have e := hT _ hb; rw [hp] at e; cases e⟩) hcd, _, rel_startB hN hp hk hd, ?_⟩
  unfold mfnB at hm
  have fin : ∀ {r : RV} {ρ : En} {σ : L2.St} {H' : Hp} {v : V}, Rel ⟨K, H, [p]⟩ ρ σ H' → Rv' K H H' r v → (match endB r ρ with
      | .ok r bs' => ∀ v H' bv', (∀ b o, H b = some o → b ≠ p → H' b = some o) → Stb H H' → H' p = some (.lst bv') → DfA K H' bv' bs' → Rv' K H H' r v → Q v H'
      | .no => False) → Q v H' := fun {r ρ σ H' v} R hv h => by
    unfold endB at h
    cases e : ρ[0]? with
    | none => rw [e] at h; exact h.elim
    | some o =>
      cases o with
      | none => rw [e] at h; exact h.elim
      | some s =>
        cases s with
        | imm d => rw [e] at h; exact h.elim
        | fd d => rw [e] at h; exact h.elim
        | lst d => rw [e] at h; exact h.elim
        | set d => rw [e] at h; exact h.elim
        | dct d => rw [e] at h; exact h.elim
        | box bs' =>
          rw [e] at h
          obtain ⟨v0, h1, a, bv', rfl, g1, g2, _⟩ := R.sl 0 _ e
          have e2 := R.par 0 p rfl _ rfl e
          rw [h1] at e2
          cases e2
          exact h v H' bv' (fun b o hb n => R.kp b o hb fun z => n (List.mem_singleton.mp z)) R.stb g1 g2 hv
  cases q : mb (some (.box bs) :: enI (N.length - 1) ds) with
  | nx ρ => rw [q] at hm; exact fun σ H' st' R => fin R (r := .imm .none) (show Df K H' .non .none from .non) hm
  | rt r ρ =>
    rw [q] at hm
    refine fun v σ H' st' R hv => fin R (r := r) ?_ hm
    cases r with
    | imm d => exact hv
    | own es => obtain ⟨a, us, e1, e2, e3, e4⟩ := hv; exact ⟨a, us, e1, e4, e2, e3⟩
  | bk ρ => rw [q] at hm; exact hm.elim
  | ct ρ => rw [q] at hm; exact hm.elim
  | ex c ρ => rw [q] at hm; exact hm.elim
  | no => rw [q] at hm; exact hm.elim
end
section
variable {X : Cx} {H0 : Hp} {P : List Addr} {pos : Pos} {e b : Expr} {m mb : MM D} {ml : MM (List D)} {x y : Str} {p1 p : Pos} {k n : Nat} {f : Addr} {fd : FuncData} {ps : List Str} {mf : List D → List D → ReB} {es : List Expr} {mr : MM (List D)}
/-- f(box, e, ..): the name's list may change; a list of its own is given back, or data -/
def mCB (i : Nat) (mf : List D → List D → ReB) (mr : MM (List D)) : MM D := fun ρ => match ρ[i]? with
  | some (some (.box _)) => bd mr (fun ds ρ' => match ρ'[i]? with
      | some (some (.box bs)) => (match mf bs ds with
          | .ok (.imm d) bs' => .ok d (ρ'.set i (some (.box bs')))
          | _ => .no)
      | _ => .no) ρ
  | _ => .no
def mCBL (i : Nat) (mf : List D → List D → ReB) (mr : MM (List D)) : MM (List D) := fun ρ => match ρ[i]? with
  | some (some (.box _)) => bd mr (fun ds ρ' => match ρ'[i]? with
      | some (some (.box bs)) => (match mf bs ds with
          | .ok (.own d) bs' => .ok d (ρ'.set i (some (.box bs')))
          | _ => .no)
      | _ => .no) ρ
  | _ => .no
theorem go_box {ρ ρ1 : En} {σ : L2.St} {H H1 H' : Hp} {i : Nat} {a : Addr} {bs bs' : List D} (go1 : Go ρ ρ1 σ H H1) (e1 : ρ1[i]? = some (some (.box bs))) (h1 : σ[i]? = some (some (.ref a))) (keep : ∀ b o, H1 b = some o → b ≠ a → H' b = some o) (st : Stb H1 H') : Go ρ (ρ1.set i (some (.box bs'))) σ H H' := by
  refine go1.trans ⟨st, fun b o hb nn => keep b o hb (notOwn_ne e1 rfl h1 nn), fun j s e' o => ?_⟩
  rcases getElem?_set_some e' with ⟨rfl, e'⟩ | ⟨nn, e'⟩
  · exact ⟨_, e1, rfl⟩
  · exact ⟨s, e', o⟩
theorem re_callBx {T : List Addr} (i : Nat) (F : FnOk X.prog X.w X.K X.mg X.base CX0 k f fd ps (spB T X.K n mf)) (hr : Room k X.A) (hT : TbW T H0 P) (hg : Gl X x) (hm : X.mg x = some (.ref f)) (hk : PySem.W.keepIn X.K (.ref f) = true) (hb : Binds X.K fd ps []) (hn : es.length + 1 = n)
    (ha : PA X es (tA (wd X H0 P) mr)) (hlen : ∀ ρ ds ρ', mr ρ = .ok ds ρ' → ds.length = es.length) (hN : X.N[i]? = some y := by rfl) (hv : Vis X.env.scope y := by first | exact Or.inl rfl | exact Or.inr (Or.inl rfl) | exact Or.inr (Or.inr rfl)) (hd : (y == ("__debug__" : Str)) = false := by decide) (hcd : (y == ("__classdict__" : Str)) = false := by decide)
    (hdb : (x == ("__debug__" : Str)) = false := by decide) (he : starEach (.Name y p1 :: es) X.env = (false, eval (.Name y p1) X.env) :: starEach es X.env := by rfl) (hpl : (backTo pos (starEach es X.env)).any (·.1) = false := by rfl) :
    PE X (.Call (.Name x p) (.Name y p1 :: es) [] pos) (tR (wd X H0 P) (mCB i mf mr)) :=
  weak (pe_call (dvs := []) (E := E0) F hr hg hm hk hb .nil pass0 (pa_cons (pe_var hN hv hd hcd) ha he) hdb he hpl) fun σ H Q ⟨ρ, R, g⟩ => by
    unfold mCB at g
    split at g
    · rename_i kvs0 e0
      obtain ⟨v, h1, a, vs0, rfl, _⟩ := R.sl i _ e0
      refine ⟨.ref a, h1, ρ, R, ?_⟩
      have g' := got_bd g
      cases q : mr ρ with
      | ok ds ρ1 =>
        rw [q] at g'
        refine fun vs H1 go1 R1 d1 => ?_
        show spB T X.K n mf ((.ref a :: vs) ++ []) H1 Q E0
        rw [List.append_nil]
        have g' : Got (match ρ1[i]? with
          | some (some (.box bs)) => (match mf bs ds with
              | .ok (.imm d) bs' => Ou.ok d (ρ1.set i (some (.box bs')))
              | _ => .no)
          | _ => .no) fun d ρ' => ∀ v H', Go ρ ρ' σ H H' → Rel (wd X H0 P) ρ' σ H' → Df X.K H' v d → Q v H' := g'
        split at g'
        · rename_i bs e1
          obtain ⟨v1, h1', a1, bv, rfl, g1, g2, g3⟩ := R1.sl i _ e1
          rw [h1] at h1'
          cases h1'
          refine ⟨by rw [List.length_cons, d1.length, hlen _ _ _ q, hn], hT.now R1, a, bv, bs, vs, ds, rfl, g1, g2, d1, ?_⟩
          split at g'
          · rename_i d bs' hmf
            rw [hmf]
            intro v H' bv' keep st hp hk' dv
            exact g' v H' (go_box go1 e1 h1 keep st) (R1.chgB e1 h1 keep st hp hk') dv
          · exact g'.elim
        · exact g'.elim
      | ex c ρ1 => rw [q] at g'; exact g'.elim
      | no => rw [q] at g'; exact g'.elim
    · exact g.elim
theorem rl_callBx {T : List Addr} (i : Nat) (F : FnOk X.prog X.w X.K X.mg X.base CX0 k f fd ps (spB T X.K n mf)) (hr : Room k X.A) (hT : TbW T H0 P) (hg : Gl X x) (hm : X.mg x = some (.ref f)) (hk : PySem.W.keepIn X.K (.ref f) = true) (hb : Binds X.K fd ps []) (hn : es.length + 1 = n)
    (ha : PA X es (tA (wd X H0 P) mr)) (hlen : ∀ ρ ds ρ', mr ρ = .ok ds ρ' → ds.length = es.length) (hN : X.N[i]? = some y := by rfl) (hv : Vis X.env.scope y := by first | exact Or.inl rfl | exact Or.inr (Or.inl rfl) | exact Or.inr (Or.inr rfl)) (hd : (y == ("__debug__" : Str)) = false := by decide) (hcd : (y == ("__classdict__" : Str)) = false := by decide)
    (hdb : (x == ("__debug__" : Str)) = false := by decide) (he : starEach (.Name y p1 :: es) X.env = (false, eval (.Name y p1) X.env) :: starEach es X.env := by rfl) (hpl : (backTo pos (starEach es X.env)).any (·.1) = false := by rfl) :
    PE X (.Call (.Name x p) (.Name y p1 :: es) [] pos) (tL (wd X H0 P) (mCBL i mf mr)) :=
  weak (pe_call (dvs := []) (E := E0) F hr hg hm hk hb .nil pass0 (pa_cons (pe_var hN hv hd hcd) ha he) hdb he hpl) fun σ H Q ⟨ρ, R, g⟩ => by
    unfold mCBL at g
    split at g
    · rename_i kvs0 e0
      obtain ⟨v, h1, a, vs0, rfl, _⟩ := R.sl i _ e0
      refine ⟨.ref a, h1, ρ, R, ?_⟩
      have g' := got_bd g
      cases q : mr ρ with
      | ok ds ρ1 =>
        rw [q] at g'
        refine fun vs H1 go1 R1 d1 => ?_
        show spB T X.K n mf ((.ref a :: vs) ++ []) H1 Q E0
        rw [List.append_nil]
        have g' : Got (match ρ1[i]? with
          | some (some (.box bs)) => (match mf bs ds with
              | .ok (.own d) bs' => Ou.ok d (ρ1.set i (some (.box bs')))
              | _ => .no)
          | _ => .no) fun ds ρ' => ∀ a vs H', Go ρ ρ' σ H H' → Rel (wd X H0 P) ρ' σ H' → H' a = some (.lst vs) → DfA X.K H' vs ds → Free (wd X H0 P) ρ' σ a → Nw ρ σ H a → Q (.ref a) H' := g'
        split at g'
        · rename_i bs e1
          obtain ⟨v1, h1', a1, bv, rfl, g1, g2, g3⟩ := R1.sl i _ e1
          rw [h1] at h1'
          cases h1'
          refine ⟨by rw [List.length_cons, d1.length, hlen _ _ _ q, hn], hT.now R1, a, bv, bs, vs, ds, rfl, g1, g2, d1, ?_⟩
          split at g'
          · rename_i d bs' hmf
            rw [hmf]
            intro v H' bv' keep st hp hk' dv
            obtain ⟨c, us, rfl, f1, f2, f3⟩ := dv
            have fr := R1.fresh f1
            exact g' c us H' (go_box go1 e1 h1 keep st) (R1.chgB e1 h1 keep st hp hk') f2 f3 ⟨fr.1, fun j s z o => by
              rcases getElem?_set_some z with ⟨rfl, z⟩ | ⟨nn, z⟩
              · exact fr.2 _ _ e1 rfl
              · exact fr.2 j s z o⟩ (.of_fresh go1 f1)
          · exact g'.elim
        · exact g'.elim
      | ex c ρ1 => rw [q] at g'; exact g'.elim
      | no => rw [q] at g'; exact g'.elim
    · exact g.elim
/-! ### its items -/
def mIxB (i : Nat) (mb : MM D) : MM D := fun ρ => match ρ[i]? with
  | some (some (.box _)) => bd mb (fun y ρ' => match ρ'[i]? with
      | some (some (.box ds)) => lift (fIx (.list ds) y) ρ'
      | _ => .no) ρ
  | _ => .no
theorem re_ixB (i : Nat) {x : Str} {p1 : Pos} (hb : PE X b (tR (wd X H0 P) mb)) (hs : PlainIx b := by intro _ _; rfl) (hN : X.N[i]? = some x := by rfl) (hv : Vis X.env.scope x := by first | exact Or.inl rfl | exact Or.inr (Or.inl rfl) | exact Or.inr (Or.inr rfl)) (hd : (x == ("__debug__" : Str)) = false := by decide)
    (hcd : (x == ("__classdict__" : Str)) = false := by decide) : PE X (.Subscript (.Name x p1) b pos) (tR (wd X H0 P) (mIxB i mb)) :=
  weak (pe_ix ix_list (pe_var hN hv hd hcd) hb hs) fun σ H Q ⟨ρ, R, g⟩ => by
    unfold mIxB at g
    split at g
    · rename_i ds0 e0
      obtain ⟨v, h1, a, vs0, rfl, _⟩ := R.sl i _ e0
      refine ⟨.ref a, h1, tR_bd R g fun u H2 y ρ2 go2 R2 d2 g2 => ?_⟩
      dsimp only at g2
      split at g2
      · rename_i ds e
        obtain ⟨z, hz, k⟩ := got_lift g2
        obtain ⟨v', h1', a', vs, rfl, h2, h3, h4⟩ := R2.sl i _ e
        rw [h1] at h1'
        cases h1'
        unfold fIx at hz
        split at hz
        · rename_i heq
          cases heq
          cases d2
          obtain ⟨w, e1, e2⟩ := h3.at hz
          exact ⟨a, vs, _, w, rfl, rfl, .of h2, e1, k w H2 go2 R2 e2⟩
        all_goals (first | cases hz | (rename_i heq; cases heq) | (rename_i heq _; cases heq))
      · exact g2.elim
    · exact g.elim
/-- name = a list of its own, to be handed on -/
def sSetB (i : Nat) (m : MM (List D)) : MS := bs m fun d ρ => if i < ρ.length then .nx (ρ.set i (some (.box d))) else .no
theorem rs_setB {i : Nat} {x : Str} {pos' : Pos} (hN : X.N.Nodup) (h0 : P.length ≤ i) (he : PE X e (tL (wd X H0 P) ml)) (hi : X.N[i]? = some x := by rfl) (hx : Loc X.env.scope x := by first | exact Or.inl rfl | exact Or.inr rfl) (hs : swapsWith e (some (.Name x pos')) pos.line X.env = pure false := by rfl) (hf : X.fn x = true ∨ X.env.scope.names.lookup x = some .local := by first | exact .inl rfl | exact .inr rfl) :
    PS X (.Assign [.Name x pos'] e pos) (tS (wd X H0 P) (sSetB i ml)) :=
  weakS (ps_set hN hi hx he hs hf) fun E σ H ⟨ρ, R, g⟩ => ⟨ρ, R, got_imp (got_bs g) fun d ρ' k a vs H' go R' h1 h2 h3 h4 => by
    split at k
    · rename_i hi
      exact k _ _ go.stb (R'.setB hi h0 h1 h2 h3)
    · exact k.elim⟩
/-- name[j] = e -/
def sBx (i : Nat) (j : Int) (m : MM D) : MS := bs m fun d ρ => match ρ[i]? with
  | some (some (.box ds)) => (match ixN ds.length j with
      | some n => .nx (ρ.set i (some (.box (ds.set n d))))
      | none => .no)
  | _ => .no
theorem DfA.set {K : Fg} {H : Hp} {v : V} {d : D} (hv : Df K H v d) : ∀ {vs : List V} {ds : List D} (n : Nat), DfA K H vs ds → DfA K H (vs.set n v) (ds.set n d)
  | _, _, _, .nil => .nil
  | _, _, 0, .cons h r => .cons hv r
  | _, _, n + 1, .cons h r => .cons h (DfA.set hv n r)
theorem rs_bset (i : Nat) {j : Int} {jj} {p2 pos' : Pos} (he : PE X e (tR (wd X H0 P) m)) (hN : X.N[i]? = some x := by rfl) (hv : Vis X.env.scope x := by first | exact Or.inl rfl | exact Or.inr (Or.inl rfl) | exact Or.inr (Or.inr rfl)) (hd : (x == ("__debug__" : Str)) = false := by decide) (hcd : (x == ("__classdict__" : Str)) = false := by decide)
    (ha : ∀ v, assign (.Subscript (.Name x p1) (.Constant (.int j) jj p2) pos') X.env v = (do
      let ov ← holding [v] (eval (.Name x p1) X.env)
      let iv ← holding [v, ov] (eval (.Constant (.int j) jj p2) X.env)
      standAt pos'
      holding [v, ov, iv] (setItem ov iv v)
      release [v, ov, iv] []) := by intro _; rfl)
    (hs : swapsWithSole [.Subscript (.Name x p1) (.Constant (.int j) jj p2) pos'] e pos.line X.env = pure false := by rfl) (hw : swappedStores [.Subscript (.Name x p1) (.Constant (.int j) jj p2) pos'] e X.env = pure none := by rfl)
    (h1 : (assignEach [.Subscript (.Name x p1) (.Constant (.int j) jj p2) pos'] X.env).map (·.2) = [assign (.Subscript (.Name x p1) (.Constant (.int j) jj p2) pos') X.env] := by rfl) :
    PS X (.Assign [.Subscript (.Name x p1) (.Constant (.int j) jj p2) pos'] e pos) (tS (wd X H0 P) (sBx i j m)) :=
  weakS (ps_asg he (pg_sub (pe_var hN hv hd hcd) pe_int set_list ha) hs hw h1) fun E σ H ⟨ρ, R, g⟩ => ⟨ρ, R, got_imp (got_bs g) fun d ρ' k1 v H' go R' dv => by
    split at k1
    · rename_i ds e0
      split at k1
      · rename_i n hn
        obtain ⟨v0, h1, a, vs0, rfl, h2, h3, h4⟩ := R'.sl i _ e0
        refine ⟨.ref a, h1, ?_⟩
        refine ⟨a, vs0, j, n, rfl, rfl, h2, by rw [h3.length]; exact hn, ?_⟩
        exact k1 _ _ (go.stb.trans (upd_stbB h2)) (R'.chgB e0 h1 (fun b o hb n => by rw [upd_ne n]; exact hb) (upd_stbB h2) upd_same ((DfA.set dv n h3).mono (upd_stbB h2)))
      · exact k1.elim
    · exact k1.elim⟩
end
end Pu

namespace Pu
open PySem PySem.Spec PyProof.Rows L2
/-! ### list(range(e)) -/
section
variable {X : Cx}
variable {H0 : Hp} {P : List Addr} {e : Expr} {m : MM D}
end
end Pu

namespace Pu
open PySem PySem.Spec PyProof.Rows L2
/-! ### xs[::-1] of a list -/
theorem pick_rev_list {α : Type} (its : List α) : ((List.range its.length).filterMap fun k => its[its.length - 1 - k]?) = its.reverse := by
  have h : (List.range its.length).filterMap (fun k => its[its.length - 1 - k]?) = (List.range its.length).filterMap (fun k => its.reverse[k]?) := by
    have cg : ∀ (l : List Nat), (∀ k ∈ l, k < its.length) → l.filterMap (fun k => its[its.length - 1 - k]?) = l.filterMap (fun k => its.reverse[k]?) := by
      intro l
      induction l with
      | nil => intro _; rfl
      | cons a r ih =>
        intro hl
        rw [List.filterMap_cons, List.filterMap_cons, ih fun k hk => hl k (List.mem_cons_of_mem _ hk), List.getElem?_reverse (hl a List.mem_cons_self)]
    exact cg _ fun k hk => List.mem_range.mp hk
  rw [h]
  have g : ∀ l : List α, (List.range l.length).filterMap (fun k => l[k]?) = l := fun l => by
    induction l with
    | nil => rfl
    | cons a r ih =>
      rw [List.length_cons, List.range_succ_eq_map, List.filterMap_cons]
      simp only [List.getElem?_cons_zero, List.filterMap_map]
      congr 1
  have := g its.reverse
  rw [List.length_reverse] at this
  exact this
theorem slicePick_rev (its : List Value) : slicePick its.toArray none none (some (-1)) = its.reverse.toArray := by
  unfold slicePick
  congr 1
  have e1 : sliceBounds none none (some (-1)) its.toArray.size = ((its.length : Int) - 1, -1, -1) := by
    simp [sliceBounds]
  rw [e1]
  have e2 : sliceRange ((its.length : Int) - 1) (-1) (-1) = (List.range its.length).map fun k => its.length - 1 - k := by
    unfold sliceRange
    have c : (if (-1 : Int) > 0 then (if (its.length : Int) - 1 < -1 then (-1 - ((its.length : Int) - 1) + -1 - 1) / -1 else 0) else (if (its.length : Int) - 1 > -1 then (((its.length : Int) - 1) - -1 - -1 - 1) / (- -1) else 0)).toNat = its.length := by
      rw [if_neg (by decide)]
      split
      · rw [show (- (-1 : Int)) = 1 by decide, Int.ediv_one]; omega
      · omega
    dsimp only
    rw [c]
    refine List.map_congr_left fun k hk => ?_
    have := List.mem_range.mp hk
    omega
  simp only [e2, List.filterMap_map]
  rw [← pick_rev_list its]
  congr 1
  funext k
  simp
def tRevL (K : PySem.W.Frag) (te ts : TE) : TE := fun σ H Q => te σ H fun x H1 => ts σ H1 fun y H2 => y = .int (-1) ∧ ∃ a xs, x = .ref a ∧ SqL K H2 a xs ∧ ∀ p, H2 p = none → Q (.ref p) (upd H2 p (.lst xs.reverse))
theorem vals_rev : ∀ {xs : List V} {us : List Value}, Vals xs us → Vals xs.reverse us.reverse
  | _, _, .nil => .nil
  | _, _, .cons h r => by
    rw [List.reverse_cons, List.reverse_cons]
    exact (vals_rev r).append (.cons h .nil)
section
variable {X : Cx} {e es : Expr} {te ts : TE} {pos p2 : Pos}
theorem pe_revL (he : PE X e te) (hs : PE X es ts) : PE X (.Subscript e (.Slice none none (some es) p2) pos) (tRevL X.K te ts) := by
  intro pins s σ H Q I h
  refine Subscript_ (thn (he pins s σ H _ I h) fun v s1 ⟨x, H1, I1, r1, q1⟩ => ?_)
  refine wpAny_Slice ?_
  rw [evalPart_none, evalPart_some]
  refine wpAny_pure (wpAny_pure (thn (hs pins s1 σ H1 _ I1 q1) fun vst s3 ⟨y, H3, I3, r3, ey, a, xs, ex, hx, q3⟩ => ?_))
  subst ey ex
  cases r1
  obtain ⟨tk, rfl⟩ := r3
  have I4 : L2.Inv X pins σ H3 { s3 with heap := s3.heap.push { cls := .type "slice", data := .fields #[.none, .none, .int (-1) tk] } } := I3.kept (t' := s3.toks) fun b ob q => Heap.get?_push_of_some _ q
  obtain ⟨its, r, ht, hz⟩ := I4.list hx
  have hlen := r.length
  show wpAny (model X.prog X.w) X.A (subscriptTail e (.Slice none none (some es) p2) (.ref a) (.ref s3.heap.objs.size)) (EP X pins σ Q) X.xe { s3 with heap := s3.heap.push { cls := .type "slice", data := .fields #[.none, .none, .int (-1) tk] } }
  refine tail_any (ops := [.ref a, .ref s3.heap.objs.size]) ht.isList.typeIs slot_list_getitem.lookup ?_ (by with_unfolding_all rfl)
  refine wpAny_getItem_list_slice ht.isList (Heap.IsSliceOf.new ..) .none .none (.int (-1) tk) (by simp) ?_ (by rw [List.size_toArray] <;> omega)
  rw [slicePick_rev]
  refine ⟨.ref _, _, I4.laid (t' := s3.toks) (o := .lst xs.reverse) (fun b ob q => Heap.get?_push_of_some _ q) (Nat.le_refl _) ?_, rfl, q3 _ (I4.hok.fresh (Nat.le_refl _))⟩
  exact ⟨by rw [List.length_reverse]; exact hz, _, 0, vals_rev r, Heap.get?_push_size _ rfl⟩
variable {H0 : Hp} {P : List Addr} {m ms : MM D}
def revD (d s : D) : Option (List D) := match d, s with
  | .list ds, .int i => if i = -1 then some ds.reverse else none
  | _, _ => none
def mRevL (m ms : MM D) : MM (List D) := bd m fun d => bd ms fun s => lift (revD d s)
theorem rl_rev (he : PE X e (tR (wd X H0 P) m)) (hs : PE X es (tR (wd X H0 P) ms)) : PE X (.Subscript e (.Slice none none (some es) p2) pos) (tL (wd X H0 P) (mRevL m ms)) :=
  weak (pe_revL he hs) fun σ H Q ⟨ρ, R, g⟩ => tR_bd R g fun v H1 d ρ1 go1 R1 d1 g1 => tR_bd R1 g1 fun u H2 s ρ2 go2 R2 d2 g2 => by
    obtain ⟨z, hz, k⟩ := got_lift g2
    unfold revD at hz
    split at hz
    · split at hz
      · rename_i hi
        obtain rfl := Option.some.inj hz
        subst hi
        have d3 := d1.mono go2.stb
        cases d2
        cases d3 with
        | lst h1 h2 =>
          exact ⟨rfl, _, _, rfl, h1.sq, fun p hp => k p _ _ ((go1.trans go2).trans (.same (same_upd hp _))) (R2.same (same_upd hp _)) upd_same (h2.reverse.mono (.same (same_upd hp _))) (R2.fresh hp) (.of_fresh (go1.trans go2) hp)⟩
      · cases hz
    · cases hz
end
end Pu

namespace L2
open PySem PySem.Spec PyProof.Rows
/-! ### a dict comprehension whose keys are tuples -/
section
variable {X : Cx} {pins : List (Addr × Obj)} {σ : St} {H : Hp} {s : Shared}
end
section
variable {X : Cx}
end
end L2
namespace Pu
open PySem PySem.Spec PyProof.Rows L2
theorem DfT.length {K : Fg} {H : Hp} : ∀ {vs : List (List Key × V)} {ds : List (List Key × D)}, DfT K H vs ds → vs.length = ds.length
  | _, _, .nil => rfl
  | _, _, .cons _ r => congrArg (· + 1) (DfT.length r)
section
variable {W : Wd} {ρ : En} {σ : L2.St} {H : Hp}
end
section
variable {X : Cx} {H0 : Hp} {P : List Addr} {pos : Pos} {tg iter kx vx : Expr} {ifs : List Expr} {scope : Scope} {own : List (Str × Nat)} {wi : TI} {g : TG} {is : List Nat} {f : D → En → Option En} {ms : MM (List D)} {mt : MM Bool} {mk mv : MM D}
end
end Pu

namespace Pu
open PySem PySem.Spec PyProof.Rows L2

/-! ### f'..' -/
abbrev TJ := Str → L2.St → Hp → (Str → Hp → Prop) → Prop
def PJ (X : Cx) (es : List Expr) (t : TJ) : Prop :=
  ∀ (pins : List (Addr × Obj)) (s : Shared) (σ : L2.St) (H : Hp) (acc : Str) (Q : Str → Hp → Prop) (k : Str → Shared → Prop), Inv X pins σ H s → t acc σ H Q →
    (∀ out s' H', Inv X pins σ H' s' → out.length ≤ sizeLine → Q out H' → k out s') → Joins (model X.prog X.w) X.A X.xe (evalEach es X.env) acc k s
def tJ (W : Wd) (m : Str → MM Str) : TJ := fun acc σ H Q => ∃ ρ, Rel W ρ σ H ∧ Got (m acc ρ) fun out ρ' => ∀ H', Go ρ ρ' σ H H' → Rel W ρ' σ H' → Q out H'
section
variable {X : Cx} {H0 : Hp} {P : List Addr} {e : Expr} {es : List Expr} {m : MM D} {r : Str → MM Str} {pos : Pos}
/-! ### try, where nothing is raised -/
/-! ### range(a, b) -/
def rng2 (lo : Int) (n : Nat) : List D := (List.range n).map fun (k : Nat) => PyData.int (lo + (k : Int))
def rg2D : List D → Option (List D)
  | [.int i, .int j] => if (decide (-(2 ^ 62) ≤ i) && decide (i < 2 ^ 62)) && (decide (-(2 ^ 62) ≤ j) && decide (j < 2 ^ 62)) then some (rng2 i (j - i).toNat) else none
  | _ => none
def msRg2 (m : MM (List D)) : MM (List D) := bd m fun as => lift (rg2D as)
theorem src_rg2 {K : Fg} {H : Hp} {lo : Int} {n : Nat} : Src K (Itr lo n) (rng2 lo n) H where
  go := fun H1 i st hi => by unfold rng2 at hi; rw [List.length_map, List.length_range] at hi; exact hi
  yld := fun H1 H2 i x st y hi => by
    obtain ⟨e, y⟩ := y
    subst e y
    unfold rng2 at hi ⊢
    rw [List.length_map, List.length_range] at hi
    exact ⟨Same.refl _, .int (lo + (i : Int)), by rw [List.getElem?_map, List.getElem?_range hi]; rfl, .int _⟩
  stop := fun H1 i st hi => by unfold rng2 at hi; rw [List.length_map, List.length_range] at hi; exact hi
theorem im_rng2 {ea eb tg : Expr} {mr : MM (List D)} {p1 p2 : Pos} (hgl : Gl X "range") (hm : X.mg "range" = none) (he : PA X [ea, eb] (tA (wd X H0 P) mr)) (hse : starEach [ea, eb] X.env = [(false, eval ea X.env), (false, eval eb X.env)] := by rfl) (hse2 : starEach [eb] X.env = [(false, eval eb X.env)] := by rfl) :
    PIm X H0 P tg (.Call (.Name "range" p1) [ea, eb] [] p2) (iRng2 (tA (wd X H0 P) mr)) (msRg2 mr) :=
  ⟨pi_range2 hgl hm he hse hse2, fun ρ σ H k R0 R g q => tA_bd R g fun vs H1 as ρ1 go1 R1 d1 g1 => by
    obtain ⟨ds, hds, k1⟩ := got_lift g1
    unfold rg2D at hds
    split at hds
    · split at hds
      · rename_i i j hj
        simp only [Bool.and_eq_true, decide_eq_true_eq] at hj
        obtain rfl := Option.some.inj hds
        cases d1 with
        | cons h t =>
          cases t with
          | cons h2 t =>
            cases t
            cases h
            cases h2
            exact ⟨i, j, rfl, ⟨hj.1.1, hj.1.2, hj.2.1, hj.2.2⟩, q _ _ _ _ go1 R1 src_rg2 k1⟩
      · cases hds
    · cases hds⟩
/-! ### enumerate(list) -/
/-! ### names in brackets in brackets -/
def PGmf (X : Cx) (H0 : Hp) (P : List Addr) (ts : List Expr) (g : TGs) (is : List Nat) (f : List D → En → Option En) (n : Nat) : Prop :=
  PGs X ts g ∧ (∀ ds ρ ρ', f ds ρ = some ρ' → ds.length = n) ∧ ∀ vs ds ρ ρ' σ H Q, Rel (wd X H0 P) ρ σ H → DfA X.K H vs ds → f ds ρ = some ρ' → (∀ σ', Rel (wd X H0 P) ρ' σ' H → (∀ ws : List Nat, (∀ i ∈ is, i ∈ ws) → wipe σ' ws = wipe σ ws) → Q σ' H) → g vs σ H Q
end
end Pu

namespace Pu
open PySem PySem.Spec PyProof.Rows L2
/-! ### a def that may change a list and a dict of its caller: f(box, some, ..) -/
inductive ReM where
  | ok (r : RV) (bs : List D) (kvs : List (Str × D)) | no
def spM (T : List Addr) (K : Fg) (n : Nat) (m : List D → List (Str × D) → List D → ReM) : Sp := fun vs H Q _ => vs.length = n ∧ TbH T H ∧ ∃ p q bv vk bs kvs rest ds, vs = .ref p :: .ref q :: rest ∧ H p = some (.lst bv) ∧ H q = some (.dK vk) ∧ DfA K H bv bs ∧ DfK K H vk kvs ∧ DfA K H rest ds ∧ match m bs kvs ds with
  | .ok r bs' kvs' => ∀ v H' bv' vk', (∀ b o, H b = some o → b ≠ p → b ≠ q → H' b = some o) → Stb H H' → H' p = some (.lst bv') → H' q = some (.dK vk') → DfA K H' bv' bs' → DfK K H' vk' kvs' → Rv' K H H' r v → Q v H'
  | .no => False
def endM (r : RV) (ρ : En) : ReM := match ρ[(0 : Nat)]?, ρ[(1 : Nat)]? with
  | some (some (S1.box bs)), some (some (S1.dct kvs)) => .ok r bs kvs
  | _, _ => .no
def mfnM (n : Nat) (mb : MS) (bs : List D) (kvs : List (Str × D)) (ds : List D) : ReM := match mb (some (.box bs) :: some (.dct kvs) :: enI (n - 2) ds) with
  | .rt r ρ => endM r ρ
  | .nx ρ => endM (.imm .none) ρ
  | _ => .no
theorem lst_ne_dK {H : Hp} {p q : Addr} {bv : List V} {vk : List (Key × V)} (hp : H p = some (.lst bv)) (hq : H q = some (.dK vk)) : p ≠ q := fun e => by
  rw [e, hq] at hp; cases hp
theorem rel_startM {K : Fg} {H : Hp} {N : List Str} {p q : Addr} {bv : List V} {vk : List (Key × V)} {bs : List D} {kvs : List (Str × D)} {vs : List V} {ds : List D} (hN : 1 < N.length) (hp : H p = some (.lst bv)) (hq : H q = some (.dK vk)) (hb : DfA K H bv bs) (hk : DfK K H vk kvs) (h : DfA K H vs ds) :
    Rel ⟨K, H, [p, q]⟩ (some (.box bs) :: some (.dct kvs) :: enI (N.length - 2) ds) (L2.start N (.ref p :: .ref q :: vs)) H := by
  have key : ∀ (i : Nat) (s : S1), ((some (S1.box bs) :: some (S1.dct kvs) :: enI (N.length - 2) ds) : En)[i]? = some (some s) → (i = 0 ∧ s = .box bs) ∨ (i = 1 ∧ s = .dct kvs) ∨ ∃ j d, i = j + 2 ∧ s = .imm d ∧ ds[j]? = some d := fun i s e => by
    match i, e with
    | 0, e => cases e; exact .inl ⟨rfl, rfl⟩
    | 1, e => cases e; exact .inr (.inl ⟨rfl, rfl⟩)
    | j + 2, e =>
      have e : (enI (N.length - 2) ds)[j]? = some (some s) := e
      obtain ⟨d, rfl, e'⟩ := enI_get e
      exact .inr (.inr ⟨j, d, rfl, rfl, e'⟩)
  have npq := lst_ne_dK hp hq
  refine ⟨?_, fun i s e => ?_, .refl H, fun b o e _ => e, fun i j s s' a n e1 e2 o1 o2 z1 z2 => ?_, fun k p' e s hm z => ?_, fun p' e => ?_⟩
  · unfold enI L2.start
    rw [List.length_cons, List.length_cons, List.length_append, List.length_append, List.length_map, List.length_map, List.length_replicate, List.length_replicate, List.length_cons, List.length_cons, h.length]
    omega
  · rcases key i s e with ⟨rfl, rfl⟩ | ⟨rfl, rfl⟩ | ⟨j, d, rfl, rfl, e'⟩
    · exact ⟨.ref p, start_get rfl, p, bv, rfl, hp, hb, .inr (by simp)⟩
    · exact ⟨.ref q, start_get rfl, q, vk, rfl, hq, hk, .inr (by simp)⟩
    · obtain ⟨v, h1, h2⟩ := h.get e'
      exact ⟨v, start_get (by rw [List.getElem?_cons_succ, List.getElem?_cons_succ]; exact h1), h2⟩
  · have f0 : (L2.start N (.ref p :: .ref q :: vs))[0]? = some (some (.ref p)) := start_get rfl
    have f1 : (L2.start N (.ref p :: .ref q :: vs))[1]? = some (some (.ref q)) := start_get rfl
    rcases key i s e1 with ⟨rfl, rfl⟩ | ⟨rfl, rfl⟩ | ⟨_, d, rfl, rfl, _⟩
    · rcases key j s' e2 with ⟨rfl, rfl⟩ | ⟨rfl, rfl⟩ | ⟨_, d, rfl, rfl, _⟩
      · exact n rfl
      · rw [f0] at z1; rw [f1] at z2; cases z1; cases z2; exact npq rfl
      · cases o2
    · rcases key j s' e2 with ⟨rfl, rfl⟩ | ⟨rfl, rfl⟩ | ⟨_, d, rfl, rfl, _⟩
      · rw [f1] at z1; rw [f0] at z2; cases z1; cases z2; exact npq rfl
      · exact n rfl
      · cases o2
    · cases o1
  · match k, e with
    | 0, e => obtain rfl := Option.some.inj e; exact start_get rfl
    | 1, e => obtain rfl := Option.some.inj e; exact start_get rfl
    | k + 2, e => simp at e
  · simp only [List.mem_cons, List.not_mem_nil, or_false] at e
    rcases e with rfl | rfl
    · have hne : H p' ≠ none := by rw [hp]; intro z; cases z
      exact ⟨hne, hne⟩
    · have hne : H p' ≠ none := by rw [hq]; intro z; cases z
      exact ⟨hne, hne⟩
section
variable {Pr : Program} {w : World} {K : PySem.W.Frag} {mg : Str → Option Value} {base : Heap}
theorem fn_two {T : List Addr} {x qual : Str} {st : Stmt} {f : Addr} {fd : FuncData} {N ps : List Str} {k : Nat} {mb : MS} (F : Fun K x qual st f fd) (S : FnScope N ps (defScope st)) (hN : 1 < N.length)
    (hb : ∀ (cdv : Value) (A : Around) (outer : List Env) (s : Shared) (H : Hp) (E : XK) (p q : Addr), Room k (A.deeper (envOfC qual (defScope st) s.heap.objs.size f cdv)) → TbW T H [p, q] → fd.code = cdv → PSs (cxOf CX0 Pr w K mg base N qual (defScope st) f cdv A outer s H E).nox (defBody st) (tS ⟨K, H, [p, q]⟩ mb)) :
    FnOk Pr w K mg base CX0 (k + 1) f fd ps (spM T K ps.length (mfnM N.length mb)) := by
  refine Fun.ok' F S (fun vs H Q E h => h.1) (fun cdv A outer s H vs Q E hcd hr h => ?_)
  obtain ⟨hl, hT, p, q, bv, vk, bs, kvs, rest, ds, rfl, hp, hq, hbs, hk, hd, hm⟩ := h
  refine ⟨_, hb cdv A outer s H E p q hr (fun b hb => ⟨hT b hb, fun z => by
    have e := hT _ hb
    simp only [List.mem_cons, List.not_mem_nil, or_false] at z
    rcases z with rfl | rfl
    · rw [hp] at e; cases e
    · rw [hq] at e; cases e⟩) hcd, _, rel_startM hN hp hq hbs hk hd, ?_⟩
  unfold mfnM at hm
  have fin : ∀ {r : RV} {ρ : En} {σ : L2.St} {H' : Hp} {v : V}, Rel ⟨K, H, [p, q]⟩ ρ σ H' → Rv' K H H' r v → (match endM r ρ with
      | .ok r bs' kvs' => ∀ v H' bv' vk', (∀ b o, H b = some o → b ≠ p → b ≠ q → H' b = some o) → Stb H H' → H' p = some (.lst bv') → H' q = some (.dK vk') → DfA K H' bv' bs' → DfK K H' vk' kvs' → Rv' K H H' r v → Q v H'
      | .no => False) → Q v H' := fun {r ρ σ H' v} R hv h => by
    unfold endM at h
    split at h
    · rename_i r1 b1 k1 heq
      split at heq
      · rename_i bs' kvs' e0 e1
        cases heq
        obtain ⟨v0, h1, a, bv', rfl, g1, g2, _⟩ := R.sl 0 _ e0
        have e2 := R.par 0 p rfl _ rfl e0
        rw [h1] at e2
        cases e2
        obtain ⟨v1, h3, c, vk', rfl, g3, g4, _⟩ := R.sl 1 _ e1
        have e3 := R.par 1 q rfl _ rfl e1
        rw [h3] at e3
        cases e3
        exact h v H' bv' vk' (fun b o hb n1 n2 => R.kp b o hb fun z => by
          simp only [List.mem_cons, List.not_mem_nil, or_false] at z
          exact z.elim n1 n2) R.stb g1 g3 g2 g4 hv
      · cases heq
    · exact h.elim
  cases hq2 : mb (some (.box bs) :: some (.dct kvs) :: enI (N.length - 2) ds) with
  | nx ρ => rw [hq2] at hm; exact fun σ H' st' R => fin R (r := .imm .none) (show Df K H' .non .none from .non) hm
  | rt r ρ =>
    rw [hq2] at hm
    refine fun v σ H' st' R hv => fin R (r := r) ?_ hm
    cases r with
    | imm d => exact hv
    | own es => obtain ⟨a, us, e1, e2, e3, e4⟩ := hv; exact ⟨a, us, e1, e4, e2, e3⟩
  | bk ρ => rw [hq2] at hm; exact hm.elim
  | ct ρ => rw [hq2] at hm; exact hm.elim
  | ex c ρ => rw [hq2] at hm; exact hm.elim
  | no => rw [hq2] at hm; exact hm.elim
end
section
variable {X : Cx} {H0 : Hp} {P : List Addr} {pos : Pos} {e b : Expr} {m mb : MM D} {x y y2 : Str} {p1 p2 p : Pos} {k n : Nat} {f : Addr} {fd : FuncData} {ps : List Str} {mf : List D → List (Str × D) → List D → ReM} {es : List Expr} {mr : MM (List D)}
/-- f(box, some, e, ..): the names' list and dict may change; data is given back -/
def mCM (i j : Nat) (mf : List D → List (Str × D) → List D → ReM) (mr : MM (List D)) : MM D := fun ρ => match ρ[i]?, ρ[j]? with
  | some (some (.box _)), some (some (.dct _)) => bd mr (fun ds ρ' => match ρ'[i]?, ρ'[j]? with
      | some (some (.box bs)), some (some (.dct kvs)) => (match mf bs kvs ds with
          | .ok (.imm d) bs' kvs' => .ok d ((ρ'.set i (some (.box bs'))).set j (some (.dct kvs')))
          | _ => .no)
      | _, _ => .no) ρ
  | _, _ => .no
theorem re_callM {T : List Addr} (i j : Nat) (F : FnOk X.prog X.w X.K X.mg X.base CX0 k f fd ps (spM T X.K n mf)) (hr : Room k X.A) (hT : TbW T H0 P) (hg : Gl X x) (hm : X.mg x = some (.ref f)) (hk : PySem.W.keepIn X.K (.ref f) = true) (hb : Binds X.K fd ps []) (hn : es.length + 2 = n)
    (ha : PA X es (tA (wd X H0 P) mr)) (hlen : ∀ ρ ds ρ', mr ρ = .ok ds ρ' → ds.length = es.length) (hN : X.N[i]? = some y := by rfl) (hv : Vis X.env.scope y := by first | exact Or.inl rfl | exact Or.inr (Or.inl rfl) | exact Or.inr (Or.inr rfl)) (hd : (y == ("__debug__" : Str)) = false := by decide) (hcd : (y == ("__classdict__" : Str)) = false := by decide)
    (hN2 : X.N[j]? = some y2 := by rfl) (hv2 : Vis X.env.scope y2 := by first | exact Or.inl rfl | exact Or.inr (Or.inl rfl) | exact Or.inr (Or.inr rfl)) (hd2 : (y2 == ("__debug__" : Str)) = false := by decide) (hcd2 : (y2 == ("__classdict__" : Str)) = false := by decide)
    (hdb : (x == ("__debug__" : Str)) = false := by decide) (he : starEach (.Name y p1 :: .Name y2 p2 :: es) X.env = (false, eval (.Name y p1) X.env) :: starEach (.Name y2 p2 :: es) X.env := by rfl) (he2 : starEach (.Name y2 p2 :: es) X.env = (false, eval (.Name y2 p2) X.env) :: starEach es X.env := by rfl) (hpl : (backTo pos (starEach (.Name y2 p2 :: es) X.env)).any (·.1) = false := by rfl) :
    PE X (.Call (.Name x p) (.Name y p1 :: .Name y2 p2 :: es) [] pos) (tR (wd X H0 P) (mCM i j mf mr)) :=
  weak (pe_call (dvs := []) (E := E0) F hr hg hm hk hb .nil pass0 (pa_cons (pe_var hN hv hd hcd) (pa_cons (pe_var hN2 hv2 hd2 hcd2) ha he2) he) hdb he hpl) fun σ H Q ⟨ρ, R, g⟩ => by
    unfold mCM at g
    split at g
    · rename_i b0 k0 e0 f0
      obtain ⟨v, h1, a, vs0, rfl, _⟩ := R.sl i _ e0
      obtain ⟨v2, h2, c, vk0, rfl, _⟩ := R.sl j _ f0
      refine ⟨.ref a, h1, .ref c, h2, ρ, R, ?_⟩
      have g' := got_bd g
      cases q : mr ρ with
      | ok ds ρ1 =>
        rw [q] at g'
        refine fun vs H1 go1 R1 d1 => ?_
        show spM T X.K n mf ((.ref a :: .ref c :: vs) ++ []) H1 Q E0
        rw [List.append_nil]
        have g' : Got (match ρ1[i]?, ρ1[j]? with
          | some (some (.box bs)), some (some (.dct kvs)) => (match mf bs kvs ds with
              | .ok (.imm d) bs' kvs' => Ou.ok d ((ρ1.set i (some (.box bs'))).set j (some (.dct kvs')))
              | _ => .no)
          | _, _ => .no) fun d ρ' => ∀ v H', Go ρ ρ' σ H H' → Rel (wd X H0 P) ρ' σ H' → Df X.K H' v d → Q v H' := g'
        split at g'
        · rename_i bs kvs e1 f1
          obtain ⟨v1, h1', a1, bv, rfl, g1, g2, g3⟩ := R1.sl i _ e1
          rw [h1] at h1'
          cases h1'
          obtain ⟨v3, h2', c1, vk, rfl, g4, g5, g6⟩ := R1.sl j _ f1
          rw [h2] at h2'
          cases h2'
          have nac := lst_ne_dK g1 g4
          have nij : j ≠ i := fun z => by subst z; rw [e1] at f1; cases f1
          refine ⟨by rw [List.length_cons, List.length_cons, d1.length, hlen _ _ _ q, ← hn], hT.now R1, a, c, bv, vk, bs, kvs, vs, ds, rfl, g1, g4, g2, g5, d1, ?_⟩
          split at g'
          · rename_i d bs' kvs' hmf
            rw [hmf]
            intro v H' bv' vk' keep st hp hq hbs hks dv
            -- first the list, then the dict
            have z1 : ∀ b, b ≠ c → (fun b => if b = c then H1 b else H' b) b = H' b := fun b nb => if_neg nb
            have z2 : (fun b => if b = c then H1 b else H' b) c = H1 c := if_pos rfl
            generalize (fun b => if b = c then H1 b else H' b) = Hm at z1 z2
            have stm : Stb H1 Hm := ⟨fun b xs hb => by
              have nb : b ≠ c := fun z => by rw [z, g4] at hb; cases hb
              rw [z1 b nb]; exact st.tups b xs hb, fun b o u hb => by
              have nb : b ≠ c := fun z => by rw [z, g4] at hb; cases hb
              rw [z1 b nb]; exact st.frzs b o u hb⟩
            have stb : Stb H' Hm := ⟨fun b xs hb => by
              have nb : b ≠ c := fun z => by rw [z, hq] at hb; cases hb
              rw [z1 b nb]; exact hb, fun b o u hb => by
              have nb : b ≠ c := fun z => by rw [z, hq] at hb; cases hb
              rw [z1 b nb]; exact hb⟩
            have stc : Stb Hm H' := ⟨fun b xs hb => by
              have nb : b ≠ c := fun z => by rw [z, z2, g4] at hb; cases hb
              rw [z1 b nb] at hb; exact hb, fun b o u hb => by
              have nb : b ≠ c := fun z => by rw [z, z2, g4] at hb; cases hb
              rw [z1 b nb] at hb; exact hb⟩
            have k1 : ∀ b o, H1 b = some o → b ≠ a → Hm b = some o := fun b o hb nb => by
              by_cases z : b = c
              · rw [z, z2, ← z]; exact hb
              · rw [z1 b z]; exact keep b o hb nb z
            have k2 : ∀ b o, Hm b = some o → b ≠ c → H' b = some o := fun b o hb nb => by rw [z1 b nb] at hb; exact hb
            have Rm := R1.chgB e1 h1 k1 stm (by rw [z1 a nac]; exact hp) (hbs.mono stb)
            have f1' : (ρ1.set i (some (S1.box bs')))[j]? = some (some (.dct kvs)) := by rw [List.getElem?_set_ne (Ne.symm nij)]; exact f1
            have Rf := Rm.chgD f1' h2 k2 stc hq hks
            refine g' v H' ?_ Rf dv
            refine (go_box go1 e1 h1 k1 stm).trans ⟨stc, fun b o hb nn => k2 b o hb (notOwn_ne f1' rfl h2 nn), fun jj s e' o => ?_⟩
            rcases getElem?_set_some e' with ⟨rfl, e'⟩ | ⟨nn, e'⟩
            · exact ⟨_, f1', rfl⟩
            · exact ⟨s, e', o⟩
          · exact g'.elim
        · exact g'.elim
      | ex c ρ1 => rw [q] at g'; exact g'.elim
      | no => rw [q] at g'; exact g'.elim
    · exact g.elim
/-! ### text.lower() -/
def fLow : D → Option D
  | .str x => if decide (x.length ≤ 5000000) then some (.str (Txt.lower x)) else none
  | _ => none
theorem re_low {apos : Pos} (ho : PE X e (tR (wd X H0 P) m)) (hbase : attributeBase e "lower" X.env (eval e X.env) = eval e X.env := by rfl) (hline : (apos.endLine == pos.line) = true := by rfl) :
    PE X (.Call (.Attribute e "lower" apos) [] [] pos) (tR (wd X H0 P) (mUn fLow m)) :=
  weak (pe_lower ho hbase hline) fun σ H Q ⟨ρ, R, g⟩ => tR_bd R g fun v H1 d ρ1 go1 R1 d1 g1 => by
    obtain ⟨z, hz, k1⟩ := got_lift g1
    cases d1 with
    | str x =>
      replace hz : (if decide (x.length ≤ 5000000) then some (PyData.str (Txt.lower x)) else none) = some z := hz
      split at hz
      · rename_i hl
        obtain rfl := Option.some.inj hz
        exact ⟨⟨x, rfl⟩, x, rfl, rfl, Nat.le_trans (of_decide_eq_true hl) (by decide), k1 _ H1 go1 R1 (.str _)⟩
      · cases hz
    | non => cases hz
    | int _ => cases hz
    | bl _ => cases hz
    | lst _ _ => cases hz
    | tup _ _ _ => cases hz
end
end Pu

namespace Pu
open PySem PySem.Spec PyProof.Rows L2
/-! ### xs[::-1] of a tuple -/
section
variable {prog : Program} {w : World} {A : Around} {E : Value → Shared → Prop} {s : Shared}
theorem places_rev (n : Nat) : Builtin.Slice.slicePlaces ((n : Int) - 1) (-1) (-1) = n := by
  unfold Builtin.Slice.slicePlaces
  rw [if_neg (by decide)]
  split
  · rw [show (-(-1 : Int)) = 1 by decide, Int.ediv_one]; omega
  · omega
theorem applied_rev {sl : Addr} {n : Nat} {u : Tok} {Q : Int × Int × Nat → Shared → Prop} (hs : s.heap.IsSliceOf sl .none .none (.int (-1) u)) (h : Q (((n : Int) - 1), -1, n) s) : wpAny (model prog w) A (Builtin.Slice.sliceApplied (.ref sl) (pure (n : Int))) Q E s := by
  obtain ⟨ob, h1, h2, h3⟩ := id hs
  unfold Builtin.Slice.sliceApplied Builtin.Slice.sliceFields
  refine wpAny_bind (wpAny_bind (wpAny_field h1 h3 (x := .none) rfl (wpAny_bind (wpAny_field h1 h3 (x := .none) rfl (wpAny_bind (wpAny_field h1 h3 (x := .int (-1) u) rfl (wpAny_pure ?_)))))))
  refine wpAny_bind (HT.slicePart_ (.int (-1) u) ?_)
  show wpAny _ _ (if ((-1 : Int) == 0) = true then _ else _) _ _ s
  rw [if_neg (by decide)]
  refine wpAny_bind (HT.slicePart_ .none (wpAny_bind (HT.slicePart_ .none (wpAny_bind (wpAny_pure ?_)))))
  show wpAny _ _ (pure ((n : Int) - 1, (-1 : Int), Builtin.Slice.slicePlaces ((n : Int) - 1) (-1) (-1))) _ _ s
  rw [places_rev]
  exact wpAny_pure h
theorem item_tup_rev {t sl : Addr} {items : Array Value} {u : Tok} {Q : Value → Shared → Prop} (ht : IsTup s.heap t items) (hs : s.heap.IsSliceOf sl .none .none (.int (-1) u)) (hsz : items.size ≤ sizeLine)
    (h : Q (.ref s.heap.objs.size) { s with heap := s.heap.push { cls := .type "tuple", data := .seq items.toList.reverse.toArray } }) : wpAny (model prog w) A (getItem (.ref t) (.ref sl)) Q E s := by
  have htake : sizeOk (.seq items.toList.reverse.toArray) := by
    show items.toList.reverse.toArray.size ≤ sizeLine
    rw [List.size_toArray, List.length_reverse, Array.length_toList]
    exact hsz
  obtain ⟨os, hos, hcs, hds⟩ := id hs
  have hTs : s.TypeIs (.ref sl) "slice" := ⟨os, hos, hcs⟩
  unfold getItem
  try with_reducible refine wpAny_holding ?_
  first | refine wpAny_bind (wpAny_pure ?_) | skip
  refine wpAny_bind (wpAny_sequenceKey ht.typeIs (by decide) ?_)
  refine wpAny_bind (wpAny_callSpecial?_slot (name := Str.ofString "__getitem__") ht.typeIs PyProof.Rows.slot_tuple_getitem
    (wpAny_call_entry PyProof.Rows.slot_tuple_getitem ht.typeIs entry_tuple_getitem ?_ (args_tuple_getitem _ _)))
  show wpAny _ _ (Builtin.Tuple.tupleItemsOf (.ref t) >>= _) _ _ s
  refine wpAny_bind (tupleItemsOf_ ht ?_)
  refine wpAny_bind (wpAny_typeOf hTs ?_)
  rw [if_pos (by decide)]
  refine wpAny_bind (applied_rev hs ?_)
  have hno : ¬ ((((items.size : Int) - 1) == 0 && (-1 : Int) == 1 && items.size == items.size) = true) := by simp
  show wpAny _ _ (if (((items.size : Int) - 1) == 0 && (-1 : Int) == 1 && items.size == items.size) = true then _ else _) _ _ s
  rw [if_neg hno]
  have pick : ((List.range items.size).filterMap fun (k : Nat) => items[((items.size : Int) - 1 + (k : Int) * (-1)).toNat]?).toArray = items.toList.reverse.toArray := by
    rw [← pick_rev_list items.toList]
    congr 1
    have cg : ∀ (l : List Nat), l.filterMap (fun (k : Nat) => items[((items.size : Int) - 1 + (k : Int) * (-1)).toNat]?) = l.filterMap (fun k => items.toList[items.toList.length - 1 - k]?) := by
      intro l
      congr 1
      funext k
      rw [Array.length_toList, Array.getElem?_toList, show ((items.size : Int) - 1 + (k : Int) * (-1)).toNat = items.size - 1 - k by omega]
    rw [Array.length_toList]
    have c2 := cg (List.range items.size)
    rw [Array.length_toList] at c2
    exact c2
  rw [pick]
  first
    | exact wpAny_bind (m := Builtin.Tuple.tupleExact _) (wpAny_newObj_type (wpAny_pure ⟨_, rfl, wpAny_pure h⟩) htake)
    | exact wpAny_bind (m := Builtin.Tuple.tupleExact _) (wpAny_newObj_type (wpAny_bind (wpAny_pure (wpAny_pure ⟨_, rfl, wpAny_pure h⟩))) htake)
    | exact wpAny_bind (wpAny_bind (m := Builtin.Tuple.tupleExact _) (wpAny_newObj_type (wpAny_pure (wpAny_pure ⟨_, rfl, wpAny_pure h⟩)) htake))
    | exact wpAny_bind (wpAny_bind (m := Builtin.Tuple.tupleExact _) (wpAny_newObj_type (wpAny_pure ⟨_, rfl, wpAny_pure h⟩) htake))
end
def tRevT (K : PySem.W.Frag) (te ts : TE) : TE := fun σ H Q => te σ H fun x H1 => ts σ H1 fun y H2 => y = .int (-1) ∧ ∃ a xs, x = .ref a ∧ SqT K H2 a xs ∧ ∀ p, H2 p = none → Q (.ref p) (upd H2 p (.tup xs.reverse))
section
variable {X : Cx} {e es : Expr} {te ts : TE} {pos p2 : Pos}
theorem pe_revT (he : PE X e te) (hs : PE X es ts) : PE X (.Subscript e (.Slice none none (some es) p2) pos) (tRevT X.K te ts) := by
  intro pins s σ H Q I h
  refine Subscript_ (thn (he pins s σ H _ I h) fun v s1 ⟨x, H1, I1, r1, q1⟩ => ?_)
  refine wpAny_Slice ?_
  rw [evalPart_none, evalPart_some]
  refine wpAny_pure (wpAny_pure (thn (hs pins s1 σ H1 _ I1 q1) fun vst s3 ⟨y, H3, I3, r3, ey, a, xs, ex, hx, q3⟩ => ?_))
  subst ey ex
  cases r1
  obtain ⟨tk, rfl⟩ := r3
  have I4 : L2.Inv X pins σ H3 { s3 with heap := s3.heap.push { cls := .type "slice", data := .fields #[.none, .none, .int (-1) tk] } } := I3.kept (t' := s3.toks) fun b ob q => Heap.get?_push_of_some _ q
  obtain ⟨its, r, ht, hz⟩ := I4.tuple hx
  have hlen := r.length
  show wpAny (model X.prog X.w) X.A (subscriptTail e (.Slice none none (some es) p2) (.ref a) (.ref s3.heap.objs.size)) (EP X pins σ Q) X.xe { s3 with heap := s3.heap.push { cls := .type "slice", data := .fields #[.none, .none, .int (-1) tk] } }
  refine tail_any (ops := [.ref a, .ref s3.heap.objs.size]) ht.typeIs PyProof.Rows.slot_tuple_getitem.lookup ?_ (by with_unfolding_all rfl)
  refine item_tup_rev ht (Heap.IsSliceOf.new ..) (by rw [List.size_toArray]; omega) ?_
  refine ⟨.ref _, _, I4.laid (t' := s3.toks) (o := .tup xs.reverse) (fun b ob q => Heap.get?_push_of_some _ q) (Nat.le_refl _) ?_, rfl, q3 _ (I4.hok.fresh (Nat.le_refl _))⟩
  exact ⟨by rw [List.length_reverse]; exact hz, its.reverse, vals_rev r, ⟨_, Heap.get?_push_size _ rfl, rfl, rfl, _, rfl⟩⟩
variable {H0 : Hp} {P : List Addr} {m ms : MM D}
def fRevT (d s : D) : Option D := match d, s with
  | .tuple ds, .int i => if i = -1 then some (.tuple ds.reverse) else none
  | _, _ => none
theorem re_revT (he : PE X e (tR (wd X H0 P) m)) (hs : PE X es (tR (wd X H0 P) ms)) : PE X (.Subscript e (.Slice none none (some es) p2) pos) (tR (wd X H0 P) (mBin fRevT m ms)) :=
  weak (pe_revT he hs) fun σ H Q ⟨ρ, R, g⟩ => tR_bd R g fun v H1 d ρ1 go1 R1 d1 g1 => tR_bd R1 g1 fun u H2 s ρ2 go2 R2 d2 g2 => by
    obtain ⟨z, hz, k⟩ := got_lift g2
    unfold fRevT at hz
    split at hz
    · split at hz
      · rename_i hi
        obtain rfl := Option.some.inj hz
        subst hi
        have d3 := d1.mono go2.stb
        cases d2
        cases d3 with
        | tup h1 h2 h3 =>
          exact ⟨rfl, _, _, rfl, h1, fun p hp => k _ _ ((go1.trans go2).trans (.same (same_upd hp _))) (R2.same (same_upd hp _)) (.tup (.inl (.inl upd_same)) (h2.reverse.mono (.same (same_upd hp _))))⟩
      · cases hz
    · cases hz
end
end Pu

namespace Pu
open PySem PySem.Spec PyProof.Rows L2
/-! ### zip(tuple, list), near the model -/
section
variable {prog : Program} {w : World} {A : Around} {E : Value → Shared → Prop} {s : Shared}
theorem zT_step {q T1 T2 c d p l : Addr} {i j : Nat} {xs ys : Array Value} {x y a b : Value} {Q : Value → Shared → Prop} (D : ZipApart q T1 T2 c d p l)
    (gz : IsZip s.heap q T1 T2 .none) (gT : IsPair s.heap T1 (.ref c) (.ref d)) (gO : IsPair s.heap T2 a b) (gc : s.heap.IsTupleIter c p i) (gd : s.heap.IsListIter d l j) (gp : s.heap.IsTuple p xs) (gl : s.heap.IsList l ys) (gx : xs[i]? = some x) (gy : ys[j]? = some y)
    (k : ∀ hh, IsZip hh q T1 T2 (rawInt s.heap.objs.size) → IsPair hh T2 x y → hh.IsTupleIter c p (i + 1) → hh.IsListIter d l (j + 1) → IsPair hh s.heap.objs.size x y →
      (∀ u o, u ≠ q → u ≠ T2 → u ≠ c → u ≠ d → s.heap.get? u = some o → hh.get? u = some o) → Q (.ref s.heap.objs.size) { s with heap := hh }) :
    wpAny (model prog w) A (Builtin.«zip.__next__» ⟨[.ref q], []⟩) (fun fin s' => ∃ v, fin = .done (.ret v) ∧ Q v s') E s := by
  show wpAny _ _ (field (.ref q) 2 >>= _) _ _ _
  refine wpAny_bind (wpAny_field gz rfl (x := .bool false) rfl ?_)
  show wpAny _ _ (field (.ref q) 3 >>= _) _ _ _
  refine wpAny_bind (wpAny_field gz rfl (x := .ref T1) rfl ?_)
  refine wpAny_bind (wpAny_seqItems gT rfl ?_)
  show wpAny _ _ (Builtin.SmallTypes.ownedTupleIsFree (.ref q) >>= _) _ _ _
  refine wpAny_bind ?_
  unfold Builtin.SmallTypes.ownedTupleIsFree
  refine wpAny_bind (wpAny_field gz rfl (x := .none) rfl (wpAny_pure ?_))
  simp only [if_true]
  refine wpAny_bind (wpAny_rule ?_)
  refine wpAny_bind (wpAny_field gz rfl (x := .ref T2) rfl ?_)
  refine wpAny_bind (wpAny_setField_rec gz (by simp) fun e1 z1 s1 => ?_)
  replace z1 : IsZip e1 q T1 T2 .ellipsis := z1
  refine wpAny_bind ?_
  simp only [List.zipIdx_cons, List.zipIdx_nil, List.forIn_cons, List.forIn_nil]
  refine wpAny_bind (wpAny_bind (wpAny_onRaise ?_))
  show wpAny _ _ (Builtin.SmallTypes.nextOf (.ref c) >>= _) _ _ _
  have gp1 : e1.IsTuple p xs := let ⟨o, e, r⟩ := gp; ⟨o, s1.extBut _ _ D.l1z e, r⟩
  refine wpAny_bind (nx_tup (s := { s with heap := e1 }) (gc.at fun o e => s1.extBut _ _ D.i1z e) gp1 gx fun e2 c2 s2 => wpAny_pure ?_)
  have o2 : IsPair e2 T2 a b := s2.extBut _ _ D.TOi1 (s1.extBut _ _ D.TOz gO)
  refine wpAny_bind (wpAny_seqItems o2 rfl ?_)
  refine wpAny_bind (wpAny_updateSeq_pair o2 fun e3 o3 s3 => ?_)
  replace o3 : IsPair e3 T2 x b := o3
  refine wpAny_bind (wpAny_letGo (wpAny_pure ?_))
  refine wpAny_bind (wpAny_bind (wpAny_onRaise ?_))
  show wpAny _ _ (Builtin.SmallTypes.nextOf (.ref d) >>= _) _ _ _
  have d3 : e3.IsListIter d l j := ((gd.extBut s1.extBut D.i2z).extBut s2.extBut D.i12.symm).extBut s3.extBut D.TOi2.symm
  have l3 : e3.IsList l ys := ((gl.extBut s1.extBut D.l2z).extBut s2.extBut D.l2i1).extBut s3.extBut D.l2TO
  refine wpAny_bind (wpAny_nextOf_list_item d3 l3 gy fun e4 d4 s4 => wpAny_pure ?_)
  have o4 : IsPair e4 T2 x b := s4.extBut _ _ D.TOi2 o3
  refine wpAny_bind (wpAny_seqItems o4 rfl ?_)
  refine wpAny_bind (wpAny_updateSeq_pair o4 fun e5 o5 s5 => ?_)
  replace o5 : IsPair e5 T2 x y := o5
  refine wpAny_bind (wpAny_letGo (wpAny_pure (wpAny_pure ?_)))
  refine wpAny_bind (wpAny_seqItems o5 rfl ?_)
  refine wpAny_bind (wpAny_newTuple ?_)
  have hsz : e5.objs.size = s.heap.objs.size := by rw [s5.1, s4.1, s3.1, s2.1, s1.1]
  have z5 : IsZip e5 q T1 T2 .ellipsis := s5.extBut _ _ D.TOz.symm (s4.extBut _ _ D.i2z.symm (s3.extBut _ _ D.TOz.symm (s2.extBut _ _ D.i1z.symm z1)))
  have k5 : ∀ u o, u ≠ q → u ≠ T2 → u ≠ c → u ≠ d → s.heap.get? u = some o → e5.get? u = some o := fun u o n1 n2 n3 n4 e => s5.extBut _ _ n2 (s4.extBut _ _ n4 (s3.extBut _ _ n2 (s2.extBut _ _ n3 (s1.extBut _ _ n1 e))))
  have c5 : e5.IsTupleIter c p (i + 1) := ((c2.at fun o e => s3.extBut _ _ D.TOi1.symm e).at fun o e => s4.extBut _ _ D.i12 e).at fun o e => s5.extBut _ _ D.TOi1.symm e
  have d5 : e5.IsListIter d l (j + 1) := d4.extBut s5.extBut D.TOi2.symm
  have lq : q < e5.objs.size := Heap.lt_size z5
  show wpAny _ _ (Builtin.SmallTypes.ownedTupleHandOut (.ref q) (.ref e5.objs.size) >>= _) _ _ _
  refine wpAny_bind ?_
  unfold Builtin.SmallTypes.ownedTupleHandOut
  have z6 : IsZip (e5.push { cls := .type "tuple", data := .seq #[x, y] }) q T1 T2 .ellipsis := Heap.get?_push_of_some _ z5
  refine wpAny_bind (wpAny_setField_rec z6 (by simp) fun e7 z7 s7 => ?_)
  replace z7 : IsZip e7 q T1 T2 (rawInt e5.objs.size) := z7
  refine wpAny_setField_rec z7 (by simp) fun e8 z8 s8 => ?_
  replace z8 : IsZip e8 q T1 T2 (rawInt e5.objs.size) := z8
  have up : ∀ u o, u ≠ q → e5.get? u = some o → e8.get? u = some o := fun u o n1 e => s8.extBut _ _ n1 (s7.extBut _ _ n1 (Heap.get?_push_of_some _ e))
  have t8 : IsPair e8 e5.objs.size x y := s8.extBut _ _ (Nat.ne_of_gt lq) (s7.extBut _ _ (Nat.ne_of_gt lq) (Heap.get?_push_size _ rfl))
  rw [hsz] at z8 t8
  refine wpAny_pure ⟨_, rfl, ?_⟩
  show Q (.ref e5.objs.size) _
  rw [hsz]
  exact k e8 z8 (up _ _ D.TOz o5) (c5.at fun o e => up _ o D.i1z e) (d5.at fun o e => up _ o D.i2z e) t8 fun u o n1 n2 n3 n4 e => up u o n1 (k5 u o n1 n2 n3 n4 e)
theorem zT_next {q T1 T2 c d p l : Addr} {i j : Nat} {xs ys : Array Value} {x y a b : Value} {Q : Option Value → Shared → Prop} (D : ZipApart q T1 T2 c d p l)
    (gz : IsZip s.heap q T1 T2 .none) (gT : IsPair s.heap T1 (.ref c) (.ref d)) (gO : IsPair s.heap T2 a b) (gc : s.heap.IsTupleIter c p i) (gd : s.heap.IsListIter d l j) (gp : s.heap.IsTuple p xs) (gl : s.heap.IsList l ys) (gx : xs[i]? = some x) (gy : ys[j]? = some y)
    (k : ∀ hh, IsZip hh q T1 T2 (rawInt s.heap.objs.size) → IsPair hh T2 x y → hh.IsTupleIter c p (i + 1) → hh.IsListIter d l (j + 1) → IsPair hh s.heap.objs.size x y →
      (∀ u o, u ≠ q → u ≠ T2 → u ≠ c → u ≠ d → s.heap.get? u = some o → hh.get? u = some o) → Q (some (.ref s.heap.objs.size)) { s with heap := hh }) :
    wpAny (model prog w) A (pyNext (.ref q)) Q E s := by
  have gy' : s.TypeIs (.ref q) "zip" := ⟨_, gz, rfl⟩
  unfold pyNext
  exact wpAny_bind (wpAny_attempt (wpAny_callSpecial?_slot (name := Str.ofString "__next__") gy' F.slot_zip_next (wpAny_call_entry F.slot_zip_next gy' F.entry_zip_next
    (zT_step D gz gT gO gc gd gp gl gx gy fun hh a1 a2 a3 a4 a5 a6 => wpAny_pure (k hh a1 a2 a3 a4 a5 a6)) (F.args_zip_next_1 _))))
theorem zT_end {q T1 T2 c d p l : Addr} {i j : Nat} {xs ys : Array Value} {a b : Value} {Q : Option Value → Shared → Prop} (nh : A.handled = none) (D : ZipApart q T1 T2 c d p l)
    (gz : IsZip s.heap q T1 T2 .none) (gT : IsPair s.heap T1 (.ref c) (.ref d)) (gO : IsPair s.heap T2 a b) (gc : s.heap.IsTupleIter c p i) (gd : s.heap.IsListIter d l j) (gp : s.heap.IsTuple p xs) (gl : s.heap.IsList l ys) (ge : xs[i]? = none ∨ ys[j]? = none)
    (k : ∀ hh, (∀ u o, u ≠ q → u ≠ T2 → u ≠ c → u ≠ d → s.heap.get? u = some o → hh.get? u = some o) → Q none { s with heap := hh }) : wpAny (model prog w) A (pyNext (.ref q)) Q E s := by
  have gy' : s.TypeIs (.ref q) "zip" := ⟨_, gz, rfl⟩
  unfold pyNext
  refine wpAny_bind (wpAny_attempt (wpAny_callSpecial?_slot (name := Str.ofString "__next__") gy' F.slot_zip_next (wpAny_call_entry F.slot_zip_next gy' F.entry_zip_next ?_ (F.args_zip_next_1 _))))
  have fin : ∀ hh e, (∀ u o, u ≠ q → u ≠ T2 → u ≠ c → u ≠ d → s.heap.get? u = some o → hh.get? u = some o) → (∃ o, hh.get? e = some o ∧ o.cls = .type "StopIteration") →
      wpAny (model prog w) A (isInstance (.ref e) (.type "StopIteration") >>= fun b => if b = true then pure none else throw (.ref e)) Q E { s with heap := hh } := fun hh e hk ⟨o, ho, hc⟩ =>
    wpAny_bind (wpAny_isInstance (T := "StopIteration") (b := true) ⟨o, ho, hc⟩ isSubtype_stop (wpAny_pure (k _ hk)))
  show wpAny _ _ (field (.ref q) 2 >>= _) _ _ _
  refine wpAny_bind (wpAny_field gz rfl (x := .bool false) rfl ?_)
  show wpAny _ _ (field (.ref q) 3 >>= _) _ _ _
  refine wpAny_bind (wpAny_field gz rfl (x := .ref T1) rfl ?_)
  refine wpAny_bind (wpAny_seqItems gT rfl ?_)
  show wpAny _ _ (Builtin.SmallTypes.ownedTupleIsFree (.ref q) >>= _) _ _ _
  refine wpAny_bind ?_
  unfold Builtin.SmallTypes.ownedTupleIsFree
  refine wpAny_bind (wpAny_field gz rfl (x := .none) rfl (wpAny_pure ?_))
  simp only [if_true]
  refine wpAny_bind (wpAny_rule ?_)
  refine wpAny_bind (wpAny_field gz rfl (x := .ref T2) rfl ?_)
  refine wpAny_bind (wpAny_setField_rec gz (by simp) fun e1 z1 s1 => ?_)
  replace z1 : IsZip e1 q T1 T2 .ellipsis := z1
  refine wpAny_bind ?_
  simp only [List.zipIdx_cons, List.zipIdx_nil, List.forIn_cons, List.forIn_nil]
  refine wpAny_bind (wpAny_bind (wpAny_onRaise ?_))
  show wpAny _ _ (Builtin.SmallTypes.nextOf (.ref c) >>= _) _ _ _
  have gp1 : e1.IsTuple p xs := let ⟨o, e, r⟩ := gp; ⟨o, s1.extBut _ _ D.l1z e, r⟩
  have gc1 : e1.IsTupleIter c p i := gc.at fun o e => s1.extBut _ _ D.i1z e
  cases gx : xs[i]? with
  | none =>
    refine wpAny_bind (nx_tupEnd (s := { s with heap := e1 }) nh gc1 gp1 gx fun e2 z s2 hz => ?_)
    obtain ⟨oe, hoe, hce⟩ := hz
    have z2 : IsZip e2 q T1 T2 .ellipsis := s2 _ _ D.i1z.symm z1
    have ne : z ≠ q := fun x => by subst x; rw [z2] at hoe; cases hoe; simp at hce
    exact wpAny_setField_rec z2 (by simp) fun e3 _ s3 => fin e3 z (fun u o n1 _ n3 _ e => s3.extBut _ _ n1 (s2 _ _ n3 (s1.extBut _ _ n1 e))) ⟨oe, s3.extBut _ _ ne hoe, hce⟩
  | some x =>
    have gy : ys[j]? = none := by
      rcases ge with g | g
      · rw [gx] at g; cases g
      · exact g
    refine wpAny_bind (nx_tup (s := { s with heap := e1 }) gc1 gp1 gx fun e2 c2 s2 => wpAny_pure ?_)
    have o2 : IsPair e2 T2 a b := s2.extBut _ _ D.TOi1 (s1.extBut _ _ D.TOz gO)
    refine wpAny_bind (wpAny_seqItems o2 rfl ?_)
    refine wpAny_bind (wpAny_updateSeq_pair o2 fun e3 o3 s3 => ?_)
    refine wpAny_bind (wpAny_letGo (wpAny_pure ?_))
    refine wpAny_bind (wpAny_bind (wpAny_onRaise ?_))
    show wpAny _ _ (Builtin.SmallTypes.nextOf (.ref d) >>= _) _ _ _
    have d3 : e3.IsListIter d l j := ((gd.extBut s1.extBut D.i2z).extBut s2.extBut D.i12.symm).extBut s3.extBut D.TOi2.symm
    have l3 : e3.IsList l ys := ((gl.extBut s1.extBut D.l2z).extBut s2.extBut D.l2i1).extBut s3.extBut D.l2TO
    refine wpAny_bind (wpAny_nextOf_list_end nh d3 l3 gy fun e4 z s4 hz => ?_)
    obtain ⟨oe, hoe, hce⟩ := hz
    have z4 : IsZip e4 q T1 T2 .ellipsis := s4 _ _ D.i2z.symm (s3.extBut _ _ D.TOz.symm (s2.extBut _ _ D.i1z.symm z1))
    have ne : z ≠ q := fun x => by subst x; rw [z4] at hoe; cases hoe; simp at hce
    exact wpAny_setField_rec z4 (by simp) fun e5 _ s5 => fin e5 z (fun u o n1 n2 n3 n4 e => s5.extBut _ _ n1 (s4 _ _ n4 (s3.extBut _ _ n2 (s2.extBut _ _ n3 (s1.extBut _ _ n1 e))))) ⟨oe, s5.extBut _ _ ne hoe, hce⟩
end
end Pu

namespace Pu
open PySem PySem.Spec PyProof.Rows L2
/-! ### zip(tuple, list) is made -/
abbrev zk1 (h : Heap) (p : Addr) : Heap := h.push { cls := .type "tuple_iterator", data := .fields #[.ref p, .int 0 0] }
abbrev zk2 (h : Heap) (p l : Addr) : Heap := (zk1 h p).push { cls := .type "list_iterator", data := .fields #[.ref l, .int 0 0] }
abbrev zk3 (h : Heap) (p l : Addr) : Heap := (zk2 h p l).push { cls := .type "tuple", data := .seq #[.ref h.objs.size, .ref (zk1 h p).objs.size] }
abbrev zk4 (h : Heap) (p l : Addr) : Heap := (zk3 h p l).push { cls := .type "tuple", data := .seq #[.none, .none] }
abbrev zk5 (h : Heap) (p l : Addr) : Heap := (zk4 h p l).push { cls := .type "zip", data := .fields #[.none, .bool false, .bool false, .ref (zk2 h p l).objs.size, .ref (zk3 h p l).objs.size] }
theorem new_zT (p l : Addr) (xs ys : Array Value) : Meets (Builtin.«zip.__new__» ⟨[.type "zip", .ref p, .ref l], []⟩) (fun _ R s => s.heap.IsTuple p xs ∧ s.heap.IsList l ys ∧ R (.ok (.ret (.ref (zk4 s.heap p l).objs.size))) { s with heap := zk5 s.heap p l }) :=
  .of_wp fun prog w A R s h => by
    obtain ⟨hp, g, d, tk, os⟩ := s
    obtain ⟨g1, g2, h⟩ := h
    have hsub := sub_zip
    have i1 : Heap.IsTuple (Shared.heap ⟨hp, g, d, tk, os⟩) p xs := g1
    have i2 : Heap.IsList (Shared.heap ⟨hp.push { cls := .type "tuple_iterator", data := .fields #[.ref p, .int 0 0] }, g, d, tk, os⟩) l ys := Heap.IsList.push g2 _
    wp_walk using wpAny_pyIter_tuple i1, wpAny_pyIter_list i2
    exact ⟨_, rfl, h⟩
section
variable {prog : Program} {w : World} {A : Around} {E : Value → Shared → Prop} {s : Shared}
theorem call_zT {p l : Addr} {xs ys : Array Value} {Q : Value → Shared → Prop} (gp : s.heap.IsTuple p xs) (gl : s.heap.IsList l ys)
    (k : ∀ hh, IsZip hh (s.heap.objs.size + 4) (s.heap.objs.size + 2) (s.heap.objs.size + 3) .none → IsPair hh (s.heap.objs.size + 2) (.ref s.heap.objs.size) (.ref (s.heap.objs.size + 1)) → IsPair hh (s.heap.objs.size + 3) .none .none →
      hh.IsTupleIter s.heap.objs.size p 0 → hh.IsListIter (s.heap.objs.size + 1) l 0 → (∀ c o, s.heap.get? c = some o → hh.get? c = some o) → Q (.ref (s.heap.objs.size + 4)) { s with heap := hh }) :
    wpAny (model prog w) A (call (.type "zip") [.ref p, .ref l]) Q E s := by
  refine callType_new F.called_zip (by decide) (F.typeCall_zip_2 _ _) (F.newCall_zip_2 _ _) (fun ob => F.args_object_init_3 ob _ _) F.entry_zip_new (new_zT p l xs ys) ⟨gp, gl, ?_⟩
  have z1 : (zk1 s.heap p).objs.size = s.heap.objs.size + 1 := Heap.size_push ..
  have z2 : (zk2 s.heap p l).objs.size = s.heap.objs.size + 2 := by rw [Heap.size_push, z1]
  have z3 : (zk3 s.heap p l).objs.size = s.heap.objs.size + 3 := by rw [Heap.size_push, z2]
  have z4 : (zk4 s.heap p l).objs.size = s.heap.objs.size + 4 := by rw [Heap.size_push, z3]
  have f5 : (zk5 s.heap p l).get? (zk4 s.heap p l).objs.size = some _ := Heap.get?_push_size _ rfl
  have f4 : (zk5 s.heap p l).get? (zk3 s.heap p l).objs.size = some _ := Heap.get?_push_of_some _ (Heap.get?_push_size _ rfl)
  have f3 : (zk5 s.heap p l).get? (zk2 s.heap p l).objs.size = some _ := Heap.get?_push_of_some _ (Heap.get?_push_of_some _ (Heap.get?_push_size _ rfl))
  have f2 : (zk5 s.heap p l).get? (zk1 s.heap p).objs.size = some _ := Heap.get?_push_of_some _ (Heap.get?_push_of_some _ (Heap.get?_push_of_some _ (Heap.get?_push_size _ rfl)))
  have f1 : (zk5 s.heap p l).get? s.heap.objs.size = some _ := Heap.get?_push_of_some _ (Heap.get?_push_of_some _ (Heap.get?_push_of_some _ (Heap.get?_push_of_some _ (Heap.get?_push_size _ rfl))))
  show _ ∧ _
  rw [z2, z3, z4] at f5
  rw [z1, z2] at f3
  rw [z3] at f4
  rw [z1] at f2
  rw [z4]
  exact ⟨⟨_, f5, rfl⟩, k _ f5 f3 f4 ⟨_, f1, rfl, rfl⟩ ⟨_, f2, rfl, rfl⟩ fun c o e => Heap.get?_push_of_some _ (Heap.get?_push_of_some _ (Heap.get?_push_of_some _ (Heap.get?_push_of_some _ (Heap.get?_push_of_some _ e))))⟩
end
/-- the tuple at a and the list at b, their items in new pairs -/
def ItzT (K : PySem.W.Frag) (a b : Addr) : It :=
  ⟨fun i H => ∃ (xs ys : List V) (x y : V), SqT K H a xs ∧ SqL K H b ys ∧ xs[i]? = some x ∧ ys[i]? = some y,
    fun i H v H' => ∃ T x y, v = .ref T ∧ H T = none ∧ H' = upd H T (.tup [x, y]) ∧ (∀ xs, SqT K H a xs → xs[i]? = some x) ∧ ∀ ys, SqL K H b ys → ys[i]? = some y,
    fun i H => ∃ xs ys : List V, SqT K H a xs ∧ SqL K H b ys ∧ (xs.length ≤ i ∨ ys.length ≤ i)⟩
theorem turn_zT {P : Program} {w : World} {K : PySem.W.Frag} {elts : List Expr} {kk : Nat} {tpos : Pos} {a b z TI TO i1 i2 : Addr} (D : ZipApart z TI TO i1 i2 a b) :
    Turn P w K (.Tuple elts kk tpos) (ItzT K a b) [z, TI, TO, i1, i2] z (fun i h => IsZip h z TI TO .none ∧ IsPair h TI (.ref i1) (.ref i2) ∧ (∃ x y, IsPair h TO x y) ∧ h.IsTupleIter i1 a i ∧ h.IsListIter i2 b i) where
  mem := by simp
  obj := fun i h st c hc => by
    obtain ⟨hz, hTI, ⟨x, y, hTO⟩, ⟨o1, e1, _, d1⟩, ⟨o2, e2, _, d2⟩⟩ := st
    have e' : c = z ∨ c = TI ∨ c = TO ∨ c = i1 ∨ c = i2 := by simpa using hc
    rcases e' with q | q | q | q | q
    · rw [q]; exact ⟨_, hz, fun v q => nomatch q⟩
    · rw [q]; exact ⟨_, hTI, fun v q => nomatch q⟩
    · rw [q]; exact ⟨_, hTO, fun v q => nomatch q⟩
    · rw [q]; exact ⟨o1, e1, fun v q => by rw [d1] at q; cases q⟩
    · rw [q]; exact ⟨o2, e2, fun v q => by rw [d2] at q; cases q⟩
  keep := fun i h h' st k => by
    obtain ⟨hz, hTI, ⟨x, y, hTO⟩, h1, h2⟩ := st
    exact ⟨k z (by simp) _ hz, k TI (by simp) _ hTI, ⟨x, y, k TO (by simp) _ hTO⟩, h1.at fun o q => k i1 (by simp) o q, h2.at fun o q => k i2 (by simp) o q⟩
  item := by
    intro X hP hw hK hc i pins s σ H E I hf st hg
    subst hP hw hK
    obtain ⟨hz, hTI, ⟨x0, y0, hTO⟩, h1, h2⟩ := st
    obtain ⟨xs, ys, x, y, hqx, hqy, hx, hy⟩ := hg
    obtain ⟨its, rv, p, _⟩ := I.tuple hqx
    obtain ⟨its2, rv2, p2, _⟩ := I.list hqy
    obtain ⟨u, hu, ru⟩ := rv.get hx
    obtain ⟨u2, hu2, ru2⟩ := rv2.get hy
    have hzl : z < s.heap.objs.size := Heap.lt_size hz
    refine zT_next D hz hTI hTO h1 h2 (show s.heap.IsTuple a its.toArray from p) p2.isList (x := u) (y := u2) (by simpa using hu) (by simpa using hu2) fun h' z' TO' h1' h2' hT hk => ?_
    refine ⟨_, rfl, wpAny_letOwnedTupleGo_zip (s := { s with heap := h' }) z' fun h'' z'' sb => ?_⟩
    have hT2 : h''.get? s.heap.objs.size = some { cls := .type "tuple", data := .seq #[u, u2] } := (sb.2 _ (Nat.ne_of_gt hzl)).trans hT
    have new : ObjOk X.prog X.w (upd H s.heap.objs.size (.tup [x, y])) h'' s.heap.objs.size (.tup [x, y]) :=
      ⟨by show 2 ≤ sizeLine; decide, [u, u2], .cons ru (.cons ru2 .nil), ⟨_, hT2, rfl, rfl, _, rfl⟩⟩
    have I1 : L2.Inv X pins σ (upd H s.heap.objs.size (.tup [x, y])) { s with heap := h'' } :=
      I.turnedNew (t' := s.toks) (ch := [z, TI, TO, i1, i2]) (fun c o hb q => (sb.2 c (fun q' => hb (by simp [q']))).trans (hk c o (fun q' => hb (by simp [q'])) (fun q' => hb (by simp [q'])) (fun q' => hb (by simp [q'])) (fun q' => hb (by simp [q'])) q)) hf (Nat.le_refl _) new
    refine ⟨.ref s.heap.objs.size, _, I1, rfl, ⟨_, x, y, rfl, I.hok.fresh (Nat.le_refl _), rfl, fun l hl => by rw [I.tuple_inj hl hqx]; exact hx, fun l hl => by rw [I.list_inj hl hqy]; exact hy⟩, ⟨z'', ?_, ⟨u, u2, ?_⟩, ?_, ?_⟩, fun c hcm => ?_⟩
    · exact (sb.2 _ D.TIz).trans (hk _ _ D.TIz D.TITO D.TIi1 D.TIi2 hTI)
    · exact (sb.2 _ D.TOz).trans TO'
    · exact h1'.at fun o q => (sb.2 _ D.i1z).trans q
    · exact h2'.at fun o q => (sb.2 _ D.i2z).trans q
    · have hlt : c < s.heap.objs.size := by
        have e' : c = z ∨ c = TI ∨ c = TO ∨ c = i1 ∨ c = i2 := by simpa using hcm
        rcases e' with q | q | q | q | q
        · rw [q]; exact hzl
        · rw [q]; exact Heap.lt_size hTI
        · rw [q]; exact Heap.lt_size hTO
        · rw [q]; obtain ⟨_, e1, _⟩ := h1; exact Heap.lt_size e1
        · rw [q]; obtain ⟨_, e2, _⟩ := h2; exact Heap.lt_size e2
      rw [upd_ne (Nat.ne_of_lt hlt)]
      exact (hf c hcm).1
  done := by
    intro X hP hw hK hc i pins s σ H E I hf st hg
    subst hP hw hK
    obtain ⟨hz, hTI, ⟨x0, y0, hTO⟩, h1, h2⟩ := st
    obtain ⟨xs, ys, hqx, hqy, hend⟩ := hg
    obtain ⟨its, rv, p, _⟩ := I.tuple hqx
    obtain ⟨its2, rv2, p2, _⟩ := I.list hqy
    have l1 := rv.length
    have l2 := rv2.length
    have he : its.toArray[i]? = none ∨ its2.toArray[i]? = none := by
      rcases hend with q | q
      · exact .inl (by simp; omega)
      · exact .inr (by simp; omega)
    exact zT_end (I.ok.hd hc) D hz hTI hTO h1 h2 (show s.heap.IsTuple a its.toArray from p) p2.isList he fun h' hk => ⟨rfl, I.turnedL (t' := s.toks) (ch := [z, TI, TO, i1, i2]) (fun c o hb q =>
      hk c o (fun q' => hb (by simp [q'])) (fun q' => hb (by simp [q'])) (fun q' => hb (by simp [q'])) (fun q' => hb (by simp [q'])) q) hf⟩
  self := fun A i s Q E st h => wpAny_pyIter_zip st.1 h
def iZipT (K : PySem.W.Frag) (ta : TA) : TI := fun σ H R => ta σ H fun vs H1 => ∃ a b xs ys, vs = [.ref a, .ref b] ∧ SqT K H1 a xs ∧ SqL K H1 b ys ∧ R (ItzT K a b) H1
theorem pi_zT {X : Cx} {e e2 : Expr} {ta : TA} {p pos tpos : Pos} {elts : List Expr} {kk : Nat} (hg : Gl X "zip") (hm : X.mg "zip" = none) (ha : PA X [e, e2] ta)
    (hs : starEach [e, e2] X.env = (false, eval e X.env) :: starEach [e2] X.env := by rfl) (hpl : (backTo pos (starEach [e2] X.env)).any (·.1) = false := by rfl) :
    PI X (.Tuple elts kk tpos) (.Call (.Name "zip" p) [e, e2] [] pos) (iZipT X.K ta) := by
  intro pins s σ H R I h
  refine Call_ (ld_blt I hg hm boot_zip5 (PyProof.Rows.callWith_type1 (thn (ha pos pins s σ H _ I h) fun us s1 ⟨vs, H1, I1, r1, q1⟩ => ?_) hs hpl))
  obtain ⟨a, b, xs, ys, ex, hqx, hqy, q⟩ := q1
  subst ex
  cases r1 with
  | cons r rr =>
    cases rr with
    | cons r' rr =>
      cases rr
      cases r
      cases r'
      obtain ⟨its, rv, p1, _⟩ := I1.tuple hqx
      obtain ⟨its2, rv2, p2, _⟩ := I1.list hqy
      have la : a < s1.heap.objs.size := by obtain ⟨o, ho, _⟩ := p1; exact Heap.lt_size ho
      have lb : b < s1.heap.objs.size := p2.lt
      refine call_zT (show s1.heap.IsTuple a its.toArray from p1) p2.isList fun h' hz hTI hTO h1 h2 hk => wpAny_pyIter_zip hz ?_
      have I2 : L2.Inv X pins σ H1 { s1 with heap := h' } := I1.kept (t' := s1.toks) hk
      refine ⟨s1.heap.objs.size + 4, [s1.heap.objs.size + 4, s1.heap.objs.size + 2, s1.heap.objs.size + 3, s1.heap.objs.size, s1.heap.objs.size + 1], _, _, H1, rfl, I2, turn_zT (PySem.W.ktu_apart s1.heap.objs.size a b la lb), ⟨hz, hTI, ⟨_, _, hTO⟩, h1, h2⟩, fun c hcm => ?_, q⟩
      have e' : c = s1.heap.objs.size + 4 ∨ c = s1.heap.objs.size + 2 ∨ c = s1.heap.objs.size + 3 ∨ c = s1.heap.objs.size ∨ c = s1.heap.objs.size + 1 := by simpa using hcm
      have hle : s1.heap.objs.size ≤ c := by
        rcases e' with z | z | z | z | z
        · rw [z]; exact Nat.le_add_right _ _
        · rw [z]; exact Nat.le_add_right _ _
        · rw [z]; exact Nat.le_add_right _ _
        · rw [z]; exact Nat.le_refl _
        · rw [z]; exact Nat.le_add_right _ _
      exact I1.fpOk hle (I1.hok.fresh hle)
/-! ### for x, y in zip(tuple, list), by data -/
def zpD : List D → List D → List D
  | a :: r, b :: r' => .tuple [a, b] :: zpD r r'
  | _, _ => []
def zpT : List D → Option (List D)
  | [.tuple as, .list bs] => some (zpD as bs)
  | _ => none
def msZip (m : MM (List D)) : MM (List D) := bd m fun as => lift (zpT as)
theorem zpD_len : ∀ (as bs : List D), (zpD as bs).length = min as.length bs.length
  | [], _ => by simp [zpD]
  | _ :: _, [] => by simp [zpD]
  | a :: r, b :: r' => by simp only [zpD, List.length_cons, zpD_len r r']; omega
theorem zpD_get : ∀ (as bs : List D) (i : Nat) (a b : D), as[i]? = some a → bs[i]? = some b → (zpD as bs)[i]? = some (.tuple [a, b])
  | [], _, _, _, _, h, _ => by simp at h
  | _ :: _, [], _, _, _, _, h => by simp at h
  | a :: r, b :: r', 0, _, _, h, h' => by simp at h h'; subst h h'; rfl
  | a :: r, b :: r', i + 1, x, y, h, h' => by
    simp only [zpD, List.getElem?_cons_succ]
    exact zpD_get r r' i x y (by simpa using h) (by simpa using h')
theorem src_zT {K : Fg} {H : Hp} {a b : Addr} {vs ws : List V} {ds es : List D} (h1 : SqT K H a vs) (h2 : DfA K H vs ds) (h3 : FzL K H b ws) (h4 : DfA K H ws es) : Src K (ItzT K a b) (zpD ds es) H where
  go := fun H1 i st hi => by
    rw [zpD_len] at hi
    have a1 : i < vs.length := by rw [h2.length]; omega
    have a2 : i < ws.length := by rw [h4.length]; omega
    exact ⟨vs, ws, vs[i], ws[i], SqT.monoS st h1, (h3.mono st).sq, by simp [a1], by simp [a2]⟩
  yld := fun H1 H2 i x st y hi => by
    obtain ⟨T, u, v, e, hn, e2, y1, y2⟩ := y
    subst e e2
    obtain ⟨d1, f1, g1⟩ := h2.get' (y1 vs (SqT.monoS st h1))
    obtain ⟨d2, f2, g2⟩ := h4.get' (y2 ws (h3.mono st).sq)
    have sm : Same H1 (upd H1 T (.tup [u, v])) := same_upd hn _
    exact ⟨sm, _, zpD_get ds es i d1 d2 f1 f2, .tup (.inl (.inl upd_same)) (.cons (g1.mono (st.trans (.same sm))) (.cons (g2.mono (st.trans (.same sm))) .nil))⟩
  stop := fun H1 i st hi => by
    rw [zpD_len] at hi
    refine ⟨vs, ws, SqT.monoS st h1, (h3.mono st).sq, ?_⟩
    rw [h2.length, h4.length]
    omega
section
variable {X : Cx} {H0 : Hp} {P : List Addr}
theorem im_zT {ea eb : Expr} {elts : List Expr} {kk : Nat} {tpos p1 p2 : Pos} {mr : MM (List D)} (hgl : Gl X "zip") (hm : X.mg "zip" = none) (he : PA X [ea, eb] (tA (wd X H0 P) mr)) (hse : starEach [ea, eb] X.env = (false, eval ea X.env) :: starEach [eb] X.env := by rfl) (hpl : (backTo p2 (starEach [eb] X.env)).any (·.1) = false := by rfl) :
    PIm X H0 P (.Tuple elts kk tpos) (.Call (.Name "zip" p1) [ea, eb] [] p2) (iZipT X.K (tA (wd X H0 P) mr)) (msZip mr) :=
  ⟨pi_zT hgl hm he hse hpl, fun ρ σ H k R0 R g q => tA_bd R g fun vs H1 as ρ1 go1 R1 d1 g1 => by
    obtain ⟨ds, hds, k1⟩ := got_lift g1
    unfold zpT at hds
    split at hds
    · obtain rfl := Option.some.inj hds
      cases d1 with
      | cons h t =>
        cases t with
        | cons h' t =>
          cases t
          cases h with
          | tup h1 h2 h3 =>
            cases h' with
            | lst h4 h5 => exact ⟨_, _, _, _, rfl, h1, h4.sq, q _ _ _ _ go1 R1 (src_zT h1 h2 h4 h5) k1⟩
    · cases hds⟩
/-! ### not e, as a value, of anything -/
variable {a : Expr} {ta : TE} {ma : MM D} {pos : Pos}
theorem pe_notT (ha : PE X a ta) : PE X (.UnaryOp .Not a pos) (fun σ H Q => ta σ H fun x H1 => ∃ k, TruV X.K x H1 k ∧ Q (.bl (!k)) H1) := by
  intro pins s σ H Q I h
  refine UnaryOp_ (thn (ha pins s σ H _ I h) fun v s1 ⟨x, H1, I1, r1, k, q1, q2⟩ => ?_)
  exact not_of (thn (tru_ok pins s1 σ H1 x v (fun c H2 => Q (.bl (!c)) H2) I1 r1 ⟨k, q1, q2⟩) fun c s2 ⟨H2, I2, q3⟩ => ⟨.bl (!c), H2, I2, rfl, q3⟩)
theorem re_notT (ha : PE X a (tR (wd X H0 P) ma)) : PE X (.UnaryOp .Not a pos) (tR (wd X H0 P) (bl (mNot (mTru ma)))) :=
  weak (pe_notT ha) fun σ H Q ⟨ρ, R, g⟩ => tR_bd R (got_bd (got_bd g)) fun v H1 d ρ1 go1 R1 d1 g1 => by
    obtain ⟨k, hk, g2⟩ := got_lift g1
    exact ⟨k, tru_df d1 hk, g2 _ H1 go1 R1 (.bl _)⟩
end
end Pu

namespace Pu
open PySem PySem.Spec PyProof.Rows L2
structure Pe (X : Cx) (H0 : Hp) (P : List Addr) (e : Expr) (m : MM D) : Prop where
  mk ::
  h : PE X e (tR (wd X H0 P) m)
structure Pl (X : Cx) (H0 : Hp) (P : List Addr) (e : Expr) (m : MM (List D)) : Prop where
  mk ::
  h : PE X e (tL (wd X H0 P) m)
structure Pt (X : Cx) (H0 : Hp) (P : List Addr) (e : Expr) (m : MM Bool) : Prop where
  mk ::
  h : PT X e (tT (wd X H0 P) m)
structure Pw (X : Cx) (H0 : Hp) (P : List Addr) (e : Expr) (m : MM Bool) : Prop where
  mk ::
  h : PW X e (tT (wd X H0 P) m)
structure Pa (X : Cx) (H0 : Hp) (P : List Addr) (e : List Expr) (m : MM (List D)) : Prop where
  mk ::
  h : PA X e (tA (wd X H0 P) m)
structure Po (X : Cx) (H0 : Hp) (P : List Addr) (e : Option Expr) (m : MM (Option Int)) : Prop where
  mk ::
  h : PO X e (tO (wd X H0 P) m)
structure Ps (X : Cx) (H0 : Hp) (P : List Addr) (e : Stmt) (m : MS) : Prop where
  mk ::
  h : PS X e (tS (wd X H0 P) m)
structure Pss (X : Cx) (H0 : Hp) (P : List Addr) (e : List Stmt) (m : MS) : Prop where
  mk ::
  h : PSs X e (tS (wd X H0 P) m)
structure Pts (X : Cx) (H0 : Hp) (P : List Addr) (e : List Expr) (m : MM Bool) : Prop where
  mk ::
  h : PTs X e (tT (wd X H0 P) m)
structure Pgm (X : Cx) (H0 : Hp) (P : List Addr) (tg : Expr) (g : TG) (is : List Nat) (f : D → En → Option En) : Prop where
  mk ::
  h : PGm X H0 P tg g is f
structure Pgms (X : Cx) (H0 : Hp) (P : List Addr) (ts : List Expr) (g : TGs) (is : List Nat) : Prop where
  mk ::
  h : PGms X H0 P ts g is
structure Pj (X : Cx) (H0 : Hp) (P : List Addr) (e : List Expr) (m : Str → MM Str) : Prop where
  mk ::
  h : PJ X e (tJ (wd X H0 P) m)
structure Pgmf (X : Cx) (H0 : Hp) (P : List Addr) (ts : List Expr) (g : TGs) (is : List Nat) (f : List D → En → Option En) (n : Nat) : Prop where
  mk ::
  h : PGmf X H0 P ts g is f n
structure Pim (X : Cx) (H0 : Hp) (P : List Addr) (tg iter : Expr) (wi : TI) (ms : MM (List D)) : Prop where
  mk ::
  h : PIm X H0 P tg iter wi ms
inductive Ppm (X : Cx) (H0 : Hp) (P : List Addr) (pos : Pos) : List (Option Expr) → List Expr → List (Str × MM D) → Prop
  | nil : Ppm X H0 P pos [] [] []
  | cons {k : Str} {j} {p2 : Pos} {e : Expr} {m : MM D} {ks : List (Option Expr)} {es : List Expr} {ms : List (Str × MM D)} : Pe X H0 P e m → Ppm X H0 P pos ks es ms → Ppm X H0 P pos (some (.Constant (.str k) j p2) :: ks) (e :: es) ((k, m) :: ms)
theorem Ppm.h {X : Cx} {H0 : Hp} {P : List Addr} {pos : Pos} {ks : List (Option Expr)} {es : List Expr} {ms : List (Str × MM D)} (q : Ppm X H0 P pos ks es ms) : PPm X H0 P pos ks es ms := by
  induction q with
  | nil => exact .nil
  | cons a _ ih => exact .cons a.h ih
theorem q_pt {X : Cx} {H0 : Hp} {P : List Addr} {e : Expr} {m : MM Bool} (h : Pw X H0 P e m) : Pt X H0 P e m := .mk (PW.pt h.h)
section
variable {X : Cx} {H0 : Hp} {P : List Addr} {pos : Pos}
theorem q_re_non {j} : Pe X H0 P (.Constant .none j pos) (mC .none) := .mk (re_non )
end
section
variable {X : Cx} {H0 : Hp} {P : List Addr} {pos : Pos}
theorem q_re_bool {b j} : Pe X H0 P (.Constant (.bool b) j pos) (mC (.bool b)) := .mk (re_bool )
end
section
variable {X : Cx} {H0 : Hp} {P : List Addr} {pos : Pos}
theorem q_re_int {i j} : Pe X H0 P (.Constant (.int i) j pos) (mC (.int i)) := .mk (re_int )
end
section
variable {X : Cx} {H0 : Hp} {P : List Addr} {pos : Pos}
theorem q_re_str {x j} : Pe X H0 P (.Constant (.str x) j pos) (mC (.str x)) := .mk (re_str )
end
section
variable {X : Cx} {H0 : Hp} {P : List Addr} {pos : Pos}
end
section
variable {X : Cx} {H0 : Hp} {P : List Addr} {pos : Pos}
end
section
variable {X : Cx} {H0 : Hp} {P : List Addr} {pos : Pos}
theorem q_re_var (i : Nat) {x : Str} (hN : X.N[i]? = some x := by rfl) (hv : Vis X.env.scope x := by first | exact Or.inl rfl | exact Or.inr (Or.inl rfl) | exact Or.inr (Or.inr rfl)) (hd : (x == ("__debug__" : Str)) = false := by decide) (hcd : (x == ("__classdict__" : Str)) = false := by decide) : Pe X H0 P (.Name x pos) (mV i) := .mk (re_var (i := i) (hN := hN) (hv := hv) (hd := hd) (hcd := hcd))
end
section
variable {X : Cx} {H0 : Hp} {P : List Addr} {pos : Pos}
theorem q_rl_var (i : Nat) {x : Str} (hN : X.N[i]? = some x := by rfl) (hv : Vis X.env.scope x := by first | exact Or.inl rfl | exact Or.inr (Or.inl rfl) | exact Or.inr (Or.inr rfl)) (hd : (x == ("__debug__" : Str)) = false := by decide) (hcd : (x == ("__classdict__" : Str)) = false := by decide) : Pl X H0 P (.Name x pos) (mVL i) := .mk (rl_var (i := i) (hN := hN) (hv := hv) (hd := hd) (hcd := hcd))
end
section
variable {X : Cx} {H0 : Hp} {P : List Addr} {pos : Pos}
theorem q_re_fz {e : Expr} {m : MM (List D)} (h : Pl X H0 P e m) : Pe X H0 P e (fz m) := .mk (re_fz (h := h.h))
end
section
variable {X : Cx}
variable {H0 : Hp} {P : List Addr} {pos : Pos} {a b : Expr} {ma mb : MM D}
theorem q_re_op {op : Operator} {f : D → D → Option D} (ho : OpR X (binaryOp op) (rD X.K f)) (ha : Pe X H0 P a ma) (hb : Pe X H0 P b mb) : Pe X H0 P (.BinOp a op b pos) (mBin f ma mb) := .mk (re_op (ho := ho) (ha := ha.h) (hb := hb.h))
end
section
variable {X : Cx}
variable {H0 : Hp} {P : List Addr} {pos : Pos} {a b : Expr} {ma mb : MM D}
theorem q_rt_cmp {op : CmpOp} {f : D → D → Option Bool} (ho : OpR X (compareOp op) (rB X.K f)) (ha : Pe X H0 P a ma) (hb : Pe X H0 P b mb) (hm : behindInMarks op b = false := by first | exact nobehind _ (by decide) (by decide) | rfl) : Pt X H0 P (.Compare a [op] [b] pos) (mCmp f ma mb) := .mk (rt_cmp (ho := ho) (ha := ha.h) (hb := hb.h) (hm := hm))
end
section
variable {X : Cx}
variable {H0 : Hp} {P : List Addr} {pos : Pos} {a b : Expr} {ma mb : MM D}
theorem q_re_cmp {op : CmpOp} {f : D → D → Option Bool} (ho : OpR X (compareOp op) (rB X.K f)) (ha : Pe X H0 P a ma) (hb : Pe X H0 P b mb) (hm : behindInMarks op b = false := by first | exact nobehind _ (by decide) (by decide) | rfl) : Pe X H0 P (.Compare a [op] [b] pos) (bl (mCmp f ma mb)) := .mk (re_cmp (ho := ho) (ha := ha.h) (hb := hb.h) (hm := hm))
end
section
variable {X : Cx}
variable {H0 : Hp} {P : List Addr} {pos : Pos} {a b : Expr} {ma mb : MM D}
end
section
variable {X : Cx}
variable {H0 : Hp} {P : List Addr} {pos : Pos} {a b : Expr} {ma mb : MM D}
end
section
variable {X : Cx}
variable {H0 : Hp} {P : List Addr} {pos : Pos} {a b : Expr} {ma mb : MM D}
variable {ta tb' : MM Bool} {rest : List Expr} {e : Expr} {m : MM D}
theorem q_rt_tru (he : Pe X H0 P e m) (hp : ∀ whole, isTrue e X.env whole = (do let v ← whole; standAt e.pos; holding [v] (truthy v)) := by intro _; rfl) : Pt X H0 P e (mTru m) := .mk (rt_tru (he := he.h) (hp := hp))
end
section
variable {X : Cx}
variable {H0 : Hp} {P : List Addr} {pos : Pos} {a b : Expr} {ma mb : MM D}
variable {ta tb' : MM Bool} {rest : List Expr} {e : Expr} {m : MM D}
theorem q_rt_truL (i : Nat) {x : Str} (hN : X.N[i]? = some x := by rfl) (hv : Vis X.env.scope x := by first | exact Or.inl rfl | exact Or.inr (Or.inl rfl) | exact Or.inr (Or.inr rfl)) (hd : (x == ("__debug__" : Str)) = false := by decide) (hcd : (x == ("__classdict__" : Str)) = false := by decide) (hp : ∀ whole, isTrue (.Name x pos) X.env whole = (do let v ← whole; standAt (Expr.pos (.Name x pos)); holding [v] (truthy v)) := by intro _; rfl) : Pt X H0 P (.Name x pos) (mTruL i) := .mk (rt_truL (i := i) (hN := hN) (hv := hv) (hd := hd) (hcd := hcd) (hp := hp))
end
section
variable {X : Cx}
variable {H0 : Hp} {P : List Addr} {pos : Pos} {a b : Expr} {ma mb : MM D}
variable {ta tb' : MM Bool} {rest : List Expr} {e : Expr} {m : MM D}
theorem q_rt_not (ha : Pt X H0 P a ta) : Pt X H0 P (.UnaryOp .Not a pos) (mNot ta) := .mk (rt_not (ha := ha.h))
end
section
variable {X : Cx}
variable {H0 : Hp} {P : List Addr} {pos : Pos} {a b : Expr} {ma mb : MM D}
variable {ta tb' : MM Bool} {rest : List Expr} {e : Expr} {m : MM D}
theorem q_rw_and1 (ha : Pt X H0 P a ta) : Pw X H0 P (.BoolOp .And [a] pos) ta := .mk (rw_and1 (ha := ha.h))
end
section
variable {X : Cx}
variable {H0 : Hp} {P : List Addr} {pos : Pos} {a b : Expr} {ma mb : MM D}
variable {ta tb' : MM Bool} {rest : List Expr} {e : Expr} {m : MM D}
theorem q_rw_or1 (ha : Pt X H0 P a ta) : Pw X H0 P (.BoolOp .Or [a] pos) ta := .mk (rw_or1 (ha := ha.h))
end
section
variable {X : Cx}
variable {H0 : Hp} {P : List Addr} {pos : Pos} {a b : Expr} {ma mb : MM D}
variable {ta tb' : MM Bool} {rest : List Expr} {e : Expr} {m : MM D}
theorem q_rw_and (ha : Pt X H0 P a ta) (hb : Pw X H0 P (.BoolOp .And (b :: rest) pos) tb') : Pw X H0 P (.BoolOp .And (a :: b :: rest) pos) (mAnd ta tb') := .mk (rw_and (ha := ha.h) (hb := hb.h))
end
section
variable {X : Cx}
variable {H0 : Hp} {P : List Addr} {pos : Pos} {a b : Expr} {ma mb : MM D}
variable {ta tb' : MM Bool} {rest : List Expr} {e : Expr} {m : MM D}
theorem q_rw_or (ha : Pt X H0 P a ta) (hb : Pw X H0 P (.BoolOp .Or (b :: rest) pos) tb') : Pw X H0 P (.BoolOp .Or (a :: b :: rest) pos) (mOr ta tb') := .mk (rw_or (ha := ha.h) (hb := hb.h))
end
section
variable {X : Cx}
variable {H0 : Hp} {P : List Addr} {pos : Pos} {a b : Expr} {ma mb : MM D}
variable {ta tb' : MM Bool} {rest : List Expr} {e : Expr} {m : MM D}
end
section
variable {X : Cx}
variable {H0 : Hp} {P : List Addr} {pos : Pos} {a b : Expr} {ma mb : MM D}
variable {ta tb' : MM Bool} {rest : List Expr} {e : Expr} {m : MM D}
end
section
variable {X : Cx}
variable {H0 : Hp} {P : List Addr} {pos : Pos} {a b : Expr} {ma mb : MM D}
variable {ta tb' : MM Bool} {rest : List Expr} {e : Expr} {m : MM D}
end
section
variable {X : Cx}
variable {H0 : Hp} {P : List Addr} {pos : Pos} {a b : Expr} {ma mb : MM D}
variable {ta tb' : MM Bool} {rest : List Expr} {e : Expr} {m : MM D}
end
section
variable {X : Cx}
variable {H0 : Hp} {P : List Addr} {pos : Pos} {a b : Expr} {ma mb : MM D}
variable {ta tb' : MM Bool} {rest : List Expr} {e : Expr} {m : MM D}
end
section
variable {X : Cx}
variable {H0 : Hp} {P : List Addr} {pos : Pos} {a b : Expr} {ma mb : MM D}
variable {ta tb' : MM Bool} {rest : List Expr} {e : Expr} {m : MM D}
variable {es : List Expr} {mr : MM (List D)}
theorem q_ra_nil  : Pa X H0 P [] mNil := .mk (ra_nil )
end
section
variable {X : Cx}
variable {H0 : Hp} {P : List Addr} {pos : Pos} {a b : Expr} {ma mb : MM D}
variable {ta tb' : MM Bool} {rest : List Expr} {e : Expr} {m : MM D}
variable {es : List Expr} {mr : MM (List D)}
theorem q_ra_cons (ha : Pe X H0 P e m) (hr : Pa X H0 P es mr) (hs : starEach (e :: es) X.env = (false, eval e X.env) :: starEach es X.env := by rfl) : Pa X H0 P (e :: es) (mCons m mr) := .mk (ra_cons (ha := ha.h) (hr := hr.h) (hs := hs))
end
section
variable {X : Cx}
variable {H0 : Hp} {P : List Addr} {pos : Pos} {a b : Expr} {ma mb : MM D}
variable {ta tb' : MM Bool} {rest : List Expr} {e : Expr} {m : MM D}
variable {es : List Expr} {mr : MM (List D)}
theorem q_re_tup {x1} (h : Pa X H0 P es mr) : Pe X H0 P (.Tuple es x1 pos) (mTup mr) := .mk (re_tup (h := h.h))
end
section
variable {X : Cx}
variable {H0 : Hp} {P : List Addr} {pos : Pos} {a b : Expr} {ma mb : MM D}
variable {ta tb' : MM Bool} {rest : List Expr} {e : Expr} {m : MM D}
variable {es : List Expr} {mr : MM (List D)}
theorem q_rl_lst (h : Pa X H0 P es mr) : Pl X H0 P (.List es pos) (mLst mr) := .mk (rl_lst (h := h.h))
end
section
variable {X : Cx} {H0 : Hp} {P : List Addr} {pos : Pos} {a b e : Expr} {ma mb m : MM D}
theorem q_re_ix (ha : Pe X H0 P a ma) (hb : Pe X H0 P b mb) (hs : PlainIx b := by intro _ _; rfl) : Pe X H0 P (.Subscript a b pos) (mBin fIx ma mb) := .mk (re_ix (ha := ha.h) (hb := hb.h) (hs := hs))
end
section
variable {X : Cx} {H0 : Hp} {P : List Addr} {pos : Pos} {a b e : Expr} {ma mb m : MM D}
theorem q_re_ixL (i : Nat) {x : Str} {p1 : Pos} (hb : Pe X H0 P b mb) (hs : PlainIx b := by intro _ _; rfl) (hN : X.N[i]? = some x := by rfl) (hv : Vis X.env.scope x := by first | exact Or.inl rfl | exact Or.inr (Or.inl rfl) | exact Or.inr (Or.inr rfl)) (hd : (x == ("__debug__" : Str)) = false := by decide) (hcd : (x == ("__classdict__" : Str)) = false := by decide) : Pe X H0 P (.Subscript (.Name x p1) b pos) (mIxL i mb) := .mk (re_ixL (i := i) (hb := hb.h) (hs := hs) (hN := hN) (hv := hv) (hd := hd) (hcd := hcd))
end
section
variable {X : Cx} {H0 : Hp} {P : List Addr} {pos : Pos} {a b e : Expr} {ma mb m : MM D}
theorem q_ro_none  : Po X H0 P none mNoP := .mk (ro_none )
end
section
variable {X : Cx} {H0 : Hp} {P : List Addr} {pos : Pos} {a b e : Expr} {ma mb m : MM D}
theorem q_ro_some (h : Pe X H0 P e m) : Po X H0 P (some e) (mPt m) := .mk (ro_some (h := h.h))
end
section
variable {X : Cx} {H0 : Hp} {P : List Addr} {pos : Pos} {a b e : Expr} {ma mb m : MM D}
variable {lo hi : Option Expr} {ml mu : MM (Option Int)} {p2 : Pos}
theorem q_re_sl (he : Pe X H0 P e m) (hl : Po X H0 P lo ml) (hu : Po X H0 P hi mu) : Pe X H0 P (.Subscript e (.Slice lo hi none p2) pos) (mSl m ml mu) := .mk (re_sl (he := he.h) (hl := hl.h) (hu := hu.h))
end
section
variable {X : Cx} {H0 : Hp} {P : List Addr} {pos : Pos} {a b e : Expr} {ma mb m : MM D}
variable {lo hi : Option Expr} {ml mu : MM (Option Int)} {p2 : Pos}
theorem q_rl_sl (he : Pe X H0 P e m) (hl : Po X H0 P lo ml) (hu : Po X H0 P hi mu) : Pl X H0 P (.Subscript e (.Slice lo hi none p2) pos) (mSlL m ml mu) := .mk (rl_sl (he := he.h) (hl := hl.h) (hu := hu.h))
end
section
variable {X : Cx} {H0 : Hp} {P : List Addr} {pos : Pos} {a b e : Expr} {ma mb m : MM D}
variable {lo hi : Option Expr} {ml mu : MM (Option Int)} {p2 : Pos}
variable {es : List Expr} {mr : MM (List D)} {x : Str} {p : Pos} {id T : String}
theorem q_re_callB {g : List D → Option D} (hc : CallR X (.builtin id) (rC X.K g)) (hg : Gl X x) (hm : X.mg x = none) (hv : bootBuiltins x = some (.builtin id)) (ha : Pa X H0 P (e :: es) mr) (hn : x ≠ "__name__" := by decide) (hdb : (x == ("__debug__" : Str)) = false := by decide) (he : starEach (e :: es) X.env = (false, eval e X.env) :: starEach es X.env := by rfl) (hpl : (backTo pos (starEach es X.env)).any (·.1) = false := by rfl) : Pe X H0 P (.Call (.Name x p) (e :: es) [] pos) (mCall g mr) := .mk (re_callB (hc := hc) (hg := hg) (hm := hm) (hv := hv) (ha := ha.h) (hn := hn) (hdb := hdb) (he := he) (hpl := hpl))
end
section
variable {X : Cx} {H0 : Hp} {P : List Addr} {pos : Pos} {a b e : Expr} {ma mb m : MM D}
variable {lo hi : Option Expr} {ml mu : MM (Option Int)} {p2 : Pos}
variable {es : List Expr} {mr : MM (List D)} {x : Str} {p : Pos} {id T : String}
theorem q_re_callT {g : List D → Option D} (hc : CallR X (.type T) (rC X.K g)) (hg : Gl X x) (hm : X.mg x = none) (hv : bootBuiltins x = some (.type T)) (ha : Pa X H0 P (e :: es) mr) (hn : x ≠ "__name__" := by decide) (hdb : (x == ("__debug__" : Str)) = false := by decide) (he : starEach (e :: es) X.env = (false, eval e X.env) :: starEach es X.env := by rfl) (hpl : (backTo pos (starEach es X.env)).any (·.1) = false := by rfl) : Pe X H0 P (.Call (.Name x p) (e :: es) [] pos) (mCall g mr) := .mk (re_callT (hc := hc) (hg := hg) (hm := hm) (hv := hv) (ha := ha.h) (hn := hn) (hdb := hdb) (he := he) (hpl := hpl))
end
section
variable {X : Cx} {H0 : Hp} {P : List Addr} {pos : Pos} {a b e : Expr} {ma mb m : MM D}
variable {lo hi : Option Expr} {ml mu : MM (Option Int)} {p2 : Pos}
variable {es : List Expr} {mr : MM (List D)} {x : Str} {p : Pos} {id T : String}
theorem q_rl_callT {g : List D → Option (List D)} (hc : CallR X (.type T) (rCL X.K g)) (hg : Gl X x) (hm : X.mg x = none) (hv : bootBuiltins x = some (.type T)) (ha : Pa X H0 P (e :: es) mr) (hn : x ≠ "__name__" := by decide) (hdb : (x == ("__debug__" : Str)) = false := by decide) (he : starEach (e :: es) X.env = (false, eval e X.env) :: starEach es X.env := by rfl) (hpl : (backTo pos (starEach es X.env)).any (·.1) = false := by rfl) : Pl X H0 P (.Call (.Name x p) (e :: es) [] pos) (mCallL g mr) := .mk (rl_callT (hc := hc) (hg := hg) (hm := hm) (hv := hv) (ha := ha.h) (hn := hn) (hdb := hdb) (he := he) (hpl := hpl))
end
section
variable {X : Cx} {H0 : Hp} {P : List Addr} {pos : Pos} {a b e : Expr} {ma mb m : MM D}
variable {lo hi : Option Expr} {ml mu : MM (Option Int)} {p2 : Pos}
variable {es : List Expr} {mr : MM (List D)} {x : Str} {p : Pos} {id T : String}
theorem q_re_isi {y : Str} {p' : Pos} (T : String) (hT : ∀ d : D, PySem.W.kitOne X.K (.type (tyD d)) (.type T) = some (isT T d)) (hg : Gl X "isinstance") (hm : X.mg "isinstance" = none) (hg2 : Gl X y) (hm2 : X.mg y = none) (hv2 : bootBuiltins y = some (.type T)) (ha : Pe X H0 P e m) (hn : y ≠ "__name__" := by decide) (hdb : (y == ("__debug__" : Str)) = false := by decide) (he : starEach (e :: [Expr.Name y p']) X.env = (false, eval e X.env) :: starEach [Expr.Name y p'] X.env := by rfl) (hpl : (backTo pos (starEach [Expr.Name y p'] X.env)).any (·.1) = false := by rfl) : Pe X H0 P (.Call (.Name "isinstance" p) (e :: [Expr.Name y p']) [] pos) (mIsi T m) := .mk (re_isi (T := T) (hT := hT) (hg := hg) (hm := hm) (hg2 := hg2) (hm2 := hm2) (hv2 := hv2) (ha := ha.h) (hn := hn) (hdb := hdb) (he := he) (hpl := hpl))
end
section
variable {X : Cx}
variable {H0 : Hp} {P : List Addr} {apos cpos : Pos} {e : Expr} {es : List Expr} {mr : MM (List D)} {x : Str} {p1 : Pos} {name : Str} {id : String}
theorem q_re_mut (i : Nat) {f : List D → List D → Option (D × List D)} (slot : Slot "list" name id) (hty : typeOf (.builtin id) = pure (.type "method_descriptor")) (hm : MtR X id (rM X.K f)) (ha : Pa X H0 P (e :: es) mr) (hN : X.N[i]? = some x := by rfl) (hv : Vis X.env.scope x := by first | exact Or.inl rfl | exact Or.inr (Or.inl rfl) | exact Or.inr (Or.inr rfl)) (hd : (x == ("__debug__" : Str)) = false := by decide) (hcd : (x == ("__classdict__" : Str)) = false := by decide) (hbase : attributeBase (.Name x p1) name X.env (eval (.Name x p1) X.env) = eval (.Name x p1) X.env := by rfl) (hfew : ((backTo cpos (starEach (e :: es) X.env)).all (fun x => !x.1) && (backToKw cpos (keywordEach [] X.env)).all (fun x => x.1.isSome)
      && decide ((e :: es).length + ([] : List Keyword).length + (if ([] : List Keyword).isEmpty then 0 else 1) < 30)) = true := by rfl) (hline : (apos.endLine == cpos.line) = true := by rfl) (hs : starEach (e :: es) X.env = (false, eval e X.env) :: starEach es X.env := by rfl) (hplain : (backTo cpos (starEach es X.env)).any (·.1) = false := by rfl) : Pe X H0 P (.Call (.Attribute (.Name x p1) name apos) (e :: es) [] cpos) (mMut i f mr) := .mk (re_mut (i := i) (slot := slot) (hty := hty) (hm := hm) (ha := ha.h) (hN := hN) (hv := hv) (hd := hd) (hcd := hcd) (hbase := hbase) (hfew := hfew) (hline := hline) (hs := hs) (hplain := hplain))
end
section
variable {X : Cx}
variable {H0 : Hp} {P : List Addr} {apos cpos : Pos} {e : Expr} {es : List Expr} {mr : MM (List D)} {x : Str} {p1 : Pos} {name : Str} {id : String}
theorem q_re_mut0 (i : Nat) {f : List D → List D → Option (D × List D)} (slot : Slot "list" name id) (hty : typeOf (.builtin id) = pure (.type "method_descriptor")) (hm : MtR X id (rM X.K f)) (hN : X.N[i]? = some x := by rfl) (hv : Vis X.env.scope x := by first | exact Or.inl rfl | exact Or.inr (Or.inl rfl) | exact Or.inr (Or.inr rfl)) (hd : (x == ("__debug__" : Str)) = false := by decide) (hcd : (x == ("__classdict__" : Str)) = false := by decide) (hbase : attributeBase (.Name x p1) name X.env (eval (.Name x p1) X.env) = eval (.Name x p1) X.env := by rfl) (hline : (apos.endLine == cpos.line) = true := by rfl) : Pe X H0 P (.Call (.Attribute (.Name x p1) name apos) [] [] cpos) (mMut i f mNil) := .mk (re_mut0 (i := i) (slot := slot) (hty := hty) (hm := hm) (hN := hN) (hv := hv) (hd := hd) (hcd := hcd) (hbase := hbase) (hline := hline))
end
section
variable {X : Cx}
variable {H0 : Hp} {P : List Addr} {apos cpos : Pos} {e : Expr} {es : List Expr} {mr : MM (List D)} {x : Str} {p1 : Pos} {name : Str} {id : String}
end
section
variable {X : Cx}
variable {H0 : Hp} {P : List Addr} {apos cpos : Pos} {e : Expr} {es : List Expr} {mr : MM (List D)} {x : Str} {p1 : Pos} {name : Str} {id : String}
end
section
variable {X : Cx}
variable {H0 : Hp} {P : List Addr} {apos cpos : Pos} {e : Expr} {es : List Expr} {mr : MM (List D)} {x : Str} {p1 : Pos} {name : Str} {id : String}
end
section
variable {X : Cx} {H0 : Hp} {P : List Addr} {pos : Pos} {e : Expr} {m : MM D} {ml : MM (List D)} {st : Stmt} {rest a b : List Stmt} {m1 m2 : MS}
theorem q_rss_nil  : Pss X H0 P [] sNx := .mk (rss_nil )
end
section
variable {X : Cx} {H0 : Hp} {P : List Addr} {pos : Pos} {e : Expr} {m : MM D} {ml : MM (List D)} {st : Stmt} {rest a b : List Stmt} {m1 m2 : MS}
theorem q_rss_one (h : Ps X H0 P st m1) : Pss X H0 P [st] m1 := .mk (rss_one (h := h.h))
end
section
variable {X : Cx} {H0 : Hp} {P : List Addr} {pos : Pos} {e : Expr} {m : MM D} {ml : MM (List D)} {st : Stmt} {rest a b : List Stmt} {m1 m2 : MS}
theorem q_rss_cons (h1 : Ps X H0 P st m1) (h2 : Pss X H0 P rest m2) : Pss X H0 P (st :: rest) (sSeq m1 m2) := .mk (rss_cons (h1 := h1.h) (h2 := h2.h))
end
section
variable {X : Cx} {H0 : Hp} {P : List Addr} {pos : Pos} {e : Expr} {m : MM D} {ml : MM (List D)} {st : Stmt} {rest a b : List Stmt} {m1 m2 : MS}
end
section
variable {X : Cx} {H0 : Hp} {P : List Addr} {pos : Pos} {e : Expr} {m : MM D} {ml : MM (List D)} {st : Stmt} {rest a b : List Stmt} {m1 m2 : MS}
end
section
variable {X : Cx} {H0 : Hp} {P : List Addr} {pos : Pos} {e : Expr} {m : MM D} {ml : MM (List D)} {st : Stmt} {rest a b : List Stmt} {m1 m2 : MS}
end
section
variable {X : Cx} {H0 : Hp} {P : List Addr} {pos : Pos} {e : Expr} {m : MM D} {ml : MM (List D)} {st : Stmt} {rest a b : List Stmt} {m1 m2 : MS}
end
section
variable {X : Cx} {H0 : Hp} {P : List Addr} {pos : Pos} {e : Expr} {m : MM D} {ml : MM (List D)} {st : Stmt} {rest a b : List Stmt} {m1 m2 : MS}
theorem q_rs_expr (he : Pe X H0 P e m) (hs : swapsWith e none pos.line X.env = pure false := by rfl) : Ps X H0 P (.Expr e pos) (sDrop m) := .mk (rs_expr (he := he.h) (hs := hs))
end
section
variable {X : Cx} {H0 : Hp} {P : List Addr} {pos : Pos} {e : Expr} {m : MM D} {ml : MM (List D)} {st : Stmt} {rest a b : List Stmt} {m1 m2 : MS}
theorem q_rs_ret (he : Pe X H0 P e m) : Ps X H0 P (.Return (some e) pos) (sRet m) := .mk (rs_ret (he := he.h))
end
section
variable {X : Cx} {H0 : Hp} {P : List Addr} {pos : Pos} {e : Expr} {m : MM D} {ml : MM (List D)} {st : Stmt} {rest a b : List Stmt} {m1 m2 : MS}
theorem q_rs_retL (he : Pl X H0 P e ml) : Ps X H0 P (.Return (some e) pos) (sRetL ml) := .mk (rs_retL (he := he.h))
end
section
variable {X : Cx} {H0 : Hp} {P : List Addr} {pos : Pos} {e : Expr} {m : MM D} {ml : MM (List D)} {st : Stmt} {rest a b : List Stmt} {m1 m2 : MS}
theorem q_rs_if {c : Expr} {mc : MM Bool} (hc : Pt X H0 P c mc) (ha : Pss X H0 P a m1) (hb : Pss X H0 P b m2) : Ps X H0 P (.If c a b pos) (sIf mc m1 m2) := .mk (rs_if (hc := hc.h) (ha := ha.h) (hb := hb.h))
end
section
variable {X : Cx} {H0 : Hp} {P : List Addr} {pos : Pos} {e : Expr} {m : MM D} {ml : MM (List D)} {st : Stmt} {rest a b : List Stmt} {m1 m2 : MS}
theorem q_rs_set {i : Nat} {x : Str} {pos' : Pos} (hN : X.N.Nodup) (he : Pe X H0 P e m) (hi : X.N[i]? = some x := by rfl) (hx : Loc X.env.scope x := by first | exact Or.inl rfl | exact Or.inr rfl) (hs : swapsWith e (some (.Name x pos')) pos.line X.env = pure false := by rfl) (hf : X.fn x = true ∨ X.env.scope.names.lookup x = some .local := by first | exact .inl rfl | exact .inr rfl) : Ps X H0 P (.Assign [.Name x pos'] e pos) (sSet i m) := .mk (rs_set (hN := hN) (he := he.h) (hi := hi) (hx := hx) (hs := hs) (hf := hf))
end
section
variable {X : Cx} {H0 : Hp} {P : List Addr} {pos : Pos} {e : Expr} {m : MM D} {ml : MM (List D)} {st : Stmt} {rest a b : List Stmt} {m1 m2 : MS}
theorem q_rs_setL {i : Nat} {x : Str} {pos' : Pos} (hN : X.N.Nodup) (he : Pl X H0 P e ml) (hi : X.N[i]? = some x := by rfl) (hx : Loc X.env.scope x := by first | exact Or.inl rfl | exact Or.inr rfl) (hs : swapsWith e (some (.Name x pos')) pos.line X.env = pure false := by rfl) (hf : X.fn x = true ∨ X.env.scope.names.lookup x = some .local := by first | exact .inl rfl | exact .inr rfl) : Ps X H0 P (.Assign [.Name x pos'] e pos) (sSetL i ml) := .mk (rs_setL (hN := hN) (he := he.h) (hi := hi) (hx := hx) (hs := hs) (hf := hf))
end
section
variable {X : Cx} {H0 : Hp} {P : List Addr} {pos : Pos} {e : Expr} {m : MM D} {ml : MM (List D)} {st : Stmt} {rest a b : List Stmt} {m1 m2 : MS}
theorem q_gm_name {i : Nat} {x : Str} (hN : X.N.Nodup) (hi : X.N[i]? = some x := by rfl) (hx : Loc X.env.scope x := by first | exact Or.inl rfl | exact Or.inr rfl) (hf : X.fn x = true ∨ X.env.scope.names.lookup x = some .local := by first | exact .inl rfl | exact .inr rfl) : Pgm X H0 P (.Name x pos) (gName i) [i] (gN i) := .mk (gm_name (hN := hN) (hi := hi) (hx := hx) (hf := hf))
end
section
variable {X : Cx} {H0 : Hp} {P : List Addr} {pos : Pos} {e : Expr} {m : MM D} {ml : MM (List D)} {st : Stmt} {rest a b : List Stmt} {m1 m2 : MS}
theorem q_gms_nil  : Pgms X H0 P [] gNil [] := .mk (gms_nil )
end
section
variable {X : Cx} {H0 : Hp} {P : List Addr} {pos : Pos} {e : Expr} {m : MM D} {ml : MM (List D)} {st : Stmt} {rest a b : List Stmt} {m1 m2 : MS}
theorem q_gms_cons {i : Nat} {is : List Nat} {tg : Expr} {ts : List Expr} {g : TG} {gr : TGs} (h1 : Pgm X H0 P tg g [i] (gN i)) (h2 : Pgms X H0 P ts gr is) (hs : (assignEach (tg :: ts) X.env).map (·.2) = assign tg X.env :: (assignEach ts X.env).map (·.2) := by rfl) : Pgms X H0 P (tg :: ts) (gCons g gr) (i :: is) := .mk (gms_cons (h1 := h1.h) (h2 := h2.h) (hs := hs))
end
section
variable {X : Cx} {H0 : Hp} {P : List Addr} {pos : Pos} {e : Expr} {m : MM D} {ml : MM (List D)} {st : Stmt} {rest a b : List Stmt} {m1 m2 : MS}
theorem q_gm_tup {ts : List Expr} {k : Nat} {g : TGs} {is : List Nat} (hc : X.calm = true) (h : Pgms X H0 P ts g is) (hn : (assignEach ts X.env).length = is.length := by rfl) (hst : (assignEach ts X.env).findIdx? (·.1) = none := by rfl) : Pgm X H0 P (.Tuple ts k pos) (gTup X.K is.length g) is (gT is) := .mk (gm_tup (hc := hc) (h := h.h) (hn := hn) (hst := hst))
end
section
variable {X : Cx} {H0 : Hp} {P : List Addr} {pos : Pos} {e : Expr} {m : MM D} {ml : MM (List D)} {st : Stmt} {rest a b : List Stmt} {m1 m2 : MS}
end
section
variable {X : Cx} {H0 : Hp} {P : List Addr} {pos : Pos} {e : Expr} {m : MM D} {ml : MM (List D)} {st : Stmt} {rest a b : List Stmt} {m1 m2 : MS}
variable {tg iter : Expr} {g : TG} {f : D → En → Option En} {body : List Stmt} {mb : MS}
theorem q_im_seq (he : Pe X H0 P iter m) : Pim X H0 P tg iter (iSeq X.K (tR (wd X H0 P) m)) (msSeq m) := .mk (im_seq (he := he.h))
end
section
variable {X : Cx} {H0 : Hp} {P : List Addr} {pos : Pos} {e : Expr} {m : MM D} {ml : MM (List D)} {st : Stmt} {rest a b : List Stmt} {m1 m2 : MS}
variable {tg iter : Expr} {g : TG} {f : D → En → Option En} {body : List Stmt} {mb : MS}
theorem q_im_rng {ea : Expr} {mr : MM (List D)} {p1 p2 : Pos} (hgl : Gl X "range") (hm : X.mg "range" = none) (he : Pa X H0 P [ea] mr) (hse : starEach [ea] X.env = [(false, eval ea X.env)] := by rfl) : Pim X H0 P tg (.Call (.Name "range" p1) [ea] [] p2) (iRng1 (tA (wd X H0 P) mr)) (msRng mr) := .mk (im_rng (hgl := hgl) (hm := hm) (he := he.h) (hse := hse))
end
section
variable {X : Cx} {H0 : Hp} {P : List Addr} {pos : Pos} {e : Expr} {m : MM D} {ml : MM (List D)} {st : Stmt} {rest a b : List Stmt} {m1 m2 : MS}
variable {tg iter : Expr} {g : TG} {f : D → En → Option En} {body : List Stmt} {mb : MS}
end
section
variable {X : Cx} {H0 : Hp} {P : List Addr} {pos : Pos} {e : Expr} {m : MM D} {ml : MM (List D)} {st : Stmt} {rest a b : List Stmt} {m1 m2 : MS}
variable {tg iter : Expr} {g : TG} {f : D → En → Option En} {body : List Stmt} {mb : MS}
theorem q_rs_for {wi : TI} {is : List Nat} {ms : MM (List D)} (hp : PassesOwn (model X.prog X.w) X.A X.env X.xe) (hc : X.calm = true) (hi : Pim X H0 P tg iter wi ms) (hg : Pgm X H0 P tg g is f) (hb : Pss X H0 P body mb) (hsf : ∀ x, foldedSetIterable iter X.env x = pure x := by intro _; rfl) : Ps X H0 P (.For tg iter body [] pos) (sFor ms f mb) := .mk (rs_for (hp := hp) (hc := hc) (hi := hi.h) (hg := hg.h) (hb := hb.h) (hsf := hsf))
end
section
variable {X : Cx} {H0 : Hp} {P : List Addr} {pos : Pos} {e : Expr} {m : MM D} {ml : MM (List D)} {st : Stmt} {rest a b : List Stmt} {m1 m2 : MS}
variable {tg iter : Expr} {g : TG} {f : D → En → Option En} {body : List Stmt} {mb : MS}
theorem q_rs_while (N : Nat) {c : Expr} {mc : MM Bool} (hp : PassesOwn (model X.prog X.w) X.A X.env X.xe) (hc : Pt X H0 P c mc) (hb : Pss X H0 P body mb) : Ps X H0 P (.While c body [] pos) (whileD mc mb N) := .mk (rs_while (N := N) (hp := hp) (hc := hc.h) (hb := hb.h))
end
section
variable {X : Cx} {H0 : Hp} {P : List Addr} {pos : Pos} {tg iter elt : Expr} {ifs : List Expr} {scope : Scope} {own : List (Str × Nat)} {wi : TI} {g : TG} {is : List Nat} {f : D → En → Option En} {ms : MM (List D)} {mt : MM Bool} {me : MM D}
theorem q_rts_nil  : Pts X H0 P [] mYes := .mk (rts_nil )
end
section
variable {X : Cx} {H0 : Hp} {P : List Addr} {pos : Pos} {tg iter elt : Expr} {ifs : List Expr} {scope : Scope} {own : List (Str × Nat)} {wi : TI} {g : TG} {is : List Nat} {f : D → En → Option En} {ms : MM (List D)} {mt : MM Bool} {me : MM D}
theorem q_rts_one {c : Expr} (h : Pt X H0 P c mt) : Pts X H0 P [c] mt := .mk (rts_one (h := h.h))
end
section
variable {X : Cx} {H0 : Hp} {P : List Addr} {pos : Pos} {tg iter elt : Expr} {ifs : List Expr} {scope : Scope} {own : List (Str × Nat)} {wi : TI} {g : TG} {is : List Nat} {f : D → En → Option En} {ms : MM (List D)} {mt : MM Bool} {me : MM D}
theorem q_rl_lc (hc : X.calm = true) (hN : X.N.Nodup) (hi : Pim X H0 P tg iter wi ms) (ok : BlkOk X.N X.env.scope scope own) (hg : ∀ (s : Shared) (H : Hp) (C : Addr) (cl : List (Str × Addr)) (fp : List Addr), Pgm (X.blk s H scope (compEnvC scope cl C X.env) fp) H0 P tg g is f) (ht : ∀ (s : Shared) (H : Hp) (C : Addr) (cl : List (Str × Addr)) (fp : List Addr), Pts (X.blk s H scope (compEnvC scope cl C X.env) fp) H0 P ifs mt) (he : ∀ (s : Shared) (H : Hp) (C : Addr) (cl : List (Str × Addr)) (fp : List Addr), Pe (X.blk s H scope (compEnvC scope cl C X.env) fp) H0 P elt me) (hsub : ∀ i ∈ is, i ∈ own.map (·.2)) (hown : ∀ d ρ ρ', f d ρ = some ρ' → ∀ (j : Nat) (s : S1), ρ'[j]? = some (some s) → s.own = true → ρ[j]? = some (some s)) (hs : ∀ x, foldedSetIterable iter X.env x = pure x := by intro _; rfl) : Pl X H0 P (.ListComp elt [⟨tg, iter, ifs, 0⟩] scope pos) (mLc (own.map (·.2)) ms f mt me) := .mk (rl_lc (hc := hc) (hN := hN) (hi := hi.h) (ok := ok) (hg := fun s H C cl fp => (hg s H C cl fp).h) (ht := fun s H C cl fp => (ht s H C cl fp).h) (he := fun s H C cl fp => (he s H C cl fp).h) (hsub := hsub) (hown := hown) (hs := hs))
end
section
variable {X : Cx} {H0 : Hp} {P : List Addr} {pos : Pos} {tg iter elt : Expr} {ifs : List Expr} {scope : Scope} {own : List (Str × Nat)} {wi : TI} {g : TG} {is : List Nat} {f : D → En → Option En} {ms : MM (List D)} {mt : MM Bool} {me : MM D}
theorem q_rs_setLc {i : Nat} {y : Str} {py spos : Pos} (hc : X.calm = true) (hN : X.N.Nodup) (hi : Pim X H0 P tg iter wi ms) (ok : BlkOk X.N X.env.scope scope own) (hg : ∀ (s : Shared) (H : Hp) (C : Addr) (cl : List (Str × Addr)) (fp : List Addr), Pgm (X.blk s H scope (compEnvC scope cl C X.env) fp) H0 P tg g is f) (ht : ∀ (s : Shared) (H : Hp) (C : Addr) (cl : List (Str × Addr)) (fp : List Addr), Pts (X.blk s H scope (compEnvC scope cl C X.env) fp) H0 P ifs mt) (he : ∀ (s : Shared) (H : Hp) (C : Addr) (cl : List (Str × Addr)) (fp : List Addr), Pe (X.blk s H scope (compEnvC scope cl C X.env) fp) H0 P elt me) (hsub : ∀ i ∈ is, i ∈ own.map (·.2)) (hown : ∀ d ρ ρ', f d ρ = some ρ' → ∀ (j : Nat) (s : S1), ρ'[j]? = some (some s) → s.own = true → ρ[j]? = some (some s)) (hsw : swapsWith (.ListComp elt [⟨tg, iter, ifs, 0⟩] scope pos) (some (.Name y py)) spos.line X.env = pure true) (hy : X.N[i]? = some y := by rfl) (hyl : X.env.scope.names.lookup y = some .local := by rfl) (hs : ∀ x, foldedSetIterable iter X.env x = pure x := by intro _; rfl) : Ps X H0 P (.Assign [.Name y py] (.ListComp elt [⟨tg, iter, ifs, 0⟩] scope pos) spos) (sSetL i (mLc (own.map (·.2)) ms f mt me)) := .mk (rs_setLc (hc := hc) (hN := hN) (hi := hi.h) (ok := ok) (hg := fun s H C cl fp => (hg s H C cl fp).h) (ht := fun s H C cl fp => (ht s H C cl fp).h) (he := fun s H C cl fp => (he s H C cl fp).h) (hsub := hsub) (hown := hown) (hsw := hsw) (hy := hy) (hyl := hyl) (hs := hs))
end
section
variable {X : Cx} {H0 : Hp} {P : List Addr} {pos p py gpos : Pos} {T : List Addr} {y : Str} {iter elt : Expr} {scope : Scope} {f : D → Option Bool} {m : MM D} {k : Nat}
end
section
variable {X : Cx} {H0 : Hp} {P : List Addr} {pos p py gpos : Pos} {T : List Addr} {y : Str} {iter elt : Expr} {scope : Scope} {f : D → Option Bool} {m : MM D} {k : Nat}
end
section
variable {X : Cx} {H0 : Hp} {P : List Addr} {pos : Pos} {e : Expr} {m : MM D} {x : Str} {p1 : Pos}
theorem q_re_dget (i : Nat) {k : Str} {j} {p2 : Pos} (hu : X.A.units + 1 < cLine) (hN : X.N[i]? = some x := by rfl) (hv : Vis X.env.scope x := by first | exact Or.inl rfl | exact Or.inr (Or.inl rfl) | exact Or.inr (Or.inr rfl)) (hd : (x == ("__debug__" : Str)) = false := by decide) (hcd : (x == ("__classdict__" : Str)) = false := by decide) (hs : NoSl (.Constant (.str k) j p2) := by intro _ _; rfl) : Pe X H0 P (.Subscript (.Name x p1) (.Constant (.str k) j p2) pos) (mDG i k) := .mk (re_dget (i := i) (hu := hu) (hN := hN) (hv := hv) (hd := hd) (hcd := hcd) (hs := hs))
end
section
variable {X : Cx} {H0 : Hp} {P : List Addr} {pos : Pos} {e : Expr} {m : MM D} {x : Str} {p1 : Pos}
theorem q_rs_dset (i : Nat) {k : Str} {j} {p2 pos' : Pos} (hu : X.A.units + 1 < cLine) (he : Pe X H0 P e m) (hN : X.N[i]? = some x := by rfl) (hv : Vis X.env.scope x := by first | exact Or.inl rfl | exact Or.inr (Or.inl rfl) | exact Or.inr (Or.inr rfl)) (hd : (x == ("__debug__" : Str)) = false := by decide) (hcd : (x == ("__classdict__" : Str)) = false := by decide) (hs : swapsWith e (some (.Subscript (.Name x p1) (.Constant (.str k) j p2) pos')) pos.line X.env = pure false := by rfl) : Ps X H0 P (.Assign [.Subscript (.Name x p1) (.Constant (.str k) j p2) pos'] e pos) (sDP i k m) := .mk (rs_dset (i := i) (hu := hu) (he := he.h) (hN := hN) (hv := hv) (hd := hd) (hcd := hcd) (hs := hs))
end
section
variable {X : Cx} {H0 : Hp} {P : List Addr} {pos : Pos} {e : Expr} {m : MM D} {x : Str} {p1 : Pos}
theorem q_rs_setD {i : Nat} {ks : List (Option Expr)} {es : List Expr} {ms : List (Str × MM D)} {pos' pos2 : Pos} (hN : X.N.Nodup) (h0 : P.length ≤ i) (h : Ppm X H0 P pos2 ks es ms) (h15 : ms.length ≤ 15) (hall : ks.all (·.isSome) = true := by rfl) (hl : ks.length = es.length := by rfl) (hne : ks ≠ [] := by intro z; cases z) (hk15 : ks.length ≤ 15 := by decide) (hi : X.N[i]? = some x := by rfl) (hx : Loc X.env.scope x := by first | exact Or.inl rfl | exact Or.inr rfl) (hs : swapsWith (.Dict ks es pos2) (some (.Name x pos')) pos.line X.env = pure false := by rfl) (hf : X.fn x = true ∨ X.env.scope.names.lookup x = some .local := by first | exact .inl rfl | exact .inr rfl) : Ps X H0 P (.Assign [.Name x pos'] (.Dict ks es pos2) pos) (sSetD i ms) := .mk (rs_setD (hN := hN) (h0 := h0) (h := h.h) (h15 := h15) (hall := hall) (hl := hl) (hne := hne) (hk15 := hk15) (hi := hi) (hx := hx) (hs := hs) (hf := hf))
end
section
variable {X : Cx} {H0 : Hp} {P : List Addr} {pos : Pos} {e : Expr} {m : MM D} {x : Str} {p1 : Pos}
variable {Pr : Program} {w : World} {K : PySem.W.Frag} {mg : Str → Option Value} {base : Heap}
variable {k n : Nat} {f : Addr} {fd : FuncData} {ps : List Str} {mf : List D → Re} {es : List Expr} {mr : MM (List D)} {p : Pos}
theorem q_re_call {T : List Addr} (F : FnOk X.prog X.w X.K X.mg X.base CX0 k f fd ps (spI T X.K n mf)) (hr : Room k X.A) (hT : TbW T H0 P) (hg : Gl X x) (hm : X.mg x = some (.ref f)) (hk : PySem.W.keepIn X.K (.ref f) = true) (hb : Binds X.K fd ps []) (hn : (e :: es).length = n) (ha : Pa X H0 P (e :: es) mr) (hlen : ∀ ρ ds ρ', mr ρ = .ok ds ρ' → ds.length = (e :: es).length) (hdb : (x == ("__debug__" : Str)) = false := by decide) (he : starEach (e :: es) X.env = (false, eval e X.env) :: starEach es X.env := by rfl) (hpl : (backTo pos (starEach es X.env)).any (·.1) = false := by rfl) : Pe X H0 P (.Call (.Name x p) (e :: es) [] pos) (mCF mf mr) := .mk (re_call (F := F) (hr := hr) (hT := hT) (hg := hg) (hm := hm) (hk := hk) (hb := hb) (hn := hn) (ha := ha.h) (hlen := hlen) (hdb := hdb) (he := he) (hpl := hpl))
end
section
variable {X : Cx} {H0 : Hp} {P : List Addr} {pos : Pos} {e : Expr} {m : MM D} {x : Str} {p1 : Pos}
variable {Pr : Program} {w : World} {K : PySem.W.Frag} {mg : Str → Option Value} {base : Heap}
variable {k n : Nat} {f : Addr} {fd : FuncData} {ps : List Str} {mf : List D → Re} {es : List Expr} {mr : MM (List D)} {p : Pos}
theorem q_rl_call {T : List Addr} (F : FnOk X.prog X.w X.K X.mg X.base CX0 k f fd ps (spI T X.K n mf)) (hr : Room k X.A) (hT : TbW T H0 P) (hg : Gl X x) (hm : X.mg x = some (.ref f)) (hk : PySem.W.keepIn X.K (.ref f) = true) (hb : Binds X.K fd ps []) (hn : (e :: es).length = n) (ha : Pa X H0 P (e :: es) mr) (hlen : ∀ ρ ds ρ', mr ρ = .ok ds ρ' → ds.length = (e :: es).length) (hdb : (x == ("__debug__" : Str)) = false := by decide) (he : starEach (e :: es) X.env = (false, eval e X.env) :: starEach es X.env := by rfl) (hpl : (backTo pos (starEach es X.env)).any (·.1) = false := by rfl) : Pl X H0 P (.Call (.Name x p) (e :: es) [] pos) (mCFL mf mr) := .mk (rl_call (F := F) (hr := hr) (hT := hT) (hg := hg) (hm := hm) (hk := hk) (hb := hb) (hn := hn) (ha := ha.h) (hlen := hlen) (hdb := hdb) (he := he) (hpl := hpl))
end
section
variable {X : Cx} {H0 : Hp} {P : List Addr} {pos : Pos} {e : Expr} {m : MM D} {x y : Str} {p1 p : Pos} {k n : Nat} {f : Addr} {fd : FuncData} {ps : List Str} {mf : List (Str × D) → List D → ReS} {es : List Expr} {mr : MM (List D)}
theorem q_re_callS {T : List Addr} (i : Nat) (F : FnOk X.prog X.w X.K X.mg X.base CX0 k f fd ps (spD T X.K n mf)) (hr : Room k X.A) (hT : TbW T H0 P) (hg : Gl X x) (hm : X.mg x = some (.ref f)) (hk : PySem.W.keepIn X.K (.ref f) = true) (hb : Binds X.K fd ps []) (hn : es.length + 1 = n) (ha : Pa X H0 P es mr) (hlen : ∀ ρ ds ρ', mr ρ = .ok ds ρ' → ds.length = es.length) (hN : X.N[i]? = some y := by rfl) (hv : Vis X.env.scope y := by first | exact Or.inl rfl | exact Or.inr (Or.inl rfl) | exact Or.inr (Or.inr rfl)) (hd : (y == ("__debug__" : Str)) = false := by decide) (hcd : (y == ("__classdict__" : Str)) = false := by decide) (hdb : (x == ("__debug__" : Str)) = false := by decide) (he : starEach (.Name y p1 :: es) X.env = (false, eval (.Name y p1) X.env) :: starEach es X.env := by rfl) (hpl : (backTo pos (starEach es X.env)).any (·.1) = false := by rfl) : Pe X H0 P (.Call (.Name x p) (.Name y p1 :: es) [] pos) (mCS i mf mr) := .mk (re_callS (i := i) (F := F) (hr := hr) (hT := hT) (hg := hg) (hm := hm) (hk := hk) (hb := hb) (hn := hn) (ha := ha.h) (hlen := hlen) (hN := hN) (hv := hv) (hd := hd) (hcd := hcd) (hdb := hdb) (he := he) (hpl := hpl))
end
section
variable {X : Cx} {H0 : Hp} {P : List Addr} {pos : Pos} {e : Expr} {m : MM D} {x y : Str} {p1 p : Pos} {k n : Nat} {f : Addr} {fd : FuncData} {ps : List Str} {mf : List (Str × D) → List D → ReS} {es : List Expr} {mr : MM (List D)}
end
section
variable {X : Cx} {H0 : Hp} {P : List Addr} {pos : Pos} {a b e : Expr} {ma mb m : MM D}
end
section
variable {X : Cx} {H0 : Hp} {P : List Addr} {pos : Pos} {a b e : Expr} {ma mb m : MM D}
theorem q_rl_cat (ha : Pe X H0 P a ma) (hb : Pe X H0 P b mb) : Pl X H0 P (.BinOp a .Add b pos) (mBinL fCat ma mb) := .mk (rl_cat (ha := ha.h) (hb := hb.h))
end
section
variable {X : Cx} {H0 : Hp} {P : List Addr} {pos : Pos} {a b e : Expr} {ma mb m : MM D}
theorem q_re_neg (ha : Pe X H0 P a ma) : Pe X H0 P (.UnaryOp .USub a pos) (mUn fNeg ma) := .mk (re_neg (ha := ha.h))
end
section
variable {X : Cx} {H0 : Hp} {P : List Addr} {pos apos : Pos} {a b e : Expr} {ma mb m : MM D}
end
section
variable {X : Cx} {H0 : Hp} {P : List Addr} {pos apos : Pos} {a b e : Expr} {ma mb m : MM D}
end
section
variable {X : Cx} {H0 : Hp} {P : List Addr} {pos apos : Pos} {a b e : Expr} {ma mb m : MM D}
end
section
variable {X : Cx} {H0 : Hp} {P : List Addr} {e iter tg : Expr} {m : MM D}
end
section
variable {X : Cx} {H0 : Hp} {P : List Addr} {e iter tg : Expr} {m : MM D}
end
section
variable {X : Cx} {H0 : Hp} {P : List Addr} {tg : Expr}
end
section
variable {X : Cx} {H0 : Hp} {P : List Addr} {tg : Expr}
end
section
variable {X : Cx} {H0 : Hp} {P : List Addr} {pos p py gpos : Pos} {T : List Addr} {y : Str} {iter elt : Expr} {scope : Scope} {me : MM D} {ms : MM (List D)} {wi : TI} {k : Nat}
end
section
variable {X : Cx} {H0 : Hp} {P : List Addr} {pos p py gpos : Pos} {T : List Addr} {y : Str} {iter elt : Expr} {scope : Scope} {me : MM D} {ms : MM (List D)} {wi : TI} {k : Nat}
end
section
variable {X : Cx} {H0 : Hp} {P : List Addr} {pos p1 : Pos} {x : Str} {e : Expr} {m : MM D}
end
section
variable {X : Cx} {H0 : Hp} {P : List Addr} {pos p1 : Pos} {x : Str} {e : Expr} {m : MM D}
end
section
variable {X : Cx} {H0 : Hp} {P : List Addr} {pos p1 : Pos} {x : Str} {e : Expr} {m : MM D}
end
section
variable {X : Cx} {H0 : Hp} {P : List Addr} {pos p1 : Pos} {x : Str} {e : Expr} {m : MM D}
end
section
variable {X : Cx} {H0 : Hp} {P : List Addr} {pos p1 : Pos} {x : Str} {e : Expr} {m : MM D}
end
section
variable {X : Cx} {H0 : Hp} {P : List Addr} {pos p1 : Pos} {x : Str} {e : Expr} {m : MM D}
variable {k n : Nat} {f : Addr} {fd : FuncData} {ps : List Str} {mf : List (Str × D) → List D → ReS} {es : List Expr} {mr : MM (List D)} {p : Pos}
end
section
variable {X : Cx} {H0 : Hp} {P : List Addr} {pos p1 : Pos} {x : Str} {e : Expr} {m : MM D}
end
section
variable {X : Cx} {H0 : Hp} {P : List Addr} {pos p1 : Pos} {x : Str} {e : Expr} {m : MM D}
end
section
variable {X : Cx} {H0 : Hp} {P : List Addr} {pos p1 : Pos} {x : Str} {e : Expr} {m : MM D}
end
section
variable {X : Cx} {H0 : Hp} {P : List Addr} {pos p1 : Pos} {x : Str} {e : Expr} {m : MM D}
end
section
variable {X : Cx} {H0 : Hp} {P : List Addr} {pos p1 : Pos} {x : Str} {e : Expr} {m : MM D}
end
section
variable {X : Cx} {H0 : Hp} {P : List Addr} {pos p1 p2 : Pos} {x : Str} {a b e : Expr} {ma mb m : MM D}
end
section
variable {X : Cx} {H0 : Hp} {P : List Addr} {pos p1 p2 : Pos} {x : Str} {a b e : Expr} {ma mb m : MM D}
end
section
variable {X : Cx} {H0 : Hp} {P : List Addr} {pos p1 p2 : Pos} {x : Str} {a b e : Expr} {ma mb m : MM D}
end
section
variable {X : Cx} {H0 : Hp} {P : List Addr} {pos p1 p2 : Pos} {x : Str} {a b e : Expr} {ma mb m : MM D}
end
section
variable {X : Cx} {H0 : Hp} {P : List Addr} {pos p1 p2 : Pos} {x : Str} {a b e : Expr} {ma mb m : MM D}
end
section
variable {X : Cx} {H0 : Hp} {P : List Addr} {pos p1 p2 : Pos} {x : Str} {a b e : Expr} {ma mb m : MM D}
end
section

end
section
variable {X : Cx} {H0 : Hp} {P : List Addr} {pos p1 p2 : Pos} {x : Str} {a b e : Expr} {ma mb m : MM D}
variable {es : List Expr} {mr : MM (List D)} {p : Pos} {id : String}
end
section
variable {X : Cx} {H0 : Hp} {P : List Addr} {pos p1 p2 : Pos} {x : Str} {a b e : Expr} {ma mb m : MM D}
variable {es : List Expr} {mr : MM (List D)} {p : Pos} {id : String}
end
section
variable {X : Cx} {H0 : Hp} {P : List Addr} {pos p1 p2 : Pos} {x : Str} {a b e : Expr} {ma mb m : MM D}
end
section
variable {X : Cx} {H0 : Hp} {P : List Addr} {pos p1 p2 : Pos} {x : Str} {a b e : Expr} {ma mb m : MM D}
end
section
variable {X : Cx} {H0 : Hp} {P : List Addr} {pos : Pos} {e b : Expr} {m mb : MM D} {ml : MM (List D)} {x y : Str} {p1 p : Pos} {k n : Nat} {f : Addr} {fd : FuncData} {ps : List Str} {mf : List D → List D → ReB} {es : List Expr} {mr : MM (List D)}
theorem q_re_callBx {T : List Addr} (i : Nat) (F : FnOk X.prog X.w X.K X.mg X.base CX0 k f fd ps (spB T X.K n mf)) (hr : Room k X.A) (hT : TbW T H0 P) (hg : Gl X x) (hm : X.mg x = some (.ref f)) (hk : PySem.W.keepIn X.K (.ref f) = true) (hb : Binds X.K fd ps []) (hn : es.length + 1 = n) (ha : Pa X H0 P es mr) (hlen : ∀ ρ ds ρ', mr ρ = .ok ds ρ' → ds.length = es.length) (hN : X.N[i]? = some y := by rfl) (hv : Vis X.env.scope y := by first | exact Or.inl rfl | exact Or.inr (Or.inl rfl) | exact Or.inr (Or.inr rfl)) (hd : (y == ("__debug__" : Str)) = false := by decide) (hcd : (y == ("__classdict__" : Str)) = false := by decide) (hdb : (x == ("__debug__" : Str)) = false := by decide) (he : starEach (.Name y p1 :: es) X.env = (false, eval (.Name y p1) X.env) :: starEach es X.env := by rfl) (hpl : (backTo pos (starEach es X.env)).any (·.1) = false := by rfl) : Pe X H0 P (.Call (.Name x p) (.Name y p1 :: es) [] pos) (mCB i mf mr) := .mk (re_callBx (i := i) (F := F) (hr := hr) (hT := hT) (hg := hg) (hm := hm) (hk := hk) (hb := hb) (hn := hn) (ha := ha.h) (hlen := hlen) (hN := hN) (hv := hv) (hd := hd) (hcd := hcd) (hdb := hdb) (he := he) (hpl := hpl))
end
section
variable {X : Cx} {H0 : Hp} {P : List Addr} {pos : Pos} {e b : Expr} {m mb : MM D} {ml : MM (List D)} {x y : Str} {p1 p : Pos} {k n : Nat} {f : Addr} {fd : FuncData} {ps : List Str} {mf : List D → List D → ReB} {es : List Expr} {mr : MM (List D)}
theorem q_rl_callBx {T : List Addr} (i : Nat) (F : FnOk X.prog X.w X.K X.mg X.base CX0 k f fd ps (spB T X.K n mf)) (hr : Room k X.A) (hT : TbW T H0 P) (hg : Gl X x) (hm : X.mg x = some (.ref f)) (hk : PySem.W.keepIn X.K (.ref f) = true) (hb : Binds X.K fd ps []) (hn : es.length + 1 = n) (ha : Pa X H0 P es mr) (hlen : ∀ ρ ds ρ', mr ρ = .ok ds ρ' → ds.length = es.length) (hN : X.N[i]? = some y := by rfl) (hv : Vis X.env.scope y := by first | exact Or.inl rfl | exact Or.inr (Or.inl rfl) | exact Or.inr (Or.inr rfl)) (hd : (y == ("__debug__" : Str)) = false := by decide) (hcd : (y == ("__classdict__" : Str)) = false := by decide) (hdb : (x == ("__debug__" : Str)) = false := by decide) (he : starEach (.Name y p1 :: es) X.env = (false, eval (.Name y p1) X.env) :: starEach es X.env := by rfl) (hpl : (backTo pos (starEach es X.env)).any (·.1) = false := by rfl) : Pl X H0 P (.Call (.Name x p) (.Name y p1 :: es) [] pos) (mCBL i mf mr) := .mk (rl_callBx (i := i) (F := F) (hr := hr) (hT := hT) (hg := hg) (hm := hm) (hk := hk) (hb := hb) (hn := hn) (ha := ha.h) (hlen := hlen) (hN := hN) (hv := hv) (hd := hd) (hcd := hcd) (hdb := hdb) (he := he) (hpl := hpl))
end
section
variable {X : Cx} {H0 : Hp} {P : List Addr} {pos : Pos} {e b : Expr} {m mb : MM D} {ml : MM (List D)} {x y : Str} {p1 p : Pos} {k n : Nat} {f : Addr} {fd : FuncData} {ps : List Str} {mf : List D → List D → ReB} {es : List Expr} {mr : MM (List D)}
theorem q_re_ixB (i : Nat) {x : Str} {p1 : Pos} (hb : Pe X H0 P b mb) (hs : PlainIx b := by intro _ _; rfl) (hN : X.N[i]? = some x := by rfl) (hv : Vis X.env.scope x := by first | exact Or.inl rfl | exact Or.inr (Or.inl rfl) | exact Or.inr (Or.inr rfl)) (hd : (x == ("__debug__" : Str)) = false := by decide) (hcd : (x == ("__classdict__" : Str)) = false := by decide) : Pe X H0 P (.Subscript (.Name x p1) b pos) (mIxB i mb) := .mk (re_ixB (i := i) (hb := hb.h) (hs := hs) (hN := hN) (hv := hv) (hd := hd) (hcd := hcd))
end
section
variable {X : Cx} {H0 : Hp} {P : List Addr} {pos : Pos} {e b : Expr} {m mb : MM D} {ml : MM (List D)} {x y : Str} {p1 p : Pos} {k n : Nat} {f : Addr} {fd : FuncData} {ps : List Str} {mf : List D → List D → ReB} {es : List Expr} {mr : MM (List D)}
theorem q_rs_setB {i : Nat} {x : Str} {pos' : Pos} (hN : X.N.Nodup) (h0 : P.length ≤ i) (he : Pl X H0 P e ml) (hi : X.N[i]? = some x := by rfl) (hx : Loc X.env.scope x := by first | exact Or.inl rfl | exact Or.inr rfl) (hs : swapsWith e (some (.Name x pos')) pos.line X.env = pure false := by rfl) (hf : X.fn x = true ∨ X.env.scope.names.lookup x = some .local := by first | exact .inl rfl | exact .inr rfl) : Ps X H0 P (.Assign [.Name x pos'] e pos) (sSetB i ml) := .mk (rs_setB (hN := hN) (h0 := h0) (he := he.h) (hi := hi) (hx := hx) (hs := hs) (hf := hf))
end
section
variable {X : Cx} {H0 : Hp} {P : List Addr} {pos : Pos} {e b : Expr} {m mb : MM D} {ml : MM (List D)} {x y : Str} {p1 p : Pos} {k n : Nat} {f : Addr} {fd : FuncData} {ps : List Str} {mf : List D → List D → ReB} {es : List Expr} {mr : MM (List D)}
theorem q_rs_bset (i : Nat) {j : Int} {jj} {p2 pos' : Pos} (he : Pe X H0 P e m) (hN : X.N[i]? = some x := by rfl) (hv : Vis X.env.scope x := by first | exact Or.inl rfl | exact Or.inr (Or.inl rfl) | exact Or.inr (Or.inr rfl)) (hd : (x == ("__debug__" : Str)) = false := by decide) (hcd : (x == ("__classdict__" : Str)) = false := by decide) (ha : ∀ v, assign (.Subscript (.Name x p1) (.Constant (.int j) jj p2) pos') X.env v = (do
      let ov ← holding [v] (eval (.Name x p1) X.env)
      let iv ← holding [v, ov] (eval (.Constant (.int j) jj p2) X.env)
      standAt pos'
      holding [v, ov, iv] (setItem ov iv v)
      release [v, ov, iv] []) := by intro _; rfl) (hs : swapsWithSole [.Subscript (.Name x p1) (.Constant (.int j) jj p2) pos'] e pos.line X.env = pure false := by rfl) (hw : swappedStores [.Subscript (.Name x p1) (.Constant (.int j) jj p2) pos'] e X.env = pure none := by rfl) (h1 : (assignEach [.Subscript (.Name x p1) (.Constant (.int j) jj p2) pos'] X.env).map (·.2) = [assign (.Subscript (.Name x p1) (.Constant (.int j) jj p2) pos') X.env] := by rfl) : Ps X H0 P (.Assign [.Subscript (.Name x p1) (.Constant (.int j) jj p2) pos'] e pos) (sBx i j m) := .mk (rs_bset (i := i) (he := he.h) (hN := hN) (hv := hv) (hd := hd) (hcd := hcd) (ha := ha) (hs := hs) (hw := hw) (h1 := h1))
end
section
variable {X : Cx}
variable {H0 : Hp} {P : List Addr} {e : Expr} {m : MM D}
end
section
variable {X : Cx} {e es : Expr} {te ts : TE} {pos p2 : Pos}
variable {H0 : Hp} {P : List Addr} {m ms : MM D}
theorem q_rl_rev (he : Pe X H0 P e m) (hs : Pe X H0 P es ms) : Pl X H0 P (.Subscript e (.Slice none none (some es) p2) pos) (mRevL m ms) := .mk (rl_rev (he := he.h) (hs := hs.h))
end
section
variable {X : Cx} {H0 : Hp} {P : List Addr} {pos : Pos} {tg iter kx vx : Expr} {ifs : List Expr} {scope : Scope} {own : List (Str × Nat)} {wi : TI} {g : TG} {is : List Nat} {f : D → En → Option En} {ms : MM (List D)} {mt : MM Bool} {mk mv : MM D}
end
section
variable {X : Cx} {H0 : Hp} {P : List Addr} {e : Expr} {es : List Expr} {m : MM D} {r : Str → MM Str} {pos : Pos}
end
section
variable {X : Cx} {H0 : Hp} {P : List Addr} {e : Expr} {es : List Expr} {m : MM D} {r : Str → MM Str} {pos : Pos}
end
section
variable {X : Cx} {H0 : Hp} {P : List Addr} {e : Expr} {es : List Expr} {m : MM D} {r : Str → MM Str} {pos : Pos}
end
section
variable {X : Cx} {H0 : Hp} {P : List Addr} {e : Expr} {es : List Expr} {m : MM D} {r : Str → MM Str} {pos : Pos}
end
section
variable {X : Cx} {H0 : Hp} {P : List Addr} {e : Expr} {es : List Expr} {m : MM D} {r : Str → MM Str} {pos : Pos}
end
section
variable {X : Cx} {H0 : Hp} {P : List Addr} {e : Expr} {es : List Expr} {m : MM D} {r : Str → MM Str} {pos : Pos}
theorem q_im_rng2 {ea eb tg : Expr} {mr : MM (List D)} {p1 p2 : Pos} (hgl : Gl X "range") (hm : X.mg "range" = none) (he : Pa X H0 P [ea, eb] mr) (hse : starEach [ea, eb] X.env = [(false, eval ea X.env), (false, eval eb X.env)] := by rfl) (hse2 : starEach [eb] X.env = [(false, eval eb X.env)] := by rfl) : Pim X H0 P tg (.Call (.Name "range" p1) [ea, eb] [] p2) (iRng2 (tA (wd X H0 P) mr)) (msRg2 mr) := .mk (im_rng2 (hgl := hgl) (hm := hm) (he := he.h) (hse := hse) (hse2 := hse2))
end
section
variable {X : Cx} {H0 : Hp} {P : List Addr} {e : Expr} {es : List Expr} {m : MM D} {r : Str → MM Str} {pos : Pos}
end
section
variable {X : Cx} {H0 : Hp} {P : List Addr} {e : Expr} {es : List Expr} {m : MM D} {r : Str → MM Str} {pos : Pos}
end
section
variable {X : Cx} {H0 : Hp} {P : List Addr} {e : Expr} {es : List Expr} {m : MM D} {r : Str → MM Str} {pos : Pos}
end
section
variable {X : Cx} {H0 : Hp} {P : List Addr} {e : Expr} {es : List Expr} {m : MM D} {r : Str → MM Str} {pos : Pos}
end
section
variable {X : Cx} {H0 : Hp} {P : List Addr} {pos : Pos} {e b : Expr} {m mb : MM D} {x y y2 : Str} {p1 p2 p : Pos} {k n : Nat} {f : Addr} {fd : FuncData} {ps : List Str} {mf : List D → List (Str × D) → List D → ReM} {es : List Expr} {mr : MM (List D)}
theorem q_re_callM {T : List Addr} (i j : Nat) (F : FnOk X.prog X.w X.K X.mg X.base CX0 k f fd ps (spM T X.K n mf)) (hr : Room k X.A) (hT : TbW T H0 P) (hg : Gl X x) (hm : X.mg x = some (.ref f)) (hk : PySem.W.keepIn X.K (.ref f) = true) (hb : Binds X.K fd ps []) (hn : es.length + 2 = n) (ha : Pa X H0 P es mr) (hlen : ∀ ρ ds ρ', mr ρ = .ok ds ρ' → ds.length = es.length) (hN : X.N[i]? = some y := by rfl) (hv : Vis X.env.scope y := by first | exact Or.inl rfl | exact Or.inr (Or.inl rfl) | exact Or.inr (Or.inr rfl)) (hd : (y == ("__debug__" : Str)) = false := by decide) (hcd : (y == ("__classdict__" : Str)) = false := by decide) (hN2 : X.N[j]? = some y2 := by rfl) (hv2 : Vis X.env.scope y2 := by first | exact Or.inl rfl | exact Or.inr (Or.inl rfl) | exact Or.inr (Or.inr rfl)) (hd2 : (y2 == ("__debug__" : Str)) = false := by decide) (hcd2 : (y2 == ("__classdict__" : Str)) = false := by decide) (hdb : (x == ("__debug__" : Str)) = false := by decide) (he : starEach (.Name y p1 :: .Name y2 p2 :: es) X.env = (false, eval (.Name y p1) X.env) :: starEach (.Name y2 p2 :: es) X.env := by rfl) (he2 : starEach (.Name y2 p2 :: es) X.env = (false, eval (.Name y2 p2) X.env) :: starEach es X.env := by rfl) (hpl : (backTo pos (starEach (.Name y2 p2 :: es) X.env)).any (·.1) = false := by rfl) : Pe X H0 P (.Call (.Name x p) (.Name y p1 :: .Name y2 p2 :: es) [] pos) (mCM i j mf mr) := .mk (re_callM (i := i) (j := j) (F := F) (hr := hr) (hT := hT) (hg := hg) (hm := hm) (hk := hk) (hb := hb) (hn := hn) (ha := ha.h) (hlen := hlen) (hN := hN) (hv := hv) (hd := hd) (hcd := hcd) (hN2 := hN2) (hv2 := hv2) (hd2 := hd2) (hcd2 := hcd2) (hdb := hdb) (he := he) (he2 := he2) (hpl := hpl))
end
section
variable {X : Cx} {H0 : Hp} {P : List Addr} {pos : Pos} {e b : Expr} {m mb : MM D} {x y y2 : Str} {p1 p2 p : Pos} {k n : Nat} {f : Addr} {fd : FuncData} {ps : List Str} {mf : List D → List (Str × D) → List D → ReM} {es : List Expr} {mr : MM (List D)}
theorem q_re_low {apos : Pos} (ho : Pe X H0 P e m) (hbase : attributeBase e "lower" X.env (eval e X.env) = eval e X.env := by rfl) (hline : (apos.endLine == pos.line) = true := by rfl) : Pe X H0 P (.Call (.Attribute e "lower" apos) [] [] pos) (mUn fLow m) := .mk (re_low (ho := ho.h) (hbase := hbase) (hline := hline))
end
section
variable {X : Cx} {e es : Expr} {te ts : TE} {pos p2 : Pos}
variable {H0 : Hp} {P : List Addr} {m ms : MM D}
theorem q_re_revT (he : Pe X H0 P e m) (hs : Pe X H0 P es ms) : Pe X H0 P (.Subscript e (.Slice none none (some es) p2) pos) (mBin fRevT m ms) := .mk (re_revT (he := he.h) (hs := hs.h))
end
section
variable {X : Cx} {H0 : Hp} {P : List Addr}
theorem q_im_zT {ea eb : Expr} {elts : List Expr} {kk : Nat} {tpos p1 p2 : Pos} {mr : MM (List D)} (hgl : Gl X "zip") (hm : X.mg "zip" = none) (he : Pa X H0 P [ea, eb] mr) (hse : starEach [ea, eb] X.env = (false, eval ea X.env) :: starEach [eb] X.env := by rfl) (hpl : (backTo p2 (starEach [eb] X.env)).any (·.1) = false := by rfl) : Pim X H0 P (.Tuple elts kk tpos) (.Call (.Name "zip" p1) [ea, eb] [] p2) (iZipT X.K (tA (wd X H0 P) mr)) (msZip mr) := .mk (im_zT (hgl := hgl) (hm := hm) (he := he.h) (hse := hse) (hpl := hpl))
end
section
variable {X : Cx} {H0 : Hp} {P : List Addr}
variable {a : Expr} {ta : TE} {ma : MM D} {pos : Pos}
theorem q_re_notT (ha : Pe X H0 P a ma) : Pe X H0 P (.UnaryOp .Not a pos) (bl (mNot (mTru ma))) := .mk (re_notT (ha := ha.h))
end
section
variable {Pr : Program} {w : World} {K : PySem.W.Frag} {mg : Str → Option Value} {base : Heap}
theorem q_fn_pure {T : List Addr} {x qual : Str} {st : Stmt} {f : Addr} {fd : FuncData} {N ps : List Str} {k : Nat} {mb : MS} (F : Fun K x qual st f fd) (S : FnScope N ps (defScope st))
    (hb : ∀ (cdv : Value) (A : Around) (outer : List Env) (s : Shared) (H : Hp) (E : XK), Room k (A.deeper (envOfC qual (defScope st) s.heap.objs.size f cdv)) → TbW T H [] → fd.code = cdv → Pss (cxOf CX0 Pr w K mg base N qual (defScope st) f cdv A outer s H E).nox H [] (defBody st) mb) :
    FnOk Pr w K mg base CX0 (k + 1) f fd ps (spI T K ps.length (mfn N.length mb)) := fn_pure F S fun cdv A outer s H E hr hT hcd => (hb cdv A outer s H E hr hT hcd).h
theorem q_fn_state {T : List Addr} {x qual : Str} {st : Stmt} {f : Addr} {fd : FuncData} {N ps : List Str} {k : Nat} {mb : MS} (F : Fun K x qual st f fd) (S : FnScope N ps (defScope st)) (hN : 0 < N.length)
    (hb : ∀ (cdv : Value) (A : Around) (outer : List Env) (s : Shared) (H : Hp) (E : XK) (p : Addr), Room k (A.deeper (envOfC qual (defScope st) s.heap.objs.size f cdv)) → TbW T H [p] → fd.code = cdv → Pss (cxOf CX0 Pr w K mg base N qual (defScope st) f cdv A outer s H E).nox H [p] (defBody st) mb) :
    FnOk Pr w K mg base CX0 (k + 1) f fd ps (spD T K ps.length (mfnS N.length mb)) := fn_state F S hN fun cdv A outer s H E p hr hT hcd => (hb cdv A outer s H E p hr hT hcd).h
theorem q_fn_box {T : List Addr} {x qual : Str} {st : Stmt} {f : Addr} {fd : FuncData} {N ps : List Str} {k : Nat} {mb : MS} (F : Fun K x qual st f fd) (S : FnScope N ps (defScope st)) (hN : 0 < N.length)
    (hb : ∀ (cdv : Value) (A : Around) (outer : List Env) (s : Shared) (H : Hp) (E : XK) (p : Addr), Room k (A.deeper (envOfC qual (defScope st) s.heap.objs.size f cdv)) → TbW T H [p] → fd.code = cdv → Pss (cxOf CX0 Pr w K mg base N qual (defScope st) f cdv A outer s H E).nox H [p] (defBody st) mb) :
    FnOk Pr w K mg base CX0 (k + 1) f fd ps (spB T K ps.length (mfnB N.length mb)) := fn_box F S hN fun cdv A outer s H E p hr hT hcd => (hb cdv A outer s H E p hr hT hcd).h
theorem q_fn_two {T : List Addr} {x qual : Str} {st : Stmt} {f : Addr} {fd : FuncData} {N ps : List Str} {k : Nat} {mb : MS} (F : Fun K x qual st f fd) (S : FnScope N ps (defScope st)) (hN : 1 < N.length)
    (hb : ∀ (cdv : Value) (A : Around) (outer : List Env) (s : Shared) (H : Hp) (E : XK) (p q : Addr), Room k (A.deeper (envOfC qual (defScope st) s.heap.objs.size f cdv)) → TbW T H [p, q] → fd.code = cdv → Pss (cxOf CX0 Pr w K mg base N qual (defScope st) f cdv A outer s H E).nox H [p, q] (defBody st) mb) :
    FnOk Pr w K mg base CX0 (k + 1) f fd ps (spM T K ps.length (mfnM N.length mb)) := fn_two F S hN fun cdv A outer s H E p q hr hT hcd => (hb cdv A outer s H E p q hr hT hcd).h
end
end Pu

namespace Pu
open PySem PySem.Spec PyProof.Rows L2
theorem atI_some {α : Type} {l : List α} {n : Nat} {a : α} (h : l[n]? = some a) : atI l (n : Int) = some a := by
  have hn : n < l.length := (List.getElem?_eq_some_iff.mp h).1
  unfold atI ixN
  rw [if_pos (by omega), if_pos (by omega)]
  simpa using h
theorem atI0 {α : Type} {a : α} {l : List α} : atI (a :: l) 0 = some a := atI_some (n := 0) rfl
theorem atI1 {α : Type} {a b : α} {l : List α} : atI (a :: b :: l) 1 = some b := atI_some (n := 1) rfl
theorem atI2 {α : Type} {a b c : α} {l : List α} : atI (a :: b :: c :: l) 2 = some c := atI_some (n := 2) rfl
theorem atI3 {α : Type} {a b c d : α} {l : List α} : atI (a :: b :: c :: d :: l) 3 = some d := atI_some (n := 3) rfl
theorem sized_le {n : Nat} (h : n ≤ 16000000) : sized n = true := decide_eq_true (Nat.le_trans h (by rw [sizeLine_eq]; decide))
theorem lt_line {n : Nat} (h : n ≤ 16000000) : n < sizeLine := Nat.lt_of_le_of_lt h (by rw [sizeLine_eq]; decide)
/-- a small index by a remainder -/
theorem mod_cases {c : Int} {k : Nat} (hk : 0 < k) : ∃ j : Nat, j < k ∧ c % (k : Int) = (j : Int) := by
  have h0 := Int.emod_nonneg c (show (k : Int) ≠ 0 by omega)
  have h1 := Int.emod_lt_of_pos c (show (0 : Int) < k by omega)
  exact ⟨(c % (k : Int)).toNat, by omega, by omega⟩
theorem fDiv_eq {i j : Int} (h0 : 0 < j) (h1 : j < 1073741824) : fDiv (.int i) (.int j) = some (.int (i / j)) := by
  unfold fDiv
  dsimp only
  rw [if_pos (by rw [Bool.and_eq_true]; exact ⟨decide_eq_true h0, decide_eq_true h1⟩)]
theorem fMod_eq {i j : Int} (h0 : 0 < j) : fMod (.int i) (.int j) = some (.int (i % j)) := by
  unfold fMod
  dsimp only
  rw [if_pos (decide_eq_true h0)]
theorem sz0 {n : Nat} (h : n ≤ 16000000) : sized n = true := sized_le h
theorem rng_get {n j : Nat} {d : D} (h : (rngD n)[j]? = some d) : d = .int (j : Int) ∧ j < n := by
  unfold rngD at h
  rw [List.getElem?_map] at h
  obtain ⟨k, h1, h2⟩ := Option.map_eq_some_iff.mp h
  obtain ⟨h3, h4⟩ := List.getElem?_eq_some_iff.mp h1
  rw [List.getElem_range] at h4
  subst h4
  exact ⟨h2.symm, by simpa using h3⟩
theorem rng_len {n : Nat} : (rngD n).length = n := by unfold rngD; rw [List.length_map, List.length_range]
theorem fIxL {ds : List D} {i : Int} : fIx (.list ds) (.int i) = atI ds i := rfl
theorem fIxT {ds : List D} {i : Int} : fIx (.tuple ds) (.int i) = atI ds i := rfl
theorem cut_take {α : Type} (xs : List α) (j : Nat) : cutD xs none (some (j : Int)) = xs.take j := by
  unfold cutD
  rw [HT.sIx_none, HT.sIx_nat, List.drop_zero, Nat.sub_zero]
  by_cases h : j ≤ xs.length
  · rw [Nat.min_eq_left h]
  · rw [Nat.min_eq_right (by omega), List.take_of_length_le (Nat.le_refl _), List.take_of_length_le (by omega)]
theorem cut_drop {α : Type} (xs : List α) (j : Nat) : cutD xs (some (j : Int)) none = xs.drop j := by
  unfold cutD
  rw [HT.sIx_none, HT.sIx_nat]
  by_cases h : j ≤ xs.length
  · rw [Nat.min_eq_left h, List.take_of_length_le (by rw [List.length_drop]; exact Nat.le_refl _)]
  · rw [Nat.min_eq_right (by omega), List.drop_of_length_le (Nat.le_refl _), List.drop_of_length_le (by omega), List.take_nil]
theorem cut3 {α : Type} {a b c d : α} : cutD [a, b, c, d] none (some 3) = [a, b, c] := cut_take _ 3
theorem rg_eq {j : Int} (h0 : 0 ≤ j) (h1 : j ≤ 16000000) : rgD [.int j] = some (rngD j.toNat) := by
  have e : (decide (-(2 ^ 62) ≤ j) && decide (j < 2 ^ 62)) = true := by rw [Bool.and_eq_true]; exact ⟨decide_eq_true (by omega), decide_eq_true (by omega)⟩
  show (if (decide (-(2 ^ 62) ≤ j) && decide (j < 2 ^ 62)) = true then some (rngD j.toNat) else none) = _
  rw [if_pos e]
theorem fApp_eq {ds : List D} {d : D} (h1 : ds.length ≤ 16000000) : fApp ds [d] = some (.none, ds ++ [d]) := by
  show (if decide (ds.length < sizeLine) = true then some (PyData.none, ds ++ [d]) else none) = _
  rw [if_pos (decide_eq_true (lt_line h1))]
theorem fExtT_eq {ds es : List D} (h1 : ds.length + es.length ≤ 16000000) : fExt ds [.tuple es] = some (.none, ds ++ es) := by
  show (if sized (ds.length + es.length) = true then some (PyData.none, ds ++ es) else none) = _
  rw [if_pos (sized_le h1)]
/-! ### statement by statement -/
theorem seq_nx {a b : MS} {ρ ρ' : En} (h : a ρ = .nx ρ') : sSeq a b ρ = b ρ' := by unfold sSeq; rw [h]
theorem seq_rt {a b : MS} {ρ ρ' : En} {r : RV} (h : a ρ = .rt r ρ') : sSeq a b ρ = .rt r ρ' := by unfold sSeq; rw [h]
theorem bs_ok {α : Type} {m : MM α} {f : α → MS} {ρ ρ' : En} {a : α} (h : m ρ = .ok a ρ') : bs m f ρ = f a ρ' := by unfold bs; rw [h]
theorem bd_ok {α β : Type} {m : MM α} {f : α → MM β} {ρ ρ' : En} {a : α} (h : m ρ = .ok a ρ') : bd m f ρ = f a ρ' := by unfold bd; rw [h]
theorem if_t {c : MM Bool} {a b : MS} {ρ ρ' : En} (h : c ρ = .ok true ρ') : sIf c a b ρ = a ρ' := by unfold sIf; rw [bs_ok h]; rfl
theorem if_f {c : MM Bool} {a b : MS} {ρ ρ' : En} (h : c ρ = .ok false ρ') : sIf c a b ρ = b ρ' := by unfold sIf; rw [bs_ok h]; rfl
theorem ret_ok {m : MM D} {ρ ρ' : En} {d : D} (h : m ρ = .ok d ρ') : sRet m ρ = .rt (.imm d) ρ' := by unfold sRet; rw [bs_ok h]
theorem retL_ok {m : MM (List D)} {ρ ρ' : En} {d : List D} (h : m ρ = .ok d ρ') : sRetL m ρ = .rt (.own d) ρ' := by unfold sRetL; rw [bs_ok h]
theorem for_ok {ms : MM (List D)} {f : D → En → Option En} {b : MS} {ρ ρ' : En} {ds : List D} (h : ms ρ = .ok ds ρ') : sFor ms f b ρ = forD f b ds ρ' := by unfold sFor; rw [bs_ok h]
theorem drop_ok {m : MM D} {ρ ρ' : En} {d : D} (h : m ρ = .ok d ρ') : sDrop m ρ = .nx ρ' := by unfold sDrop; rw [bs_ok h]; rfl
theorem set_ok {i : Nat} {m : MM D} {ρ ρ' : En} {d : D} (h : m ρ = .ok d ρ') (hi : i < ρ'.length) : sSet i m ρ = .nx (ρ'.set i (some (.imm d))) := by unfold sSet; rw [bs_ok h, if_pos hi]
theorem setL_ok {i : Nat} {m : MM (List D)} {ρ ρ' : En} {d : List D} (h : m ρ = .ok d ρ') (hi : i < ρ'.length) : sSetL i m ρ = .nx (ρ'.set i (some (.lst d))) := by unfold sSetL; rw [bs_ok h, if_pos hi]
theorem mfn_rt {n : Nat} {b : MS} {ds : List D} {r : RV} {ρ' : En} (h : b (enI n ds) = .rt r ρ') : mfn n b ds = .ok r := by unfold mfn; rw [h]
theorem mfnS_rt {n : Nat} {b : MS} {kvs kvs' : List (Str × D)} {ds : List D} {r : RV} {ρ' : En} (h : b (some (.dct kvs) :: enI (n - 1) ds) = .rt r (some (.dct kvs') :: ρ')) : mfnS n b kvs ds = .ok r kvs' := by unfold mfnS; rw [h]; rfl
theorem rng_ok {m : MM D} {ρ ρ' : En} {j : Nat} (h : m ρ = .ok (.int j) ρ') (h1 : j ≤ 16000000) : msRng (mCons m mNil) ρ = .ok (rngD j) ρ' := by
  have h2 : mCons m mNil ρ = .ok [.int j] ρ' := by
    show bd _ _ _ = _
    rw [bd_ok h]
    rfl
  unfold msRng
  rw [bd_ok h2, rg_eq (by omega) (by omega)]
  rfl
/-! ### comprehensions and loops of the mirror -/
theorem for_cons {f : D → En → Option En} {b : MS} {d : D} {r : List D} {ρ ρ1 ρ2 : En} (h1 : f d ρ = some ρ1) (h2 : b ρ1 = .nx ρ2) : forD f b (d :: r) ρ = forD f b r ρ2 := by
  show (match f d ρ with
    | none => Fl.no
    | some ρ1 => match b ρ1 with
      | .nx ρ2 => forD f b r ρ2
      | .ct ρ2 => forD f b r ρ2
      | .bk ρ2 => .nx ρ2
      | .rt v ρ2 => .rt v ρ2
      | .ex c ρ2 => .ex c ρ2
      | .no => .no) = _
  rw [h1]
  dsimp only
  rw [h2]
/-- a loop by its invariant -/
theorem for_inv {f : D → En → Option En} {b : MS} (I : Nat → En → Prop) : ∀ (ds : List D) (i : Nat) (ρ : En), I i ρ → (∀ j d ρ, ds[j]? = some d → I (i + j) ρ → ∃ ρ1, f d ρ = some ρ1 ∧ ∃ ρ2, b ρ1 = .nx ρ2 ∧ I (i + j + 1) ρ2) → ∃ ρ', forD f b ds ρ = .nx ρ' ∧ I (i + ds.length) ρ'
  | [], i, ρ, h, _ => ⟨ρ, rfl, h⟩
  | d :: r, i, ρ, h, hs => by
    obtain ⟨ρ1, e1, ρ2, e2, h2⟩ := hs 0 d ρ rfl h
    obtain ⟨ρ', e3, h3⟩ := for_inv I r (i + 1) ρ2 h2 fun j x ρ hx hi => by
      have q := hs (j + 1) x ρ (by simpa using hx)
      rw [show i + (j + 1) = i + 1 + j by omega] at q
      exact q hi
    refine ⟨ρ', by rw [for_cons e1 e2]; exact e3, ?_⟩
    rw [List.length_cons, show i + (r.length + 1) = i + 1 + r.length by omega]
    exact h3
end Pu

namespace Pu
open PySem PySem.Spec PyProof.Rows L2
/-! ### texts -/
theorem slen (x : Str) : x.length = x.cps.toList.length := by rw [Array.length_toList]; rfl
theorem fAdd_str {a b : Str} (h : a.length + b.length ≤ 16000000) : fAdd (.str a) (.str b) = some (.str (a ++ b)) := by
  show (if sized (a.length + b.length) then some (PyData.str (a ++ b)) else none) = _
  rw [if_pos (sized_le h)]
theorem fAdd_int {i j : Int} : fAdd (.int i) (.int j) = some (.int (i + j)) := rfl
theorem fSl_str {x : Str} {lo hi : Option Int} (h : x.length ≤ 16000000) : fSl (.str x) lo hi = some (.str (cutS x lo hi)) := by
  show (if sized x.length then some (PyData.str (cutS x lo hi)) else none) = _
  rw [if_pos (sized_le h)]
theorem gLen_str {x : Str} (h : x.length ≤ 16000000) : gLen [.str x] = some (.int x.length) := by
  show (if sized x.length then some (PyData.int x.length) else none) = _
  rw [if_pos (sized_le h)]
theorem fPow_eq {i : Int} {n : Nat} (h : 0 ≤ i) (h1 : i ≤ 160000000000) (hn : n ≤ 1000) : fPow (.int i) (.int (n : Int)) = some (.int (i ^ n)) := by
  show (if (decide ((0 : Int) ≤ (n : Int)) && decide ((n : Int) ≤ 1000) && decide (i.natAbs < 2 ^ 64)) = true then some (PyData.int (i ^ ((n : Int)).toNat)) else none) = _
  rw [if_pos (by rw [Bool.and_eq_true, Bool.and_eq_true]; exact ⟨⟨decide_eq_true (by omega), decide_eq_true (by omega)⟩, decide_eq_true (by omega)⟩), Int.toNat_natCast]
end Pu

namespace Pu
open PySem PySem.Spec PyProof.Rows L2
theorem while_t {c : MM Bool} {b : MS} {n : Nat} {ρ ρ1 ρ2 : En} (h1 : c ρ = .ok true ρ1) (h2 : b ρ1 = .nx ρ2) : whileD c b (n + 1) ρ = whileD c b n ρ2 := by
  rw [whileD]; dsimp only; rw [h1]; dsimp only; rw [h2]
theorem while_f {c : MM Bool} {b : MS} {n : Nat} {ρ ρ1 : En} (h1 : c ρ = .ok false ρ1) : whileD c b (n + 1) ρ = .nx ρ1 := by
  rw [whileD]; dsimp only; rw [h1]
theorem fPop_eq {ds : List D} {d : D} : fPop (ds ++ [d]) [] = some (d, ds) := by
  unfold fPop
  simp
theorem lc_map {α : Type} {vs : List Nat} {f : D → En → Option En} {tt : MM Bool} {te : MM D} {ρ : En} (g : α → D) (p : α → Bool) (e : α → D) : ∀ (ds : List α) (acc : List D),
    (∀ d ∈ ds, ∃ ρ1, f (g d) ρ = some ρ1 ∧ ∃ ρ2, tt ρ1 = .ok (p d) ρ2 ∧ (p d = false → wipeE vs ρ2 = ρ) ∧ (p d = true → ∃ ρ3, te ρ2 = .ok (e d) ρ3 ∧ wipeE vs ρ3 = ρ)) → acc.length + ds.length ≤ 16000000 →
    lcD vs f tt te (ds.map g) acc ρ = .ok (acc ++ (ds.filter p).map e) ρ
  | [], acc, _, _ => by simp [lcD, pu]
  | d :: r, acc, h, hl => by
    obtain ⟨ρ1, e1, ρ2, e2, h3, h4⟩ := h d List.mem_cons_self
    rw [List.length_cons] at hl
    rw [List.map_cons]
    unfold lcD
    rw [e1]
    dsimp only
    rw [e2]
    cases hp : p d with
    | false =>
      dsimp only
      rw [h3 hp, lc_map g p e r acc (fun x hx => h x (List.mem_cons_of_mem _ hx)) (by omega), List.filter_cons_of_neg (by rw [hp]; simp)]
    | true =>
      dsimp only
      obtain ⟨ρ3, e3, w3⟩ := h4 hp
      rw [e3]
      dsimp only
      rw [if_pos (lt_line (by omega)), w3, lc_map g p e r _ (fun x hx => h x (List.mem_cons_of_mem _ hx)) (by rw [List.length_append, List.length_singleton]; omega), List.filter_cons_of_pos hp, List.map_cons, List.append_assoc]
      rfl
theorem mLcM_eq {α : Type} {vs : List Nat} {ms : MM (List D)} {f : D → En → Option En} {tt : MM Bool} {te : MM D} {ρ ρ' ρw : En} {ds : List α} (g : α → D) (p : α → Bool) (e : α → D) (hm : ms ρ = .ok (ds.map g) ρ') (hw : wipeE vs ρ' = ρw)
    (h : ∀ d ∈ ds, ∃ ρ1, f (g d) ρw = some ρ1 ∧ ∃ ρ2, tt ρ1 = .ok (p d) ρ2 ∧ (p d = false → wipeE vs ρ2 = ρw) ∧ (p d = true → ∃ ρ3, te ρ2 = .ok (e d) ρ3 ∧ wipeE vs ρ3 = ρw)) (hl : ds.length ≤ 16000000) :
    mLc vs ms f tt te ρ = .ok ((ds.filter p).map e) ρw := by
  unfold mLc bd
  rw [hm]
  dsimp only
  rw [hw, lc_map g p e ds [] h (by simpa using hl)]
  rfl
theorem mcl_ok {m : List D → Re} {ma : MM (List D)} {ρ ρ' : En} {ds d : List D} (h : ma ρ = .ok ds ρ') (e : m ds = .ok (.own d)) : mCFL m ma ρ = .ok d ρ' := by
  unfold mCFL
  rw [bd_ok h]
  rw [e]
theorem mut_ok {i : Nat} {f : List D → List D → Option (D × List D)} {m : MM (List D)} {ρ ρ' : En} {as ds0 ds ds' : List D} {d : D} (h0 : ρ[i]? = some (some (.lst ds0))) (hm : m ρ = .ok as ρ') (h1 : ρ'[i]? = some (some (.lst ds))) (hf : f ds as = some (d, ds')) : mMut i f m ρ = .ok d (ρ'.set i (some (.lst ds'))) := by
  unfold mMut
  rw [h0]
  dsimp only
  rw [bd_ok hm, h1]
  dsimp only
  rw [hf]
end Pu

namespace Kt
open PySem PySem.Spec PyProof.Rows L2 Pu
/-! ### the letters of a text -/
abbrev cs (x : Str) : List Nat := x.cps.toList
def inB (z : Str) (c : Nat) : Bool := !(Builtin.Str.occurrences z ⟨#[c]⟩ 0 z.length 1).isEmpty
theorem len_cs (x : Str) : x.length = (cs x).length := by unfold cs; rw [Array.length_toList]; rfl
def hdB (z : Str) : List Nat → Bool
  | [] => false
  | c :: _ => inB z c
def keyB (n : Int) (g l x : Str) : Bool := decide ((1 : Int) ≤ x.length) && decide ((x.length : Int) ≤ n) && (hdB g (cs x) && (cs x).all (inB l))
def sgnB (n : Int) (l x : Str) : Bool := decide ((1 : Int) ≤ x.length) && decide ((x.length : Int) ≤ n) && (cs x).all (inB l)
theorem first {x : Str} (h : x.length ≤ 1000) (h1 : (1 : Int) ≤ x.length) : ∃ c, fIx (.str x) (.int 0) = some (.str ⟨#[c]⟩) ∧ ∀ z, hdB z (cs x) = inB z c := by
  have e := len_cs x
  cases q : cs x with
  | nil => rw [q] at e; simp at e; omega
  | cons c r =>
    refine ⟨c, ?_, fun z => rfl⟩
    show (if sized x.length then (atI x.cps.toList 0).map (fun c => PyData.str ⟨#[c]⟩) else none) = _
    rw [if_pos (sized_le (by omega)), show x.cps.toList = c :: r from q, atI0]
    rfl
abbrev GR : Str := "ABCDEFGHIJKLMNOPQRSTUVWXYZ"
abbrev NL : Str := "ABCDEFGHIJKLMNOPQRSTUVWXYZ0123456789"
abbrev SM : Str := "abcdefghijklmnopqrstuvwxyz"
theorem gr_fact : ∀ c ∈ cs GR, inB GR c = true ∧ c ∈ cs NL := by decide +kernel
theorem nl_fact : ∀ c ∈ cs NL, inB NL c = true ∧ c < 128 ∧ 47 < c ∧ c ≠ 63 ∧ c ≠ 91 ∧ c ≠ 93 := by decide +kernel
theorem sm_fact : ∀ c ∈ cs SM, inB SM c = true ∧ c < 128 ∧ 96 < c := by decide +kernel
structure Nm (x : Str) : Prop where
  len : x.length ≤ 24
  hd : ∃ c r, cs x = c :: r ∧ c ∈ cs GR ∧ ∀ d ∈ r, d ∈ cs NL
structure Sg (x : Str) : Prop where
  ne : 1 ≤ x.length
  len : x.length ≤ 6
  all : ∀ d ∈ cs x, d ∈ cs SM
/-- a text of plain letters, none a blank -/
def Pl (x : Str) : Prop := ∀ c ∈ cs x, c < 128 ∧ 32 < c
theorem strOk_of {x : Str} (h : ∀ c ∈ cs x, c < 128) : PyData.strOk x = true := by
  unfold PyData.strOk
  rw [Array.all_eq_true']
  intro c hc
  have := h c (by simpa [cs] using hc)
  simp
  omega
theorem Pl.ok {x : Str} (h : Pl x) : PyData.strOk x = true := strOk_of fun c hc => (h c hc).1
theorem Nm.all {x : Str} (h : Nm x) : ∀ d ∈ cs x, d ∈ cs NL := by
  obtain ⟨c, r, e, h1, h2⟩ := h.hd
  intro d hd
  rw [e] at hd
  rcases List.mem_cons.mp hd with rfl | hd
  · exact (gr_fact _ h1).2
  · exact h2 d hd
theorem Nm.pl {x : Str} (h : Nm x) : Pl x := fun c hc => by
  have := nl_fact c (h.all c hc)
  omega
theorem Sg.pl {x : Str} (h : Sg x) : Pl x := fun c hc => by
  have := sm_fact c (h.all c hc)
  omega
theorem Nm.b {x : Str} (h : Nm x) : keyB 24 GR NL x = true := by
  obtain ⟨c, r, e, h1, h2⟩ := h.hd
  have l1 := h.len
  have l2 := len_cs x
  have l3 : (cs x).length = r.length + 1 := by rw [e]; rfl
  unfold keyB
  rw [decide_eq_true (show (1 : Int) ≤ x.length by omega), decide_eq_true (show (x.length : Int) ≤ 24 by omega)]
  rw [show (cs x).all (inB NL) = true from List.all_eq_true.mpr fun d hd => (nl_fact d (h.all d hd)).1, e]
  show (true && true && (inB GR c && true)) = true
  rw [(gr_fact c h1).1]
  rfl
theorem Sg.b {x : Str} (h : Sg x) : sgnB 6 SM x = true := by
  have l1 := h.len
  have l2 := h.ne
  unfold sgnB
  rw [decide_eq_true (show (1 : Int) ≤ x.length by omega), decide_eq_true (show (x.length : Int) ≤ 6 by omega)]
  rw [show (cs x).all (inB SM) = true from List.all_eq_true.mpr fun d hd => (sm_fact d (h.all d hd)).1]
  rfl
theorem shW_str {s : Str} (h : PyData.strOk s = true) : shW (.str s) = true := by
  show (PyData.strOk s && decide (0 ≤ 180)) = true
  rw [h]
  rfl
theorem fEqW_str {s u : Str} (h1 : PyData.strOk s = true) (h2 : PyData.strOk u = true) : fEqW (.str s) (.str u) = some (s == u) := by
  unfold fEqW
  rw [shW_str h1, shW_str h2]
  rfl
theorem fNeW_str {s u : Str} (h1 : PyData.strOk s = true) (h2 : PyData.strOk u = true) : fNeW (.str s) (.str u) = some (!(s == u)) := by
  unfold fNeW
  rw [shW_str h1, shW_str h2]
  rfl
theorem fEqW_int {i j : Int} : fEqW (.int i) (.int j) = some (i == j) := by
  unfold fEqW
  rw [if_pos (by rfl)]
  rfl
/-! ### slices of texts -/
/-! ### trees -/
inductive Tr where
  | sign (s : Str) | void | hole (n : Str) | foot (n : Str) | knot (n : Str) (t : Option (Str × Bool)) (kids : List Tr)
def takD : Option (Str × Bool) → D
  | none => .none
  | some (m, b) => .tuple [.str m, .bool b]
mutual
def Tr.toD : Tr → D
  | .sign s => .tuple [.str "sign", .str s]
  | .void => .tuple [.str "void"]
  | .hole n => .tuple [.str "hole", .str n]
  | .foot n => .tuple [.str "foot", .str n]
  | .knot n t ks => .tuple [.str "knot", .str n, takD t, .tuple (toDs ks)]
def toDs : List Tr → List D
  | [] => []
  | t :: r => t.toD :: toDs r
end
theorem toDs_map : ∀ ks : List Tr, toDs ks = ks.map Tr.toD
  | [] => by simp [toDs]
  | t :: r => by simp [toDs, toDs_map r]
theorem toDs_append (a b : List Tr) : toDs (a ++ b) = toDs a ++ toDs b := by rw [toDs_map, toDs_map, toDs_map, List.map_append]
theorem toDs_length (a : List Tr) : (toDs a).length = a.length := by rw [toDs_map, List.length_map]
mutual
def Tr.sz : Tr → Nat
  | .knot _ _ ks => 1 + szs ks
  | _ => 1
def szs : List Tr → Nat
  | [] => 0
  | t :: r => t.sz + szs r
end
theorem szs_append : ∀ a b : List Tr, szs (a ++ b) = szs a + szs b
  | [], b => by simp [szs]
  | t :: r, b => by simp [szs, szs_append r b]; omega
def TakOk : Option (Str × Bool) → Prop
  | none => True
  | some (m, _) => Nm m
/-- a tree with at most k knots within one another -/
def Wf : Nat → Tr → Prop
  | _, .sign s => Sg s
  | _, .void => True
  | _, .hole n => Nm n
  | _, .foot n => Nm n
  | 0, .knot _ _ _ => False
  | k + 1, .knot n t ks => Nm n ∧ TakOk t ∧ 1 ≤ ks.length ∧ ks.length ≤ 8 ∧ ∀ c ∈ ks, Wf k c
theorem Wf.leafS {s : Str} (h : Sg s) : ∀ k, Wf k (.sign s)
  | 0 => h
  | _ + 1 => h
theorem Wf.leafV : ∀ k, Wf k .void
  | 0 => trivial
  | _ + 1 => trivial
theorem Wf.leafH {s : Str} (h : Nm s) : ∀ k, Wf k (.hole s)
  | 0 => h
  | _ + 1 => h
theorem Wf.leafF {s : Str} (h : Nm s) : ∀ k, Wf k (.foot s)
  | 0 => h
  | _ + 1 => h
theorem Wf.up : ∀ {k : Nat} {t : Tr}, Wf k t → Wf (k + 1) t
  | k, .sign _, h => Wf.leafS (by cases k <;> exact h) _
  | _, .void, _ => Wf.leafV _
  | k, .hole _, h => Wf.leafH (by cases k <;> exact h) _
  | k, .foot _, h => Wf.leafF (by cases k <;> exact h) _
  | 0, .knot _ _ _, h => h.elim
  | k + 1, .knot _ _ _, ⟨h1, h2, h3, h4, h5⟩ => ⟨h1, h2, h3, h4, fun c hc => Wf.up (h5 c hc)⟩
/-! ### the words -/
def takW : Option (Str × Bool) → List Str
  | none => []
  | some (m, b) => [(if b then ("!" : Str) else "?") ++ m]
mutual
def Tr.ws : Tr → List Str
  | .sign s => [s]
  | .void => ["-"]
  | .hole n => ["+" ++ n]
  | .foot n => ["*" ++ n]
  | .knot n t ks => "[" :: n :: (takW t ++ (wss ks ++ (["]"] : List Str)))
def wss : List Tr → List Str
  | [] => []
  | t :: r => t.ws ++ wss r
end
def sD (l : List Str) : List D := l.map PyData.str
/-- a word of a tree: plain letters, at most 25 of them, at least one -/
def Wd (w : Str) : Prop := Pl w ∧ w.length ≤ 25 ∧ 1 ≤ w.length
theorem Nm.wd {x : Str} (h : Nm x) : Wd x := ⟨h.pl, by have := h.len; omega, by
  obtain ⟨c, r, e, _⟩ := h.hd
  rw [len_cs, e]
  simp⟩
theorem Sg.wd {x : Str} (h : Sg x) : Wd x := ⟨h.pl, by have := h.len; omega, h.ne⟩
/-! ### laid out: depth and letters -/
/-! ### joined and cut again -/
def blank : Str := " "
end Kt

namespace Kt
open PySem PySem.Spec PyProof.Rows L2 Pu
/-! ### the stream with its counters -/
def st (kk : Option Int) (ns : List Int) (n : Nat) : List (Str × D) := ("script", .list (ns.map PyData.int)) :: ("at", .int n) :: (match kk with | none => [] | some k => [("keys", .int k)])
def cell (ns : List Int) (n : Nat) : Int := (ns[n]?).getD 0
/-! ### feet, pieces -/
mutual
def Tr.feet : Tr → List Str
  | .foot n => [n]
  | .knot _ _ ks => feets ks
  | _ => []
def feets : List Tr → List Str
  | [] => []
  | t :: r => t.feet ++ feets r
end
theorem feets_append : ∀ (a b : List Tr), feets (a ++ b) = feets a ++ feets b
  | [], b => by simp [feets]
  | t :: r, b => by simp [feets, feets_append r b, List.append_assoc]
def Tr.hd : Tr → Str
  | .sign _ => "sign" | .void => "void" | .hole _ => "hole" | .foot _ => "foot" | .knot _ _ _ => "knot"
theorem hd_eq {t : Tr} : fIx t.toD (.int 0) = some (.str t.hd) := by
  cases t <;> (simp only [Tr.toD, Tr.hd]; exact atI0)
theorem hd_lit : PyData.strOk "sign" = true ∧ PyData.strOk "void" = true ∧ PyData.strOk "hole" = true ∧ PyData.strOk "foot" = true ∧ PyData.strOk "knot" = true := by decide +kernel
theorem hd_ok (t : Tr) : PyData.strOk t.hd = true := by
  obtain ⟨h1, h2, h3, h4, h5⟩ := hd_lit
  cases t <;> assumption
def N3 : List Str := ["S", "S1", "S2"]
def TkOk : Option (Str × Bool) → Prop
  | none => True
  | some (m, true) => m ∈ N3
  | some (m, false) => m ∈ N3 ∨ m = "Z"
/-- a drawn tree: at most k knots within one another, at most w kids -/
def Ok3 (w : Nat) : Nat → Tr → Prop
  | _, .sign s => Sg s
  | _, .void => True
  | _, .hole n => n ∈ N3
  | _, .foot n => n ∈ N3
  | 0, .knot _ _ _ => False
  | k + 1, .knot n t ks => n ∈ N3 ∧ TkOk t ∧ 1 ≤ ks.length ∧ ks.length ≤ w ∧ ∀ c ∈ ks, Ok3 w k c
theorem Ok3.mono {w w' : Nat} (hw : w ≤ w') : ∀ {k k' : Nat} {t : Tr}, k ≤ k' → Ok3 w k t → Ok3 w' k' t
  | 0, k', .knot _ _ _, _, h => h.elim
  | 0, 0, .sign _, _, h => h
  | 0, k' + 1, .sign _, _, h => h
  | k + 1, k' + 1, .sign _, _, h => h
  | 0, 0, .void, _, h => h
  | 0, k' + 1, .void, _, h => h
  | k + 1, k' + 1, .void, _, h => h
  | 0, 0, .hole _, _, h => h
  | 0, k' + 1, .hole _, _, h => h
  | k + 1, k' + 1, .hole _, _, h => h
  | 0, 0, .foot _, _, h => h
  | 0, k' + 1, .foot _, _, h => h
  | k + 1, k' + 1, .foot _, _, h => h
  | k + 1, 0, _, hk, _ => absurd hk (by omega)
  | k + 1, k' + 1, .knot n t ks, hk, ⟨h1, h2, h3, h4, h5⟩ => ⟨h1, h2, h3, Nat.le_trans h4 hw, fun c hc => Ok3.mono hw (Nat.le_of_succ_le_succ hk) (h5 c hc)⟩
def Good (t : Tr) : Prop := (∃ n tk ks, t = .knot n tk ks) ∧ Ok3 4 3 t ∧ t.feet.length ≤ 1
/-! ### books -/
abbrev entD (e : Str × Tr) : D := .tuple [.str e.1, e.2.toD]
abbrev bookD (top : Str) (es : List (Str × Tr)) : D := .tuple [.str top, .tuple (es.map entD)]
def keys6 : List Str := ["s", "g", "x0", "h1", "keytree", "graftofaone"]
def keys5 : List Str := ["p", "qq", "r2", "tall", "u"]
/-- no place at which something can be put -/
def Bare (t : Tr) : Prop := ∃ n ks, t = .knot n none ks ∧ ∀ c ∈ ks, (∃ s, c = .sign s) ∨ ∃ m, c = .foot m
structure BookOk (many : Nat) (es : List (Str × Tr)) : Prop where
  good : ∀ e ∈ es, Good e.2
  keys : (es.map Prod.fst).Perm (keys6 ++ keys5.take many)
  bare : ∀ e ∈ es, e.1 ∈ keys6 → Bare e.2
  starts : ∀ n ∈ N3, ∃ k sg, k ∈ keys6 ∧ (k, Tr.knot n none [.sign sg]) ∈ es
  grafts : ∀ n ∈ N3, ∃ k ks, k ∈ keys6 ∧ (k, Tr.knot n none ks) ∈ es ∧ feets ks = [n]
theorem BookOk.len {many : Nat} {es : List (Str × Tr)} (h : BookOk many es) : es.length ≤ 11 := by
  have q := h.keys.length_eq
  rw [List.length_map, List.length_append, List.length_take, show keys6.length = 6 from rfl, show keys5.length = 5 from rfl] at q
  omega
theorem BookOk.key {many : Nat} {es : List (Str × Tr)} (h : BookOk many es) {e : Str × Tr} (he : e ∈ es) : e.1 ∈ keys6 ++ keys5 := by
  have q := h.keys.mem_iff.mp (List.mem_map_of_mem (f := Prod.fst) he)
  rcases List.mem_append.mp q with q | q
  · exact List.mem_append_left _ q
  · exact List.mem_append_right _ (List.mem_of_mem_take q)
end Kt

namespace Kt
open PySem PySem.Spec PyProof.Rows L2 Pu
/-! ### places and pieces -/
mutual
def Tr.pcs (p : List Nat) : Tr → List (List Nat × Tr)
  | .knot n t ks => (p, .knot n t ks) :: pcss p 0 ks
  | .sign s => [(p, .sign s)]
  | .void => [(p, .void)]
  | .hole n => [(p, .hole n)]
  | .foot n => [(p, .foot n)]
def pcss (p : List Nat) (i : Nat) : List Tr → List (List Nat × Tr)
  | [] => []
  | t :: r => t.pcs (p ++ [i]) ++ pcss p (i + 1) r
end
abbrev placeD (p : List Nat) : D := .tuple (p.map fun n => .int (n : Nat))
def cap4 : Nat → Nat
  | 0 => 1
  | k + 1 => 1 + 4 * cap4 k
theorem szs_le {b : Nat} : ∀ {ks : List Tr}, (∀ c ∈ ks, c.sz ≤ b) → szs ks ≤ ks.length * b
  | [], _ => by simp [szs]
  | t :: r, h => by
    have h1 := h t List.mem_cons_self
    have h2 := szs_le fun c hc => h c (List.mem_cons_of_mem _ hc)
    simp only [szs, List.length_cons, Nat.succ_mul]
    omega
theorem cap4_pos : ∀ k, 1 ≤ cap4 k
  | 0 => by simp [cap4]
  | k + 1 => by simp [cap4]
theorem ok3_sz : ∀ {k : Nat} {t : Tr}, Ok3 4 k t → t.sz ≤ cap4 k
  | k, .sign _, _ => by have := cap4_pos k; simp only [Tr.sz]; omega
  | k, .void, _ => by have := cap4_pos k; simp only [Tr.sz]; omega
  | k, .hole _, _ => by have := cap4_pos k; simp only [Tr.sz]; omega
  | k, .foot _, _ => by have := cap4_pos k; simp only [Tr.sz]; omega
  | 0, .knot _ _ _, h => h.elim
  | k + 1, .knot n t ks, ⟨h1, h2, h3, h4, h5⟩ => by
    have := szs_le (b := cap4 k) fun c hc => ok3_sz (h5 c hc)
    simp only [Tr.sz, cap4]
    have h6 : ks.length * cap4 k ≤ 4 * cap4 k := Nat.mul_le_mul_right _ h4
    omega
theorem Good.sz {t : Tr} (h : Good t) : t.sz ≤ 85 := ok3_sz h.2.1
def Tr.g (t : Tr) : Bool := decide (0 < t.feet.length)
def Tr.nm (t : Tr) : Str := match t.feet with
  | n :: _ => n
  | [] => match t with
    | .knot n _ _ => n
    | _ => ""
/-- can a tree (graft or not, its name) be put at a piece? -/
def want (p : Tr) (g : Bool) (n : Str) : Bool := match p with
  | .hole m => !g && n == m
  | .knot _ (some (m, _)) _ => g && n == m
  | _ => false
def mustB : Tr → Bool
  | .hole _ => true
  | .knot _ (some (_, b)) _ => b
  | _ => false
/-! ### plans -/
inductive Pn where
  | mk (k : Str) (ps : List (List Nat × Pn))
def Pn.key : Pn → Str
  | .mk k _ => k
mutual
def Pn.toD : Pn → D
  | .mk k ps => .tuple [.str k, .tuple (putsD ps)]
def putsD : List (List Nat × Pn) → List D
  | [] => []
  | (p, q) :: r => .tuple [placeD p, q.toD] :: putsD r
end
mutual
def Pn.size : Pn → Nat
  | .mk _ ps => 1 + sizes ps
def sizes : List (List Nat × Pn) → Nat
  | [] => 0
  | (_, q) :: r => q.size + sizes r
end
def hB : Nat → Nat
  | 0 => 0
  | 1 => 7311
  | 2 => 21933
  | 3 => 51177
  | 4 => 109665
  | _ => 226641
/-- what is put at the pieces, in their order -/
inductive Fit (es : List (Str × Tr)) (P : Pn → Prop) : List (List Nat × Tr) → List (List Nat × Pn) → Prop
  | nil : Fit es P [] []
  | skip {x : List Nat × Tr} {r : List (List Nat × Tr)} {ps : List (List Nat × Pn)} : mustB x.2 = false → Fit es P r ps → Fit es P (x :: r) ps
  | put {x : List Nat × Tr} {r : List (List Nat × Tr)} {q : Pn} {t : Tr} {ps : List (List Nat × Pn)} : (q.key, t) ∈ es → want x.2 t.g t.nm = true → P q → Fit es P r ps → Fit es P (x :: r) ((x.1, q) :: ps)
def PlanOk (es : List (Str × Tr)) : Nat → Pn → Prop
  | 0, _ => False
  | d + 1, .mk k ps => ∃ t, (k, t) ∈ es ∧ Fit es (PlanOk es d) (t.pcs []) ps
theorem Fit.imp {es : List (Str × Tr)} {P P' : Pn → Prop} (h : ∀ q, P q → P' q) : ∀ {pcs : List (List Nat × Tr)} {ps : List (List Nat × Pn)}, Fit es P pcs ps → Fit es P' pcs ps
  | _, _, .nil => .nil
  | _, _, .skip a r => .skip a (Fit.imp h r)
  | _, _, .put a b c r => .put a b (h _ c) (Fit.imp h r)
theorem PlanOk.up {es : List (Str × Tr)} : ∀ {d : Nat} {q : Pn}, PlanOk es d q → PlanOk es (d + 1) q
  | 0, _, h => h.elim
  | d + 1, .mk k ps, ⟨t, h1, h2⟩ => ⟨t, h1, h2.imp fun q => PlanOk.up⟩
theorem PlanOk.le {es : List (Str × Tr)} {d d' : Nat} (h : d ≤ d') {q : Pn} (hq : PlanOk es d q) : PlanOk es d' q := by
  induction d' with
  | zero => rw [show d = 0 by omega] at hq; exact hq
  | succ n ih =>
    by_cases e : d = n + 1
    · rw [← e]; exact hq
    · exact (ih (by omega)).up
def flt : List Str := ["s", "x0", "keytree", "g", "h1", "graftofaone"]
theorem atI_end {α : Type} {l : List α} {a : α} : atI (l ++ [a]) (-1) = some a := by
  unfold atI ixN
  rw [List.length_append, List.length_singleton]
  simp
  rw [if_pos (by omega), show (-1 + ((l.length : Int) + 1)).toNat = l.length by omega]
  simp
end Kt

namespace Kq
open PySem PySem.Spec PyProof.Rows L2 Pu Kt
/-! ### a list that a def changes for its caller -/
abbrev Bxd (a b : Int) (gs : List Int) : List D := [.int a, .int b, .list (gs.map PyData.int)]
theorem mcb_ok {i : Nat} {m : List D → List D → ReB} {ma : MM (List D)} {ρ ρ' : En} {ds b0 b1 b2 : List D} {d : D} (h0 : ρ[i]? = some (some (.box b0))) (h : ma ρ = .ok ds ρ') (h1 : ρ'[i]? = some (some (.box b1))) (e : m b1 ds = .ok (.imm d) b2) : mCB i m ma ρ = .ok d (ρ'.set i (some (.box b2))) := by
  unfold mCB
  rw [h0]
  dsimp only
  rw [bd_ok h, h1]
  dsimp only
  rw [e]
theorem mcbl_ok {i : Nat} {m : List D → List D → ReB} {ma : MM (List D)} {ρ ρ' : En} {ds b0 b1 b2 : List D} {d : List D} (h0 : ρ[i]? = some (some (.box b0))) (h : ma ρ = .ok ds ρ') (h1 : ρ'[i]? = some (some (.box b1))) (e : m b1 ds = .ok (.own d) b2) : mCBL i m ma ρ = .ok d (ρ'.set i (some (.box b2))) := by
  unfold mCBL
  rw [h0]
  dsimp only
  rw [bd_ok h, h1]
  dsimp only
  rw [e]
theorem mfnB_rt {n : Nat} {b : MS} {bs bs' : List D} {ds : List D} {r : RV} {ρ' : En} (h : b (some (.box bs) :: enI (n - 1) ds) = .rt r (some (.box bs') :: ρ')) : mfnB n b bs ds = .ok r bs' := by
  unfold mfnB
  rw [h]
  rfl
theorem ix30 : ixN 3 0 = some 0 := rfl
theorem ix31 : ixN 3 1 = some 1 := rfl
theorem ix32 : ixN 3 2 = some 2 := rfl
theorem fMulB {i j : Int} (h0 : 0 ≤ j) (h1 : j < 2147483647) : fMul (.int i) (.int j) = some (.int (i * j)) := by
  show (if (decide (i.natAbs < 2 ^ 63) || decide (j.natAbs < 2 ^ 63)) = true then some (PyData.int (i * j)) else none) = _
  rw [if_pos (by rw [Bool.or_eq_true]; exact .inr (decide_eq_true (by omega)))]
theorem eq0 {b : Int} : fEqW (.int b) (.int 0) = some (decide (b = 0)) := by
  rw [fEqW_int]
  congr 1
/-! ### texts by their letters -/
def S (l : List Nat) : Str := ⟨l.toArray⟩
theorem S_len (l : List Nat) : (S l).length = l.length := by rw [slen]; rfl
theorem S_app (a b : List Nat) : S a ++ S b = S (a ++ b) := by
  show (⟨a.toArray ++ b.toArray⟩ : Str) = ⟨(a ++ b).toArray⟩
  simp
theorem S_inj {a b : List Nat} (h : S a = S b) : a = b := by
  have := congrArg (fun x => x.cps.toList) h
  simpa [S] using this
theorem S_cs (l : List Nat) : cs (S l) = l := by simp [cs, S]
theorem cutS_take (l : List Nat) (j : Nat) : cutS (S l) none (some (j : Int)) = S (l.take j) := by
  have h : Pu.cutD l none (some (j : Int)) = l.take j := cut_take l j
  unfold cutS S
  unfold Pu.cutD at h
  rw [show (⟨l.toArray⟩ : Str).length = l.length from S_len l]
  exact congrArg (fun x : List Nat => (⟨x.toArray⟩ : Str)) h
theorem cutS_drop (l : List Nat) (j : Nat) : cutS (S l) (some (j : Int)) none = S (l.drop j) := by
  have h : Pu.cutD l (some (j : Int)) none = l.drop j := cut_drop l j
  unfold cutS S
  unfold Pu.cutD at h
  rw [show (⟨l.toArray⟩ : Str).length = l.length from S_len l]
  exact congrArg (fun x : List Nat => (⟨x.toArray⟩ : Str)) h
def Lt (l : List Nat) : Prop := ∀ c ∈ l, 97 ≤ c ∧ c ≤ 122
theorem Lt.ok {l : List Nat} (h : Lt l) : PyData.strOk (S l) = true := strOk_of fun c hc => by
  rw [S_cs] at hc
  have := h c hc
  omega
theorem Lt.app {a b : List Nat} (h1 : Lt a) (h2 : Lt b) : Lt (a ++ b) := fun c hc => (List.mem_append.mp hc).elim (h1 c) (h2 c)
theorem Lt.take {a : List Nat} (h : Lt a) (n : Nat) : Lt (a.take n) := fun c hc => h c (List.mem_of_mem_take hc)
theorem Lt.drop {a : List Nat} (h : Lt a) (n : Nat) : Lt (a.drop n) := fun c hc => h c (List.mem_of_mem_drop hc)
theorem Lt.one {j : Nat} (h : j < 26) : Lt [97 + j] := fun c hc => by rw [List.mem_singleton.mp hc]; omega
abbrev AZ : Str := "abcdefghijklmnopqrstuvwxyz"
theorem az_at : ∀ j : Nat, j < 26 → (cs AZ)[j]? = some (97 + j) := by decide +kernel
theorem az_ix {j : Nat} (h : j < 26) : fIx (.str AZ) (.int (j : Int)) = some (.str (S [97 + j])) := by
  have hl : AZ.length ≤ 16000000 := by decide +kernel
  show (if sized AZ.length then (atI AZ.cps.toList (j : Int)).map (fun c => PyData.str ⟨#[c]⟩) else none) = _
  rw [if_pos (sized_le hl), atI_some (az_at j h)]
  rfl
theorem S_nil : ("" : Str) = S [] := rfl
end Kq

namespace K87
open PySem PySem.Spec PyProof.Rows L2 Pu
def top (i : Nat) : Stmt := PySem.Challenge.pw_graftsay_k87_one_side.main.body.getD i (.Pass ⟨0, 0, 0, 0⟩)
abbrev s_feet_of : Stmt := top 1
abbrev s_is_graft : Stmt := top 2
abbrev s_last_leaf : Stmt := top 6
abbrev s_two_sided_keys : Stmt := top 5
abbrev s_one_sided : Stmt := top 4
abbrev s__law_box : Stmt := top 8
abbrev s__law_pick : Stmt := top 9
abbrev s__law_words : Stmt := top 10
abbrev s__law_socket : Stmt := top 11
abbrev s__law_leaf : Stmt := top 12
abbrev s__law_worn : Stmt := top 13
abbrev s__law_knot : Stmt := top 14
abbrev s__law_signs : Stmt := top 15
abbrev s__law_tree : Stmt := top 16
abbrev s__law_book : Stmt := top 17
abbrev s__law_leaves : Stmt := top 18
abbrev s__law_deep : Stmt := top 19
abbrev s_law : Stmt := top 20
def b_feet_of : MS := (sSeq (sSetL 1 (mLst mNil)) (sSeq (sSetL 2 (mLst (mCons (mV 0) mNil))) (sSeq (whileD (mTruL 2) (sSeq (sSet 3 (mMut 2 fPop mNil)) (sSeq (sIf (mCmp fEqW (mBin fIx (mV 3) (mC (.int 0))) (mC (.str "foot"))) (sDrop (mMut 1 fApp (mCons (mBin fIx (mV 3) (mC (.int 1))) mNil))) sNx) (sIf (mCmp fEqW (mBin fIx (mV 3) (mC (.int 0))) (mC (.str "knot"))) (sDrop (mMut 2 fExt (mCons (mBin fIx (mV 3) (mC (.int 3))) mNil))) sNx))) 100000) (sRetL (mVL 1)))))
def m_feet_of : List D → Re := mfn 4 b_feet_of
def b_is_graft : MS := (sRet (bl (mCmp fEqW (mCall gLen (mCons (fz (mCFL m_feet_of (mCons (mV 0) mNil))) mNil)) (mC (.int 1)))))
def m_is_graft : List D → Re := mfn 1 b_is_graft
def b_last_leaf : MS := (sSeq (sSet 1 (mV 0)) (sSeq (whileD (mCmp fEqW (mBin fIx (mV 1) (mC (.int 0))) (mC (.str "knot"))) (sSet 1 (mBin fIx (mBin fIx (mV 1) (mC (.int 3))) (mUn fNeg (mC (.int 1))))) 100000) (sRet (mV 1))))
def m_last_leaf : List D → Re := mfn 2 b_last_leaf
def b_two_sided_keys : MS := (sRetL (mLc [1, 2] (msSeq (mBin fIx (mV 0) (mC (.int 1)))) (gT [1, 2]) (mAnd (mTru (mCF m_is_graft (mCons (mV 2) mNil))) (mCmp fNeW (mBin fIx (mCF m_last_leaf (mCons (mV 2) mNil)) (mC (.int 0))) (mC (.str "foot")))) (mV 1)))
def m_two_sided_keys : List D → Re := mfn 3 b_two_sided_keys
def b_one_sided : MS := (sRet (bl (mNot (mTru (fz (mCFL m_two_sided_keys (mCons (mV 0) mNil)))))))
def m_one_sided : List D → Re := mfn 1 b_one_sided
def b__law_box : MS := (sSeq (sSet 1 (mC (.int 1))) (sSeq (sSetL 2 (mLst mNil)) (sSeq (sFor (msSeq (mV 0)) (gN 3) (sSeq (sSet 1 (mBin fMod (mBin fAdd (mBin fAdd (mBin fMul (mV 1) (mC (.int 69621))) (mBin fMod (mV 3) (mC (.int 2147483629)))) (mC (.int 1))) (mC (.int 2147483647)))) (sIf (mCmp fGe (mV 3) (mBin fPow (mC (.int 10)) (mC (.int 18)))) (sDrop (mMut 2 fApp (mCons (mV 3) mNil))) sNx))) (sRetL (mLst (mCons (mV 1) (mCons (mC (.int 0)) (mCons (mV 2) mNil))))))))
def m__law_box : List D → Re := mfn 4 b__law_box
def b__law_pick : MS := (sSeq (sIf (mAnd (mCmp fEqW (mIxB 0 (mC (.int 1))) (mC (.int 0))) (mCmp fGt (mCall gLen (mCons (mIxB 0 (mC (.int 2))) mNil)) (mC (.int 0)))) (sSeq (sBx 0 1 (mBin fIx (mIxB 0 (mC (.int 2))) (mC (.int 0)))) (sBx 0 2 (fz (mSlL (mIxB 0 (mC (.int 2))) (mPt (mC (.int 1))) mNoP)))) sNx) (sSeq (sIf (mCmp fGt (mIxB 0 (mC (.int 1))) (mC (.int 0))) (sSeq (sSet 3 (mBin fMod (mIxB 0 (mC (.int 1))) (mV 1))) (sSeq (sBx 0 1 (mBin fDiv (mIxB 0 (mC (.int 1))) (mV 1))) (sRet (mV 3)))) sNx) (sSeq (sBx 0 0 (mBin fMod (mBin fAdd (mBin fMul (mIxB 0 (mC (.int 0))) (mC (.int 48271))) (mC (.int 7919))) (mC (.int 2147483647)))) (sSeq (sSet 2 (mBin fMod (mBin fMul (mIxB 0 (mC (.int 0))) (mIxB 0 (mC (.int 0)))) (mC (.int 2147483629)))) (sRet (mBin fMod (mBin fDiv (mBin fMod (mBin fMul (mV 2) (mC (.int 40692))) (mC (.int 2147483587))) (mC (.int 8))) (mV 1)))))))
def m__law_pick : List D → List D → ReB := mfnB 4 b__law_pick
def b__law_words : MS := (sSeq (sSet 4 (mC (.str ""))) (sSeq (sFor (msRng (mCons (mCB 0 m__law_pick (mCons (mC (.int 4)) mNil)) mNil)) (gN 5) (sSet 4 (mBin fAdd (mV 4) (mBin fIx (mV 1) (mCB 0 m__law_pick (mCons (mC (.int 26)) mNil)))))) (sSeq (sSet 6 (mCB 0 m__law_pick (mCons (mBin fAdd (mCall gLen (mCons (mV 4) mNil)) (mC (.int 1))) mNil))) (sSeq (sSet 7 (mCB 0 m__law_pick (mCons (mC (.int 26)) mNil))) (sSeq (sSetL 8 (mLst mNil)) (sSeq (sFor (msRng (mCons (mV 3) mNil)) (gN 5) (sSeq (sSet 9 (mBin fAdd (mBin fAdd (mSl (mV 4) mNoP (mPt (mV 6))) (mBin fIx (mV 1) (mBin fMod (mBin fAdd (mV 7) (mBin fMul (mV 5) (mC (.int 5)))) (mC (.int 26))))) (mSl (mV 4) (mPt (mV 6)) mNoP))) (sDrop (mMut 8 fApp (mCons (mBin fAdd (mV 9) (mBin fMulS (mV 2) (mCB 0 m__law_pick (mCons (mC (.int 2)) mNil)))) mNil))))) (sRetL (mVL 8))))))))
def m__law_words : List D → List D → ReB := mfnB 10 b__law_words
def b__law_socket : MS := (sSeq (sIf (mCmp fEqW (mDG 0 "left") (mC (.int 0))) (sRet (mC (.bool false))) sNx) (sSeq (sDP 0 "left" (mBin fSub (mDG 0 "left") (mC (.int 1)))) (sRet (mC (.bool true)))))
def m__law_socket : List (Str × D) → List D → ReS := mfnS 1 b__law_socket
def b__law_leaf : MS := (sSeq (sSet 2 (mCB 0 m__law_pick (mCons (mC (.int 9)) mNil))) (sSeq (sIf (mCmp fEqW (mV 2) (mC (.int 0))) (sRet (mTup (mCons (mC (.str "void")) mNil))) sNx) (sSeq (sIf (mAnd (mCmp fLt (mV 2) (mC (.int 4))) (mTru (mCS 1 m__law_socket mNil))) (sRet (mTup (mCons (mC (.str "hole")) (mCons (mBin fIx (mDG 1 "starts") (mBin fDiv (mCB 0 m__law_pick (mCons (mC (.int 3)) mNil)) (mC (.int 2)))) mNil)))) sNx) (sRet (mTup (mCons (mC (.str "sign")) (mCons (mBin fIx (mDG 1 "signs") (mCB 0 m__law_pick (mCons (mCall gLen (mCons (mDG 1 "signs") mNil)) mNil))) mNil)))))))
def m__law_leaf : List D → List (Str × D) → List D → ReM := mfnM 3 b__law_leaf
def b__law_worn : MS := (sSeq (sSet 2 (mCB 0 m__law_pick (mCons (mC (.int 5)) mNil))) (sSeq (sIf (mOr (mCmp fLt (mV 2) (mC (.int 2))) (mOr (mNot (mTru (mDG 1 "knots"))) (mNot (mTru (mCS 1 m__law_socket mNil))))) (sRet (mC .none)) sNx) (sRet (mTup (mCons (mBin fIx (mDG 1 "grafts") (mBin fDiv (mCB 0 m__law_pick (mCons (mC (.int 4)) mNil)) (mC (.int 3)))) (mCons (bl (mCmp fEqW (mV 2) (mC (.int 4)))) mNil))))))
def m__law_worn : List D → List (Str × D) → List D → ReM := mfnM 3 b__law_worn
def b__law_knot (M__law_knot : List D → List (Str × D) → List D → ReM) : MS := (sSeq (sSet 5 (mCM 0 1 m__law_worn mNil)) (sSeq (sSetL 6 (mLst mNil)) (sSeq (sSet 7 (mBin fAdd (mC (.int 1)) (mCB 0 m__law_pick (mCons (mC (.int 3)) mNil)))) (sSeq (sSet 8 (mBin fSub (mV 7) (mC (.int 1)))) (sSeq (sIf (mCmp fLt (mCB 0 m__law_pick (mCons (mC (.int 4)) mNil)) (mDG 1 "free")) (sSet 8 (mCB 0 m__law_pick (mCons (mV 7) mNil))) sNx) (sSeq (sFor (msRng (mCons (mV 7) mNil)) (gN 9) (sSeq (sSet 10 (mC (.str ""))) (sSeq (sIf (mCmp fEqW (mV 9) (mV 8)) (sSet 10 (mV 4)) sNx) (sIf (mAnd (mCmp fGt (mV 3) (mC (.int 0))) (mCmp fEqW (mCB 0 m__law_pick (mCons (mC (.int 3)) mNil)) (mC (.int 0)))) (sDrop (mMut 6 fApp (mCons (mCM 0 1 M__law_knot (mCons (mBin fIx (mDG 1 "starts") (mCB 0 m__law_pick (mCons (mC (.int 2)) mNil))) (mCons (mBin fSub (mV 3) (mC (.int 1))) (mCons (mV 10) mNil)))) mNil))) (sIf (mCmp fNeW (mV 10) (mC (.str ""))) (sDrop (mMut 6 fApp (mCons (mTup (mCons (mC (.str "foot")) (mCons (mV 10) mNil))) mNil))) (sDrop (mMut 6 fApp (mCons (mCM 0 1 m__law_leaf mNil) mNil)))))))) (sRet (mTup (mCons (mC (.str "knot")) (mCons (mV 2) (mCons (mV 5) (mCons (mCall gTuple (mCons (mV 6) mNil)) mNil))))))))))))
def m__law_knot : Nat → List D → List (Str × D) → List D → ReM
  | 0 => fun _ _ _ => .no
  | n + 1 => mfnM 11 (b__law_knot (m__law_knot n))
def b__law_signs (M__law_signs : List D → Re) : MS := (sSeq (sIf (mCmp fEqW (mBin fIx (mV 0) (mC (.int 0))) (mC (.str "sign"))) (sRetL (mLst (mCons (mBin fIx (mV 0) (mC (.int 1))) mNil))) sNx) (sSeq (sSetL 1 (mLst mNil)) (sSeq (sIf (mCmp fEqW (mBin fIx (mV 0) (mC (.int 0))) (mC (.str "knot"))) (sFor (msSeq (mBin fIx (mV 0) (mC (.int 3)))) (gN 2) (sSetL 1 (mBinL fCat (mV 1) (fz (mCFL M__law_signs (mCons (mV 2) mNil)))))) sNx) (sRetL (mVL 1)))))
def m__law_signs : Nat → List D → Re
  | 0 => fun _ => .no
  | n + 1 => mfn 3 (b__law_signs (m__law_signs n))
def b__law_tree : MS := (sSeq (sDP 1 "left" (mV 4)) (sSeq (sSet 5 (mCM 0 1 (m__law_knot 4) (mCons (mV 2) (mCons (mC (.int 1)) (mCons (mV 3) mNil))))) (sSeq (sIf (mCmp fGt (mCall gLen (mCons (fz (mCFL (m__law_signs 6) (mCons (mV 5) mNil))) mNil)) (mC (.int 0))) (sRet (mV 5)) sNx) (sSeq (sSet 6 (mTup (mCons (mC (.str "sign")) (mCons (mBin fIx (mDG 1 "signs") (mCB 0 m__law_pick (mCons (mCall gLen (mCons (mDG 1 "signs") mNil)) mNil))) mNil)))) (sSeq (sIf (mOr (mCmp fLt (mDG 1 "free") (mC (.int 4))) (mCmp fEqW (mCB 0 m__law_pick (mCons (mC (.int 2)) mNil)) (mC (.int 0)))) (sRet (mBin fAdd (mSl (mV 5) mNoP (mPt (mC (.int 3)))) (mTup (mCons (mBin fAdd (mTup (mCons (mV 6) mNil)) (mBin fIx (mV 5) (mC (.int 3)))) mNil)))) sNx) (sRet (mBin fAdd (mSl (mV 5) mNoP (mPt (mC (.int 3)))) (mTup (mCons (mBin fAdd (mBin fIx (mV 5) (mC (.int 3))) (mTup (mCons (mV 6) mNil))) mNil)))))))))
def m__law_tree : List D → List (Str × D) → List D → ReM := mfnM 7 b__law_tree
def b__law_book : MS := (sSeq (sSet 4 (mC (.str "ABCDEFGHIJKLMNOPQRSTUVWXYZ"))) (sSeq (sDP 1 "starts" (fz (mCBL 0 m__law_words (mCons (mV 4) (mCons (mC (.str "7")) (mCons (mC (.int 2)) mNil)))))) (sSeq (sDP 1 "grafts" (fz (mCBL 0 m__law_words (mCons (mV 4) (mCons (mC (.str "0")) (mCons (mC (.int 2)) mNil)))))) (sSeq (sIf (mCmp fEqW (mCB 0 m__law_pick (mCons (mC (.int 3)) mNil)) (mC (.int 0))) (sDP 1 "grafts" (fz (mCallL gList (mCons (mDG 1 "starts") mNil)))) sNx) (sSeq (sSetL 5 (mCBL 0 m__law_words (mCons (mUn fLow (mV 4)) (mCons (mC (.str "3")) (mCons (mV 2) mNil))))) (sSeq (sSetL 6 (mLst (mCons (mTup (mCons (mIxL 5 (mC (.int 0))) (mCons (mCM 0 1 m__law_tree (mCons (mBin fIx (mDG 1 "starts") (mC (.int 0))) (mCons (mC (.str "")) (mCons (mBin fMul (mV 3) (mBin fDiv (mBin fAdd (mC (.int 1)) (mCB 0 m__law_pick (mCons (mC (.int 3)) mNil))) (mC (.int 2)))) mNil)))) mNil))) mNil))) (sSeq (sFor (msRg2 (mCons (mC (.int 1)) (mCons (mV 2) mNil))) (gN 7) (sSeq (sSet 9 (mBin fIx (mDG 1 "starts") (mCB 0 m__law_pick (mCons (mC (.int 2)) mNil)))) (sSeq (sSet 10 (mC (.str ""))) (sSeq (sIf (mOr (mCmp fEqW (mV 7) (mC (.int 1))) (mCmp fEqW (mCB 0 m__law_pick (mCons (mC (.int 2)) mNil)) (mC (.int 0)))) (sSet 10 (mBin fIx (mDG 1 "grafts") (mBin fDiv (mCB 0 m__law_pick (mCons (mC (.int 4)) mNil)) (mC (.int 3))))) sNx) (sDrop (mMut 6 fApp (mCons (mTup (mCons (mIxL 5 (mV 7)) (mCons (mCM 0 1 m__law_tree (mCons (mV 9) (mCons (mV 10) (mCons (mV 3) mNil)))) mNil))) mNil))))))) (sSeq (sSet 8 (mCB 0 m__law_pick (mCons (mV 2) mNil))) (sSeq (sSetL 6 (mBinL fCat (fz (mSlL (mV 6) (mPt (mV 8)) mNoP)) (fz (mSlL (mV 6) mNoP (mPt (mV 8)))))) (sSeq (sIf (mCmp fEqW (mCB 0 m__law_pick (mCons (mC (.int 2)) mNil)) (mC (.int 1))) (sSetL 6 (mRevL (mV 6) (mUn fNeg (mC (.int 1))))) sNx) (sRet (mTup (mCons (mBin fIx (mDG 1 "starts") (mC (.int 0))) (mCons (mCall gTuple (mCons (mV 6) mNil)) mNil))))))))))))))
def m__law_book : List D → List (Str × D) → List D → ReM := mfnM 11 b__law_book
def b__law_leaves (M__law_leaves : List D → Re) : MS := (sSeq (sIf (mCmp fNeW (mBin fIx (mV 0) (mC (.int 0))) (mC (.str "knot"))) (sRetL (mLst (mCons (mBin fIx (mV 0) (mC (.int 0))) mNil))) sNx) (sSeq (sSetL 1 (mLst mNil)) (sSeq (sFor (msSeq (mBin fIx (mV 0) (mC (.int 3)))) (gN 2) (sSetL 1 (mBinL fCat (mV 1) (fz (mCFL M__law_leaves (mCons (mV 2) mNil)))))) (sRetL (mVL 1)))))
def m__law_leaves : Nat → List D → Re
  | 0 => fun _ => .no
  | n + 1 => mfn 3 (b__law_leaves (m__law_leaves n))
def b__law_deep : MS := (sSeq (sSet 2 (mTup (mCons (mC (.str "foot")) (mCons (mBin fIx (mDG 1 "grafts") (mC (.int 0))) mNil)))) (sSeq (sFor (msRng (mCons (mBin fAdd (mC (.int 1)) (mCB 0 m__law_pick (mCons (mC (.int 5)) mNil))) mNil)) (gN 3) (sSeq (sSet 4 (mTup (mCons (mV 2) mNil))) (sSeq (sIf (mOr (mCmp fEqW (mV 3) (mC (.int 0))) (mCmp fEqW (mCB 0 m__law_pick (mCons (mC (.int 2)) mNil)) (mC (.int 0)))) (sSet 4 (mTup (mCons (mTup (mCons (mC (.str "sign")) (mCons (mBin fIx (mDG 1 "signs") (mCB 0 m__law_pick (mCons (mC (.int 2)) mNil))) mNil))) (mCons (mV 2) mNil)))) sNx) (sSeq (sIf (mCmp fEqW (mCB 0 m__law_pick (mCons (mC (.int 8)) mNil)) (mC (.int 0))) (sSeq (sSetL 5 (mLst (mCons (mTup (mCons (mC (.str "void")) mNil)) (mCons (mTup (mCons (mC (.str "sign")) (mCons (mBin fIx (mDG 1 "signs") (mC (.int 0))) mNil))) (mCons (mTup (mCons (mC (.str "hole")) (mCons (mBin fIx (mDG 1 "starts") (mC (.int 0))) mNil))) mNil))))) (sSet 4 (mBin fAdd (mV 4) (mTup (mCons (mIxL 5 (mCB 0 m__law_pick (mCons (mC (.int 3)) mNil))) mNil))))) sNx) (sSet 2 (mTup (mCons (mC (.str "knot")) (mCons (mBin fIx (mDG 1 "starts") (mC (.int 1))) (mCons (mC .none) (mCons (mV 4) mNil)))))))))) (sRet (mV 2))))
def m__law_deep : List D → List (Str × D) → List D → ReM := mfnM 6 b__law_deep
def b_law : MS := (sSeq (sSetB 1 (mCFL m__law_box (mCons (mV 0) mNil))) (sSeq (sSetL 2 (mCBL 1 m__law_words (mCons (mC (.str "abcdefghijklmnopqrstuvwxyz")) (mCons (mC (.str "q")) (mCons (mC (.int 2)) mNil))))) (sSeq (sSet 3 (mBin fIx (fz (mLst (mCons (mC (.int 0)) (mCons (mC (.int 1)) (mCons (mC (.int 1)) (mCons (mC (.int 4)) mNil)))))) (mCB 1 m__law_pick (mCons (mC (.int 4)) mNil)))) (sSeq (sSetD 4 [("signs", (mV 2)), ("free", (mV 3)), ("knots", (mC (.bool true))), ("left", (mC (.int 0)))]) (sSeq (sSet 5 (mCM 1 4 m__law_book (mCons (mBin fAdd (mC (.int 3)) (mCB 1 m__law_pick (mCons (mC (.int 3)) mNil))) (mCons (mC (.int 4)) mNil)))) (sSeq (sSetL 6 (mLc [13, 14] (msSeq (mBin fIx (mV 5) (mC (.int 1)))) (gT [13, 14]) mYes (fz (mCFL (m__law_leaves 12) (mCons (mV 14) mNil))))) (sSeq (sSet 7 (bl (mCmp fEqW (mCall gLen (mCons (fz (mLc [16] (msSeq (mV 6)) (gN 16) (mAnd (mCmp fInD (mC (.str "foot")) (mV 16)) (mCmp fNeW (mBin fIx (mV 16) (mUn fNeg (mC (.int 1)))) (mC (.str "foot")))) (mV 16))) mNil)) (mC (.int 0))))) (sSeq (sSet 8 (mCM 1 4 m__law_deep mNil)) (sSeq (sSet 9 (mCall gTuple (mCons (fz (mLc [15, 16] (msZip (mCons (mBin fIx (mV 5) (mC (.int 1))) (mCons (mV 6) mNil))) (gT [15, 16]) (mCmp fNotInD (mC (.str "foot")) (mV 16)) (mV 15))) mNil))) (sSeq (sSetL 10 (mLst (mCons (mTup (mCons (mV 5) (mCons (mV 7) mNil))) (mCons (mTup (mCons (mTup (mCons (mBin fIx (mV 5) (mC (.int 0))) (mCons (mBin fRevT (mBin fIx (mV 5) (mC (.int 1))) (mUn fNeg (mC (.int 1)))) mNil))) (mCons (mV 7) mNil))) (mCons (mTup (mCons (mV 5) (mCons (mV 7) mNil))) (mCons (mTup (mCons (mTup (mCons (mBin fIx (mV 5) (mC (.int 0))) (mCons (mV 9) mNil))) (mCons (mC (.bool true)) mNil))) mNil)))))) (sSeq (sDrop (mMut 10 fApp (mCons (mTup (mCons (mTup (mCons (mBin fIx (mV 5) (mC (.int 0))) (mCons (mBin fAdd (mV 9) (mTup (mCons (mTup (mCons (mC (.str "zdeep")) (mCons (mV 8) mNil))) mNil))) mNil))) (mCons (bl (mCmp fEqW (mBin fIx (fz (mCFL (m__law_leaves 12) (mCons (mV 8) mNil))) (mUn fNeg (mC (.int 1)))) (mC (.str "foot")))) mNil))) mNil))) (sSeq (sFor (msSeq (mV 10)) (gT [11, 7]) (sSeq (sSet 12 (mCF m_one_sided (mCons (mV 11) mNil))) (sIf (mOr (mNot (mTru (mIsi "bool" (mV 12)))) (mCmp fNeW (mV 12) (mV 7))) (sRet (mC (.bool false))) sNx))) (sRet (mC (.bool true)))))))))))))))
def m_law : List D → Re := mfn 17 b_law
structure Adr where
  a_feet_of : Addr
  d_feet_of : FuncData
  a_is_graft : Addr
  d_is_graft : FuncData
  a_last_leaf : Addr
  d_last_leaf : FuncData
  a_two_sided_keys : Addr
  d_two_sided_keys : FuncData
  a_one_sided : Addr
  d_one_sided : FuncData
  a__law_box : Addr
  d__law_box : FuncData
  a__law_pick : Addr
  d__law_pick : FuncData
  a__law_words : Addr
  d__law_words : FuncData
  a__law_socket : Addr
  d__law_socket : FuncData
  a__law_leaf : Addr
  d__law_leaf : FuncData
  a__law_worn : Addr
  d__law_worn : FuncData
  a__law_knot : Addr
  d__law_knot : FuncData
  a__law_signs : Addr
  d__law_signs : FuncData
  a__law_tree : Addr
  d__law_tree : FuncData
  a__law_book : Addr
  d__law_book : FuncData
  a__law_leaves : Addr
  d__law_leaves : FuncData
  a__law_deep : Addr
  d__law_deep : FuncData
  a_law : Addr
  d_law : FuncData
structure Txt (tb : List Addr) (K : Fg) (mg : Str → Option Value) (t : Adr) : Prop where
  F_feet_of : Fun K "feet_of" "feet_of" s_feet_of t.a_feet_of t.d_feet_of
  b_feet_of : Binds K t.d_feet_of ["tree"] []
  g_feet_of : mg "feet_of" = some (.ref t.a_feet_of)
  F_is_graft : Fun K "is_graft" "is_graft" s_is_graft t.a_is_graft t.d_is_graft
  b_is_graft : Binds K t.d_is_graft ["tree"] []
  g_is_graft : mg "is_graft" = some (.ref t.a_is_graft)
  F_last_leaf : Fun K "last_leaf" "last_leaf" s_last_leaf t.a_last_leaf t.d_last_leaf
  b_last_leaf : Binds K t.d_last_leaf ["tree"] []
  g_last_leaf : mg "last_leaf" = some (.ref t.a_last_leaf)
  F_two_sided_keys : Fun K "two_sided_keys" "two_sided_keys" s_two_sided_keys t.a_two_sided_keys t.d_two_sided_keys
  b_two_sided_keys : Binds K t.d_two_sided_keys ["book"] []
  g_two_sided_keys : mg "two_sided_keys" = some (.ref t.a_two_sided_keys)
  F_one_sided : Fun K "one_sided" "one_sided" s_one_sided t.a_one_sided t.d_one_sided
  b_one_sided : Binds K t.d_one_sided ["book"] []
  g_one_sided : mg "one_sided" = some (.ref t.a_one_sided)
  F__law_box : Fun K "_law_box" "_law_box" s__law_box t.a__law_box t.d__law_box
  b__law_box : Binds K t.d__law_box ["script"] []
  g__law_box : mg "_law_box" = some (.ref t.a__law_box)
  F__law_pick : Fun K "_law_pick" "_law_pick" s__law_pick t.a__law_pick t.d__law_pick
  b__law_pick : Binds K t.d__law_pick ["box", "count"] []
  g__law_pick : mg "_law_pick" = some (.ref t.a__law_pick)
  F__law_words : Fun K "_law_words" "_law_words" s__law_words t.a__law_words t.d__law_words
  b__law_words : Binds K t.d__law_words ["box", "heads", "tail", "count"] []
  g__law_words : mg "_law_words" = some (.ref t.a__law_words)
  F__law_socket : Fun K "_law_socket" "_law_socket" s__law_socket t.a__law_socket t.d__law_socket
  b__law_socket : Binds K t.d__law_socket ["some"] []
  g__law_socket : mg "_law_socket" = some (.ref t.a__law_socket)
  F__law_leaf : Fun K "_law_leaf" "_law_leaf" s__law_leaf t.a__law_leaf t.d__law_leaf
  b__law_leaf : Binds K t.d__law_leaf ["box", "some"] []
  g__law_leaf : mg "_law_leaf" = some (.ref t.a__law_leaf)
  F__law_worn : Fun K "_law_worn" "_law_worn" s__law_worn t.a__law_worn t.d__law_worn
  b__law_worn : Binds K t.d__law_worn ["box", "some"] []
  g__law_worn : mg "_law_worn" = some (.ref t.a__law_worn)
  F__law_knot : Fun K "_law_knot" "_law_knot" s__law_knot t.a__law_knot t.d__law_knot
  b__law_knot : Binds K t.d__law_knot ["box", "some", "name", "deep", "foot"] []
  g__law_knot : mg "_law_knot" = some (.ref t.a__law_knot)
  F__law_signs : Fun K "_law_signs" "_law_signs" s__law_signs t.a__law_signs t.d__law_signs
  b__law_signs : Binds K t.d__law_signs ["piece"] []
  g__law_signs : mg "_law_signs" = some (.ref t.a__law_signs)
  F__law_tree : Fun K "_law_tree" "_law_tree" s__law_tree t.a__law_tree t.d__law_tree
  b__law_tree : Binds K t.d__law_tree ["box", "some", "name", "foot", "room"] []
  g__law_tree : mg "_law_tree" = some (.ref t.a__law_tree)
  F__law_book : Fun K "_law_book" "_law_book" s__law_book t.a__law_book t.d__law_book
  b__law_book : Binds K t.d__law_book ["box", "some", "count", "room"] []
  g__law_book : mg "_law_book" = some (.ref t.a__law_book)
  F__law_leaves : Fun K "_law_leaves" "_law_leaves" s__law_leaves t.a__law_leaves t.d__law_leaves
  b__law_leaves : Binds K t.d__law_leaves ["piece"] []
  g__law_leaves : mg "_law_leaves" = some (.ref t.a__law_leaves)
  F__law_deep : Fun K "_law_deep" "_law_deep" s__law_deep t.a__law_deep t.d__law_deep
  b__law_deep : Binds K t.d__law_deep ["box", "some"] []
  g__law_deep : mg "_law_deep" = some (.ref t.a__law_deep)
  F_law : Fun K "law" "law" s_law t.a_law t.d_law
  b_law : Binds K t.d_law ["script"] []
  g_law : mg "law" = some (.ref t.a_law)
  z_bool : mg "bool" = none
  z_isinstance : mg "isinstance" = none
  z_len : mg "len" = none
  z_list : mg "list" = none
  z_range : mg "range" = none
  z_tuple : mg "tuple" = none
  z_zip : mg "zip" = none
theorem sc_feet_of : FnScope ["tree", "names", "waiting", "piece"] ["tree"] (defScope s_feet_of) := ⟨rfl, rfl, rfl, by decide +kernel, rfl, by decide +kernel, by decide +kernel⟩
theorem sc_is_graft : FnScope ["tree"] ["tree"] (defScope s_is_graft) := ⟨rfl, rfl, rfl, by decide +kernel, rfl, by decide +kernel, by decide +kernel⟩
theorem sc_last_leaf : FnScope ["tree", "piece"] ["tree"] (defScope s_last_leaf) := ⟨rfl, rfl, rfl, by decide +kernel, rfl, by decide +kernel, by decide +kernel⟩
theorem sc_two_sided_keys : FnScope ["book", "key", "tree"] ["book"] (defScope s_two_sided_keys) := ⟨rfl, rfl, rfl, by decide +kernel, rfl, by decide +kernel, by decide +kernel⟩
theorem sc_one_sided : FnScope ["book"] ["book"] (defScope s_one_sided) := ⟨rfl, rfl, rfl, by decide +kernel, rfl, by decide +kernel, by decide +kernel⟩
theorem sc__law_box : FnScope ["script", "seed", "great", "cell"] ["script"] (defScope s__law_box) := ⟨rfl, rfl, rfl, by decide +kernel, rfl, by decide +kernel, by decide +kernel⟩
theorem sc__law_pick : FnScope ["box", "count", "stir", "digit"] ["box", "count"] (defScope s__law_pick) := ⟨rfl, rfl, rfl, by decide +kernel, rfl, by decide +kernel, by decide +kernel⟩
theorem sc__law_words : FnScope ["box", "heads", "tail", "count", "stem", "k", "at", "turn", "some", "word"] ["box", "heads", "tail", "count"] (defScope s__law_words) := ⟨rfl, rfl, rfl, by decide +kernel, rfl, by decide +kernel, by decide +kernel⟩
theorem sc__law_socket : FnScope ["some"] ["some"] (defScope s__law_socket) := ⟨rfl, rfl, rfl, by decide +kernel, rfl, by decide +kernel, by decide +kernel⟩
theorem sc__law_leaf : FnScope ["box", "some", "way"] ["box", "some"] (defScope s__law_leaf) := ⟨rfl, rfl, rfl, by decide +kernel, rfl, by decide +kernel, by decide +kernel⟩
theorem sc__law_worn : FnScope ["box", "some", "way"] ["box", "some"] (defScope s__law_worn) := ⟨rfl, rfl, rfl, by decide +kernel, rfl, by decide +kernel, by decide +kernel⟩
theorem sc__law_knot : FnScope ["box", "some", "name", "deep", "foot", "worn", "kids", "size", "spot", "k", "here"] ["box", "some", "name", "deep", "foot"] (defScope s__law_knot) := ⟨rfl, rfl, rfl, by decide +kernel, rfl, by decide +kernel, by decide +kernel⟩
theorem sc__law_signs : FnScope ["piece", "signs", "kid"] ["piece"] (defScope s__law_signs) := ⟨rfl, rfl, rfl, by decide +kernel, rfl, by decide +kernel, by decide +kernel⟩
theorem sc__law_tree : FnScope ["box", "some", "name", "foot", "room", "tree", "sign"] ["box", "some", "name", "foot", "room"] (defScope s__law_tree) := ⟨rfl, rfl, rfl, by decide +kernel, rfl, by decide +kernel, by decide +kernel⟩
theorem sc__law_book : FnScope ["box", "some", "count", "room", "great", "keys", "trees", "k", "turn", "name", "foot"] ["box", "some", "count", "room"] (defScope s__law_book) := ⟨rfl, rfl, rfl, by decide +kernel, rfl, by decide +kernel, by decide +kernel⟩
theorem sc__law_leaves : FnScope ["piece", "leaves", "kid"] ["piece"] (defScope s__law_leaves) := ⟨rfl, rfl, rfl, by decide +kernel, rfl, by decide +kernel, by decide +kernel⟩
theorem sc__law_deep : FnScope ["box", "some", "tree", "k", "kids", "behind"] ["box", "some"] (defScope s__law_deep) := ⟨rfl, rfl, rfl, by decide +kernel, rfl, by decide +kernel, by decide +kernel⟩
theorem sc_law : FnScope ["script", "box", "signs", "free", "some", "book", "rows", "due", "deep", "starts", "things", "thing", "told", "key", "tree", "pair", "row"] ["script"] (defScope s_law) := ⟨rfl, rfl, rfl, by decide +kernel, rfl, by decide +kernel, by decide +kernel⟩
section
variable {Pr : Program} {w : World} {K : Fg} {mg : Str → Option Value} {base : Heap} {t : Adr} {tb : List Addr}
set_option maxHeartbeats 4000000 in
theorem ok_feet_of (T : Txt tb K mg t) (hB : BM base mg) : FnOk Pr w K mg base CX0 1 t.a_feet_of t.d_feet_of ["tree"] (spI tb K 1 m_feet_of) := by
  exact q_fn_pure T.F_feet_of sc_feet_of fun cdv A outer s H E hr hT hcd =>
    (q_rss_cons (q_rs_setL (i := 1) sc_feet_of.nd (q_rl_lst q_ra_nil)) (q_rss_cons (q_rs_setL (i := 2) sc_feet_of.nd (q_rl_lst (q_ra_cons (q_re_var 0) q_ra_nil))) (q_rss_cons (q_rs_while 100000 PassesOwn.never (q_rt_truL 2) (q_rss_cons (q_rs_set (i := 3) sc_feet_of.nd (q_re_mut0 2 PySem.F.slot_list_pop PySem.F.type_list_pop mt_popD)) (q_rss_cons (q_rs_if (q_rt_cmp (op_eqRW (unitsW hr)) (q_re_ix (q_re_var 3) q_re_int) q_re_str) (q_rss_one (q_rs_expr (q_re_mut 1 PySem.F.slot_list_append PySem.F.type_list_append mt_app (q_ra_cons (q_re_ix (q_re_var 3) q_re_int) q_ra_nil)))) q_rss_nil) (q_rss_one (q_rs_if (q_rt_cmp (op_eqRW (unitsW hr)) (q_re_ix (q_re_var 3) q_re_int) q_re_str) (q_rss_one (q_rs_expr (q_re_mut 2 PySem.F.slot_list_extend PySem.F.type_list_extend mt_ext (q_ra_cons (q_re_ix (q_re_var 3) q_re_int) q_ra_nil)))) q_rss_nil))))) (q_rss_one (q_rs_retL (q_rl_var 1))))))
set_option maxHeartbeats 4000000 in
theorem ok_is_graft (T : Txt tb K mg t) (hB : BM base mg) : FnOk Pr w K mg base CX0 2 t.a_is_graft t.d_is_graft ["tree"] (spI tb K 1 m_is_graft) := by
  have G_feet_of := (ok_feet_of (Pr := Pr) (w := w) (base := base) T hB).mono (show 1 ≤ 1 by decide)
  exact q_fn_pure T.F_is_graft sc_is_graft fun cdv A outer s H E hr hT hcd =>
    (q_rss_one (q_rs_ret (q_re_cmp (op_eqRW (unitsW hr)) (q_re_callB cr_len rfl T.z_len PySem.boot_len (q_ra_cons (q_re_fz (q_rl_call G_feet_of hr hT rfl T.g_feet_of T.F_feet_of.kp T.b_feet_of rfl (q_ra_cons (q_re_var 0) q_ra_nil) (len_cons len_nil))) q_ra_nil)) q_re_int)))
set_option maxHeartbeats 4000000 in
theorem ok_last_leaf (T : Txt tb K mg t) (hB : BM base mg) : FnOk Pr w K mg base CX0 1 t.a_last_leaf t.d_last_leaf ["tree"] (spI tb K 1 m_last_leaf) := by
  exact q_fn_pure T.F_last_leaf sc_last_leaf fun cdv A outer s H E hr hT hcd =>
    (q_rss_cons (q_rs_set (i := 1) sc_last_leaf.nd (q_re_var 0)) (q_rss_cons (q_rs_while 100000 PassesOwn.never (q_rt_cmp (op_eqRW (unitsW hr)) (q_re_ix (q_re_var 1) q_re_int) q_re_str) (q_rss_one (q_rs_set (i := 1) sc_last_leaf.nd (q_re_ix (q_re_ix (q_re_var 1) q_re_int) (q_re_neg q_re_int))))) (q_rss_one (q_rs_ret (q_re_var 1)))))
set_option maxHeartbeats 4000000 in
theorem ok_two_sided_keys (T : Txt tb K mg t) (hB : BM base mg) : FnOk Pr w K mg base CX0 3 t.a_two_sided_keys t.d_two_sided_keys ["book"] (spI tb K 1 m_two_sided_keys) := by
  have G_is_graft := (ok_is_graft (Pr := Pr) (w := w) (base := base) T hB).mono (show 2 ≤ 2 by decide)
  have G_last_leaf := (ok_last_leaf (Pr := Pr) (w := w) (base := base) T hB).mono (show 1 ≤ 2 by decide)
  exact q_fn_pure T.F_two_sided_keys sc_two_sided_keys fun cdv A outer s H E hr hT hcd =>
    (q_rss_one (q_rs_retL (q_rl_lc (own := [("key", 1), ("tree", 2)]) (g := gTup K 2 (gCons (gName 1) (gCons (gName 2) gNil))) (is := [1, 2]) (f := (gT [1, 2])) rfl sc_two_sided_keys.nd (q_im_seq (q_re_ix (q_re_var 0) q_re_int)) (blkOk_by (own := [("key", 1), ("tree", 2)]) (N := ["book", "key", "tree"]) (sc := defScope s_two_sided_keys) (by decide +kernel)) (fun _ _ _ _ _ => (q_gm_tup rfl (q_gms_cons (q_gm_name (i := 1) sc_two_sided_keys.nd) (q_gms_cons (q_gm_name (i := 2) sc_two_sided_keys.nd) q_gms_nil)))) (fun _ _ _ _ _ => (q_rts_one (q_pt (q_rw_and (q_rt_tru (q_re_call G_is_graft hr hT rfl T.g_is_graft T.F_is_graft.kp T.b_is_graft rfl (q_ra_cons (q_re_var 2) q_ra_nil) (len_cons len_nil))) (q_rw_and1 (q_rt_cmp (op_neRW (unitsW hr)) (q_re_ix (q_re_call G_last_leaf hr hT rfl T.g_last_leaf T.F_last_leaf.kp T.b_last_leaf rfl (q_ra_cons (q_re_var 2) q_ra_nil) (len_cons len_nil)) q_re_int) q_re_str)))))) (fun _ _ _ _ _ => (q_re_var 1)) (by decide) (fun _ _ _ h _ _ e o => gT_own h e o))))
set_option maxHeartbeats 4000000 in
theorem ok_one_sided (T : Txt tb K mg t) (hB : BM base mg) : FnOk Pr w K mg base CX0 4 t.a_one_sided t.d_one_sided ["book"] (spI tb K 1 m_one_sided) := by
  have G_two_sided_keys := (ok_two_sided_keys (Pr := Pr) (w := w) (base := base) T hB).mono (show 3 ≤ 3 by decide)
  exact q_fn_pure T.F_one_sided sc_one_sided fun cdv A outer s H E hr hT hcd =>
    (q_rss_one (q_rs_ret (q_re_notT (q_re_fz (q_rl_call G_two_sided_keys hr hT rfl T.g_two_sided_keys T.F_two_sided_keys.kp T.b_two_sided_keys rfl (q_ra_cons (q_re_var 0) q_ra_nil) (len_cons len_nil))))))
set_option maxHeartbeats 4000000 in
theorem ok__law_box (T : Txt tb K mg t) (hB : BM base mg) : FnOk Pr w K mg base CX0 1 t.a__law_box t.d__law_box ["script"] (spI tb K 1 m__law_box) := by
  exact q_fn_pure T.F__law_box sc__law_box fun cdv A outer s H E hr hT hcd =>
    (q_rss_cons (q_rs_set (i := 1) sc__law_box.nd q_re_int) (q_rss_cons (q_rs_setL (i := 2) sc__law_box.nd (q_rl_lst q_ra_nil)) (q_rss_cons (q_rs_for PassesOwn.never rfl (q_im_seq (q_re_var 0)) (q_gm_name (i := 3) sc__law_box.nd) (q_rss_cons (q_rs_set (i := 1) sc__law_box.nd (q_re_op op_modD (q_re_op op_addD (q_re_op op_addD (q_re_op op_mulD (q_re_var 1) q_re_int) (q_re_op op_modD (q_re_var 3) q_re_int)) q_re_int) q_re_int)) (q_rss_one (q_rs_if (q_rt_cmp op_geR (q_re_var 3) (q_re_op op_powD q_re_int q_re_int)) (q_rss_one (q_rs_expr (q_re_mut 2 PySem.F.slot_list_append PySem.F.type_list_append mt_app (q_ra_cons (q_re_var 3) q_ra_nil)))) q_rss_nil)))) (q_rss_one (q_rs_retL (q_rl_lst (q_ra_cons (q_re_var 1) (q_ra_cons q_re_int (q_ra_cons (q_re_var 2) q_ra_nil)))))))))
set_option maxHeartbeats 4000000 in
theorem ok__law_pick (T : Txt tb K mg t) (hB : BM base mg) : FnOk Pr w K mg base CX0 1 t.a__law_pick t.d__law_pick ["box", "count"] (spB tb K 2 m__law_pick) := by
  exact q_fn_box T.F__law_pick sc__law_pick (by decide) fun cdv A outer s H E _p hr hT hcd =>
    (q_rss_cons (q_rs_if (q_pt (q_rw_and (q_rt_cmp (op_eqRW (unitsW hr)) (q_re_ixB 0 q_re_int) q_re_int) (q_rw_and1 (q_rt_cmp op_gtR (q_re_callB cr_len rfl T.z_len PySem.boot_len (q_ra_cons (q_re_ixB 0 q_re_int) q_ra_nil)) q_re_int)))) (q_rss_cons (q_rs_bset 0 (q_re_ix (q_re_ixB 0 q_re_int) q_re_int)) (q_rss_one (q_rs_bset 0 (q_re_fz (q_rl_sl (q_re_ixB 0 q_re_int) (q_ro_some q_re_int) q_ro_none))))) q_rss_nil) (q_rss_cons (q_rs_if (q_rt_cmp op_gtR (q_re_ixB 0 q_re_int) q_re_int) (q_rss_cons (q_rs_set (i := 3) sc__law_pick.nd (q_re_op op_modD (q_re_ixB 0 q_re_int) (q_re_var 1))) (q_rss_cons (q_rs_bset 0 (q_re_op op_divD (q_re_ixB 0 q_re_int) (q_re_var 1))) (q_rss_one (q_rs_ret (q_re_var 3))))) q_rss_nil) (q_rss_cons (q_rs_bset 0 (q_re_op op_modD (q_re_op op_addD (q_re_op op_mulD (q_re_ixB 0 q_re_int) q_re_int) q_re_int) q_re_int)) (q_rss_cons (q_rs_set (i := 2) sc__law_pick.nd (q_re_op op_modD (q_re_op op_mulD (q_re_ixB 0 q_re_int) (q_re_ixB 0 q_re_int)) q_re_int)) (q_rss_one (q_rs_ret (q_re_op op_modD (q_re_op op_divD (q_re_op op_modD (q_re_op op_mulD (q_re_var 2) q_re_int) q_re_int) q_re_int) (q_re_var 1))))))))
set_option maxHeartbeats 4000000 in
theorem ok__law_words (T : Txt tb K mg t) (hB : BM base mg) : FnOk Pr w K mg base CX0 2 t.a__law_words t.d__law_words ["box", "heads", "tail", "count"] (spB tb K 4 m__law_words) := by
  have G__law_pick := (ok__law_pick (Pr := Pr) (w := w) (base := base) T hB).mono (show 1 ≤ 1 by decide)
  exact q_fn_box T.F__law_words sc__law_words (by decide) fun cdv A outer s H E _p hr hT hcd =>
    (q_rss_cons (q_rs_set (i := 4) sc__law_words.nd q_re_str) (q_rss_cons (q_rs_for PassesOwn.never rfl (q_im_rng rfl T.z_range (q_ra_cons (q_re_callBx 0 G__law_pick hr hT rfl T.g__law_pick T.F__law_pick.kp T.b__law_pick rfl (q_ra_cons q_re_int q_ra_nil) (len_cons len_nil)) q_ra_nil)) (q_gm_name (i := 5) sc__law_words.nd) (q_rss_one (q_rs_set (i := 4) sc__law_words.nd (q_re_op op_addD (q_re_var 4) (q_re_ix (q_re_var 1) (q_re_callBx 0 G__law_pick hr hT rfl T.g__law_pick T.F__law_pick.kp T.b__law_pick rfl (q_ra_cons q_re_int q_ra_nil) (len_cons len_nil))))))) (q_rss_cons (q_rs_set (i := 6) sc__law_words.nd (q_re_callBx 0 G__law_pick hr hT rfl T.g__law_pick T.F__law_pick.kp T.b__law_pick rfl (q_ra_cons (q_re_op op_addD (q_re_callB cr_len rfl T.z_len PySem.boot_len (q_ra_cons (q_re_var 4) q_ra_nil)) q_re_int) q_ra_nil) (len_cons len_nil))) (q_rss_cons (q_rs_set (i := 7) sc__law_words.nd (q_re_callBx 0 G__law_pick hr hT rfl T.g__law_pick T.F__law_pick.kp T.b__law_pick rfl (q_ra_cons q_re_int q_ra_nil) (len_cons len_nil))) (q_rss_cons (q_rs_setL (i := 8) sc__law_words.nd (q_rl_lst q_ra_nil)) (q_rss_cons (q_rs_for PassesOwn.never rfl (q_im_rng rfl T.z_range (q_ra_cons (q_re_var 3) q_ra_nil)) (q_gm_name (i := 5) sc__law_words.nd) (q_rss_cons (q_rs_set (i := 9) sc__law_words.nd (q_re_op op_addD (q_re_op op_addD (q_re_sl (q_re_var 4) q_ro_none (q_ro_some (q_re_var 6))) (q_re_ix (q_re_var 1) (q_re_op op_modD (q_re_op op_addD (q_re_var 7) (q_re_op op_mulD (q_re_var 5) q_re_int)) q_re_int))) (q_re_sl (q_re_var 4) (q_ro_some (q_re_var 6)) q_ro_none))) (q_rss_one (q_rs_expr (q_re_mut 8 PySem.F.slot_list_append PySem.F.type_list_append mt_app (q_ra_cons (q_re_op op_addD (q_re_var 9) (q_re_op op_mulS (q_re_var 2) (q_re_callBx 0 G__law_pick hr hT rfl T.g__law_pick T.F__law_pick.kp T.b__law_pick rfl (q_ra_cons q_re_int q_ra_nil) (len_cons len_nil)))) q_ra_nil)))))) (q_rss_one (q_rs_retL (q_rl_var 8)))))))))
set_option maxHeartbeats 4000000 in
theorem ok__law_socket (T : Txt tb K mg t) (hB : BM base mg) : FnOk Pr w K mg base CX0 1 t.a__law_socket t.d__law_socket ["some"] (spD tb K 1 m__law_socket) := by
  exact q_fn_state T.F__law_socket sc__law_socket (by decide) fun cdv A outer s H E _p hr hT hcd =>
    (q_rss_cons (q_rs_if (q_rt_cmp (op_eqRW (unitsW hr)) (q_re_dget 0 (hu_of hr)) q_re_int) (q_rss_one (q_rs_ret q_re_bool)) q_rss_nil) (q_rss_cons (q_rs_dset 0 (hu_of hr) (q_re_op op_subD (q_re_dget 0 (hu_of hr)) q_re_int)) (q_rss_one (q_rs_ret q_re_bool))))
set_option maxHeartbeats 4000000 in
theorem ok__law_leaf (T : Txt tb K mg t) (hB : BM base mg) : FnOk Pr w K mg base CX0 2 t.a__law_leaf t.d__law_leaf ["box", "some"] (spM tb K 2 m__law_leaf) := by
  have G__law_pick := (ok__law_pick (Pr := Pr) (w := w) (base := base) T hB).mono (show 1 ≤ 1 by decide)
  have G__law_socket := (ok__law_socket (Pr := Pr) (w := w) (base := base) T hB).mono (show 1 ≤ 1 by decide)
  exact q_fn_two T.F__law_leaf sc__law_leaf (by decide) fun cdv A outer s H E _p _q hr hT hcd =>
    (q_rss_cons (q_rs_set (i := 2) sc__law_leaf.nd (q_re_callBx 0 G__law_pick hr hT rfl T.g__law_pick T.F__law_pick.kp T.b__law_pick rfl (q_ra_cons q_re_int q_ra_nil) (len_cons len_nil))) (q_rss_cons (q_rs_if (q_rt_cmp (op_eqRW (unitsW hr)) (q_re_var 2) q_re_int) (q_rss_one (q_rs_ret (q_re_tup (q_ra_cons q_re_str q_ra_nil)))) q_rss_nil) (q_rss_cons (q_rs_if (q_pt (q_rw_and (q_rt_cmp op_ltR (q_re_var 2) q_re_int) (q_rw_and1 (q_rt_tru (q_re_callS 1 G__law_socket hr hT rfl T.g__law_socket T.F__law_socket.kp T.b__law_socket rfl q_ra_nil len_nil))))) (q_rss_one (q_rs_ret (q_re_tup (q_ra_cons q_re_str (q_ra_cons (q_re_ix (q_re_dget 1 (hu_of hr)) (q_re_op op_divD (q_re_callBx 0 G__law_pick hr hT rfl T.g__law_pick T.F__law_pick.kp T.b__law_pick rfl (q_ra_cons q_re_int q_ra_nil) (len_cons len_nil)) q_re_int)) q_ra_nil))))) q_rss_nil) (q_rss_one (q_rs_ret (q_re_tup (q_ra_cons q_re_str (q_ra_cons (q_re_ix (q_re_dget 1 (hu_of hr)) (q_re_callBx 0 G__law_pick hr hT rfl T.g__law_pick T.F__law_pick.kp T.b__law_pick rfl (q_ra_cons (q_re_callB cr_len rfl T.z_len PySem.boot_len (q_ra_cons (q_re_dget 1 (hu_of hr)) q_ra_nil)) q_ra_nil) (len_cons len_nil))) q_ra_nil))))))))
set_option maxHeartbeats 4000000 in
theorem ok__law_worn (T : Txt tb K mg t) (hB : BM base mg) : FnOk Pr w K mg base CX0 2 t.a__law_worn t.d__law_worn ["box", "some"] (spM tb K 2 m__law_worn) := by
  have G__law_pick := (ok__law_pick (Pr := Pr) (w := w) (base := base) T hB).mono (show 1 ≤ 1 by decide)
  have G__law_socket := (ok__law_socket (Pr := Pr) (w := w) (base := base) T hB).mono (show 1 ≤ 1 by decide)
  exact q_fn_two T.F__law_worn sc__law_worn (by decide) fun cdv A outer s H E _p _q hr hT hcd =>
    (q_rss_cons (q_rs_set (i := 2) sc__law_worn.nd (q_re_callBx 0 G__law_pick hr hT rfl T.g__law_pick T.F__law_pick.kp T.b__law_pick rfl (q_ra_cons q_re_int q_ra_nil) (len_cons len_nil))) (q_rss_cons (q_rs_if (q_pt (q_rw_or (q_rt_cmp op_ltR (q_re_var 2) q_re_int) (q_rw_or (q_rt_not (q_rt_tru (q_re_dget 1 (hu_of hr)))) (q_rw_or1 (q_rt_not (q_rt_tru (q_re_callS 1 G__law_socket hr hT rfl T.g__law_socket T.F__law_socket.kp T.b__law_socket rfl q_ra_nil len_nil))))))) (q_rss_one (q_rs_ret q_re_non)) q_rss_nil) (q_rss_one (q_rs_ret (q_re_tup (q_ra_cons (q_re_ix (q_re_dget 1 (hu_of hr)) (q_re_op op_divD (q_re_callBx 0 G__law_pick hr hT rfl T.g__law_pick T.F__law_pick.kp T.b__law_pick rfl (q_ra_cons q_re_int q_ra_nil) (len_cons len_nil)) q_re_int)) (q_ra_cons (q_re_cmp (op_eqRW (unitsW hr)) (q_re_var 2) q_re_int) q_ra_nil)))))))
set_option maxHeartbeats 4000000 in
theorem oks__law_knot (T : Txt tb K mg t) (hB : BM base mg) : ∀ n : Nat, FnOk Pr w K mg base CX0 (2 + n) t.a__law_knot t.d__law_knot ["box", "some", "name", "deep", "foot"] (spM tb K 5 (m__law_knot n))
  | 0 => ⟨fun vs H Q E h => h.1, fun A outer s H args us vs Q E _ _ _ _ h => by obtain ⟨_, _, _, _, _, _, _, _, _, _, _, _, _, _, _, _, h⟩ := h; exact False.elim h⟩
  | n + 1 => by
    have ih := oks__law_knot T hB n
    have G__law_leaf := (ok__law_leaf (Pr := Pr) (w := w) (base := base) T hB).mono (show 2 ≤ 2 + n by omega)
    have G__law_pick := (ok__law_pick (Pr := Pr) (w := w) (base := base) T hB).mono (show 1 ≤ 2 + n by omega)
    have G__law_worn := (ok__law_worn (Pr := Pr) (w := w) (base := base) T hB).mono (show 2 ≤ 2 + n by omega)
    have G__law_knot := ih
    exact (q_fn_two T.F__law_knot sc__law_knot (by decide) fun cdv A outer s H E _p _q hr hT hcd =>
      (q_rss_cons (q_rs_set (i := 5) sc__law_knot.nd (q_re_callM 0 1 G__law_worn hr hT rfl T.g__law_worn T.F__law_worn.kp T.b__law_worn rfl q_ra_nil len_nil)) (q_rss_cons (q_rs_setL (i := 6) sc__law_knot.nd (q_rl_lst q_ra_nil)) (q_rss_cons (q_rs_set (i := 7) sc__law_knot.nd (q_re_op op_addD q_re_int (q_re_callBx 0 G__law_pick hr hT rfl T.g__law_pick T.F__law_pick.kp T.b__law_pick rfl (q_ra_cons q_re_int q_ra_nil) (len_cons len_nil)))) (q_rss_cons (q_rs_set (i := 8) sc__law_knot.nd (q_re_op op_subD (q_re_var 7) q_re_int)) (q_rss_cons (q_rs_if (q_rt_cmp op_ltR (q_re_callBx 0 G__law_pick hr hT rfl T.g__law_pick T.F__law_pick.kp T.b__law_pick rfl (q_ra_cons q_re_int q_ra_nil) (len_cons len_nil)) (q_re_dget 1 (hu_of hr))) (q_rss_one (q_rs_set (i := 8) sc__law_knot.nd (q_re_callBx 0 G__law_pick hr hT rfl T.g__law_pick T.F__law_pick.kp T.b__law_pick rfl (q_ra_cons (q_re_var 7) q_ra_nil) (len_cons len_nil)))) q_rss_nil) (q_rss_cons (q_rs_for PassesOwn.never rfl (q_im_rng rfl T.z_range (q_ra_cons (q_re_var 7) q_ra_nil)) (q_gm_name (i := 9) sc__law_knot.nd) (q_rss_cons (q_rs_set (i := 10) sc__law_knot.nd q_re_str) (q_rss_cons (q_rs_if (q_rt_cmp (op_eqRW (unitsW hr)) (q_re_var 9) (q_re_var 8)) (q_rss_one (q_rs_set (i := 10) sc__law_knot.nd (q_re_var 4))) q_rss_nil) (q_rss_one (q_rs_if (q_pt (q_rw_and (q_rt_cmp op_gtR (q_re_var 3) q_re_int) (q_rw_and1 (q_rt_cmp (op_eqRW (unitsW hr)) (q_re_callBx 0 G__law_pick hr hT rfl T.g__law_pick T.F__law_pick.kp T.b__law_pick rfl (q_ra_cons q_re_int q_ra_nil) (len_cons len_nil)) q_re_int)))) (q_rss_one (q_rs_expr (q_re_mut 6 PySem.F.slot_list_append PySem.F.type_list_append mt_app (q_ra_cons (q_re_callM 0 1 G__law_knot hr hT rfl T.g__law_knot T.F__law_knot.kp T.b__law_knot rfl (q_ra_cons (q_re_ix (q_re_dget 1 (hu_of hr)) (q_re_callBx 0 G__law_pick hr hT rfl T.g__law_pick T.F__law_pick.kp T.b__law_pick rfl (q_ra_cons q_re_int q_ra_nil) (len_cons len_nil))) (q_ra_cons (q_re_op op_subD (q_re_var 3) q_re_int) (q_ra_cons (q_re_var 10) q_ra_nil))) (len_cons (len_cons (len_cons len_nil)))) q_ra_nil)))) (q_rss_one (q_rs_if (q_rt_cmp (op_neRW (unitsW hr)) (q_re_var 10) q_re_str) (q_rss_one (q_rs_expr (q_re_mut 6 PySem.F.slot_list_append PySem.F.type_list_append mt_app (q_ra_cons (q_re_tup (q_ra_cons q_re_str (q_ra_cons (q_re_var 10) q_ra_nil))) q_ra_nil)))) (q_rss_one (q_rs_expr (q_re_mut 6 PySem.F.slot_list_append PySem.F.type_list_append mt_app (q_ra_cons (q_re_callM 0 1 G__law_leaf hr hT rfl T.g__law_leaf T.F__law_leaf.kp T.b__law_leaf rfl q_ra_nil len_nil) q_ra_nil))))))))))) (q_rss_one (q_rs_ret (q_re_tup (q_ra_cons q_re_str (q_ra_cons (q_re_var 2) (q_ra_cons (q_re_var 5) (q_ra_cons (q_re_callT cr_tuple rfl T.z_tuple (by decide +kernel) (q_ra_cons (q_re_var 6) q_ra_nil)) q_ra_nil))))))))))))))
theorem ok__law_knot (T : Txt tb K mg t) (hB : BM base mg) : FnOk Pr w K mg base CX0 6 t.a__law_knot t.d__law_knot ["box", "some", "name", "deep", "foot"] (spM tb K 5 (m__law_knot 4)) := (oks__law_knot T hB 4)
set_option maxHeartbeats 4000000 in
theorem oks__law_signs (T : Txt tb K mg t) (hB : BM base mg) : ∀ n : Nat, FnOk Pr w K mg base CX0 (0 + n) t.a__law_signs t.d__law_signs ["piece"] (spI tb K 1 (m__law_signs n))
  | 0 => ⟨fun vs H Q E h => h.1, fun A outer s H args us vs Q E _ _ _ _ h => by obtain ⟨_, _, _, _, h⟩ := h; exact False.elim h⟩
  | n + 1 => by
    have ih := oks__law_signs T hB n
    have G__law_signs := ih
    exact (q_fn_pure T.F__law_signs sc__law_signs fun cdv A outer s H E hr hT hcd =>
      (q_rss_cons (q_rs_if (q_rt_cmp (op_eqRW (unitsW hr)) (q_re_ix (q_re_var 0) q_re_int) q_re_str) (q_rss_one (q_rs_retL (q_rl_lst (q_ra_cons (q_re_ix (q_re_var 0) q_re_int) q_ra_nil)))) q_rss_nil) (q_rss_cons (q_rs_setL (i := 1) sc__law_signs.nd (q_rl_lst q_ra_nil)) (q_rss_cons (q_rs_if (q_rt_cmp (op_eqRW (unitsW hr)) (q_re_ix (q_re_var 0) q_re_int) q_re_str) (q_rss_one (q_rs_for PassesOwn.never rfl (q_im_seq (q_re_ix (q_re_var 0) q_re_int)) (q_gm_name (i := 2) sc__law_signs.nd) (q_rss_one (q_rs_setL (i := 1) sc__law_signs.nd (q_rl_cat (q_re_var 1) (q_re_fz (q_rl_call G__law_signs hr hT rfl T.g__law_signs T.F__law_signs.kp T.b__law_signs rfl (q_ra_cons (q_re_var 2) q_ra_nil) (len_cons len_nil)))))))) q_rss_nil) (q_rss_one (q_rs_retL (q_rl_var 1)))))))
theorem ok__law_signs (T : Txt tb K mg t) (hB : BM base mg) : FnOk Pr w K mg base CX0 6 t.a__law_signs t.d__law_signs ["piece"] (spI tb K 1 (m__law_signs 6)) := (oks__law_signs T hB 6)
set_option maxHeartbeats 4000000 in
theorem ok__law_tree (T : Txt tb K mg t) (hB : BM base mg) : FnOk Pr w K mg base CX0 7 t.a__law_tree t.d__law_tree ["box", "some", "name", "foot", "room"] (spM tb K 5 m__law_tree) := by
  have G__law_knot := (ok__law_knot (Pr := Pr) (w := w) (base := base) T hB).mono (show 6 ≤ 6 by decide)
  have G__law_pick := (ok__law_pick (Pr := Pr) (w := w) (base := base) T hB).mono (show 1 ≤ 6 by decide)
  have G__law_signs := (ok__law_signs (Pr := Pr) (w := w) (base := base) T hB).mono (show 6 ≤ 6 by decide)
  exact q_fn_two T.F__law_tree sc__law_tree (by decide) fun cdv A outer s H E _p _q hr hT hcd =>
    (q_rss_cons (q_rs_dset 1 (hu_of hr) (q_re_var 4)) (q_rss_cons (q_rs_set (i := 5) sc__law_tree.nd (q_re_callM 0 1 G__law_knot hr hT rfl T.g__law_knot T.F__law_knot.kp T.b__law_knot rfl (q_ra_cons (q_re_var 2) (q_ra_cons q_re_int (q_ra_cons (q_re_var 3) q_ra_nil))) (len_cons (len_cons (len_cons len_nil))))) (q_rss_cons (q_rs_if (q_rt_cmp op_gtR (q_re_callB cr_len rfl T.z_len PySem.boot_len (q_ra_cons (q_re_fz (q_rl_call G__law_signs hr hT rfl T.g__law_signs T.F__law_signs.kp T.b__law_signs rfl (q_ra_cons (q_re_var 5) q_ra_nil) (len_cons len_nil))) q_ra_nil)) q_re_int) (q_rss_one (q_rs_ret (q_re_var 5))) q_rss_nil) (q_rss_cons (q_rs_set (i := 6) sc__law_tree.nd (q_re_tup (q_ra_cons q_re_str (q_ra_cons (q_re_ix (q_re_dget 1 (hu_of hr)) (q_re_callBx 0 G__law_pick hr hT rfl T.g__law_pick T.F__law_pick.kp T.b__law_pick rfl (q_ra_cons (q_re_callB cr_len rfl T.z_len PySem.boot_len (q_ra_cons (q_re_dget 1 (hu_of hr)) q_ra_nil)) q_ra_nil) (len_cons len_nil))) q_ra_nil)))) (q_rss_cons (q_rs_if (q_pt (q_rw_or (q_rt_cmp op_ltR (q_re_dget 1 (hu_of hr)) q_re_int) (q_rw_or1 (q_rt_cmp (op_eqRW (unitsW hr)) (q_re_callBx 0 G__law_pick hr hT rfl T.g__law_pick T.F__law_pick.kp T.b__law_pick rfl (q_ra_cons q_re_int q_ra_nil) (len_cons len_nil)) q_re_int)))) (q_rss_one (q_rs_ret (q_re_op op_addD (q_re_sl (q_re_var 5) q_ro_none (q_ro_some q_re_int)) (q_re_tup (q_ra_cons (q_re_op op_addD (q_re_tup (q_ra_cons (q_re_var 6) q_ra_nil)) (q_re_ix (q_re_var 5) q_re_int)) q_ra_nil))))) q_rss_nil) (q_rss_one (q_rs_ret (q_re_op op_addD (q_re_sl (q_re_var 5) q_ro_none (q_ro_some q_re_int)) (q_re_tup (q_ra_cons (q_re_op op_addD (q_re_ix (q_re_var 5) q_re_int) (q_re_tup (q_ra_cons (q_re_var 6) q_ra_nil))) q_ra_nil))))))))))
set_option maxHeartbeats 4000000 in
theorem ok__law_book (T : Txt tb K mg t) (hB : BM base mg) : FnOk Pr w K mg base CX0 8 t.a__law_book t.d__law_book ["box", "some", "count", "room"] (spM tb K 4 m__law_book) := by
  have G__law_pick := (ok__law_pick (Pr := Pr) (w := w) (base := base) T hB).mono (show 1 ≤ 7 by decide)
  have G__law_tree := (ok__law_tree (Pr := Pr) (w := w) (base := base) T hB).mono (show 7 ≤ 7 by decide)
  have G__law_words := (ok__law_words (Pr := Pr) (w := w) (base := base) T hB).mono (show 2 ≤ 7 by decide)
  exact q_fn_two T.F__law_book sc__law_book (by decide) fun cdv A outer s H E _p _q hr hT hcd =>
    (q_rss_cons (q_rs_set (i := 4) sc__law_book.nd q_re_str) (q_rss_cons (q_rs_dset 1 (hu_of hr) (q_re_fz (q_rl_callBx 0 G__law_words hr hT rfl T.g__law_words T.F__law_words.kp T.b__law_words rfl (q_ra_cons (q_re_var 4) (q_ra_cons q_re_str (q_ra_cons q_re_int q_ra_nil))) (len_cons (len_cons (len_cons len_nil)))))) (q_rss_cons (q_rs_dset 1 (hu_of hr) (q_re_fz (q_rl_callBx 0 G__law_words hr hT rfl T.g__law_words T.F__law_words.kp T.b__law_words rfl (q_ra_cons (q_re_var 4) (q_ra_cons q_re_str (q_ra_cons q_re_int q_ra_nil))) (len_cons (len_cons (len_cons len_nil)))))) (q_rss_cons (q_rs_if (q_rt_cmp (op_eqRW (unitsW hr)) (q_re_callBx 0 G__law_pick hr hT rfl T.g__law_pick T.F__law_pick.kp T.b__law_pick rfl (q_ra_cons q_re_int q_ra_nil) (len_cons len_nil)) q_re_int) (q_rss_one (q_rs_dset 1 (hu_of hr) (q_re_fz (q_rl_callT cr_list rfl T.z_list (by decide +kernel) (q_ra_cons (q_re_dget 1 (hu_of hr)) q_ra_nil))))) q_rss_nil) (q_rss_cons (q_rs_setL (i := 5) sc__law_book.nd (q_rl_callBx 0 G__law_words hr hT rfl T.g__law_words T.F__law_words.kp T.b__law_words rfl (q_ra_cons (q_re_low (q_re_var 4)) (q_ra_cons q_re_str (q_ra_cons (q_re_var 2) q_ra_nil))) (len_cons (len_cons (len_cons len_nil))))) (q_rss_cons (q_rs_setL (i := 6) sc__law_book.nd (q_rl_lst (q_ra_cons (q_re_tup (q_ra_cons (q_re_ixL 5 q_re_int) (q_ra_cons (q_re_callM 0 1 G__law_tree hr hT rfl T.g__law_tree T.F__law_tree.kp T.b__law_tree rfl (q_ra_cons (q_re_ix (q_re_dget 1 (hu_of hr)) q_re_int) (q_ra_cons q_re_str (q_ra_cons (q_re_op op_mulD (q_re_var 3) (q_re_op op_divD (q_re_op op_addD q_re_int (q_re_callBx 0 G__law_pick hr hT rfl T.g__law_pick T.F__law_pick.kp T.b__law_pick rfl (q_ra_cons q_re_int q_ra_nil) (len_cons len_nil))) q_re_int)) q_ra_nil))) (len_cons (len_cons (len_cons len_nil)))) q_ra_nil))) q_ra_nil))) (q_rss_cons (q_rs_for PassesOwn.never rfl (q_im_rng2 rfl T.z_range (q_ra_cons q_re_int (q_ra_cons (q_re_var 2) q_ra_nil))) (q_gm_name (i := 7) sc__law_book.nd) (q_rss_cons (q_rs_set (i := 9) sc__law_book.nd (q_re_ix (q_re_dget 1 (hu_of hr)) (q_re_callBx 0 G__law_pick hr hT rfl T.g__law_pick T.F__law_pick.kp T.b__law_pick rfl (q_ra_cons q_re_int q_ra_nil) (len_cons len_nil)))) (q_rss_cons (q_rs_set (i := 10) sc__law_book.nd q_re_str) (q_rss_cons (q_rs_if (q_pt (q_rw_or (q_rt_cmp (op_eqRW (unitsW hr)) (q_re_var 7) q_re_int) (q_rw_or1 (q_rt_cmp (op_eqRW (unitsW hr)) (q_re_callBx 0 G__law_pick hr hT rfl T.g__law_pick T.F__law_pick.kp T.b__law_pick rfl (q_ra_cons q_re_int q_ra_nil) (len_cons len_nil)) q_re_int)))) (q_rss_one (q_rs_set (i := 10) sc__law_book.nd (q_re_ix (q_re_dget 1 (hu_of hr)) (q_re_op op_divD (q_re_callBx 0 G__law_pick hr hT rfl T.g__law_pick T.F__law_pick.kp T.b__law_pick rfl (q_ra_cons q_re_int q_ra_nil) (len_cons len_nil)) q_re_int)))) q_rss_nil) (q_rss_one (q_rs_expr (q_re_mut 6 PySem.F.slot_list_append PySem.F.type_list_append mt_app (q_ra_cons (q_re_tup (q_ra_cons (q_re_ixL 5 (q_re_var 7)) (q_ra_cons (q_re_callM 0 1 G__law_tree hr hT rfl T.g__law_tree T.F__law_tree.kp T.b__law_tree rfl (q_ra_cons (q_re_var 9) (q_ra_cons (q_re_var 10) (q_ra_cons (q_re_var 3) q_ra_nil))) (len_cons (len_cons (len_cons len_nil)))) q_ra_nil))) q_ra_nil)))))))) (q_rss_cons (q_rs_set (i := 8) sc__law_book.nd (q_re_callBx 0 G__law_pick hr hT rfl T.g__law_pick T.F__law_pick.kp T.b__law_pick rfl (q_ra_cons (q_re_var 2) q_ra_nil) (len_cons len_nil))) (q_rss_cons (q_rs_setL (i := 6) sc__law_book.nd (q_rl_cat (q_re_fz (q_rl_sl (q_re_var 6) (q_ro_some (q_re_var 8)) q_ro_none)) (q_re_fz (q_rl_sl (q_re_var 6) q_ro_none (q_ro_some (q_re_var 8)))))) (q_rss_cons (q_rs_if (q_rt_cmp (op_eqRW (unitsW hr)) (q_re_callBx 0 G__law_pick hr hT rfl T.g__law_pick T.F__law_pick.kp T.b__law_pick rfl (q_ra_cons q_re_int q_ra_nil) (len_cons len_nil)) q_re_int) (q_rss_one (q_rs_setL (i := 6) sc__law_book.nd (q_rl_rev (q_re_var 6) (q_re_neg q_re_int)))) q_rss_nil) (q_rss_one (q_rs_ret (q_re_tup (q_ra_cons (q_re_ix (q_re_dget 1 (hu_of hr)) q_re_int) (q_ra_cons (q_re_callT cr_tuple rfl T.z_tuple (by decide +kernel) (q_ra_cons (q_re_var 6) q_ra_nil)) q_ra_nil)))))))))))))))
set_option maxHeartbeats 4000000 in
theorem oks__law_leaves (T : Txt tb K mg t) (hB : BM base mg) : ∀ n : Nat, FnOk Pr w K mg base CX0 (0 + n) t.a__law_leaves t.d__law_leaves ["piece"] (spI tb K 1 (m__law_leaves n))
  | 0 => ⟨fun vs H Q E h => h.1, fun A outer s H args us vs Q E _ _ _ _ h => by obtain ⟨_, _, _, _, h⟩ := h; exact False.elim h⟩
  | n + 1 => by
    have ih := oks__law_leaves T hB n
    have G__law_leaves := ih
    exact (q_fn_pure T.F__law_leaves sc__law_leaves fun cdv A outer s H E hr hT hcd =>
      (q_rss_cons (q_rs_if (q_rt_cmp (op_neRW (unitsW hr)) (q_re_ix (q_re_var 0) q_re_int) q_re_str) (q_rss_one (q_rs_retL (q_rl_lst (q_ra_cons (q_re_ix (q_re_var 0) q_re_int) q_ra_nil)))) q_rss_nil) (q_rss_cons (q_rs_setL (i := 1) sc__law_leaves.nd (q_rl_lst q_ra_nil)) (q_rss_cons (q_rs_for PassesOwn.never rfl (q_im_seq (q_re_ix (q_re_var 0) q_re_int)) (q_gm_name (i := 2) sc__law_leaves.nd) (q_rss_one (q_rs_setL (i := 1) sc__law_leaves.nd (q_rl_cat (q_re_var 1) (q_re_fz (q_rl_call G__law_leaves hr hT rfl T.g__law_leaves T.F__law_leaves.kp T.b__law_leaves rfl (q_ra_cons (q_re_var 2) q_ra_nil) (len_cons len_nil))))))) (q_rss_one (q_rs_retL (q_rl_var 1)))))))
theorem ok__law_leaves (T : Txt tb K mg t) (hB : BM base mg) : FnOk Pr w K mg base CX0 12 t.a__law_leaves t.d__law_leaves ["piece"] (spI tb K 1 (m__law_leaves 12)) := (oks__law_leaves T hB 12)
set_option maxHeartbeats 4000000 in
theorem ok__law_deep (T : Txt tb K mg t) (hB : BM base mg) : FnOk Pr w K mg base CX0 2 t.a__law_deep t.d__law_deep ["box", "some"] (spM tb K 2 m__law_deep) := by
  have G__law_pick := (ok__law_pick (Pr := Pr) (w := w) (base := base) T hB).mono (show 1 ≤ 1 by decide)
  exact q_fn_two T.F__law_deep sc__law_deep (by decide) fun cdv A outer s H E _p _q hr hT hcd =>
    (q_rss_cons (q_rs_set (i := 2) sc__law_deep.nd (q_re_tup (q_ra_cons q_re_str (q_ra_cons (q_re_ix (q_re_dget 1 (hu_of hr)) q_re_int) q_ra_nil)))) (q_rss_cons (q_rs_for PassesOwn.never rfl (q_im_rng rfl T.z_range (q_ra_cons (q_re_op op_addD q_re_int (q_re_callBx 0 G__law_pick hr hT rfl T.g__law_pick T.F__law_pick.kp T.b__law_pick rfl (q_ra_cons q_re_int q_ra_nil) (len_cons len_nil))) q_ra_nil)) (q_gm_name (i := 3) sc__law_deep.nd) (q_rss_cons (q_rs_set (i := 4) sc__law_deep.nd (q_re_tup (q_ra_cons (q_re_var 2) q_ra_nil))) (q_rss_cons (q_rs_if (q_pt (q_rw_or (q_rt_cmp (op_eqRW (unitsW hr)) (q_re_var 3) q_re_int) (q_rw_or1 (q_rt_cmp (op_eqRW (unitsW hr)) (q_re_callBx 0 G__law_pick hr hT rfl T.g__law_pick T.F__law_pick.kp T.b__law_pick rfl (q_ra_cons q_re_int q_ra_nil) (len_cons len_nil)) q_re_int)))) (q_rss_one (q_rs_set (i := 4) sc__law_deep.nd (q_re_tup (q_ra_cons (q_re_tup (q_ra_cons q_re_str (q_ra_cons (q_re_ix (q_re_dget 1 (hu_of hr)) (q_re_callBx 0 G__law_pick hr hT rfl T.g__law_pick T.F__law_pick.kp T.b__law_pick rfl (q_ra_cons q_re_int q_ra_nil) (len_cons len_nil))) q_ra_nil))) (q_ra_cons (q_re_var 2) q_ra_nil))))) q_rss_nil) (q_rss_cons (q_rs_if (q_rt_cmp (op_eqRW (unitsW hr)) (q_re_callBx 0 G__law_pick hr hT rfl T.g__law_pick T.F__law_pick.kp T.b__law_pick rfl (q_ra_cons q_re_int q_ra_nil) (len_cons len_nil)) q_re_int) (q_rss_cons (q_rs_setL (i := 5) sc__law_deep.nd (q_rl_lst (q_ra_cons (q_re_tup (q_ra_cons q_re_str q_ra_nil)) (q_ra_cons (q_re_tup (q_ra_cons q_re_str (q_ra_cons (q_re_ix (q_re_dget 1 (hu_of hr)) q_re_int) q_ra_nil))) (q_ra_cons (q_re_tup (q_ra_cons q_re_str (q_ra_cons (q_re_ix (q_re_dget 1 (hu_of hr)) q_re_int) q_ra_nil))) q_ra_nil))))) (q_rss_one (q_rs_set (i := 4) sc__law_deep.nd (q_re_op op_addD (q_re_var 4) (q_re_tup (q_ra_cons (q_re_ixL 5 (q_re_callBx 0 G__law_pick hr hT rfl T.g__law_pick T.F__law_pick.kp T.b__law_pick rfl (q_ra_cons q_re_int q_ra_nil) (len_cons len_nil))) q_ra_nil)))))) q_rss_nil) (q_rss_one (q_rs_set (i := 2) sc__law_deep.nd (q_re_tup (q_ra_cons q_re_str (q_ra_cons (q_re_ix (q_re_dget 1 (hu_of hr)) q_re_int) (q_ra_cons q_re_non (q_ra_cons (q_re_var 4) q_ra_nil))))))))))) (q_rss_one (q_rs_ret (q_re_var 2)))))
set_option maxHeartbeats 4000000 in
theorem ok_law (T : Txt tb K mg t) (hB : BM base mg) : FnOk Pr w K mg base CX0 13 t.a_law t.d_law ["script"] (spI tb K 1 m_law) := by
  have G__law_book := (ok__law_book (Pr := Pr) (w := w) (base := base) T hB).mono (show 8 ≤ 12 by decide)
  have G__law_box := (ok__law_box (Pr := Pr) (w := w) (base := base) T hB).mono (show 1 ≤ 12 by decide)
  have G__law_deep := (ok__law_deep (Pr := Pr) (w := w) (base := base) T hB).mono (show 2 ≤ 12 by decide)
  have G__law_leaves := (ok__law_leaves (Pr := Pr) (w := w) (base := base) T hB).mono (show 12 ≤ 12 by decide)
  have G__law_pick := (ok__law_pick (Pr := Pr) (w := w) (base := base) T hB).mono (show 1 ≤ 12 by decide)
  have G__law_words := (ok__law_words (Pr := Pr) (w := w) (base := base) T hB).mono (show 2 ≤ 12 by decide)
  have G_one_sided := (ok_one_sided (Pr := Pr) (w := w) (base := base) T hB).mono (show 4 ≤ 12 by decide)
  exact q_fn_pure T.F_law sc_law fun cdv A outer s H E hr hT hcd =>
    (q_rss_cons (q_rs_setB (i := 1) sc_law.nd (Nat.le_of_ble_eq_true rfl) (q_rl_call G__law_box hr hT rfl T.g__law_box T.F__law_box.kp T.b__law_box rfl (q_ra_cons (q_re_var 0) q_ra_nil) (len_cons len_nil))) (q_rss_cons (q_rs_setL (i := 2) sc_law.nd (q_rl_callBx 1 G__law_words hr hT rfl T.g__law_words T.F__law_words.kp T.b__law_words rfl (q_ra_cons q_re_str (q_ra_cons q_re_str (q_ra_cons q_re_int q_ra_nil))) (len_cons (len_cons (len_cons len_nil))))) (q_rss_cons (q_rs_set (i := 3) sc_law.nd (q_re_ix (q_re_fz (q_rl_lst (q_ra_cons q_re_int (q_ra_cons q_re_int (q_ra_cons q_re_int (q_ra_cons q_re_int q_ra_nil)))))) (q_re_callBx 1 G__law_pick hr hT rfl T.g__law_pick T.F__law_pick.kp T.b__law_pick rfl (q_ra_cons q_re_int q_ra_nil) (len_cons len_nil)))) (q_rss_cons (q_rs_setD (i := 4) sc_law.nd (Nat.le_of_ble_eq_true rfl) (.cons (q_re_var 2) (.cons (q_re_var 3) (.cons q_re_bool (.cons q_re_int .nil)))) (by decide)) (q_rss_cons (q_rs_set (i := 5) sc_law.nd (q_re_callM 1 4 G__law_book hr hT rfl T.g__law_book T.F__law_book.kp T.b__law_book rfl (q_ra_cons (q_re_op op_addD q_re_int (q_re_callBx 1 G__law_pick hr hT rfl T.g__law_pick T.F__law_pick.kp T.b__law_pick rfl (q_ra_cons q_re_int q_ra_nil) (len_cons len_nil))) (q_ra_cons q_re_int q_ra_nil)) (len_cons (len_cons len_nil)))) (q_rss_cons (q_rs_setLc (own := [("key", 13), ("tree", 14)]) (g := gTup K 2 (gCons (gName 13) (gCons (gName 14) gNil))) (is := [13, 14]) (f := (gT [13, 14])) rfl sc_law.nd (q_im_seq (q_re_ix (q_re_var 5) q_re_int)) (blkOk_by (own := [("key", 13), ("tree", 14)]) (N := ["script", "box", "signs", "free", "some", "book", "rows", "due", "deep", "starts", "things", "thing", "told", "key", "tree", "pair", "row"]) (sc := defScope s_law) (by decide +kernel)) (fun _ _ _ _ _ => (q_gm_tup rfl (q_gms_cons (q_gm_name (i := 13) sc_law.nd) (q_gms_cons (q_gm_name (i := 14) sc_law.nd) q_gms_nil)))) (fun _ _ _ _ _ => q_rts_nil) (fun _ _ _ _ _ => (q_re_fz (q_rl_call G__law_leaves hr hT rfl T.g__law_leaves T.F__law_leaves.kp T.b__law_leaves rfl (q_ra_cons (q_re_var 14) q_ra_nil) (len_cons len_nil)))) (by decide) (fun _ _ _ h _ _ e o => gT_own h e o) (sw_true rfl rfl rfl (by decide +kernel))) (q_rss_cons (q_rs_set (i := 7) sc_law.nd (q_re_cmp (op_eqRW (unitsW hr)) (q_re_callB cr_len rfl T.z_len PySem.boot_len (q_ra_cons (q_re_fz (q_rl_lc (own := [("row", 16)]) (g := gName 16) (is := [16]) (f := (gN 16)) rfl sc_law.nd (q_im_seq (q_re_var 6)) (blkOk_by (own := [("row", 16)]) (N := ["script", "box", "signs", "free", "some", "book", "rows", "due", "deep", "starts", "things", "thing", "told", "key", "tree", "pair", "row"]) (sc := defScope s_law) (by decide +kernel)) (fun _ _ _ _ _ => (q_gm_name (i := 16) sc_law.nd)) (fun _ _ _ _ _ => (q_rts_one (q_pt (q_rw_and (q_rt_cmp (op_inD (unitsV hr)) q_re_str (q_re_var 16)) (q_rw_and1 (q_rt_cmp (op_neRW (unitsW hr)) (q_re_ix (q_re_var 16) (q_re_neg q_re_int)) q_re_str)))))) (fun _ _ _ _ _ => (q_re_var 16)) (by decide) (fun _ _ _ h _ _ e o => gN_own h e o))) q_ra_nil)) q_re_int)) (q_rss_cons (q_rs_set (i := 8) sc_law.nd (q_re_callM 1 4 G__law_deep hr hT rfl T.g__law_deep T.F__law_deep.kp T.b__law_deep rfl q_ra_nil len_nil)) (q_rss_cons (q_rs_set (i := 9) sc_law.nd (q_re_callT cr_tuple rfl T.z_tuple (by decide +kernel) (q_ra_cons (q_re_fz (q_rl_lc (own := [("pair", 15), ("row", 16)]) (g := gTup K 2 (gCons (gName 15) (gCons (gName 16) gNil))) (is := [15, 16]) (f := (gT [15, 16])) rfl sc_law.nd (q_im_zT rfl T.z_zip (q_ra_cons (q_re_ix (q_re_var 5) q_re_int) (q_ra_cons (q_re_var 6) q_ra_nil))) (blkOk_by (own := [("pair", 15), ("row", 16)]) (N := ["script", "box", "signs", "free", "some", "book", "rows", "due", "deep", "starts", "things", "thing", "told", "key", "tree", "pair", "row"]) (sc := defScope s_law) (by decide +kernel)) (fun _ _ _ _ _ => (q_gm_tup rfl (q_gms_cons (q_gm_name (i := 15) sc_law.nd) (q_gms_cons (q_gm_name (i := 16) sc_law.nd) q_gms_nil)))) (fun _ _ _ _ _ => (q_rts_one (q_rt_cmp (op_notInD (unitsV hr)) q_re_str (q_re_var 16)))) (fun _ _ _ _ _ => (q_re_var 15)) (by decide) (fun _ _ _ h _ _ e o => gT_own h e o))) q_ra_nil))) (q_rss_cons (q_rs_setL (i := 10) sc_law.nd (q_rl_lst (q_ra_cons (q_re_tup (q_ra_cons (q_re_var 5) (q_ra_cons (q_re_var 7) q_ra_nil))) (q_ra_cons (q_re_tup (q_ra_cons (q_re_tup (q_ra_cons (q_re_ix (q_re_var 5) q_re_int) (q_ra_cons (q_re_revT (q_re_ix (q_re_var 5) q_re_int) (q_re_neg q_re_int)) q_ra_nil))) (q_ra_cons (q_re_var 7) q_ra_nil))) (q_ra_cons (q_re_tup (q_ra_cons (q_re_var 5) (q_ra_cons (q_re_var 7) q_ra_nil))) (q_ra_cons (q_re_tup (q_ra_cons (q_re_tup (q_ra_cons (q_re_ix (q_re_var 5) q_re_int) (q_ra_cons (q_re_var 9) q_ra_nil))) (q_ra_cons q_re_bool q_ra_nil))) q_ra_nil)))))) (q_rss_cons (q_rs_expr (q_re_mut 10 PySem.F.slot_list_append PySem.F.type_list_append mt_app (q_ra_cons (q_re_tup (q_ra_cons (q_re_tup (q_ra_cons (q_re_ix (q_re_var 5) q_re_int) (q_ra_cons (q_re_op op_addD (q_re_var 9) (q_re_tup (q_ra_cons (q_re_tup (q_ra_cons q_re_str (q_ra_cons (q_re_var 8) q_ra_nil))) q_ra_nil))) q_ra_nil))) (q_ra_cons (q_re_cmp (op_eqRW (unitsW hr)) (q_re_ix (q_re_fz (q_rl_call G__law_leaves hr hT rfl T.g__law_leaves T.F__law_leaves.kp T.b__law_leaves rfl (q_ra_cons (q_re_var 8) q_ra_nil) (len_cons len_nil))) (q_re_neg q_re_int)) q_re_str) q_ra_nil))) q_ra_nil))) (q_rss_cons (q_rs_for PassesOwn.never rfl (q_im_seq (q_re_var 10)) (q_gm_tup rfl (q_gms_cons (q_gm_name (i := 11) sc_law.nd) (q_gms_cons (q_gm_name (i := 7) sc_law.nd) q_gms_nil))) (q_rss_cons (q_rs_set (i := 12) sc_law.nd (q_re_call G_one_sided hr hT rfl T.g_one_sided T.F_one_sided.kp T.b_one_sided rfl (q_ra_cons (q_re_var 11) q_ra_nil) (len_cons len_nil))) (q_rss_one (q_rs_if (q_pt (q_rw_or (q_rt_not (q_rt_tru (q_re_isi "bool" (kit_bool _) rfl T.z_isinstance rfl T.z_bool (by decide +kernel) (q_re_var 12)))) (q_rw_or1 (q_rt_cmp (op_neRW (unitsW hr)) (q_re_var 12) (q_re_var 7))))) (q_rss_one (q_rs_ret q_re_bool)) q_rss_nil)))) (q_rss_one (q_rs_ret q_re_bool))))))))))))))
end

set_option maxHeartbeats 4000000 in
theorem all_mk {l : PySem.W.OpenLaw} {w : World} {K : PySem.W.Frag} {h : Heap} {mg : Str → Option Value} {fa : Addr} {q : Program} (X : K.In h) (G : h.Ns mainGlobals mg) (hfa : mg "law" = some (.ref fa))
    {f1 : Addr} {od1 an1 : Option Addr} {sl1 : Array (Option Value)} {oc1 kV1 dc1 pm1 cd1 ct1 : Value} (a1 : PySem.W.nsIn K mainGlobals "feet_of" = some (some (.ref f1))) (l1 : K.lookup f1 = some ⟨oc1, od1, .func (PySem.W.fnOf "feet_of" "feet_of" (defArgs s_feet_of) (defBody s_feet_of) (defScope s_feet_of) .none kV1 dc1 pm1 an1 cd1 ct1), sl1⟩) (c1 : PySem.W.codeIn K cd1 "feet_of" = true) (k1 : PySem.W.keepIn K (.ref f1) = true)
    {f2 : Addr} {od2 an2 : Option Addr} {sl2 : Array (Option Value)} {oc2 kV2 dc2 pm2 cd2 ct2 : Value} (a2 : PySem.W.nsIn K mainGlobals "is_graft" = some (some (.ref f2))) (l2 : K.lookup f2 = some ⟨oc2, od2, .func (PySem.W.fnOf "is_graft" "is_graft" (defArgs s_is_graft) (defBody s_is_graft) (defScope s_is_graft) .none kV2 dc2 pm2 an2 cd2 ct2), sl2⟩) (c2 : PySem.W.codeIn K cd2 "is_graft" = true) (k2 : PySem.W.keepIn K (.ref f2) = true)
    {f3 : Addr} {od3 an3 : Option Addr} {sl3 : Array (Option Value)} {oc3 kV3 dc3 pm3 cd3 ct3 : Value} (a3 : PySem.W.nsIn K mainGlobals "last_leaf" = some (some (.ref f3))) (l3 : K.lookup f3 = some ⟨oc3, od3, .func (PySem.W.fnOf "last_leaf" "last_leaf" (defArgs s_last_leaf) (defBody s_last_leaf) (defScope s_last_leaf) .none kV3 dc3 pm3 an3 cd3 ct3), sl3⟩) (c3 : PySem.W.codeIn K cd3 "last_leaf" = true) (k3 : PySem.W.keepIn K (.ref f3) = true)
    {f4 : Addr} {od4 an4 : Option Addr} {sl4 : Array (Option Value)} {oc4 kV4 dc4 pm4 cd4 ct4 : Value} (a4 : PySem.W.nsIn K mainGlobals "two_sided_keys" = some (some (.ref f4))) (l4 : K.lookup f4 = some ⟨oc4, od4, .func (PySem.W.fnOf "two_sided_keys" "two_sided_keys" (defArgs s_two_sided_keys) (defBody s_two_sided_keys) (defScope s_two_sided_keys) .none kV4 dc4 pm4 an4 cd4 ct4), sl4⟩) (c4 : PySem.W.codeIn K cd4 "two_sided_keys" = true) (k4 : PySem.W.keepIn K (.ref f4) = true)
    {f5 : Addr} {od5 an5 : Option Addr} {sl5 : Array (Option Value)} {oc5 kV5 dc5 pm5 cd5 ct5 : Value} (a5 : PySem.W.nsIn K mainGlobals "one_sided" = some (some (.ref f5))) (l5 : K.lookup f5 = some ⟨oc5, od5, .func (PySem.W.fnOf "one_sided" "one_sided" (defArgs s_one_sided) (defBody s_one_sided) (defScope s_one_sided) .none kV5 dc5 pm5 an5 cd5 ct5), sl5⟩) (c5 : PySem.W.codeIn K cd5 "one_sided" = true) (k5 : PySem.W.keepIn K (.ref f5) = true)
    {f6 : Addr} {od6 an6 : Option Addr} {sl6 : Array (Option Value)} {oc6 kV6 dc6 pm6 cd6 ct6 : Value} (a6 : PySem.W.nsIn K mainGlobals "_law_box" = some (some (.ref f6))) (l6 : K.lookup f6 = some ⟨oc6, od6, .func (PySem.W.fnOf "_law_box" "_law_box" (defArgs s__law_box) (defBody s__law_box) (defScope s__law_box) .none kV6 dc6 pm6 an6 cd6 ct6), sl6⟩) (c6 : PySem.W.codeIn K cd6 "_law_box" = true) (k6 : PySem.W.keepIn K (.ref f6) = true)
    {f7 : Addr} {od7 an7 : Option Addr} {sl7 : Array (Option Value)} {oc7 kV7 dc7 pm7 cd7 ct7 : Value} (a7 : PySem.W.nsIn K mainGlobals "_law_pick" = some (some (.ref f7))) (l7 : K.lookup f7 = some ⟨oc7, od7, .func (PySem.W.fnOf "_law_pick" "_law_pick" (defArgs s__law_pick) (defBody s__law_pick) (defScope s__law_pick) .none kV7 dc7 pm7 an7 cd7 ct7), sl7⟩) (c7 : PySem.W.codeIn K cd7 "_law_pick" = true) (k7 : PySem.W.keepIn K (.ref f7) = true)
    {f8 : Addr} {od8 an8 : Option Addr} {sl8 : Array (Option Value)} {oc8 kV8 dc8 pm8 cd8 ct8 : Value} (a8 : PySem.W.nsIn K mainGlobals "_law_words" = some (some (.ref f8))) (l8 : K.lookup f8 = some ⟨oc8, od8, .func (PySem.W.fnOf "_law_words" "_law_words" (defArgs s__law_words) (defBody s__law_words) (defScope s__law_words) .none kV8 dc8 pm8 an8 cd8 ct8), sl8⟩) (c8 : PySem.W.codeIn K cd8 "_law_words" = true) (k8 : PySem.W.keepIn K (.ref f8) = true)
    {f9 : Addr} {od9 an9 : Option Addr} {sl9 : Array (Option Value)} {oc9 kV9 dc9 pm9 cd9 ct9 : Value} (a9 : PySem.W.nsIn K mainGlobals "_law_socket" = some (some (.ref f9))) (l9 : K.lookup f9 = some ⟨oc9, od9, .func (PySem.W.fnOf "_law_socket" "_law_socket" (defArgs s__law_socket) (defBody s__law_socket) (defScope s__law_socket) .none kV9 dc9 pm9 an9 cd9 ct9), sl9⟩) (c9 : PySem.W.codeIn K cd9 "_law_socket" = true) (k9 : PySem.W.keepIn K (.ref f9) = true)
    {f10 : Addr} {od10 an10 : Option Addr} {sl10 : Array (Option Value)} {oc10 kV10 dc10 pm10 cd10 ct10 : Value} (a10 : PySem.W.nsIn K mainGlobals "_law_leaf" = some (some (.ref f10))) (l10 : K.lookup f10 = some ⟨oc10, od10, .func (PySem.W.fnOf "_law_leaf" "_law_leaf" (defArgs s__law_leaf) (defBody s__law_leaf) (defScope s__law_leaf) .none kV10 dc10 pm10 an10 cd10 ct10), sl10⟩) (c10 : PySem.W.codeIn K cd10 "_law_leaf" = true) (k10 : PySem.W.keepIn K (.ref f10) = true)
    {f11 : Addr} {od11 an11 : Option Addr} {sl11 : Array (Option Value)} {oc11 kV11 dc11 pm11 cd11 ct11 : Value} (a11 : PySem.W.nsIn K mainGlobals "_law_worn" = some (some (.ref f11))) (l11 : K.lookup f11 = some ⟨oc11, od11, .func (PySem.W.fnOf "_law_worn" "_law_worn" (defArgs s__law_worn) (defBody s__law_worn) (defScope s__law_worn) .none kV11 dc11 pm11 an11 cd11 ct11), sl11⟩) (c11 : PySem.W.codeIn K cd11 "_law_worn" = true) (k11 : PySem.W.keepIn K (.ref f11) = true)
    {f12 : Addr} {od12 an12 : Option Addr} {sl12 : Array (Option Value)} {oc12 kV12 dc12 pm12 cd12 ct12 : Value} (a12 : PySem.W.nsIn K mainGlobals "_law_knot" = some (some (.ref f12))) (l12 : K.lookup f12 = some ⟨oc12, od12, .func (PySem.W.fnOf "_law_knot" "_law_knot" (defArgs s__law_knot) (defBody s__law_knot) (defScope s__law_knot) .none kV12 dc12 pm12 an12 cd12 ct12), sl12⟩) (c12 : PySem.W.codeIn K cd12 "_law_knot" = true) (k12 : PySem.W.keepIn K (.ref f12) = true)
    {f13 : Addr} {od13 an13 : Option Addr} {sl13 : Array (Option Value)} {oc13 kV13 dc13 pm13 cd13 ct13 : Value} (a13 : PySem.W.nsIn K mainGlobals "_law_signs" = some (some (.ref f13))) (l13 : K.lookup f13 = some ⟨oc13, od13, .func (PySem.W.fnOf "_law_signs" "_law_signs" (defArgs s__law_signs) (defBody s__law_signs) (defScope s__law_signs) .none kV13 dc13 pm13 an13 cd13 ct13), sl13⟩) (c13 : PySem.W.codeIn K cd13 "_law_signs" = true) (k13 : PySem.W.keepIn K (.ref f13) = true)
    {f14 : Addr} {od14 an14 : Option Addr} {sl14 : Array (Option Value)} {oc14 kV14 dc14 pm14 cd14 ct14 : Value} (a14 : PySem.W.nsIn K mainGlobals "_law_tree" = some (some (.ref f14))) (l14 : K.lookup f14 = some ⟨oc14, od14, .func (PySem.W.fnOf "_law_tree" "_law_tree" (defArgs s__law_tree) (defBody s__law_tree) (defScope s__law_tree) .none kV14 dc14 pm14 an14 cd14 ct14), sl14⟩) (c14 : PySem.W.codeIn K cd14 "_law_tree" = true) (k14 : PySem.W.keepIn K (.ref f14) = true)
    {f15 : Addr} {od15 an15 : Option Addr} {sl15 : Array (Option Value)} {oc15 kV15 dc15 pm15 cd15 ct15 : Value} (a15 : PySem.W.nsIn K mainGlobals "_law_book" = some (some (.ref f15))) (l15 : K.lookup f15 = some ⟨oc15, od15, .func (PySem.W.fnOf "_law_book" "_law_book" (defArgs s__law_book) (defBody s__law_book) (defScope s__law_book) .none kV15 dc15 pm15 an15 cd15 ct15), sl15⟩) (c15 : PySem.W.codeIn K cd15 "_law_book" = true) (k15 : PySem.W.keepIn K (.ref f15) = true)
    {f16 : Addr} {od16 an16 : Option Addr} {sl16 : Array (Option Value)} {oc16 kV16 dc16 pm16 cd16 ct16 : Value} (a16 : PySem.W.nsIn K mainGlobals "_law_leaves" = some (some (.ref f16))) (l16 : K.lookup f16 = some ⟨oc16, od16, .func (PySem.W.fnOf "_law_leaves" "_law_leaves" (defArgs s__law_leaves) (defBody s__law_leaves) (defScope s__law_leaves) .none kV16 dc16 pm16 an16 cd16 ct16), sl16⟩) (c16 : PySem.W.codeIn K cd16 "_law_leaves" = true) (k16 : PySem.W.keepIn K (.ref f16) = true)
    {f17 : Addr} {od17 an17 : Option Addr} {sl17 : Array (Option Value)} {oc17 kV17 dc17 pm17 cd17 ct17 : Value} (a17 : PySem.W.nsIn K mainGlobals "_law_deep" = some (some (.ref f17))) (l17 : K.lookup f17 = some ⟨oc17, od17, .func (PySem.W.fnOf "_law_deep" "_law_deep" (defArgs s__law_deep) (defBody s__law_deep) (defScope s__law_deep) .none kV17 dc17 pm17 an17 cd17 ct17), sl17⟩) (c17 : PySem.W.codeIn K cd17 "_law_deep" = true) (k17 : PySem.W.keepIn K (.ref f17) = true)
    {f18 : Addr} {od18 an18 : Option Addr} {sl18 : Array (Option Value)} {oc18 kV18 dc18 pm18 cd18 ct18 : Value} (a18 : PySem.W.nsIn K mainGlobals "law" = some (some (.ref f18))) (l18 : K.lookup f18 = some ⟨oc18, od18, .func (PySem.W.fnOf "law" "law" (defArgs s_law) (defBody s_law) (defScope s_law) .none kV18 dc18 pm18 an18 cd18 ct18), sl18⟩) (c18 : PySem.W.codeIn K cd18 "law" = true) (k18 : PySem.W.keepIn K (.ref f18) = true)
    (z_bool : PySem.W.nsIn K mainGlobals "bool" = some none)
    (z_isinstance : PySem.W.nsIn K mainGlobals "isinstance" = some none)
    (z_len : PySem.W.nsIn K mainGlobals "len" = some none)
    (z_list : PySem.W.nsIn K mainGlobals "list" = some none)
    (z_range : PySem.W.nsIn K mainGlobals "range" = some none)
    (z_tuple : PySem.W.nsIn K mainGlobals "tuple" = some none)
    (z_zip : PySem.W.nsIn K mainGlobals "zip" = some none)
    (hm : ∀ ns : List Int, ns.length ≤ 63 → m_law [.list (ns.map PyData.int)] = .ok (.imm (.bool true))) :
    ∃ (T : List Addr) (fd : FuncData), ((∀ p ∈ T, ∃ c, h.TableAt c p #[]) ∧ (T ≠ [] → PySem.W.kb_classed K = true)) ∧ (∀ (s : Shared) (v : Value), BindsTo s fd ⟨[v], []⟩ [("script", v)]) ∧ ∀ base : Heap, K.In base → base.Ns mainGlobals mg → BM base mg → FnOk l.prog w K mg base CX0 13 fa fd ["script"] (spLaw T K) := by
  have e := hfa.symm.trans (PySem.W.mg_of X G a18)
  cases e
  have F1 := fun_mk (st := s_feet_of) l1 c1 k1
  have b1 := F1.binds (ps := ["tree"]) fun _ _ _ _ _ _ us hl => match us, hl with | [_], _ => rfl
  have F2 := fun_mk (st := s_is_graft) l2 c2 k2
  have b2 := F2.binds (ps := ["tree"]) fun _ _ _ _ _ _ us hl => match us, hl with | [_], _ => rfl
  have F3 := fun_mk (st := s_last_leaf) l3 c3 k3
  have b3 := F3.binds (ps := ["tree"]) fun _ _ _ _ _ _ us hl => match us, hl with | [_], _ => rfl
  have F4 := fun_mk (st := s_two_sided_keys) l4 c4 k4
  have b4 := F4.binds (ps := ["book"]) fun _ _ _ _ _ _ us hl => match us, hl with | [_], _ => rfl
  have F5 := fun_mk (st := s_one_sided) l5 c5 k5
  have b5 := F5.binds (ps := ["book"]) fun _ _ _ _ _ _ us hl => match us, hl with | [_], _ => rfl
  have F6 := fun_mk (st := s__law_box) l6 c6 k6
  have b6 := F6.binds (ps := ["script"]) fun _ _ _ _ _ _ us hl => match us, hl with | [_], _ => rfl
  have F7 := fun_mk (st := s__law_pick) l7 c7 k7
  have b7 := F7.binds (ps := ["box", "count"]) fun _ _ _ _ _ _ us hl => match us, hl with | [_, _], _ => rfl
  have F8 := fun_mk (st := s__law_words) l8 c8 k8
  have b8 := F8.binds (ps := ["box", "heads", "tail", "count"]) fun _ _ _ _ _ _ us hl => match us, hl with | [_, _, _, _], _ => rfl
  have F9 := fun_mk (st := s__law_socket) l9 c9 k9
  have b9 := F9.binds (ps := ["some"]) fun _ _ _ _ _ _ us hl => match us, hl with | [_], _ => rfl
  have F10 := fun_mk (st := s__law_leaf) l10 c10 k10
  have b10 := F10.binds (ps := ["box", "some"]) fun _ _ _ _ _ _ us hl => match us, hl with | [_, _], _ => rfl
  have F11 := fun_mk (st := s__law_worn) l11 c11 k11
  have b11 := F11.binds (ps := ["box", "some"]) fun _ _ _ _ _ _ us hl => match us, hl with | [_, _], _ => rfl
  have F12 := fun_mk (st := s__law_knot) l12 c12 k12
  have b12 := F12.binds (ps := ["box", "some", "name", "deep", "foot"]) fun _ _ _ _ _ _ us hl => match us, hl with | [_, _, _, _, _], _ => rfl
  have F13 := fun_mk (st := s__law_signs) l13 c13 k13
  have b13 := F13.binds (ps := ["piece"]) fun _ _ _ _ _ _ us hl => match us, hl with | [_], _ => rfl
  have F14 := fun_mk (st := s__law_tree) l14 c14 k14
  have b14 := F14.binds (ps := ["box", "some", "name", "foot", "room"]) fun _ _ _ _ _ _ us hl => match us, hl with | [_, _, _, _, _], _ => rfl
  have F15 := fun_mk (st := s__law_book) l15 c15 k15
  have b15 := F15.binds (ps := ["box", "some", "count", "room"]) fun _ _ _ _ _ _ us hl => match us, hl with | [_, _, _, _], _ => rfl
  have F16 := fun_mk (st := s__law_leaves) l16 c16 k16
  have b16 := F16.binds (ps := ["piece"]) fun _ _ _ _ _ _ us hl => match us, hl with | [_], _ => rfl
  have F17 := fun_mk (st := s__law_deep) l17 c17 k17
  have b17 := F17.binds (ps := ["box", "some"]) fun _ _ _ _ _ _ us hl => match us, hl with | [_, _], _ => rfl
  have F18 := fun_mk (st := s_law) l18 c18 k18
  have b18 := F18.binds (ps := ["script"]) fun _ _ _ _ _ _ us hl => match us, hl with | [_], _ => rfl
  have T : Txt [] K mg ⟨f1, _, f2, _, f3, _, f4, _, f5, _, f6, _, f7, _, f8, _, f9, _, f10, _, f11, _, f12, _, f13, _, f14, _, f15, _, f16, _, f17, _, fa, _⟩ := ⟨F1, b1, PySem.W.mg_of X G a1, F2, b2, PySem.W.mg_of X G a2, F3, b3, PySem.W.mg_of X G a3, F4, b4, PySem.W.mg_of X G a4, F5, b5, PySem.W.mg_of X G a5, F6, b6, PySem.W.mg_of X G a6, F7, b7, PySem.W.mg_of X G a7, F8, b8, PySem.W.mg_of X G a8, F9, b9, PySem.W.mg_of X G a9, F10, b10, PySem.W.mg_of X G a10, F11, b11, PySem.W.mg_of X G a11, F12, b12, PySem.W.mg_of X G a12, F13, b13, PySem.W.mg_of X G a13, F14, b14, PySem.W.mg_of X G a14, F15, b15, PySem.W.mg_of X G a15, F16, b16, PySem.W.mg_of X G a16, F17, b17, PySem.W.mg_of X G a17, F18, b18, PySem.W.mg_of X G a18, PySem.W.mg_none_of X G z_bool, PySem.W.mg_none_of X G z_isinstance, PySem.W.mg_none_of X G z_len, PySem.W.mg_none_of X G z_list, PySem.W.mg_none_of X G z_range, PySem.W.mg_none_of X G z_tuple, PySem.W.mg_none_of X G z_zip⟩
  refine ⟨[], _, ⟨?tabs, fun z => absurd rfl z⟩, fun s v => .of_eq rfl, fun base _ _ hB => law_ok (ok_law T hB) hm⟩
  exact fun p hp => absurd hp (by simp)


end K87

namespace K87
open PySem PySem.Spec PyProof.Rows L2 Pu Kt Kq
theorem pick_rest {n : Nat} (hn : 0 < n) (hn2 : n ≤ 1000000) (a b : Int) (gs : List Int) : ∃ (r : Nat) (a' b' : Int) (ρ' : En), (sSeq (sIf (mCmp fGt (mIxB 0 (mC (.int 1))) (mC (.int 0))) (sSeq (sSet 3 (mBin fMod (mIxB 0 (mC (.int 1))) (mV 1))) (sSeq (sBx 0 1 (mBin fDiv (mIxB 0 (mC (.int 1))) (mV 1))) (sRet (mV 3)))) sNx) (sSeq (sBx 0 0 (mBin fMod (mBin fAdd (mBin fMul (mIxB 0 (mC (.int 0))) (mC (.int 48271))) (mC (.int 7919))) (mC (.int 2147483647)))) (sSeq (sSet 2 (mBin fMod (mBin fMul (mIxB 0 (mC (.int 0))) (mIxB 0 (mC (.int 0)))) (mC (.int 2147483629)))) (sRet (mBin fMod (mBin fDiv (mBin fMod (mBin fMul (mV 2) (mC (.int 40692))) (mC (.int 2147483587))) (mC (.int 8))) (mV 1)))))) [some (.box (Bxd a b gs)), some (.imm (.int ( (n : Int)))), none, none] = .rt (.imm (.int r)) (some (.box (Bxd a' b' gs)) :: ρ') ∧ r < n := by
  obtain ⟨r, hr, er⟩ := mod_cases (c := b) hn
  by_cases hb : b > 0
  · refine ⟨r, a, b / n, [some (.imm (.int (n : Int))), none, some (.imm (.int r))], ?_, hr⟩
    refine seq_rt ?_
    rw [if_t (ρ' := [some (.box (Bxd a b gs)), some (.imm (.int ( (n : Int)))), none, none]) (by simp (disch := omega) only [enI, sSeq, sDP, bs, mBin, mBinL, bd, mDG, List.getElem?_cons_zero, List.getElem?_cons_succ, lift, mC, mV, mVL, fAdd, fSub, if_true, if_false, Bool.false_eq_true, List.set_cons_zero, List.set_cons_succ, sIf, mCmp, mCall, mCons, mNil, pu, gLen, List.length_map, fI, sRet, sRetL, sNx, fIxL, fIxT, endS, sSet, sSetL, sDrop, mTup, mLst, fz, mUn, bl, mAnd, mOr, mNot, mIf, mTru, mTruL, truth, mB, mAndV, mOrV, mNotV, isB, mIxL, mSl, mSlL, mPt, mNoP, pI, fSl, fSlL, mCallL, mPk, mIsi, gTuple, gList, gMax, fNeg, mCF, mCFL, mCS, mfn, mfnS, List.length_cons, List.length_nil, List.map_cons, List.map_nil, List.cons_append, List.nil_append, List.replicate, List.append_nil, Nat.reduceSub, Nat.reduceAdd, Nat.reduceLT, Nat.zero_add, fDiv_eq, fMod_eq, atI0, atI1, atI2, atI3, sz0, Nat.lt_add_left_iff_pos, msSeq, seqD, msRng, rg_eq, sFor, fIs, fIsNot, isN, Bool.not_true, Bool.not_false, Bool.true_and, Bool.false_and, Bool.and_true, Bool.or_true, Bool.true_or, decide_true, decide_false, mIxB, fIxL, decide_eq_true hb])]
    simp (disch := omega) only [enI, sSeq, sDP, bs, mBin, mBinL, bd, mDG, List.getElem?_cons_zero, List.getElem?_cons_succ, lift, mC, mV, mVL, fAdd, fSub, if_true, if_false, Bool.false_eq_true, List.set_cons_zero, List.set_cons_succ, sIf, mCmp, mCall, mCons, mNil, pu, gLen, List.length_map, fI, sRet, sRetL, sNx, fIxL, fIxT, endS, sSet, sSetL, sDrop, mTup, mLst, fz, mUn, bl, mAnd, mOr, mNot, mIf, mTru, mTruL, truth, mB, mAndV, mOrV, mNotV, isB, mIxL, mSl, mSlL, mPt, mNoP, pI, fSl, fSlL, mCallL, mPk, mIsi, gTuple, gList, gMax, fNeg, mCF, mCFL, mCS, mfn, mfnS, List.length_cons, List.length_nil, List.map_cons, List.map_nil, List.cons_append, List.nil_append, List.replicate, List.append_nil, Nat.reduceSub, Nat.reduceAdd, Nat.reduceLT, Nat.zero_add, fDiv_eq, fMod_eq, atI0, atI1, atI2, atI3, sz0, Nat.lt_add_left_iff_pos, msSeq, seqD, msRng, rg_eq, sFor, fIs, fIsNot, isN, Bool.not_true, Bool.not_false, Bool.true_and, Bool.false_and, Bool.and_true, Bool.or_true, Bool.true_or, decide_true, decide_false, mIxB, sBx, fIxL, er, ix31]
  · obtain ⟨c, hc, ec⟩ := mod_cases (c := a * 48271 + 7919) (k := 2147483647) (by omega)
    have ec : (a * 48271 + 7919) % 2147483647 = (c : Int) := ec
    obtain ⟨r2, hr2, er2⟩ := mod_cases (c := (c : Int) * c % 2147483629 * 40692 % 2147483587 / 8) hn
    refine ⟨r2, c, b, [some (.imm (.int (n : Int))), some (.imm (.int ((c : Int) * c % 2147483629))), none], ?_, hr2⟩
    rw [seq_nx (ρ' := [some (.box (Bxd a b gs)), some (.imm (.int ( (n : Int)))), none, none]) (by simp (disch := omega) only [enI, sSeq, sDP, bs, mBin, mBinL, bd, mDG, List.getElem?_cons_zero, List.getElem?_cons_succ, lift, mC, mV, mVL, fAdd, fSub, if_true, if_false, Bool.false_eq_true, List.set_cons_zero, List.set_cons_succ, sIf, mCmp, mCall, mCons, mNil, pu, gLen, List.length_map, fI, sRet, sRetL, sNx, fIxL, fIxT, endS, sSet, sSetL, sDrop, mTup, mLst, fz, mUn, bl, mAnd, mOr, mNot, mIf, mTru, mTruL, truth, mB, mAndV, mOrV, mNotV, isB, mIxL, mSl, mSlL, mPt, mNoP, pI, fSl, fSlL, mCallL, mPk, mIsi, gTuple, gList, gMax, fNeg, mCF, mCFL, mCS, mfn, mfnS, List.length_cons, List.length_nil, List.map_cons, List.map_nil, List.cons_append, List.nil_append, List.replicate, List.append_nil, Nat.reduceSub, Nat.reduceAdd, Nat.reduceLT, Nat.zero_add, fDiv_eq, fMod_eq, atI0, atI1, atI2, atI3, sz0, Nat.lt_add_left_iff_pos, msSeq, seqD, msRng, rg_eq, sFor, fIs, fIsNot, isN, Bool.not_true, Bool.not_false, Bool.true_and, Bool.false_and, Bool.and_true, Bool.or_true, Bool.true_or, decide_true, decide_false, mIxB, fIxL, decide_eq_false hb])]
    rw [seq_nx (ρ' := [some (.box (Bxd c b gs)), some (.imm (.int ( (n : Int)))), none, none]) (by simp (disch := omega) only [enI, sSeq, sDP, bs, mBin, mBinL, bd, mDG, List.getElem?_cons_zero, List.getElem?_cons_succ, lift, mC, mV, mVL, fAdd, fSub, if_true, if_false, Bool.false_eq_true, List.set_cons_zero, List.set_cons_succ, sIf, mCmp, mCall, mCons, mNil, pu, gLen, List.length_map, fI, sRet, sRetL, sNx, fIxL, fIxT, endS, sSet, sSetL, sDrop, mTup, mLst, fz, mUn, bl, mAnd, mOr, mNot, mIf, mTru, mTruL, truth, mB, mAndV, mOrV, mNotV, isB, mIxL, mSl, mSlL, mPt, mNoP, pI, fSl, fSlL, mCallL, mPk, mIsi, gTuple, gList, gMax, fNeg, mCF, mCFL, mCS, mfn, mfnS, List.length_cons, List.length_nil, List.map_cons, List.map_nil, List.cons_append, List.nil_append, List.replicate, List.append_nil, Nat.reduceSub, Nat.reduceAdd, Nat.reduceLT, Nat.zero_add, fDiv_eq, fMod_eq, atI0, atI1, atI2, atI3, sz0, Nat.lt_add_left_iff_pos, msSeq, seqD, msRng, rg_eq, sFor, fIs, fIsNot, isN, Bool.not_true, Bool.not_false, Bool.true_and, Bool.false_and, Bool.and_true, Bool.or_true, Bool.true_or, decide_true, decide_false, mIxB, sBx, fIxL, fMulB, ix30, ec])]
    simp (disch := omega) only [enI, sSeq, sDP, bs, mBin, mBinL, bd, mDG, List.getElem?_cons_zero, List.getElem?_cons_succ, lift, mC, mV, mVL, fAdd, fSub, if_true, if_false, Bool.false_eq_true, List.set_cons_zero, List.set_cons_succ, sIf, mCmp, mCall, mCons, mNil, pu, gLen, List.length_map, fI, sRet, sRetL, sNx, fIxL, fIxT, endS, sSet, sSetL, sDrop, mTup, mLst, fz, mUn, bl, mAnd, mOr, mNot, mIf, mTru, mTruL, truth, mB, mAndV, mOrV, mNotV, isB, mIxL, mSl, mSlL, mPt, mNoP, pI, fSl, fSlL, mCallL, mPk, mIsi, gTuple, gList, gMax, fNeg, mCF, mCFL, mCS, mfn, mfnS, List.length_cons, List.length_nil, List.map_cons, List.map_nil, List.cons_append, List.nil_append, List.replicate, List.append_nil, Nat.reduceSub, Nat.reduceAdd, Nat.reduceLT, Nat.zero_add, fDiv_eq, fMod_eq, atI0, atI1, atI2, atI3, sz0, Nat.lt_add_left_iff_pos, msSeq, seqD, msRng, rg_eq, sFor, fIs, fIsNot, isN, Bool.not_true, Bool.not_false, Bool.true_and, Bool.false_and, Bool.and_true, Bool.or_true, Bool.true_or, decide_true, decide_false, mIxB, sBx, fIxL, fMulB, ix30, ec, er2]
theorem pick_ok {n : Nat} (hn : 0 < n) (hn2 : n ≤ 1000000) (a b : Int) (gs : List Int) : ∃ (r : Nat) (a' b' : Int) (gs' : List Int), m__law_pick (Bxd a b gs) [.int (n : Int)] = .ok (.imm (.int r)) (Bxd a' b' gs') ∧ r < n := by
  have go : ∃ (b1 : Int) (gs1 : List Int), (sIf (mAnd (mCmp fEqW (mIxB 0 (mC (.int 1))) (mC (.int 0))) (mCmp fGt (mCall gLen (mCons (mIxB 0 (mC (.int 2))) mNil)) (mC (.int 0)))) (sSeq (sBx 0 1 (mBin fIx (mIxB 0 (mC (.int 2))) (mC (.int 0)))) (sBx 0 2 (fz (mSlL (mIxB 0 (mC (.int 2))) (mPt (mC (.int 1))) mNoP)))) sNx) [some (.box (Bxd a b gs)), some (.imm (.int ( (n : Int)))), none, none] = .nx [some (.box (Bxd a b1 gs1)), some (.imm (.int ( (n : Int)))), none, none] := by
    by_cases hb : b = 0
    · cases gs with
      | nil =>
        refine ⟨b, [], ?_⟩
        simp (disch := omega) only [enI, sSeq, sDP, bs, mBin, mBinL, bd, mDG, List.getElem?_cons_zero, List.getElem?_cons_succ, lift, mC, mV, mVL, fAdd, fSub, if_true, if_false, Bool.false_eq_true, List.set_cons_zero, List.set_cons_succ, sIf, mCmp, mCall, mCons, mNil, pu, gLen, List.length_map, fI, sRet, sRetL, sNx, fIxL, fIxT, endS, sSet, sSetL, sDrop, mTup, mLst, fz, mUn, bl, mAnd, mOr, mNot, mIf, mTru, mTruL, truth, mB, mAndV, mOrV, mNotV, isB, mIxL, mSl, mSlL, mPt, mNoP, pI, fSl, fSlL, mCallL, mPk, mIsi, gTuple, gList, gMax, fNeg, mCF, mCFL, mCS, mfn, mfnS, List.length_cons, List.length_nil, List.map_cons, List.map_nil, List.cons_append, List.nil_append, List.replicate, List.append_nil, Nat.reduceSub, Nat.reduceAdd, Nat.reduceLT, Nat.zero_add, fDiv_eq, fMod_eq, atI0, atI1, atI2, atI3, sz0, Nat.lt_add_left_iff_pos, msSeq, seqD, msRng, rg_eq, sFor, fIs, fIsNot, isN, Bool.not_true, Bool.not_false, Bool.true_and, Bool.false_and, Bool.and_true, Bool.or_true, Bool.true_or, decide_true, decide_false, mIxB, fIxL, eq0, decide_eq_true hb]
        rfl
      | cons g r =>
        refine ⟨g, r, ?_⟩
        have h2 : ((r.length + 1 : Nat) : Int) > 0 := by omega
        have h3 : Pu.cutD (PyData.int g :: r.map PyData.int) (some 1) none = r.map PyData.int := cut_drop _ 1
        rw [if_t (ρ' := [some (.box (Bxd a b (g :: r))), some (.imm (.int ( (n : Int)))), none, none]) (by simp (disch := omega) only [enI, sSeq, sDP, bs, mBin, mBinL, bd, mDG, List.getElem?_cons_zero, List.getElem?_cons_succ, lift, mC, mV, mVL, fAdd, fSub, if_true, if_false, Bool.false_eq_true, List.set_cons_zero, List.set_cons_succ, sIf, mCmp, mCall, mCons, mNil, pu, gLen, List.length_map, fI, sRet, sRetL, sNx, fIxL, fIxT, endS, sSet, sSetL, sDrop, mTup, mLst, fz, mUn, bl, mAnd, mOr, mNot, mIf, mTru, mTruL, truth, mB, mAndV, mOrV, mNotV, isB, mIxL, mSl, mSlL, mPt, mNoP, pI, fSl, fSlL, mCallL, mPk, mIsi, gTuple, gList, gMax, fNeg, mCF, mCFL, mCS, mfn, mfnS, List.length_cons, List.length_nil, List.map_cons, List.map_nil, List.cons_append, List.nil_append, List.replicate, List.append_nil, Nat.reduceSub, Nat.reduceAdd, Nat.reduceLT, Nat.zero_add, fDiv_eq, fMod_eq, atI0, atI1, atI2, atI3, sz0, Nat.lt_add_left_iff_pos, msSeq, seqD, msRng, rg_eq, sFor, fIs, fIsNot, isN, Bool.not_true, Bool.not_false, Bool.true_and, Bool.false_and, Bool.and_true, Bool.or_true, Bool.true_or, decide_true, decide_false, mIxB, fIxL, eq0, decide_eq_true hb, decide_eq_true h2])]
        simp (disch := omega) only [enI, sSeq, sDP, bs, mBin, mBinL, bd, mDG, List.getElem?_cons_zero, List.getElem?_cons_succ, lift, mC, mV, mVL, fAdd, fSub, if_true, if_false, Bool.false_eq_true, List.set_cons_zero, List.set_cons_succ, sIf, mCmp, mCall, mCons, mNil, pu, gLen, List.length_map, fI, sRet, sRetL, sNx, fIxL, fIxT, endS, sSet, sSetL, sDrop, mTup, mLst, fz, mUn, bl, mAnd, mOr, mNot, mIf, mTru, mTruL, truth, mB, mAndV, mOrV, mNotV, isB, mIxL, mSl, mSlL, mPt, mNoP, pI, fSl, fSlL, mCallL, mPk, mIsi, gTuple, gList, gMax, fNeg, mCF, mCFL, mCS, mfn, mfnS, List.length_cons, List.length_nil, List.map_cons, List.map_nil, List.cons_append, List.nil_append, List.replicate, List.append_nil, Nat.reduceSub, Nat.reduceAdd, Nat.reduceLT, Nat.zero_add, fDiv_eq, fMod_eq, atI0, atI1, atI2, atI3, sz0, Nat.lt_add_left_iff_pos, msSeq, seqD, msRng, rg_eq, sFor, fIs, fIsNot, isN, Bool.not_true, Bool.not_false, Bool.true_and, Bool.false_and, Bool.and_true, Bool.or_true, Bool.true_or, decide_true, decide_false, mIxB, sBx, fIxL, ix31, ix32, h3]
    · refine ⟨b, gs, ?_⟩
      simp (disch := omega) only [enI, sSeq, sDP, bs, mBin, mBinL, bd, mDG, List.getElem?_cons_zero, List.getElem?_cons_succ, lift, mC, mV, mVL, fAdd, fSub, if_true, if_false, Bool.false_eq_true, List.set_cons_zero, List.set_cons_succ, sIf, mCmp, mCall, mCons, mNil, pu, gLen, List.length_map, fI, sRet, sRetL, sNx, fIxL, fIxT, endS, sSet, sSetL, sDrop, mTup, mLst, fz, mUn, bl, mAnd, mOr, mNot, mIf, mTru, mTruL, truth, mB, mAndV, mOrV, mNotV, isB, mIxL, mSl, mSlL, mPt, mNoP, pI, fSl, fSlL, mCallL, mPk, mIsi, gTuple, gList, gMax, fNeg, mCF, mCFL, mCS, mfn, mfnS, List.length_cons, List.length_nil, List.map_cons, List.map_nil, List.cons_append, List.nil_append, List.replicate, List.append_nil, Nat.reduceSub, Nat.reduceAdd, Nat.reduceLT, Nat.zero_add, fDiv_eq, fMod_eq, atI0, atI1, atI2, atI3, sz0, Nat.lt_add_left_iff_pos, msSeq, seqD, msRng, rg_eq, sFor, fIs, fIsNot, isN, Bool.not_true, Bool.not_false, Bool.true_and, Bool.false_and, Bool.and_true, Bool.or_true, Bool.true_or, decide_true, decide_false, mIxB, fIxL, eq0, decide_eq_false hb]
  obtain ⟨b1, gs1, e1⟩ := go
  obtain ⟨r, a', b', ρ', e2, hr⟩ := pick_rest hn hn2 a b1 gs1
  exact ⟨r, a', b', gs1, mfnB_rt ((seq_nx e1).trans e2), hr⟩
end K87

namespace K87
open PySem PySem.Spec PyProof.Rows L2 Pu Kt Kq
abbrev sD (l : List Nat) : D := .str (S l)
/-- of letters as they are wanted -/
def Al (p : Nat → Prop) (l : List Nat) : Prop := ∀ c ∈ l, p c
theorem Al.app {p : Nat → Prop} {a b : List Nat} (h1 : Al p a) (h2 : Al p b) : Al p (a ++ b) := fun c hc => (List.mem_append.mp hc).elim (h1 c) (h2 c)
theorem Al.take {p : Nat → Prop} {a : List Nat} (h : Al p a) (n : Nat) : Al p (a.take n) := fun c hc => h c (List.mem_of_mem_take hc)
theorem Al.drop {p : Nat → Prop} {a : List Nat} (h : Al p a) (n : Nat) : Al p (a.drop n) := fun c hc => h c (List.mem_of_mem_drop hc)
theorem Al.one {p : Nat → Prop} {j : Nat} (h : p j) : Al p [j] := fun c hc => by rw [List.mem_singleton.mp hc]; exact h
theorem words_ok {n : Nat} (hn : n ≤ 20) {p : Nat → Prop} {Z T : Str} (hZ : ∀ j : Nat, j < 26 → ∃ c, p c ∧ fIx (.str Z) (.int (j : Int)) = some (.str (S [c]))) (hT : ∀ r : Nat, r < 2 → ∃ l, Al p l ∧ l.length ≤ 1 ∧ fMulS (.str T) (.int (r : Int)) = some (.str (S l))) (a b : Int) (gs : List Int) :
    ∃ (ws : List (List Nat)) (a' b' : Int) (gs' : List Int), m__law_words (Bxd a b gs) [.str Z, .str T, .int (n : Int)] = .ok (.own (ws.map sD)) (Bxd a' b' gs') ∧ ws.length = n ∧ (∀ w ∈ ws, Al p w ∧ 1 ≤ w.length ∧ w.length ≤ 6) := by
  obtain ⟨r1, a1, b1, gs1, e1, hr1⟩ := pick_ok (n := 4) (by omega) (by omega) a b gs
  have e1 : m__law_pick (Bxd a b gs) [.int 4] = .ok (.imm (.int r1)) (Bxd a1 b1 gs1) := e1
  have q1 : (msRng (mCons (mCB 0 m__law_pick (mCons (mC (.int 4)) mNil)) mNil)) [some (.box (Bxd a b gs)), some (.imm (.str ( Z))), some (.imm (.str ( T))), some (.imm (.int ( (n : Int)))), some (.imm (.str ( S []))), none, none, none, none, none] = .ok (rngD r1) [some (.box (Bxd a1 b1 gs1)), some (.imm (.str ( Z))), some (.imm (.str ( T))), some (.imm (.int ( (n : Int)))), some (.imm (.str ( S []))), none, none, none, none, none] :=
    rng_ok (mcb_ok rfl (by rfl) rfl e1) (by omega)
  obtain ⟨ρ2, e2, a2, b2, gs2, l, o5, rfl, hl, hl2⟩ := for_inv (f := gN 5) (b := (sSet 4 (mBin fAdd (mV 4) (mBin fIx (mV 1) (mCB 0 m__law_pick (mCons (mC (.int 26)) mNil))))))
    (fun i ρ => ∃ (a2 b2 : Int) (gs2 : List Int) (l : List Nat) (o5 : Option S1), ρ = [some (.box (Bxd a2 b2 gs2)), some (.imm (.str ( Z))), some (.imm (.str ( T))), some (.imm (.int ( (n : Int)))), some (.imm (.str ( S l))), o5, none, none, none, none] ∧ Al p l ∧ l.length ≤ i)
    (rngD r1) 0 [some (.box (Bxd a1 b1 gs1)), some (.imm (.str ( Z))), some (.imm (.str ( T))), some (.imm (.int ( (n : Int)))), some (.imm (.str ( S []))), none, none, none, none, none] ⟨a1, b1, gs1, [], none, rfl, (fun c hc => by cases hc), Nat.le_refl _⟩ (fun j d ρ hd ⟨a2, b2, gs2, l, o5, e, hl, hl2⟩ => by
      subst e
      obtain ⟨rfl, hj⟩ := rng_get hd
      obtain ⟨r, a3, b3, gs3, e3, hr⟩ := pick_ok (n := 26) (by omega) (by omega) a2 b2 gs2
      have e3 : m__law_pick (Bxd a2 b2 gs2) [.int 26] = .ok (.imm (.int r)) (Bxd a3 b3 gs3) := e3
      obtain ⟨c, hc, ec⟩ := hZ r hr
      have hz : (S l).length + (S [c]).length ≤ 16000000 := by rw [S_len, S_len]; simp; omega
      refine ⟨[some (.box (Bxd a2 b2 gs2)), some (.imm (.str ( Z))), some (.imm (.str ( T))), some (.imm (.int ( (n : Int)))), some (.imm (.str ( S l))), some (.imm (.int ( (j : Int)))), none, none, none, none], by simp [gN], [some (.box (Bxd a3 b3 gs3)), some (.imm (.str ( Z))), some (.imm (.str ( T))), some (.imm (.int ( (n : Int)))), some (.imm (.str ( S (l ++ [c])))), some (.imm (.int ( (j : Int)))), none, none, none, none], ?_, a3, b3, gs3, l ++ [c], some (.imm (.int j)), rfl, hl.app (Al.one hc), by rw [List.length_append, List.length_singleton]; omega⟩
      simp (disch := omega) only [enI, sSeq, sDP, bs, mBin, mBinL, bd, mDG, List.getElem?_cons_zero, List.getElem?_cons_succ, lift, mC, mV, mVL, fSub, if_true, if_false, Bool.false_eq_true, List.set_cons_zero, List.set_cons_succ, sIf, mCmp, mCall, mCons, mNil, pu, gLen, List.length_map, fI, sRet, sRetL, sNx, fIxL, fIxT, endS, sSet, sSetL, sDrop, mTup, mLst, fz, mUn, bl, mAnd, mOr, mNot, mIf, mTru, mTruL, truth, mB, mAndV, mOrV, mNotV, isB, mIxL, mSl, mSlL, mPt, mNoP, pI, fSl, fSlL, mCallL, mPk, mIsi, gTuple, gList, gMax, fNeg, mCF, mCFL, mCS, mfn, mfnS, List.length_cons, List.length_nil, List.map_cons, List.map_nil, List.cons_append, List.nil_append, List.replicate, List.append_nil, Nat.reduceSub, Nat.reduceAdd, Nat.reduceLT, Nat.zero_add, fDiv_eq, fMod_eq, atI0, atI1, atI2, atI3, sz0, Nat.lt_add_left_iff_pos, msSeq, seqD, msRng, rg_eq, sFor, fIs, fIsNot, isN, Bool.not_true, Bool.not_false, Bool.true_and, Bool.false_and, Bool.and_true, Bool.or_true, Bool.true_or, decide_true, decide_false, fAdd_int, mCB, e3, ec, fAdd_str hz, S_app])
  rw [rng_len, Nat.zero_add] at hl2
  obtain ⟨at', a3, b3, gs3, e3, hat⟩ := pick_ok (n := l.length + 1) (by omega) (by omega) a2 b2 gs2
  obtain ⟨t, a4, b4, gs4, e4, ht⟩ := pick_ok (n := 26) (by omega) (by omega) a3 b3 gs3
  have e4 : m__law_pick (Bxd a3 b3 gs3) [.int 26] = .ok (.imm (.int t)) (Bxd a4 b4 gs4) := e4
  obtain ⟨ρ5, e5, a5, b5, gs5, ws, o5', o9, rfl, hw, hw2⟩ := for_inv (f := gN 5) (b := (sSeq (sSet 9 (mBin fAdd (mBin fAdd (mSl (mV 4) mNoP (mPt (mV 6))) (mBin fIx (mV 1) (mBin fMod (mBin fAdd (mV 7) (mBin fMul (mV 5) (mC (.int 5)))) (mC (.int 26))))) (mSl (mV 4) (mPt (mV 6)) mNoP))) (sDrop (mMut 8 fApp (mCons (mBin fAdd (mV 9) (mBin fMulS (mV 2) (mCB 0 m__law_pick (mCons (mC (.int 2)) mNil)))) mNil)))))
    (fun i ρ => ∃ (a2 b2 : Int) (gs2 : List Int) (ws : List (List Nat)) (o5 o9 : Option S1), ρ = [some (.box (Bxd a2 b2 gs2)), some (.imm (.str ( Z))), some (.imm (.str ( T))), some (.imm (.int ( (n : Int)))), some (.imm (.str ( S l))), o5, some (.imm (.int ( (at' : Int)))), some (.imm (.int ( (t : Int)))), some (.lst (ws.map sD)), o9] ∧ ws.length = i ∧ (∀ w ∈ ws, Al p w ∧ 1 ≤ w.length ∧ w.length ≤ 6))
    (rngD n) 0 [some (.box (Bxd a4 b4 gs4)), some (.imm (.str ( Z))), some (.imm (.str ( T))), some (.imm (.int ( (n : Int)))), some (.imm (.str ( S l))), o5, some (.imm (.int ( (at' : Int)))), some (.imm (.int ( (t : Int)))), some (.lst ([])), none] ⟨a4, b4, gs4, [], o5, none, rfl, rfl, fun w h => by simp at h⟩ (fun j d ρ hd ⟨a2, b2, gs2, ws, o5, o9, e, hw, hw2⟩ => by
      subst e
      obtain ⟨rfl, hj⟩ := rng_get hd
      rw [Nat.zero_add] at hw ⊢
      obtain ⟨r, a3, b3, gs3, e3, hr⟩ := pick_ok (n := 2) (by omega) (by omega) a2 b2 gs2
      have e3 : m__law_pick (Bxd a2 b2 gs2) [.int 2] = .ok (.imm (.int r)) (Bxd a3 b3 gs3) := e3
      have h26 : (t + j * 5) % 26 < 26 := Nat.mod_lt _ (by omega)
      have em : ((t : Int) + (j : Int) * 5) % 26 = (((t + j * 5) % 26 : Nat) : Int) := by omega
      obtain ⟨c, hc, ec⟩ := hZ _ h26
      obtain ⟨l2, hl3, hl4, el⟩ := hT r hr
      have hlS : (S l).length ≤ 16000000 := by rw [S_len]; omega
      have hz1 : (S (l.take at')).length + (S [c]).length ≤ 16000000 := by rw [S_len, S_len, List.length_take]; simp; omega
      have hz2 : (S (l.take at' ++ [c])).length + (S (l.drop at')).length ≤ 16000000 := by rw [S_len, S_len, List.length_append, List.length_take, List.length_drop]; simp; omega
      have hz3 : (S (l.take at' ++ [c] ++ l.drop at')).length + (S l2).length ≤ 16000000 := by rw [S_len, S_len, List.length_append, List.length_append, List.length_take, List.length_drop]; simp; omega
      have hz4 : (ws.map sD).length ≤ 16000000 := by rw [List.length_map]; omega
      have s1 : (sSet 9 (mBin fAdd (mBin fAdd (mSl (mV 4) mNoP (mPt (mV 6))) (mBin fIx (mV 1) (mBin fMod (mBin fAdd (mV 7) (mBin fMul (mV 5) (mC (.int 5)))) (mC (.int 26))))) (mSl (mV 4) (mPt (mV 6)) mNoP))) [some (.box (Bxd a2 b2 gs2)), some (.imm (.str ( Z))), some (.imm (.str ( T))), some (.imm (.int ( (n : Int)))), some (.imm (.str ( S l))), some (.imm (.int ( (j : Int)))), some (.imm (.int ( (at' : Int)))), some (.imm (.int ( (t : Int)))), some (.lst (ws.map sD)), o9] = .nx [some (.box (Bxd a2 b2 gs2)), some (.imm (.str ( Z))), some (.imm (.str ( T))), some (.imm (.int ( (n : Int)))), some (.imm (.str ( S l))), some (.imm (.int ( (j : Int)))), some (.imm (.int ( (at' : Int)))), some (.imm (.int ( (t : Int)))), some (.lst (ws.map sD)), some (.imm (.str ( S (l.take at' ++ [c] ++ l.drop at'))))] := by
        simp (disch := omega) only [enI, sSeq, sDP, bs, mBin, mBinL, bd, mDG, List.getElem?_cons_zero, List.getElem?_cons_succ, lift, mC, mV, mVL, fSub, if_true, if_false, Bool.false_eq_true, List.set_cons_zero, List.set_cons_succ, sIf, mCmp, mCall, mCons, mNil, pu, gLen, List.length_map, fI, sRet, sRetL, sNx, endS, sSet, sSetL, sDrop, mTup, mLst, fz, mUn, bl, mAnd, mOr, mNot, mIf, mTru, mTruL, truth, mB, mAndV, mOrV, mNotV, isB, mIxL, mSl, mSlL, mPt, mNoP, pI, fSlL, mCallL, mPk, mIsi, gTuple, gList, gMax, fNeg, mCF, mCFL, mCS, mfn, mfnS, List.length_cons, List.length_nil, List.map_cons, List.map_nil, List.cons_append, List.nil_append, List.replicate, List.append_nil, Nat.reduceSub, Nat.reduceAdd, Nat.reduceLT, Nat.zero_add, fDiv_eq, fMod_eq, atI0, atI1, atI2, atI3, sz0, Nat.lt_add_left_iff_pos, msSeq, seqD, msRng, rg_eq, sFor, fIs, fIsNot, isN, Bool.not_true, Bool.not_false, Bool.true_and, Bool.false_and, Bool.and_true, Bool.or_true, Bool.true_or, decide_true, decide_false, fAdd_int, fSl_str hlS, cutS_take, cutS_drop, fMulB, em, ec, fAdd_str hz1, fAdd_str hz2, S_app]
      have s2 : (mCons (mBin fAdd (mV 9) (mBin fMulS (mV 2) (mCB 0 m__law_pick (mCons (mC (.int 2)) mNil)))) mNil) [some (.box (Bxd a2 b2 gs2)), some (.imm (.str ( Z))), some (.imm (.str ( T))), some (.imm (.int ( (n : Int)))), some (.imm (.str ( S l))), some (.imm (.int ( (j : Int)))), some (.imm (.int ( (at' : Int)))), some (.imm (.int ( (t : Int)))), some (.lst (ws.map sD)), some (.imm (.str ( S (l.take at' ++ [c] ++ l.drop at'))))] = .ok [sD (l.take at' ++ [c] ++ l.drop at' ++ l2)] [some (.box (Bxd a3 b3 gs3)), some (.imm (.str ( Z))), some (.imm (.str ( T))), some (.imm (.int ( (n : Int)))), some (.imm (.str ( S l))), some (.imm (.int ( (j : Int)))), some (.imm (.int ( (at' : Int)))), some (.imm (.int ( (t : Int)))), some (.lst (ws.map sD)), some (.imm (.str ( S (l.take at' ++ [c] ++ l.drop at'))))] := by
        simp (disch := omega) only [enI, sSeq, sDP, bs, mBin, mBinL, bd, mDG, List.getElem?_cons_zero, List.getElem?_cons_succ, lift, mC, mV, mVL, fSub, if_true, if_false, Bool.false_eq_true, List.set_cons_zero, List.set_cons_succ, sIf, mCmp, mCall, mCons, mNil, pu, gLen, List.length_map, fI, sRet, sRetL, sNx, fIxL, fIxT, endS, sSet, sSetL, sDrop, mTup, mLst, fz, mUn, bl, mAnd, mOr, mNot, mIf, mTru, mTruL, truth, mB, mAndV, mOrV, mNotV, isB, mIxL, mSl, mSlL, mPt, mNoP, pI, fSl, fSlL, mCallL, mPk, mIsi, gTuple, gList, gMax, fNeg, mCF, mCFL, mCS, mfn, mfnS, List.length_cons, List.length_nil, List.map_cons, List.map_nil, List.cons_append, List.nil_append, List.replicate, List.append_nil, Nat.reduceSub, Nat.reduceAdd, Nat.reduceLT, Nat.zero_add, fDiv_eq, fMod_eq, atI0, atI1, atI2, atI3, sz0, Nat.lt_add_left_iff_pos, msSeq, seqD, msRng, rg_eq, sFor, fIs, fIsNot, isN, Bool.not_true, Bool.not_false, Bool.true_and, Bool.false_and, Bool.and_true, Bool.or_true, Bool.true_or, decide_true, decide_false, fAdd_int, mCB, e3, el, fAdd_str hz3, S_app]
      refine ⟨[some (.box (Bxd a2 b2 gs2)), some (.imm (.str ( Z))), some (.imm (.str ( T))), some (.imm (.int ( (n : Int)))), some (.imm (.str ( S l))), some (.imm (.int ( (j : Int)))), some (.imm (.int ( (at' : Int)))), some (.imm (.int ( (t : Int)))), some (.lst (ws.map sD)), o9], by simp [gN], [some (.box (Bxd a3 b3 gs3)), some (.imm (.str ( Z))), some (.imm (.str ( T))), some (.imm (.int ( (n : Int)))), some (.imm (.str ( S l))), some (.imm (.int ( (j : Int)))), some (.imm (.int ( (at' : Int)))), some (.imm (.int ( (t : Int)))), some (.lst (ws.map sD ++ [sD (l.take at' ++ [c] ++ l.drop at' ++ l2)])), some (.imm (.str ( S (l.take at' ++ [c] ++ l.drop at'))))], (seq_nx s1).trans (drop_ok (mut_ok (d := .none) rfl s2 rfl (fApp_eq hz4))), a3, b3, gs3, ws ++ [l.take at' ++ [c] ++ l.drop at' ++ l2], some (.imm (.int j)), some (.imm (sD (l.take at' ++ [c] ++ l.drop at'))), ?_, by rw [List.length_append, List.length_singleton, hw], fun w h => ?_⟩
      · rw [List.map_append]; rfl
      · rcases List.mem_append.mp h with h | h
        · exact hw2 w h
        · rw [List.mem_singleton.mp h]
          refine ⟨((((hl.take _).app (Al.one hc)).app (hl.drop _)).app hl3), by simp; omega, ?_⟩
          simp only [List.length_append, List.length_take, List.length_drop, List.length_singleton]
          omega)
  rw [rng_len, Nat.zero_add] at hw
  refine ⟨ws, a5, b5, gs5, ?_, hw, hw2⟩
  refine mfnB_rt (ρ' := [some (.imm (.str Z)), some (.imm (.str T)), some (.imm (.int n)), some (.imm (.str (S l))), o5', some (.imm (.int at')), some (.imm (.int t)), none, o9]) ?_
  have hlS : (S l).length ≤ 16000000 := by rw [S_len]; omega
  have e3' : m__law_pick (Bxd a2 b2 gs2) [.int ((S l).length + 1)] = .ok (.imm (.int at')) (Bxd a3 b3 gs3) := by rw [S_len]; exact e3
  unfold b__law_words
  rw [seq_nx (ρ' := [some (.box (Bxd a b gs)), some (.imm (.str ( Z))), some (.imm (.str ( T))), some (.imm (.int ( (n : Int)))), some (.imm (.str ( S []))), none, none, none, none, none]) (by rfl)]
  rw [seq_nx ((for_ok q1).trans e2)]
  rw [seq_nx (ρ' := [some (.box (Bxd a3 b3 gs3)), some (.imm (.str ( Z))), some (.imm (.str ( T))), some (.imm (.int ( (n : Int)))), some (.imm (.str ( S l))), o5, some (.imm (.int ( (at' : Int)))), none, none, none]) (set_ok (mcb_ok (ρ' := [some (.box (Bxd a2 b2 gs2)), some (.imm (.str ( Z))), some (.imm (.str ( T))), some (.imm (.int ( (n : Int)))), some (.imm (.str ( S l))), o5, none, none, none, none]) rfl (by simp only [mCons, bd, mBin, mCall, mV, List.getElem?_cons_zero, List.getElem?_cons_succ, mNil, pu, gLen_str hlS, lift, mC, fAdd_int]) rfl e3') (by simp))]
  rw [seq_nx (ρ' := [some (.box (Bxd a4 b4 gs4)), some (.imm (.str ( Z))), some (.imm (.str ( T))), some (.imm (.int ( (n : Int)))), some (.imm (.str ( S l))), o5, some (.imm (.int ( (at' : Int)))), some (.imm (.int ( (t : Int)))), none, none]) (set_ok (mcb_ok (ρ' := [some (.box (Bxd a3 b3 gs3)), some (.imm (.str ( Z))), some (.imm (.str ( T))), some (.imm (.int ( (n : Int)))), some (.imm (.str ( S l))), o5, some (.imm (.int ( (at' : Int)))), none, none, none]) rfl (by rfl) rfl e4) (by simp))]
  rw [seq_nx (ρ' := [some (.box (Bxd a4 b4 gs4)), some (.imm (.str ( Z))), some (.imm (.str ( T))), some (.imm (.int ( (n : Int)))), some (.imm (.str ( S l))), o5, some (.imm (.int ( (at' : Int)))), some (.imm (.int ( (t : Int)))), some (.lst ([])), none]) (by simp (disch := omega) only [enI, sSeq, sDP, bs, mBin, mBinL, bd, mDG, List.getElem?_cons_zero, List.getElem?_cons_succ, lift, mC, mV, mVL, fSub, if_true, if_false, Bool.false_eq_true, List.set_cons_zero, List.set_cons_succ, sIf, mCmp, mCall, mCons, mNil, pu, gLen, List.length_map, fI, sRet, sRetL, sNx, fIxL, fIxT, endS, sSet, sSetL, sDrop, mTup, mLst, fz, mUn, bl, mAnd, mOr, mNot, mIf, mTru, mTruL, truth, mB, mAndV, mOrV, mNotV, isB, mIxL, mSl, mSlL, mPt, mNoP, pI, fSl, fSlL, mCallL, mPk, mIsi, gTuple, gList, gMax, fNeg, mCF, mCFL, mCS, mfn, mfnS, List.length_cons, List.length_nil, List.map_cons, List.map_nil, List.cons_append, List.nil_append, List.replicate, List.append_nil, Nat.reduceSub, Nat.reduceAdd, Nat.reduceLT, Nat.zero_add, fDiv_eq, fMod_eq, atI0, atI1, atI2, atI3, sz0, Nat.lt_add_left_iff_pos, msSeq, seqD, msRng, rg_eq, sFor, fIs, fIsNot, isN, Bool.not_true, Bool.not_false, Bool.true_and, Bool.false_and, Bool.and_true, Bool.or_true, Bool.true_or, decide_true, decide_false, fAdd_int])]
  rw [seq_nx ((for_ok (rng_ok (j := n) (by rfl) (by omega))).trans e5)]
  rfl
end K87

namespace K87
open PySem PySem.Spec PyProof.Rows L2 Pu Kt Kq
/-! ### letters -/
abbrev Lo (c : Nat) : Prop := c < 128
theorem tl_q : ∀ r : Nat, r < 2 → ∃ l, Al Lo l ∧ l.length ≤ 1 ∧ fMulS (.str "q") (.int (r : Int)) = some (.str (S l)) := fun r h => by
  rcases r with _ | _ | r
  · exact ⟨[], (fun c hc => by cases hc), by simp, rfl⟩
  · exact ⟨[113], Al.one (by decide), by simp, rfl⟩
  · omega
theorem tl_7 : ∀ r : Nat, r < 2 → ∃ l, Al Lo l ∧ l.length ≤ 1 ∧ fMulS (.str "7") (.int (r : Int)) = some (.str (S l)) := fun r h => by
  rcases r with _ | _ | r
  · exact ⟨[], (fun c hc => by cases hc), by simp, rfl⟩
  · exact ⟨[55], Al.one (by decide), by simp, rfl⟩
  · omega
theorem tl_0 : ∀ r : Nat, r < 2 → ∃ l, Al Lo l ∧ l.length ≤ 1 ∧ fMulS (.str "0") (.int (r : Int)) = some (.str (S l)) := fun r h => by
  rcases r with _ | _ | r
  · exact ⟨[], (fun c hc => by cases hc), by simp, rfl⟩
  · exact ⟨[48], Al.one (by decide), by simp, rfl⟩
  · omega
theorem tl_3 : ∀ r : Nat, r < 2 → ∃ l, Al Lo l ∧ l.length ≤ 1 ∧ fMulS (.str "3") (.int (r : Int)) = some (.str (S l)) := fun r h => by
  rcases r with _ | _ | r
  · exact ⟨[], (fun c hc => by cases hc), by simp, rfl⟩
  · exact ⟨[51], Al.one (by decide), by simp, rfl⟩
  · omega
theorem hd_az : ∀ j : Nat, j < 26 → ∃ c, Lo c ∧ fIx (.str AZ) (.int (j : Int)) = some (.str (S [c])) := fun j h => ⟨97 + j, by show 97 + j < 128; omega, az_ix h⟩
theorem gr_at : ∀ j : Nat, j < 26 → (cs GR)[j]? = some (65 + j) := by decide +kernel
theorem hd_gr : ∀ j : Nat, j < 26 → ∃ c, Lo c ∧ fIx (.str GR) (.int (j : Int)) = some (.str (S [c])) := fun j h => ⟨65 + j, by show 65 + j < 128; omega, by
  have hl : GR.length ≤ 16000000 := by decide +kernel
  show (if sized GR.length then (atI GR.cps.toList (j : Int)).map (fun c => PyData.str ⟨#[c]⟩) else none) = _
  rw [if_pos (sized_le hl), atI_some (gr_at j h)]
  rfl⟩
theorem low_gr : fLow (.str GR) = some (.str AZ) := by
  show (if decide (GR.length ≤ 5000000) then some (PyData.str (Txt.lower GR)) else none) = _
  rw [if_pos (by decide +kernel), show Txt.lower GR = AZ by decide +kernel]
/-- a text that can be compared, not empty -/
def Wk (x : Str) : Prop := PyData.strOk x = true ∧ (x == ("" : Str)) = false
theorem wk_of {l : List Nat} (h1 : Al Lo l) (h2 : 1 ≤ l.length) : Wk (S l) := by
  refine ⟨strOk_of fun c hc => by rw [S_cs] at hc; exact h1 c hc, beq_eq_false_iff_ne.mpr fun e => ?_⟩
  have : l = [] := S_inj (e.trans S_nil)
  rw [this] at h2
  simp at h2
/-! ### what the drawing knows -/
abbrev so (a b c d e f : Str) (fr lf : Int) : List (Str × D) := [("signs", .list [.str a, .str b]), ("free", .int fr), ("knots", .bool true), ("left", .int lf), ("starts", .list [.str c, .str d]), ("grafts", .list [.str e, .str f])]
section
variable {a b c d e f : Str} {fr lf x : Int}
theorem v_signs : valD (so a b c d e f fr lf) "signs" = some (.list [.str a, .str b]) := rfl
theorem v_free : valD (so a b c d e f fr lf) "free" = some (.int fr) := rfl
theorem v_knots : valD (so a b c d e f fr lf) "knots" = some (.bool true) := rfl
theorem v_left : valD (so a b c d e f fr lf) "left" = some (.int lf) := rfl
theorem v_starts : valD (so a b c d e f fr lf) "starts" = some (.list [.str c, .str d]) := rfl
theorem v_grafts : valD (so a b c d e f fr lf) "grafts" = some (.list [.str e, .str f]) := rfl
theorem p_left : putD (so a b c d e f fr lf) "left" (.int x) = so a b c d e f fr x := rfl
theorem so_len : (so a b c d e f fr lf).length < sizeLine := lt_line (by simp)
end
theorem two {x y : D} {i : Int} (h0 : 0 ≤ i) (h1 : i < 2) : ∃ z, (z = x ∨ z = y) ∧ atI [x, y] i = some z := by
  have : i = 0 ∨ i = 1 := by omega
  rcases this with rfl | rfl
  · exact ⟨x, .inl rfl, atI0⟩
  · exact ⟨y, .inr rfl, atI1⟩
theorem mfnM_rt {n : Nat} {b : MS} {bs bs' : List D} {kvs kvs' : List (Str × D)} {ds : List D} {r : RV} {ρ' : En} (h : b (some (.box bs) :: some (.dct kvs) :: enI (n - 2) ds) = .rt r (some (.box bs') :: some (.dct kvs') :: ρ')) : mfnM n b bs kvs ds = .ok r bs' kvs' := by
  unfold mfnM
  rw [h]
  rfl
theorem beqI {n k : Nat} (h : n ≠ k) : (((n : Nat) : Int) == ((k : Nat) : Int)) = false := beq_eq_false_iff_ne.mpr fun e => h (by omega)
theorem socket_ok {a b c d e f : Str} {fr lf : Int} : ∃ (bo : Bool) (lf' : Int), m__law_socket (so a b c d e f fr lf) [] = .ok (.imm (.bool bo)) (so a b c d e f fr lf') := by
  by_cases h : lf = 0
  · refine ⟨false, lf, mfnS_rt (ρ' := []) ?_⟩
    show b__law_socket [some (.dct (so a b c d e f fr lf))] = _
    have h1 : (lf == 0) = true := beq_iff_eq.mpr h
    unfold b__law_socket
    simp (disch := omega) only [enI, sSeq, sDP, bs, mBin, mBinL, bd, mDG, List.getElem?_cons_zero, List.getElem?_cons_succ, lift, mC, mV, mVL, fAdd, fSub, if_true, if_false, Bool.false_eq_true, List.set_cons_zero, List.set_cons_succ, sIf, mCmp, mCall, mCons, mNil, pu, gLen, List.length_map, fI, sRet, sRetL, sNx, fIxL, fIxT, endS, sSet, sSetL, sDrop, mTup, mLst, fz, mUn, bl, mAnd, mOr, mNot, mIf, mTru, mTruL, truth, mB, mAndV, mOrV, mNotV, isB, mIxL, mSl, mSlL, mPt, mNoP, pI, fSl, fSlL, mCallL, mPk, mIsi, gTuple, gList, gMax, fNeg, mCF, mCFL, mCS, mfn, mfnS, List.length_cons, List.length_nil, List.map_cons, List.map_nil, List.cons_append, List.nil_append, List.replicate, List.append_nil, Nat.reduceSub, Nat.reduceAdd, Nat.reduceLT, Nat.zero_add, fDiv_eq, fMod_eq, atI0, atI1, atI2, atI3, sz0, Nat.lt_add_left_iff_pos, msSeq, seqD, msRng, rg_eq, sFor, fIs, fIsNot, isN, Bool.not_true, Bool.not_false, Bool.true_and, Bool.false_and, Bool.and_true, Bool.or_true, Bool.true_or, decide_true, decide_false, v_left, fEqW_int, h1]
  · refine ⟨true, lf - 1, mfnS_rt (ρ' := []) ?_⟩
    show b__law_socket [some (.dct (so a b c d e f fr lf))] = _
    have h1 : (lf == 0) = false := beq_eq_false_iff_ne.mpr h
    unfold b__law_socket
    have h6 : (6 : Nat) < sizeLine := lt_line (by omega)
    simp (disch := omega) only [enI, sSeq, sDP, bs, mBin, mBinL, bd, mDG, List.getElem?_cons_zero, List.getElem?_cons_succ, lift, mC, mV, mVL, fAdd, fSub, if_true, if_false, Bool.false_eq_true, List.set_cons_zero, List.set_cons_succ, sIf, mCmp, mCall, mCons, mNil, pu, gLen, List.length_map, fI, sRet, sRetL, sNx, fIxL, fIxT, endS, sSet, sSetL, sDrop, mTup, mLst, fz, mUn, bl, mAnd, mOr, mNot, mIf, mTru, mTruL, truth, mB, mAndV, mOrV, mNotV, isB, mIxL, mSl, mSlL, mPt, mNoP, pI, fSl, fSlL, mCallL, mPk, mIsi, gTuple, gList, gMax, fNeg, mCF, mCFL, mCS, mfn, mfnS, List.length_cons, List.length_nil, List.map_cons, List.map_nil, List.cons_append, List.nil_append, List.replicate, List.append_nil, Nat.reduceSub, Nat.reduceAdd, Nat.reduceLT, Nat.zero_add, fDiv_eq, fMod_eq, atI0, atI1, atI2, atI3, sz0, Nat.lt_add_left_iff_pos, msSeq, seqD, msRng, rg_eq, sFor, fIs, fIsNot, isN, Bool.not_true, Bool.not_false, Bool.true_and, Bool.false_and, Bool.and_true, Bool.or_true, Bool.true_or, decide_true, decide_false, v_left, fEqW_int, h1, h6, p_left]
theorem leaf_ok {a b c d e f : Str} {fr lf : Int} (p q : Int) (gs : List Int) : ∃ (t : Tr) (p' q' : Int) (gs' : List Int) (lf' : Int), m__law_leaf (Bxd p q gs) (so a b c d e f fr lf) [] = .ok (.imm t.toD) (Bxd p' q' gs') (so a b c d e f fr lf') ∧ (t = .void ∨ (∃ s, t = .sign s) ∨ ∃ s, t = .hole s) := by
  obtain ⟨r, p1, q1, gs1, e1, hr⟩ := pick_ok (n := 9) (by omega) (by omega) p q gs
  have e1 : m__law_pick (Bxd p q gs) [.int 9] = .ok (.imm (.int r)) (Bxd p1 q1 gs1) := e1
  have s1 : sSet 2 (mCB 0 m__law_pick (mCons (mC (.int 9)) mNil)) [some (.box (Bxd p q gs)), some (.dct (so a b c d e f fr lf)), none] = .nx [some (.box (Bxd p1 q1 gs1)), some (.dct (so a b c d e f fr lf)), some (.imm (.int ( (r : Int))))] := by
    simp (disch := omega) only [enI, sSeq, sDP, bs, mBin, mBinL, bd, mDG, List.getElem?_cons_zero, List.getElem?_cons_succ, lift, mC, mV, mVL, fAdd, fSub, if_true, if_false, Bool.false_eq_true, List.set_cons_zero, List.set_cons_succ, sIf, mCmp, mCall, mCons, mNil, pu, gLen, List.length_map, fI, sRet, sRetL, sNx, fIxL, fIxT, endS, sSet, sSetL, sDrop, mTup, mLst, fz, mUn, bl, mAnd, mOr, mNot, mIf, mTru, mTruL, truth, mB, mAndV, mOrV, mNotV, isB, mIxL, mSl, mSlL, mPt, mNoP, pI, fSl, fSlL, mCallL, mPk, mIsi, gTuple, gList, gMax, fNeg, mCF, mCFL, mCS, mfn, mfnS, List.length_cons, List.length_nil, List.map_cons, List.map_nil, List.cons_append, List.nil_append, List.replicate, List.append_nil, Nat.reduceSub, Nat.reduceAdd, Nat.reduceLT, Nat.zero_add, fDiv_eq, fMod_eq, atI0, atI1, atI2, atI3, sz0, Nat.lt_add_left_iff_pos, msSeq, seqD, msRng, rg_eq, sFor, fIs, fIsNot, isN, Bool.not_true, Bool.not_false, Bool.true_and, Bool.false_and, Bool.and_true, Bool.or_true, Bool.true_or, decide_true, decide_false, mCB, e1]
  by_cases h0 : r = 0
  · subst h0
    refine ⟨.void, p1, q1, gs1, lf, mfnM_rt (ρ' := [some (.imm (.int ( 0)))]) ?_, .inl rfl⟩
    show b__law_leaf [some (.box (Bxd p q gs)), some (.dct (so a b c d e f fr lf)), none] = _
    unfold b__law_leaf
    rw [seq_nx s1]
    have h1 : (((0 : Nat) : Int) == 0) = true := rfl
    simp (disch := omega) only [enI, sSeq, sDP, bs, mBin, mBinL, bd, mDG, List.getElem?_cons_zero, List.getElem?_cons_succ, lift, mC, mV, mVL, fAdd, fSub, if_true, if_false, Bool.false_eq_true, List.set_cons_zero, List.set_cons_succ, sIf, mCmp, mCall, mCons, mNil, pu, gLen, List.length_map, fI, sRet, sRetL, sNx, fIxL, fIxT, endS, sSet, sSetL, sDrop, mTup, mLst, fz, mUn, bl, mAnd, mOr, mNot, mIf, mTru, mTruL, truth, mB, mAndV, mOrV, mNotV, isB, mIxL, mSl, mSlL, mPt, mNoP, pI, fSl, fSlL, mCallL, mPk, mIsi, gTuple, gList, gMax, fNeg, mCF, mCFL, mCS, mfn, mfnS, List.length_cons, List.length_nil, List.map_cons, List.map_nil, List.cons_append, List.nil_append, List.replicate, List.append_nil, Nat.reduceSub, Nat.reduceAdd, Nat.reduceLT, Nat.zero_add, fDiv_eq, fMod_eq, atI0, atI1, atI2, atI3, sz0, Nat.lt_add_left_iff_pos, msSeq, seqD, msRng, rg_eq, sFor, fIs, fIsNot, isN, Bool.not_true, Bool.not_false, Bool.true_and, Bool.false_and, Bool.and_true, Bool.or_true, Bool.true_or, decide_true, decide_false, fEqW_int, h1, Tr.toD]
    rfl
  · have h1 : ((r : Int) == 0) = false := beq_eq_false_iff_ne.mpr (by omega)
    have last : ∀ (p1 q1 : Int) (gs1 : List Int) (lf1 : Int), ∃ (t : Tr) (p' q' : Int) (gs' : List Int), (sRet (mTup (mCons (mC (.str "sign")) (mCons (mBin fIx (mDG 1 "signs") (mCB 0 m__law_pick (mCons (mCall gLen (mCons (mDG 1 "signs") mNil)) mNil))) mNil)))) [some (.box (Bxd p1 q1 gs1)), some (.dct (so a b c d e f fr lf1)), some (.imm (.int ( (r : Int))))] = .rt (.imm t.toD) [some (.box (Bxd p' q' gs')), some (.dct (so a b c d e f fr lf1)), some (.imm (.int ( (r : Int))))] ∧ ∃ s, t = .sign s := by
      intro p1 q1 gs1 lf1
      obtain ⟨r2, p2, q2, gs2, e2, hr2⟩ := pick_ok (n := 2) (by omega) (by omega) p1 q1 gs1
      obtain ⟨z, hz, ez⟩ := two (x := .str a) (y := .str b) (i := (r2 : Int)) (by omega) (by omega)
      obtain ⟨s, rfl⟩ : ∃ s, z = .str s := by rcases hz with rfl | rfl <;> exact ⟨_, rfl⟩
      refine ⟨.sign s, p2, q2, gs2, ?_, s, rfl⟩
      simp (disch := omega) only [enI, sSeq, sDP, bs, mBin, mBinL, bd, mDG, List.getElem?_cons_zero, List.getElem?_cons_succ, lift, mC, mV, mVL, fAdd, fSub, if_true, if_false, Bool.false_eq_true, List.set_cons_zero, List.set_cons_succ, sIf, mCmp, mCall, mCons, mNil, pu, gLen, List.length_map, fI, sRet, sRetL, sNx, fIxL, fIxT, endS, sSet, sSetL, sDrop, mTup, mLst, fz, mUn, bl, mAnd, mOr, mNot, mIf, mTru, mTruL, truth, mB, mAndV, mOrV, mNotV, isB, mIxL, mSl, mSlL, mPt, mNoP, pI, fSl, fSlL, mCallL, mPk, mIsi, gTuple, gList, gMax, fNeg, mCF, mCFL, mCS, mfn, mfnS, List.length_cons, List.length_nil, List.map_cons, List.map_nil, List.cons_append, List.nil_append, List.replicate, List.append_nil, Nat.reduceSub, Nat.reduceAdd, Nat.reduceLT, Nat.zero_add, fDiv_eq, fMod_eq, atI0, atI1, atI2, atI3, sz0, Nat.lt_add_left_iff_pos, msSeq, seqD, msRng, rg_eq, sFor, fIs, fIsNot, isN, Bool.not_true, Bool.not_false, Bool.true_and, Bool.false_and, Bool.and_true, Bool.or_true, Bool.true_or, decide_true, decide_false, mCB, v_signs, e2, ez, Tr.toD]
    by_cases h4 : r < 4
    · have h2 : decide ((r : Int) < 4) = true := decide_eq_true (by omega)
      obtain ⟨bo, lf1, e2⟩ := socket_ok (a := a) (b := b) (c := c) (d := d) (e := e) (f := f) (fr := fr) (lf := lf)
      cases bo with
      | true =>
        obtain ⟨r2, p2, q2, gs2, e3, hr2⟩ := pick_ok (n := 3) (by omega) (by omega) p1 q1 gs1
        have e3 : m__law_pick (Bxd p1 q1 gs1) [.int 3] = .ok (.imm (.int r2)) (Bxd p2 q2 gs2) := e3
        obtain ⟨z, hz, ez⟩ := two (x := .str c) (y := .str d) (i := (r2 : Int) / 2) (by omega) (by omega)
        obtain ⟨s, rfl⟩ : ∃ s, z = .str s := by rcases hz with rfl | rfl <;> exact ⟨_, rfl⟩
        refine ⟨.hole s, p2, q2, gs2, lf1, mfnM_rt (ρ' := [some (.imm (.int ( (r : Int))))]) ?_, .inr (.inr ⟨s, rfl⟩)⟩
        show b__law_leaf [some (.box (Bxd p q gs)), some (.dct (so a b c d e f fr lf)), none] = _
        unfold b__law_leaf
        rw [seq_nx s1]
        simp (disch := omega) only [enI, sSeq, sDP, bs, mBin, mBinL, bd, mDG, List.getElem?_cons_zero, List.getElem?_cons_succ, lift, mC, mV, mVL, fAdd, fSub, if_true, if_false, Bool.false_eq_true, List.set_cons_zero, List.set_cons_succ, sIf, mCmp, mCall, mCons, mNil, pu, gLen, List.length_map, fI, sRet, sRetL, sNx, fIxL, fIxT, endS, sSet, sSetL, sDrop, mTup, mLst, fz, mUn, bl, mAnd, mOr, mNot, mIf, mTru, mTruL, truth, mB, mAndV, mOrV, mNotV, isB, mIxL, mSl, mSlL, mPt, mNoP, pI, fSl, fSlL, mCallL, mPk, mIsi, gTuple, gList, gMax, fNeg, mCF, mCFL, mCS, mfn, mfnS, List.length_cons, List.length_nil, List.map_cons, List.map_nil, List.cons_append, List.nil_append, List.replicate, List.append_nil, Nat.reduceSub, Nat.reduceAdd, Nat.reduceLT, Nat.zero_add, fDiv_eq, fMod_eq, atI0, atI1, atI2, atI3, sz0, Nat.lt_add_left_iff_pos, msSeq, seqD, msRng, rg_eq, sFor, fIs, fIsNot, isN, Bool.not_true, Bool.not_false, Bool.true_and, Bool.false_and, Bool.and_true, Bool.or_true, Bool.true_or, decide_true, decide_false, mCB, fEqW_int, h1, h2, e2, v_starts, e3, ez, Tr.toD]
      | false =>
        obtain ⟨t, p2, q2, gs2, e3, s, rfl⟩ := last p1 q1 gs1 lf1
        refine ⟨.sign s, p2, q2, gs2, lf1, mfnM_rt (ρ' := [some (.imm (.int ( (r : Int))))]) ?_, .inr (.inl ⟨s, rfl⟩)⟩
        show b__law_leaf [some (.box (Bxd p q gs)), some (.dct (so a b c d e f fr lf)), none] = _
        unfold b__law_leaf
        rw [seq_nx s1, seq_nx (ρ' := [some (.box (Bxd p1 q1 gs1)), some (.dct (so a b c d e f fr lf)), some (.imm (.int ( (r : Int))))]) (by simp (disch := omega) only [enI, sSeq, sDP, bs, mBin, mBinL, bd, mDG, List.getElem?_cons_zero, List.getElem?_cons_succ, lift, mC, mV, mVL, fAdd, fSub, if_true, if_false, Bool.false_eq_true, List.set_cons_zero, List.set_cons_succ, sIf, mCmp, mCall, mCons, mNil, pu, gLen, List.length_map, fI, sRet, sRetL, sNx, fIxL, fIxT, endS, sSet, sSetL, sDrop, mTup, mLst, fz, mUn, bl, mAnd, mOr, mNot, mIf, mTru, mTruL, truth, mB, mAndV, mOrV, mNotV, isB, mIxL, mSl, mSlL, mPt, mNoP, pI, fSl, fSlL, mCallL, mPk, mIsi, gTuple, gList, gMax, fNeg, mCF, mCFL, mCS, mfn, mfnS, List.length_cons, List.length_nil, List.map_cons, List.map_nil, List.cons_append, List.nil_append, List.replicate, List.append_nil, Nat.reduceSub, Nat.reduceAdd, Nat.reduceLT, Nat.zero_add, fDiv_eq, fMod_eq, atI0, atI1, atI2, atI3, sz0, Nat.lt_add_left_iff_pos, msSeq, seqD, msRng, rg_eq, sFor, fIs, fIsNot, isN, Bool.not_true, Bool.not_false, Bool.true_and, Bool.false_and, Bool.and_true, Bool.or_true, Bool.true_or, decide_true, decide_false, fEqW_int, h1]), seq_nx (ρ' := [some (.box (Bxd p1 q1 gs1)), some (.dct (so a b c d e f fr lf1)), some (.imm (.int ( (r : Int))))]) (by simp (disch := omega) only [enI, sSeq, sDP, bs, mBin, mBinL, bd, mDG, List.getElem?_cons_zero, List.getElem?_cons_succ, lift, mC, mV, mVL, fAdd, fSub, if_true, if_false, Bool.false_eq_true, List.set_cons_zero, List.set_cons_succ, sIf, mCmp, mCall, mCons, mNil, pu, gLen, List.length_map, fI, sRet, sRetL, sNx, fIxL, fIxT, endS, sSet, sSetL, sDrop, mTup, mLst, fz, mUn, bl, mAnd, mOr, mNot, mIf, mTru, mTruL, truth, mB, mAndV, mOrV, mNotV, isB, mIxL, mSl, mSlL, mPt, mNoP, pI, fSl, fSlL, mCallL, mPk, mIsi, gTuple, gList, gMax, fNeg, mCF, mCFL, mCS, mfn, mfnS, List.length_cons, List.length_nil, List.map_cons, List.map_nil, List.cons_append, List.nil_append, List.replicate, List.append_nil, Nat.reduceSub, Nat.reduceAdd, Nat.reduceLT, Nat.zero_add, fDiv_eq, fMod_eq, atI0, atI1, atI2, atI3, sz0, Nat.lt_add_left_iff_pos, msSeq, seqD, msRng, rg_eq, sFor, fIs, fIsNot, isN, Bool.not_true, Bool.not_false, Bool.true_and, Bool.false_and, Bool.and_true, Bool.or_true, Bool.true_or, decide_true, decide_false, h2, e2])]
        exact e3
    · have h2 : decide ((r : Int) < 4) = false := decide_eq_false (by omega)
      obtain ⟨t, p2, q2, gs2, e3, s, rfl⟩ := last p1 q1 gs1 lf
      refine ⟨.sign s, p2, q2, gs2, lf, mfnM_rt (ρ' := [some (.imm (.int ( (r : Int))))]) ?_, .inr (.inl ⟨s, rfl⟩)⟩
      show b__law_leaf [some (.box (Bxd p q gs)), some (.dct (so a b c d e f fr lf)), none] = _
      unfold b__law_leaf
      rw [seq_nx s1, seq_nx (ρ' := [some (.box (Bxd p1 q1 gs1)), some (.dct (so a b c d e f fr lf)), some (.imm (.int ( (r : Int))))]) (by simp (disch := omega) only [enI, sSeq, sDP, bs, mBin, mBinL, bd, mDG, List.getElem?_cons_zero, List.getElem?_cons_succ, lift, mC, mV, mVL, fAdd, fSub, if_true, if_false, Bool.false_eq_true, List.set_cons_zero, List.set_cons_succ, sIf, mCmp, mCall, mCons, mNil, pu, gLen, List.length_map, fI, sRet, sRetL, sNx, fIxL, fIxT, endS, sSet, sSetL, sDrop, mTup, mLst, fz, mUn, bl, mAnd, mOr, mNot, mIf, mTru, mTruL, truth, mB, mAndV, mOrV, mNotV, isB, mIxL, mSl, mSlL, mPt, mNoP, pI, fSl, fSlL, mCallL, mPk, mIsi, gTuple, gList, gMax, fNeg, mCF, mCFL, mCS, mfn, mfnS, List.length_cons, List.length_nil, List.map_cons, List.map_nil, List.cons_append, List.nil_append, List.replicate, List.append_nil, Nat.reduceSub, Nat.reduceAdd, Nat.reduceLT, Nat.zero_add, fDiv_eq, fMod_eq, atI0, atI1, atI2, atI3, sz0, Nat.lt_add_left_iff_pos, msSeq, seqD, msRng, rg_eq, sFor, fIs, fIsNot, isN, Bool.not_true, Bool.not_false, Bool.true_and, Bool.false_and, Bool.and_true, Bool.or_true, Bool.true_or, decide_true, decide_false, fEqW_int, h1]), seq_nx (ρ' := [some (.box (Bxd p1 q1 gs1)), some (.dct (so a b c d e f fr lf)), some (.imm (.int ( (r : Int))))]) (by simp (disch := omega) only [enI, sSeq, sDP, bs, mBin, mBinL, bd, mDG, List.getElem?_cons_zero, List.getElem?_cons_succ, lift, mC, mV, mVL, fAdd, fSub, if_true, if_false, Bool.false_eq_true, List.set_cons_zero, List.set_cons_succ, sIf, mCmp, mCall, mCons, mNil, pu, gLen, List.length_map, fI, sRet, sRetL, sNx, fIxL, fIxT, endS, sSet, sSetL, sDrop, mTup, mLst, fz, mUn, bl, mAnd, mOr, mNot, mIf, mTru, mTruL, truth, mB, mAndV, mOrV, mNotV, isB, mIxL, mSl, mSlL, mPt, mNoP, pI, fSl, fSlL, mCallL, mPk, mIsi, gTuple, gList, gMax, fNeg, mCF, mCFL, mCS, mfn, mfnS, List.length_cons, List.length_nil, List.map_cons, List.map_nil, List.cons_append, List.nil_append, List.replicate, List.append_nil, Nat.reduceSub, Nat.reduceAdd, Nat.reduceLT, Nat.zero_add, fDiv_eq, fMod_eq, atI0, atI1, atI2, atI3, sz0, Nat.lt_add_left_iff_pos, msSeq, seqD, msRng, rg_eq, sFor, fIs, fIsNot, isN, Bool.not_true, Bool.not_false, Bool.true_and, Bool.false_and, Bool.and_true, Bool.or_true, Bool.true_or, decide_true, decide_false, h2])]
      exact e3
theorem worn_ok {a b c d e f : Str} {fr lf : Int} (p q : Int) (gs : List Int) : ∃ (tk : Option (Str × Bool)) (p' q' : Int) (gs' : List Int) (lf' : Int), m__law_worn (Bxd p q gs) (so a b c d e f fr lf) [] = .ok (.imm (takD tk)) (Bxd p' q' gs') (so a b c d e f fr lf') := by
  obtain ⟨r, p1, q1, gs1, e1, hr⟩ := pick_ok (n := 5) (by omega) (by omega) p q gs
  have e1 : m__law_pick (Bxd p q gs) [.int 5] = .ok (.imm (.int r)) (Bxd p1 q1 gs1) := e1
  have s1 : sSet 2 (mCB 0 m__law_pick (mCons (mC (.int 5)) mNil)) [some (.box (Bxd p q gs)), some (.dct (so a b c d e f fr lf)), none] = .nx [some (.box (Bxd p1 q1 gs1)), some (.dct (so a b c d e f fr lf)), some (.imm (.int ( (r : Int))))] := by
    simp (disch := omega) only [enI, sSeq, sDP, bs, mBin, mBinL, bd, mDG, List.getElem?_cons_zero, List.getElem?_cons_succ, lift, mC, mV, mVL, fAdd, fSub, if_true, if_false, Bool.false_eq_true, List.set_cons_zero, List.set_cons_succ, sIf, mCmp, mCall, mCons, mNil, pu, gLen, List.length_map, fI, sRet, sRetL, sNx, fIxL, fIxT, endS, sSet, sSetL, sDrop, mTup, mLst, fz, mUn, bl, mAnd, mOr, mNot, mIf, mTru, mTruL, truth, mB, mAndV, mOrV, mNotV, isB, mIxL, mSl, mSlL, mPt, mNoP, pI, fSl, fSlL, mCallL, mPk, mIsi, gTuple, gList, gMax, fNeg, mCF, mCFL, mCS, mfn, mfnS, List.length_cons, List.length_nil, List.map_cons, List.map_nil, List.cons_append, List.nil_append, List.replicate, List.append_nil, Nat.reduceSub, Nat.reduceAdd, Nat.reduceLT, Nat.zero_add, fDiv_eq, fMod_eq, atI0, atI1, atI2, atI3, sz0, Nat.lt_add_left_iff_pos, msSeq, seqD, msRng, rg_eq, sFor, fIs, fIsNot, isN, Bool.not_true, Bool.not_false, Bool.true_and, Bool.false_and, Bool.and_true, Bool.or_true, Bool.true_or, decide_true, decide_false, mCB, e1]
  by_cases h2 : r < 2
  · have h2 : decide ((r : Int) < 2) = true := decide_eq_true (by omega)
    refine ⟨none, p1, q1, gs1, lf, mfnM_rt (ρ' := [some (.imm (.int ( (r : Int))))]) ?_⟩
    show b__law_worn [some (.box (Bxd p q gs)), some (.dct (so a b c d e f fr lf)), none] = _
    unfold b__law_worn
    rw [seq_nx s1]
    simp (disch := omega) only [enI, sSeq, sDP, bs, mBin, mBinL, bd, mDG, List.getElem?_cons_zero, List.getElem?_cons_succ, lift, mC, mV, mVL, fAdd, fSub, if_true, if_false, Bool.false_eq_true, List.set_cons_zero, List.set_cons_succ, sIf, mCmp, mCall, mCons, mNil, pu, gLen, List.length_map, fI, sRet, sRetL, sNx, fIxL, fIxT, endS, sSet, sSetL, sDrop, mTup, mLst, fz, mUn, bl, mAnd, mOr, mNot, mIf, mTru, mTruL, truth, mB, mAndV, mOrV, mNotV, isB, mIxL, mSl, mSlL, mPt, mNoP, pI, fSl, fSlL, mCallL, mPk, mIsi, gTuple, gList, gMax, fNeg, mCF, mCFL, mCS, mfn, mfnS, List.length_cons, List.length_nil, List.map_cons, List.map_nil, List.cons_append, List.nil_append, List.replicate, List.append_nil, Nat.reduceSub, Nat.reduceAdd, Nat.reduceLT, Nat.zero_add, fDiv_eq, fMod_eq, atI0, atI1, atI2, atI3, sz0, Nat.lt_add_left_iff_pos, msSeq, seqD, msRng, rg_eq, sFor, fIs, fIsNot, isN, Bool.not_true, Bool.not_false, Bool.true_and, Bool.false_and, Bool.and_true, Bool.or_true, Bool.true_or, decide_true, decide_false, h2, takD]
  · have h2 : decide ((r : Int) < 2) = false := decide_eq_false (by omega)
    obtain ⟨bo, lf1, e2⟩ := socket_ok (a := a) (b := b) (c := c) (d := d) (e := e) (f := f) (fr := fr) (lf := lf)
    cases bo with
    | false =>
      refine ⟨none, p1, q1, gs1, lf1, mfnM_rt (ρ' := [some (.imm (.int ( (r : Int))))]) ?_⟩
      show b__law_worn [some (.box (Bxd p q gs)), some (.dct (so a b c d e f fr lf)), none] = _
      unfold b__law_worn
      rw [seq_nx s1]
      simp (disch := omega) only [enI, sSeq, sDP, bs, mBin, mBinL, bd, mDG, List.getElem?_cons_zero, List.getElem?_cons_succ, lift, mC, mV, mVL, fAdd, fSub, if_true, if_false, Bool.false_eq_true, List.set_cons_zero, List.set_cons_succ, sIf, mCmp, mCall, mCons, mNil, pu, gLen, List.length_map, fI, sRet, sRetL, sNx, fIxL, fIxT, endS, sSet, sSetL, sDrop, mTup, mLst, fz, mUn, bl, mAnd, mOr, mNot, mIf, mTru, mTruL, truth, mB, mAndV, mOrV, mNotV, isB, mIxL, mSl, mSlL, mPt, mNoP, pI, fSl, fSlL, mCallL, mPk, mIsi, gTuple, gList, gMax, fNeg, mCF, mCFL, mCS, mfn, mfnS, List.length_cons, List.length_nil, List.map_cons, List.map_nil, List.cons_append, List.nil_append, List.replicate, List.append_nil, Nat.reduceSub, Nat.reduceAdd, Nat.reduceLT, Nat.zero_add, fDiv_eq, fMod_eq, atI0, atI1, atI2, atI3, sz0, Nat.lt_add_left_iff_pos, msSeq, seqD, msRng, rg_eq, sFor, fIs, fIsNot, isN, Bool.not_true, Bool.not_false, Bool.true_and, Bool.false_and, Bool.and_true, Bool.or_true, Bool.true_or, decide_true, decide_false, h2, v_knots, e2, takD]
    | true =>
      obtain ⟨r2, p2, q2, gs2, e3, hr2⟩ := pick_ok (n := 4) (by omega) (by omega) p1 q1 gs1
      have e3 : m__law_pick (Bxd p1 q1 gs1) [.int 4] = .ok (.imm (.int r2)) (Bxd p2 q2 gs2) := e3
      obtain ⟨z, hz, ez⟩ := two (x := .str e) (y := .str f) (i := (r2 : Int) / 3) (by omega) (by omega)
      obtain ⟨s, rfl⟩ : ∃ s, z = .str s := by rcases hz with rfl | rfl <;> exact ⟨_, rfl⟩
      refine ⟨some (s, ((r : Int) == 4)), p2, q2, gs2, lf1, mfnM_rt (ρ' := [some (.imm (.int ( (r : Int))))]) ?_⟩
      show b__law_worn [some (.box (Bxd p q gs)), some (.dct (so a b c d e f fr lf)), none] = _
      unfold b__law_worn
      rw [seq_nx s1]
      simp (disch := omega) only [enI, sSeq, sDP, bs, mBin, mBinL, bd, mDG, List.getElem?_cons_zero, List.getElem?_cons_succ, lift, mC, mV, mVL, fAdd, fSub, if_true, if_false, Bool.false_eq_true, List.set_cons_zero, List.set_cons_succ, sIf, mCmp, mCall, mCons, mNil, pu, gLen, List.length_map, fI, sRet, sRetL, sNx, fIxL, fIxT, endS, sSet, sSetL, sDrop, mTup, mLst, fz, mUn, bl, mAnd, mOr, mNot, mIf, mTru, mTruL, truth, mB, mAndV, mOrV, mNotV, isB, mIxL, mSl, mSlL, mPt, mNoP, pI, fSl, fSlL, mCallL, mPk, mIsi, gTuple, gList, gMax, fNeg, mCF, mCFL, mCS, mfn, mfnS, List.length_cons, List.length_nil, List.map_cons, List.map_nil, List.cons_append, List.nil_append, List.replicate, List.append_nil, Nat.reduceSub, Nat.reduceAdd, Nat.reduceLT, Nat.zero_add, fDiv_eq, fMod_eq, atI0, atI1, atI2, atI3, sz0, Nat.lt_add_left_iff_pos, msSeq, seqD, msRng, rg_eq, sFor, fIs, fIsNot, isN, Bool.not_true, Bool.not_false, Bool.true_and, Bool.false_and, Bool.and_true, Bool.or_true, Bool.true_or, decide_true, decide_false, mCB, h2, v_knots, e2, v_grafts, e3, ez, fEqW_int, takD]
end K87

namespace K87
open PySem PySem.Spec PyProof.Rows L2 Pu Kt Kq
theorem sz_pos (t : Tr) : 1 ≤ t.sz := by cases t <;> simp only [Tr.sz] <;> omega
abbrev eH (dd : D) (acc : List Str) (ws : List Tr) (o : Option S1) : En := [some (.imm dd), some (.lst (acc.map PyData.str)), some (.lst (toDs ws)), o]
theorem len_szs : ∀ l : List Tr, l.length ≤ szs l
  | [] => by simp [szs]
  | a :: r => by simp only [szs, List.length_cons]; have := len_szs r; have := sz_pos a; omega
theorem feet_loop (dd : D) : ∀ (N : Nat) (ws : List Tr) (acc : List Str) (o : Option S1), szs ws < N → szs ws + acc.length ≤ 50000 → ∃ o', whileD (mTruL 2) (sSeq (sSet 3 (mMut 2 fPop mNil)) (sSeq (sIf (mCmp fEqW (mBin fIx (mV 3) (mC (.int 0))) (mC (.str "foot"))) (sDrop (mMut 1 fApp (mCons (mBin fIx (mV 3) (mC (.int 1))) mNil))) sNx) (sIf (mCmp fEqW (mBin fIx (mV 3) (mC (.int 0))) (mC (.str "knot"))) (sDrop (mMut 2 fExt (mCons (mBin fIx (mV 3) (mC (.int 3))) mNil))) sNx))) N (eH dd acc ws o) = .nx (eH dd (acc ++ (feets ws).reverse) [] o')
  | 0, _, _, _, h, _ => absurd h (by omega)
  | N + 1, ws, acc, o, h, hl => by
    obtain ⟨osign, ovoid, ohole, ofoot, oknot⟩ := hd_lit
    have e1 : (("knot" : Str) == "foot") = false := by decide
    have e2 : (("foot" : Str) == "knot") = false := by decide
    have e3 : (("sign" : Str) == "foot") = false := by decide
    have e4 : (("sign" : Str) == "knot") = false := by decide
    have e5 : (("void" : Str) == "foot") = false := by decide
    have e6 : (("void" : Str) == "knot") = false := by decide
    have e7 : (("hole" : Str) == "foot") = false := by decide
    have e8 : (("hole" : Str) == "knot") = false := by decide
    rcases List.eq_nil_or_concat ws with rfl | ⟨l, t, rfl⟩
    · refine ⟨o, (while_f (ρ1 := eH dd acc [] o) ?_).trans ?_⟩
      · simp [mTruL, toDs]
      · simp [feets]
    · rw [List.concat_eq_append] at h hl ⊢
      have hp : toDs (l ++ [t]) = toDs l ++ [t.toD] := by rw [toDs_append]; simp [toDs]
      have hc : mTruL 2 (eH dd acc (l ++ [t]) o) = .ok true (eH dd acc (l ++ [t]) o) := by
        simp [mTruL, hp]
      rw [szs_append] at h hl
      have h1 : szs [t] = t.sz := by simp [szs]
      rw [h1] at h hl
      have h2 := sz_pos t
      have s1 : sSet 3 (mMut 2 fPop mNil) (eH dd acc (l ++ [t]) o) = .nx (eH dd acc l (some (.imm t.toD))) := by
        simp only [eH, hp, sSet, bs, mMut, List.getElem?_cons_zero, List.getElem?_cons_succ, bd, mNil, pu, fPop_eq, List.set_cons_zero, List.set_cons_succ, List.length_cons, List.length_nil]
        rfl
      have h3 : (toDs l).length ≤ 50000 := by
        have := len_szs l
        rw [toDs_length]; omega
      have h4 : (acc.map PyData.str).length ≤ 50000 := by rw [List.length_map]; omega
      have rv : (feets (l ++ [t])).reverse = t.feet.reverse ++ (feets l).reverse := by rw [feets_append, List.reverse_append]; simp [feets]
      have hd0 := hd_eq (t := t)
      cases t with
      | foot n =>
        obtain ⟨o', e⟩ := feet_loop dd N l (acc ++ [n]) (some (.imm (Tr.toD (.foot n)))) (by omega) (by rw [List.length_append, List.length_singleton]; omega)
        refine ⟨o', (while_t hc ((seq_nx s1).trans ((seq_nx (ρ' := eH dd (acc ++ [n]) l (some (.imm (Tr.toD (.foot n))))) ?_).trans (if_f (b := sNx) (ρ' := eH dd (acc ++ [n]) l (some (.imm (Tr.toD (.foot n))))) ?_)))).trans (e.trans ?_)⟩
        · have q : fIx (Tr.toD (.foot n)) (.int 1) = some (.str n) := by simp only [Tr.toD]; exact atI1
          simp (disch := omega) only [enI, sSeq, sDP, bs, mBin, mBinL, bd, mDG, List.getElem?_cons_zero, List.getElem?_cons_succ, lift, mC, mV, mVL, fAdd, fSub, if_true, if_false, Bool.false_eq_true, List.set_cons_zero, List.set_cons_succ, sIf, mCmp, mCall, mCons, mNil, pu, gLen, List.length_map, fI, sRet, sRetL, sNx, fIxL, fIxT, endS, sSet, sSetL, sDrop, mTup, mLst, fz, mUn, bl, mAnd, mOr, mNot, mIf, mTru, mTruL, truth, mB, mAndV, mOrV, mNotV, isB, mIxL, mSl, mSlL, mPt, mNoP, pI, fSl, fSlL, mCallL, mPk, mIsi, gTuple, gList, gMax, fNeg, mCF, mCFL, mCS, mfn, mfnS, List.length_cons, List.length_nil, List.map_cons, List.map_nil, List.cons_append, List.nil_append, List.replicate, List.append_nil, Nat.reduceSub, Nat.reduceAdd, Nat.reduceLT, Nat.zero_add, fDiv_eq, fMod_eq, atI0, atI1, atI2, atI3, sz0, Nat.lt_add_left_iff_pos, msSeq, seqD, msRng, rg_eq, sFor, fIs, fIsNot, isN, Bool.not_true, Bool.not_false, Bool.true_and, Bool.false_and, Bool.and_true, Bool.or_true, Bool.true_or, decide_true, decide_false, hd0, Tr.hd, fEqW_str ofoot ofoot, beq_self_eq_true, q, mMut, fApp_eq]
          simp only [eH, List.map_append, List.map_cons, List.map_nil]
        · simp (disch := omega) only [enI, sSeq, sDP, bs, mBin, mBinL, bd, mDG, List.getElem?_cons_zero, List.getElem?_cons_succ, lift, mC, mV, mVL, fAdd, fSub, if_true, if_false, Bool.false_eq_true, List.set_cons_zero, List.set_cons_succ, sIf, mCmp, mCall, mCons, mNil, pu, gLen, List.length_map, fI, sRet, sRetL, sNx, fIxL, fIxT, endS, sSet, sSetL, sDrop, mTup, mLst, fz, mUn, bl, mAnd, mOr, mNot, mIf, mTru, mTruL, truth, mB, mAndV, mOrV, mNotV, isB, mIxL, mSl, mSlL, mPt, mNoP, pI, fSl, fSlL, mCallL, mPk, mIsi, gTuple, gList, gMax, fNeg, mCF, mCFL, mCS, mfn, mfnS, List.length_cons, List.length_nil, List.map_cons, List.map_nil, List.cons_append, List.nil_append, List.replicate, List.append_nil, Nat.reduceSub, Nat.reduceAdd, Nat.reduceLT, Nat.zero_add, fDiv_eq, fMod_eq, atI0, atI1, atI2, atI3, sz0, Nat.lt_add_left_iff_pos, msSeq, seqD, msRng, rg_eq, sFor, fIs, fIsNot, isN, Bool.not_true, Bool.not_false, Bool.true_and, Bool.false_and, Bool.and_true, Bool.or_true, Bool.true_or, decide_true, decide_false, hd0, Tr.hd, fEqW_str ofoot oknot, e2]
        · rw [rv]; simp [Tr.feet]
      | knot n tk ks =>
        simp only [Tr.sz] at h hl h1 h2
        have h6 : (toDs ks).length ≤ 50000 := by
          have := len_szs ks
          rw [toDs_length]; omega
        obtain ⟨o', e⟩ := feet_loop dd N (l ++ ks) acc (some (.imm (Tr.toD (.knot n tk ks)))) (by rw [szs_append]; omega) (by rw [szs_append]; omega)
        refine ⟨o', (while_t hc ((seq_nx s1).trans ((seq_nx (if_f (b := sNx) (ρ' := eH dd acc l (some (.imm (Tr.toD (.knot n tk ks))))) ?_)).trans ((if_t (ρ' := eH dd acc l (some (.imm (Tr.toD (.knot n tk ks))))) ?_).trans (drop_ok (d := .none) (ρ' := eH dd acc (l ++ ks) (some (.imm (Tr.toD (.knot n tk ks))))) ?_))))).trans (e.trans ?_)⟩
        · simp (disch := omega) only [enI, sSeq, sDP, bs, mBin, mBinL, bd, mDG, List.getElem?_cons_zero, List.getElem?_cons_succ, lift, mC, mV, mVL, fAdd, fSub, if_true, if_false, Bool.false_eq_true, List.set_cons_zero, List.set_cons_succ, sIf, mCmp, mCall, mCons, mNil, pu, gLen, List.length_map, fI, sRet, sRetL, sNx, fIxL, fIxT, endS, sSet, sSetL, sDrop, mTup, mLst, fz, mUn, bl, mAnd, mOr, mNot, mIf, mTru, mTruL, truth, mB, mAndV, mOrV, mNotV, isB, mIxL, mSl, mSlL, mPt, mNoP, pI, fSl, fSlL, mCallL, mPk, mIsi, gTuple, gList, gMax, fNeg, mCF, mCFL, mCS, mfn, mfnS, List.length_cons, List.length_nil, List.map_cons, List.map_nil, List.cons_append, List.nil_append, List.replicate, List.append_nil, Nat.reduceSub, Nat.reduceAdd, Nat.reduceLT, Nat.zero_add, fDiv_eq, fMod_eq, atI0, atI1, atI2, atI3, sz0, Nat.lt_add_left_iff_pos, msSeq, seqD, msRng, rg_eq, sFor, fIs, fIsNot, isN, Bool.not_true, Bool.not_false, Bool.true_and, Bool.false_and, Bool.and_true, Bool.or_true, Bool.true_or, decide_true, decide_false, hd0, Tr.hd, fEqW_str oknot ofoot, e1]
        · simp (disch := omega) only [enI, sSeq, sDP, bs, mBin, mBinL, bd, mDG, List.getElem?_cons_zero, List.getElem?_cons_succ, lift, mC, mV, mVL, fAdd, fSub, if_true, if_false, Bool.false_eq_true, List.set_cons_zero, List.set_cons_succ, sIf, mCmp, mCall, mCons, mNil, pu, gLen, List.length_map, fI, sRet, sRetL, sNx, fIxL, fIxT, endS, sSet, sSetL, sDrop, mTup, mLst, fz, mUn, bl, mAnd, mOr, mNot, mIf, mTru, mTruL, truth, mB, mAndV, mOrV, mNotV, isB, mIxL, mSl, mSlL, mPt, mNoP, pI, fSl, fSlL, mCallL, mPk, mIsi, gTuple, gList, gMax, fNeg, mCF, mCFL, mCS, mfn, mfnS, List.length_cons, List.length_nil, List.map_cons, List.map_nil, List.cons_append, List.nil_append, List.replicate, List.append_nil, Nat.reduceSub, Nat.reduceAdd, Nat.reduceLT, Nat.zero_add, fDiv_eq, fMod_eq, atI0, atI1, atI2, atI3, sz0, Nat.lt_add_left_iff_pos, msSeq, seqD, msRng, rg_eq, sFor, fIs, fIsNot, isN, Bool.not_true, Bool.not_false, Bool.true_and, Bool.false_and, Bool.and_true, Bool.or_true, Bool.true_or, decide_true, decide_false, hd0, Tr.hd, fEqW_str oknot oknot, beq_self_eq_true]
        · have q : fIx (Tr.toD (.knot n tk ks)) (.int 3) = some (.tuple (toDs ks)) := by simp only [Tr.toD]; exact atI3
          simp (disch := omega) only [enI, sSeq, sDP, bs, mBin, mBinL, bd, mDG, List.getElem?_cons_zero, List.getElem?_cons_succ, lift, mC, mV, mVL, fAdd, fSub, if_true, if_false, Bool.false_eq_true, List.set_cons_zero, List.set_cons_succ, sIf, mCmp, mCall, mCons, mNil, pu, gLen, List.length_map, fI, sRet, sRetL, sNx, fIxL, fIxT, endS, sSet, sSetL, sDrop, mTup, mLst, fz, mUn, bl, mAnd, mOr, mNot, mIf, mTru, mTruL, truth, mB, mAndV, mOrV, mNotV, isB, mIxL, mSl, mSlL, mPt, mNoP, pI, fSl, fSlL, mCallL, mPk, mIsi, gTuple, gList, gMax, fNeg, mCF, mCFL, mCS, mfn, mfnS, List.length_cons, List.length_nil, List.map_cons, List.map_nil, List.cons_append, List.nil_append, List.replicate, List.append_nil, Nat.reduceSub, Nat.reduceAdd, Nat.reduceLT, Nat.zero_add, fDiv_eq, fMod_eq, atI0, atI1, atI2, atI3, sz0, Nat.lt_add_left_iff_pos, msSeq, seqD, msRng, rg_eq, sFor, fIs, fIsNot, isN, Bool.not_true, Bool.not_false, Bool.true_and, Bool.false_and, Bool.and_true, Bool.or_true, Bool.true_or, decide_true, decide_false, q, mMut, fExtT_eq]
          simp only [eH, toDs_append]
        · rw [rv, feets_append, List.reverse_append]; simp [Tr.feet]
      | sign n =>
        obtain ⟨o', e⟩ := feet_loop dd N l acc (some (.imm (Tr.toD (.sign n)))) (by omega) (by omega)
        refine ⟨o', (while_t hc ((seq_nx s1).trans ((seq_nx (if_f (b := sNx) (ρ' := eH dd acc l (some (.imm (Tr.toD (.sign n))))) ?_)).trans (if_f (b := sNx) (ρ' := eH dd acc l (some (.imm (Tr.toD (.sign n))))) ?_)))).trans (e.trans ?_)⟩
        · simp (disch := omega) only [enI, sSeq, sDP, bs, mBin, mBinL, bd, mDG, List.getElem?_cons_zero, List.getElem?_cons_succ, lift, mC, mV, mVL, fAdd, fSub, if_true, if_false, Bool.false_eq_true, List.set_cons_zero, List.set_cons_succ, sIf, mCmp, mCall, mCons, mNil, pu, gLen, List.length_map, fI, sRet, sRetL, sNx, fIxL, fIxT, endS, sSet, sSetL, sDrop, mTup, mLst, fz, mUn, bl, mAnd, mOr, mNot, mIf, mTru, mTruL, truth, mB, mAndV, mOrV, mNotV, isB, mIxL, mSl, mSlL, mPt, mNoP, pI, fSl, fSlL, mCallL, mPk, mIsi, gTuple, gList, gMax, fNeg, mCF, mCFL, mCS, mfn, mfnS, List.length_cons, List.length_nil, List.map_cons, List.map_nil, List.cons_append, List.nil_append, List.replicate, List.append_nil, Nat.reduceSub, Nat.reduceAdd, Nat.reduceLT, Nat.zero_add, fDiv_eq, fMod_eq, atI0, atI1, atI2, atI3, sz0, Nat.lt_add_left_iff_pos, msSeq, seqD, msRng, rg_eq, sFor, fIs, fIsNot, isN, Bool.not_true, Bool.not_false, Bool.true_and, Bool.false_and, Bool.and_true, Bool.or_true, Bool.true_or, decide_true, decide_false, hd0, Tr.hd, fEqW_str osign ofoot, e3]
        · simp (disch := omega) only [enI, sSeq, sDP, bs, mBin, mBinL, bd, mDG, List.getElem?_cons_zero, List.getElem?_cons_succ, lift, mC, mV, mVL, fAdd, fSub, if_true, if_false, Bool.false_eq_true, List.set_cons_zero, List.set_cons_succ, sIf, mCmp, mCall, mCons, mNil, pu, gLen, List.length_map, fI, sRet, sRetL, sNx, fIxL, fIxT, endS, sSet, sSetL, sDrop, mTup, mLst, fz, mUn, bl, mAnd, mOr, mNot, mIf, mTru, mTruL, truth, mB, mAndV, mOrV, mNotV, isB, mIxL, mSl, mSlL, mPt, mNoP, pI, fSl, fSlL, mCallL, mPk, mIsi, gTuple, gList, gMax, fNeg, mCF, mCFL, mCS, mfn, mfnS, List.length_cons, List.length_nil, List.map_cons, List.map_nil, List.cons_append, List.nil_append, List.replicate, List.append_nil, Nat.reduceSub, Nat.reduceAdd, Nat.reduceLT, Nat.zero_add, fDiv_eq, fMod_eq, atI0, atI1, atI2, atI3, sz0, Nat.lt_add_left_iff_pos, msSeq, seqD, msRng, rg_eq, sFor, fIs, fIsNot, isN, Bool.not_true, Bool.not_false, Bool.true_and, Bool.false_and, Bool.and_true, Bool.or_true, Bool.true_or, decide_true, decide_false, hd0, Tr.hd, fEqW_str osign oknot, e4]
        · rw [rv]; simp [Tr.feet]
      | void =>
        obtain ⟨o', e⟩ := feet_loop dd N l acc (some (.imm (Tr.toD (.void)))) (by omega) (by omega)
        refine ⟨o', (while_t hc ((seq_nx s1).trans ((seq_nx (if_f (b := sNx) (ρ' := eH dd acc l (some (.imm (Tr.toD (.void))))) ?_)).trans (if_f (b := sNx) (ρ' := eH dd acc l (some (.imm (Tr.toD (.void))))) ?_)))).trans (e.trans ?_)⟩
        · simp (disch := omega) only [enI, sSeq, sDP, bs, mBin, mBinL, bd, mDG, List.getElem?_cons_zero, List.getElem?_cons_succ, lift, mC, mV, mVL, fAdd, fSub, if_true, if_false, Bool.false_eq_true, List.set_cons_zero, List.set_cons_succ, sIf, mCmp, mCall, mCons, mNil, pu, gLen, List.length_map, fI, sRet, sRetL, sNx, fIxL, fIxT, endS, sSet, sSetL, sDrop, mTup, mLst, fz, mUn, bl, mAnd, mOr, mNot, mIf, mTru, mTruL, truth, mB, mAndV, mOrV, mNotV, isB, mIxL, mSl, mSlL, mPt, mNoP, pI, fSl, fSlL, mCallL, mPk, mIsi, gTuple, gList, gMax, fNeg, mCF, mCFL, mCS, mfn, mfnS, List.length_cons, List.length_nil, List.map_cons, List.map_nil, List.cons_append, List.nil_append, List.replicate, List.append_nil, Nat.reduceSub, Nat.reduceAdd, Nat.reduceLT, Nat.zero_add, fDiv_eq, fMod_eq, atI0, atI1, atI2, atI3, sz0, Nat.lt_add_left_iff_pos, msSeq, seqD, msRng, rg_eq, sFor, fIs, fIsNot, isN, Bool.not_true, Bool.not_false, Bool.true_and, Bool.false_and, Bool.and_true, Bool.or_true, Bool.true_or, decide_true, decide_false, hd0, Tr.hd, fEqW_str ovoid ofoot, e5]
        · simp (disch := omega) only [enI, sSeq, sDP, bs, mBin, mBinL, bd, mDG, List.getElem?_cons_zero, List.getElem?_cons_succ, lift, mC, mV, mVL, fAdd, fSub, if_true, if_false, Bool.false_eq_true, List.set_cons_zero, List.set_cons_succ, sIf, mCmp, mCall, mCons, mNil, pu, gLen, List.length_map, fI, sRet, sRetL, sNx, fIxL, fIxT, endS, sSet, sSetL, sDrop, mTup, mLst, fz, mUn, bl, mAnd, mOr, mNot, mIf, mTru, mTruL, truth, mB, mAndV, mOrV, mNotV, isB, mIxL, mSl, mSlL, mPt, mNoP, pI, fSl, fSlL, mCallL, mPk, mIsi, gTuple, gList, gMax, fNeg, mCF, mCFL, mCS, mfn, mfnS, List.length_cons, List.length_nil, List.map_cons, List.map_nil, List.cons_append, List.nil_append, List.replicate, List.append_nil, Nat.reduceSub, Nat.reduceAdd, Nat.reduceLT, Nat.zero_add, fDiv_eq, fMod_eq, atI0, atI1, atI2, atI3, sz0, Nat.lt_add_left_iff_pos, msSeq, seqD, msRng, rg_eq, sFor, fIs, fIsNot, isN, Bool.not_true, Bool.not_false, Bool.true_and, Bool.false_and, Bool.and_true, Bool.or_true, Bool.true_or, decide_true, decide_false, hd0, Tr.hd, fEqW_str ovoid oknot, e6]
        · rw [rv]; simp [Tr.feet]
      | hole n =>
        obtain ⟨o', e⟩ := feet_loop dd N l acc (some (.imm (Tr.toD (.hole n)))) (by omega) (by omega)
        refine ⟨o', (while_t hc ((seq_nx s1).trans ((seq_nx (if_f (b := sNx) (ρ' := eH dd acc l (some (.imm (Tr.toD (.hole n))))) ?_)).trans (if_f (b := sNx) (ρ' := eH dd acc l (some (.imm (Tr.toD (.hole n))))) ?_)))).trans (e.trans ?_)⟩
        · simp (disch := omega) only [enI, sSeq, sDP, bs, mBin, mBinL, bd, mDG, List.getElem?_cons_zero, List.getElem?_cons_succ, lift, mC, mV, mVL, fAdd, fSub, if_true, if_false, Bool.false_eq_true, List.set_cons_zero, List.set_cons_succ, sIf, mCmp, mCall, mCons, mNil, pu, gLen, List.length_map, fI, sRet, sRetL, sNx, fIxL, fIxT, endS, sSet, sSetL, sDrop, mTup, mLst, fz, mUn, bl, mAnd, mOr, mNot, mIf, mTru, mTruL, truth, mB, mAndV, mOrV, mNotV, isB, mIxL, mSl, mSlL, mPt, mNoP, pI, fSl, fSlL, mCallL, mPk, mIsi, gTuple, gList, gMax, fNeg, mCF, mCFL, mCS, mfn, mfnS, List.length_cons, List.length_nil, List.map_cons, List.map_nil, List.cons_append, List.nil_append, List.replicate, List.append_nil, Nat.reduceSub, Nat.reduceAdd, Nat.reduceLT, Nat.zero_add, fDiv_eq, fMod_eq, atI0, atI1, atI2, atI3, sz0, Nat.lt_add_left_iff_pos, msSeq, seqD, msRng, rg_eq, sFor, fIs, fIsNot, isN, Bool.not_true, Bool.not_false, Bool.true_and, Bool.false_and, Bool.and_true, Bool.or_true, Bool.true_or, decide_true, decide_false, hd0, Tr.hd, fEqW_str ohole ofoot, e7]
        · simp (disch := omega) only [enI, sSeq, sDP, bs, mBin, mBinL, bd, mDG, List.getElem?_cons_zero, List.getElem?_cons_succ, lift, mC, mV, mVL, fAdd, fSub, if_true, if_false, Bool.false_eq_true, List.set_cons_zero, List.set_cons_succ, sIf, mCmp, mCall, mCons, mNil, pu, gLen, List.length_map, fI, sRet, sRetL, sNx, fIxL, fIxT, endS, sSet, sSetL, sDrop, mTup, mLst, fz, mUn, bl, mAnd, mOr, mNot, mIf, mTru, mTruL, truth, mB, mAndV, mOrV, mNotV, isB, mIxL, mSl, mSlL, mPt, mNoP, pI, fSl, fSlL, mCallL, mPk, mIsi, gTuple, gList, gMax, fNeg, mCF, mCFL, mCS, mfn, mfnS, List.length_cons, List.length_nil, List.map_cons, List.map_nil, List.cons_append, List.nil_append, List.replicate, List.append_nil, Nat.reduceSub, Nat.reduceAdd, Nat.reduceLT, Nat.zero_add, fDiv_eq, fMod_eq, atI0, atI1, atI2, atI3, sz0, Nat.lt_add_left_iff_pos, msSeq, seqD, msRng, rg_eq, sFor, fIs, fIsNot, isN, Bool.not_true, Bool.not_false, Bool.true_and, Bool.false_and, Bool.and_true, Bool.or_true, Bool.true_or, decide_true, decide_false, hd0, Tr.hd, fEqW_str ohole oknot, e8]
        · rw [rv]; simp [Tr.feet]
theorem feet_of_eq {t : Tr} (h : t.sz ≤ 900) : m_feet_of [t.toD] = .ok (.own (t.feet.reverse.map PyData.str)) := by
  have z : szs [t] = t.sz := by simp [szs]
  obtain ⟨o', e⟩ := feet_loop t.toD 100000 [t] [] none (by rw [z]; omega) (by rw [z]; simp; omega)
  refine mfn_rt (n := 4) (ρ' := [some (.imm t.toD), none, some (.lst (toDs [])), o']) ?_
  show b_feet_of [some (.imm (t.toD)), none, none, none] = _
  unfold b_feet_of
  rw [seq_nx (ρ' := [some (.imm t.toD), some (.lst []), none, none]) (by simp (disch := omega) only [enI, sSeq, sDP, bs, mBin, mBinL, bd, mDG, List.getElem?_cons_zero, List.getElem?_cons_succ, lift, mC, mV, mVL, fAdd, fSub, if_true, if_false, Bool.false_eq_true, List.set_cons_zero, List.set_cons_succ, sIf, mCmp, mCall, mCons, mNil, pu, gLen, List.length_map, fI, sRet, sRetL, sNx, fIxL, fIxT, endS, sSet, sSetL, sDrop, mTup, mLst, fz, mUn, bl, mAnd, mOr, mNot, mIf, mTru, mTruL, truth, mB, mAndV, mOrV, mNotV, isB, mIxL, mSl, mSlL, mPt, mNoP, pI, fSl, fSlL, mCallL, mPk, mIsi, gTuple, gList, gMax, fNeg, mCF, mCFL, mCS, mfn, mfnS, List.length_cons, List.length_nil, List.map_cons, List.map_nil, List.cons_append, List.nil_append, List.replicate, List.append_nil, Nat.reduceSub, Nat.reduceAdd, Nat.reduceLT, Nat.zero_add, fDiv_eq, fMod_eq, atI0, atI1, atI2, atI3, sz0, Nat.lt_add_left_iff_pos, msSeq, seqD, msRng, rg_eq, sFor, fIs, fIsNot, isN, Bool.not_true, Bool.not_false, Bool.true_and, Bool.false_and, Bool.and_true, Bool.or_true, Bool.true_or, decide_true, decide_false])]
  rw [seq_nx (ρ' := eH t.toD [] [t] none) (by simp (disch := omega) only [enI, sSeq, sDP, bs, mBin, mBinL, bd, mDG, List.getElem?_cons_zero, List.getElem?_cons_succ, lift, mC, mV, mVL, fAdd, fSub, if_true, if_false, Bool.false_eq_true, List.set_cons_zero, List.set_cons_succ, sIf, mCmp, mCall, mCons, mNil, pu, gLen, List.length_map, fI, sRet, sRetL, sNx, fIxL, fIxT, endS, sSet, sSetL, sDrop, mTup, mLst, fz, mUn, bl, mAnd, mOr, mNot, mIf, mTru, mTruL, truth, mB, mAndV, mOrV, mNotV, isB, mIxL, mSl, mSlL, mPt, mNoP, pI, fSl, fSlL, mCallL, mPk, mIsi, gTuple, gList, gMax, fNeg, mCF, mCFL, mCS, mfn, mfnS, List.length_cons, List.length_nil, List.map_cons, List.map_nil, List.cons_append, List.nil_append, List.replicate, List.append_nil, Nat.reduceSub, Nat.reduceAdd, Nat.reduceLT, Nat.zero_add, fDiv_eq, fMod_eq, atI0, atI1, atI2, atI3, sz0, Nat.lt_add_left_iff_pos, msSeq, seqD, msRng, rg_eq, sFor, fIs, fIsNot, isN, Bool.not_true, Bool.not_false, Bool.true_and, Bool.false_and, Bool.and_true, Bool.or_true, Bool.true_or, decide_true, decide_false]; simp only [eH, toDs, List.map_nil])]
  rw [seq_nx e]
  have r : feets [t] = t.feet := by simp [feets]
  exact retL_ok (by simp only [mVL, eH, List.nil_append, List.getElem?_cons_zero, List.getElem?_cons_succ, List.set_cons_zero, List.set_cons_succ, r])
end K87

namespace K87
open PySem PySem.Spec PyProof.Rows L2 Pu Kt Kq
/-! ### leaves -/
mutual
def lv : Tr → List Str
  | .sign _ => ["sign"]
  | .void => ["void"]
  | .hole _ => ["hole"]
  | .foot _ => ["foot"]
  | .knot _ _ ks => lvs ks
def lvs : List Tr → List Str
  | [] => []
  | t :: r => lv t ++ lvs r
end
/-- at most so deep, every knot has one to eight kids -/
def Nk : Nat → Tr → Prop
  | _, .sign _ => True
  | _, .void => True
  | _, .hole _ => True
  | _, .foot _ => True
  | 0, .knot _ _ _ => False
  | k + 1, .knot _ _ ks => 1 ≤ ks.length ∧ ks.length ≤ 8 ∧ ∀ c ∈ ks, Nk k c
theorem Nk.up : ∀ {k : Nat} {t : Tr}, Nk k t → Nk (k + 1) t
  | 0, .sign _, _ => trivial
  | 0, .void, _ => trivial
  | 0, .hole _, _ => trivial
  | 0, .foot _, _ => trivial
  | 0, .knot _ _ _, h => h.elim
  | k + 1, .sign _, _ => trivial
  | k + 1, .void, _ => trivial
  | k + 1, .hole _, _ => trivial
  | k + 1, .foot _, _ => trivial
  | k + 1, .knot _ _ ks, h => ⟨h.1, h.2.1, fun c hc => (h.2.2 c hc).up⟩
theorem Nk.le {k k' : Nat} (h : k ≤ k') {t : Tr} (ht : Nk k t) : Nk k' t := by
  obtain ⟨d, rfl⟩ := Nat.exists_eq_add_of_le h
  clear h
  induction d with
  | zero => exact ht
  | succ d ih => exact ih.up
theorem not_knot {t : Tr} (h : ∀ n tk ks, t ≠ .knot n tk ks) : (t.hd == ("knot" : Str)) = false ∧ lv t = [t.hd] := by
  cases t with
  | knot n tk ks => exact absurd rfl (h n tk ks)
  | sign _ => exact ⟨by simp only [Tr.hd]; decide, by simp only [lv, Tr.hd]⟩
  | void => exact ⟨by simp only [Tr.hd]; decide, by simp only [lv, Tr.hd]⟩
  | hole _ => exact ⟨by simp only [Tr.hd]; decide, by simp only [lv, Tr.hd]⟩
  | foot _ => exact ⟨by simp only [Tr.hd]; decide, by simp only [lv, Tr.hd]⟩
mutual
theorem foot_in : ∀ t : Tr, ("foot" : Str) ∈ lv t ↔ t.feet ≠ []
  | .sign _ => by simp only [lv, Tr.feet]; simp; decide
  | .void => by simp only [lv, Tr.feet]; simp; decide
  | .hole _ => by simp only [lv, Tr.feet]; simp; decide
  | .foot _ => by simp only [lv, Tr.feet]; simp
  | .knot _ _ ks => by simp only [lv, Tr.feet]; exact foots_in ks
theorem foots_in : ∀ ts : List Tr, ("foot" : Str) ∈ lvs ts ↔ feets ts ≠ []
  | [] => by simp only [lvs, feets]; simp
  | t :: r => by
    simp only [lvs, feets, List.mem_append, foot_in t, foots_in r]
    simp only [ne_eq, List.append_eq_nil_iff, not_and]
    constructor
    · rintro (h | h) q
      · exact absurd q h
      · exact h
    · intro h
      by_cases q : t.feet = []
      · exact .inr (h q)
      · exact .inl q
end
mutual
theorem lv_len : ∀ t : Tr, (lv t).length ≤ t.sz
  | .sign _ => by simp [lv, Tr.sz]
  | .void => by simp [lv, Tr.sz]
  | .hole _ => by simp [lv, Tr.sz]
  | .foot _ => by simp [lv, Tr.sz]
  | .knot _ _ ks => by have := lvs_len ks; simp only [lv, Tr.sz]; omega
theorem lvs_len : ∀ ts : List Tr, (lvs ts).length ≤ szs ts
  | [] => by simp [lvs, szs]
  | t :: r => by have := lv_len t; have := lvs_len r; simp only [lvs, szs, List.length_append]; omega
end
theorem lv_pos : ∀ (k : Nat) (t : Tr), Nk k t → lv t ≠ [] := by
  intro k
  induction k with
  | zero =>
    intro t h
    cases t with
    | knot n tk ks => exact h.elim
    | _ => simp [lv]
  | succ k ih =>
    intro t h
    cases t with
    | knot n tk ks =>
      cases ks with
      | nil => have := h.1; simp at this
      | cons c r =>
        simp only [lv, lvs]
        intro q
        exact ih c (h.2.2 c List.mem_cons_self) (List.append_eq_nil_iff.mp q).1
    | _ => simp [lv]
theorem lvs_append : ∀ a b : List Tr, lvs (a ++ b) = lvs a ++ lvs b
  | [], _ => by simp [lvs]
  | t :: r, b => by simp only [List.cons_append, lvs, lvs_append r b, List.append_assoc]
theorem fCat_eq {a b : List D} (h : a.length + b.length ≤ 16000000) : fCat (.list a) (.list b) = some (a ++ b) := by
  show (if sized (a.length + b.length) then some (a ++ b) else none) = _
  rw [if_pos (sized_le h)]
abbrev sL (l : List Str) : List D := l.map PyData.str
abbrev lvB (M : List D → Re) : MS := sSetL 1 (mBinL fCat (mV 1) (fz (mCFL M (mCons (mV 2) mNil))))
theorem leaves_for {M : List D → Re} {dd : D} : ∀ (ks : List Tr) (acc : List Str) (o : Option S1), (∀ t ∈ ks, M [t.toD] = .ok (.own (sL (lv t)))) → acc.length + (lvs ks).length ≤ 100000 →
    ∃ o', forD (gN 2) (lvB M) (toDs ks) [some (.imm (dd)), some (.lst (sL acc)), o] = .nx [some (.imm (dd)), some (.lst (sL (acc ++ lvs ks))), o']
  | [], acc, o, _, _ => ⟨o, by simp [toDs, forD, lvs]⟩
  | t :: r, acc, o, h, hl => by
    have ht := h t List.mem_cons_self
    simp only [lvs, List.length_append] at hl
    obtain ⟨o', e⟩ := leaves_for (M := M) (dd := dd) r (acc ++ lv t) (some (.imm t.toD)) (fun x hx => h x (List.mem_cons_of_mem _ hx)) (by rw [List.length_append]; omega)
    refine ⟨o', ?_⟩
    simp only [toDs, lvs]
    have hc : fCat (.list (sL acc)) (.list (sL (lv t))) = some (sL (acc ++ lv t)) := by rw [fCat_eq (by rw [List.length_map, List.length_map]; omega), ← List.map_append]
    refine (for_cons (ρ1 := [some (.imm (dd)), some (.lst (sL acc)), some (.imm (t.toD))]) (ρ2 := [some (.imm (dd)), some (.lst (sL (acc ++ lv t))), some (.imm (t.toD))]) rfl ?_).trans (by rw [e, List.append_assoc])
    generalize sL acc = Z1 at hc ⊢
    generalize sL (lv t) = Z2 at hc ht
    generalize sL (acc ++ lv t) = Z3 at hc ⊢
    simp (disch := omega) only [enI, sSeq, sDP, bs, mBin, mBinL, bd, mDG, List.getElem?_cons_zero, List.getElem?_cons_succ, lift, mC, mV, mVL, fAdd, fSub, if_true, if_false, Bool.false_eq_true, List.set_cons_zero, List.set_cons_succ, sIf, mCmp, mCall, mCons, mNil, pu, gLen, List.length_map, fI, sRet, sRetL, sNx, fIxL, fIxT, endS, sSet, sSetL, sDrop, mTup, mLst, fz, mUn, bl, mAnd, mOr, mNot, mIf, mTru, mTruL, truth, mB, mAndV, mOrV, mNotV, isB, mIxL, mSl, mSlL, mPt, mNoP, pI, fSl, fSlL, mCallL, mPk, mIsi, gTuple, gList, gMax, fNeg, mCF, mCFL, mCS, mfn, mfnS, List.length_cons, List.length_nil, List.map_cons, List.map_nil, List.cons_append, List.nil_append, List.replicate, List.append_nil, Nat.reduceSub, Nat.reduceAdd, Nat.reduceLT, Nat.zero_add, fDiv_eq, fMod_eq, atI0, atI1, atI2, atI3, sz0, Nat.lt_add_left_iff_pos, msSeq, seqD, msRng, rg_eq, sFor, fIs, fIsNot, isN, Bool.not_true, Bool.not_false, Bool.true_and, Bool.false_and, Bool.and_true, Bool.or_true, Bool.true_or, decide_true, decide_false, ht, hc]
theorem leaves_eq : ∀ (k : Nat) (t : Tr), Nk k t → t.sz ≤ 20000 → ∀ f, k + 1 ≤ f → m__law_leaves f [t.toD] = .ok (.own (sL (lv t))) := by
  obtain ⟨l1, l2, l3, l4, l5⟩ := hd_lit
  have leaf : ∀ (k : Nat) (t : Tr), (∀ n tk ks, t ≠ .knot n tk ks) → ∀ f, 1 ≤ f → m__law_leaves f [t.toD] = .ok (.own (sL (lv t))) := by
    intro k t hk f hf
    obtain ⟨f, rfl⟩ : ∃ g, f = g + 1 := ⟨f - 1, by omega⟩
    obtain ⟨h1, h2⟩ := not_knot hk
    have h0 := hd_eq (t := t)
    refine mfn_rt (b := b__law_leaves (m__law_leaves f)) (n := 3) (ρ' := [some (.imm (t.toD)), none, none]) ?_
    show b__law_leaves _ [some (.imm (t.toD)), none, none] = _
    unfold b__law_leaves
    rw [h2]
    have h3 : fNeW (.str t.hd) (.str "knot") = some true := by rw [fNeW_str (hd_ok t) l5, h1]; rfl
    generalize t.toD = U at h0
    simp (disch := omega) only [enI, sSeq, sDP, bs, mBin, mBinL, bd, mDG, List.getElem?_cons_zero, List.getElem?_cons_succ, lift, mC, mV, mVL, fAdd, fSub, if_true, if_false, Bool.false_eq_true, List.set_cons_zero, List.set_cons_succ, sIf, mCmp, mCall, mCons, mNil, pu, gLen, List.length_map, fI, sRet, sRetL, sNx, fIxL, fIxT, endS, sSet, sSetL, sDrop, mTup, mLst, fz, mUn, bl, mAnd, mOr, mNot, mIf, mTru, mTruL, truth, mB, mAndV, mOrV, mNotV, isB, mIxL, mSl, mSlL, mPt, mNoP, pI, fSl, fSlL, mCallL, mPk, mIsi, gTuple, gList, gMax, fNeg, mCF, mCFL, mCS, mfn, mfnS, List.length_cons, List.length_nil, List.map_cons, List.map_nil, List.cons_append, List.nil_append, List.replicate, List.append_nil, Nat.reduceSub, Nat.reduceAdd, Nat.reduceLT, Nat.zero_add, fDiv_eq, fMod_eq, atI0, atI1, atI2, atI3, sz0, Nat.lt_add_left_iff_pos, msSeq, seqD, msRng, rg_eq, sFor, fIs, fIsNot, isN, Bool.not_true, Bool.not_false, Bool.true_and, Bool.false_and, Bool.and_true, Bool.or_true, Bool.true_or, decide_true, decide_false, h0, h3]
  intro k
  induction k with
  | zero =>
    intro t h hz f hf
    exact leaf 0 t (fun n tk ks e => by subst e; exact h.elim) f (by omega)
  | succ k ih =>
    intro t h hz f hf
    cases t with
    | knot n tk ks =>
      obtain ⟨f, rfl⟩ : ∃ g, f = g + 1 := ⟨f - 1, by omega⟩
      have hzk : szs ks ≤ 20000 := by simp only [Tr.sz] at hz; omega
      have hM : ∀ t ∈ ks, m__law_leaves f [t.toD] = .ok (.own (sL (lv t))) := fun t ht => ih t (h.2.2 t ht) (by
        have : ∀ l : List Tr, t ∈ l → t.sz ≤ szs l := by
          intro l
          induction l with
          | nil => intro h; cases h
          | cons a r ih2 =>
            intro h
            simp only [szs]
            rcases List.mem_cons.mp h with rfl | h
            · omega
            · have := ih2 h; omega
        have := this ks ht
        omega) f (by omega)
      have hlen := lvs_len ks
      have x0 : fIx (Tr.toD (.knot n tk ks)) (.int 0) = some (.str "knot") := by simp only [Tr.toD]; exact atI0
      have x3 : fIx (Tr.toD (.knot n tk ks)) (.int 3) = some (.tuple (toDs ks)) := by simp only [Tr.toD]; exact atI3
      have n1 : fNeW (.str "knot") (.str "knot") = some false := by rw [fNeW_str l5 l5]; rfl
      obtain ⟨o', e⟩ := leaves_for (M := m__law_leaves f) (dd := Tr.toD (.knot n tk ks)) ks [] none hM (by simp only [List.length_nil]; omega)
      refine mfn_rt (b := b__law_leaves (m__law_leaves f)) (n := 3) (ρ' := [some (.imm (Tr.toD (.knot n tk ks))), none, o']) ?_
      show b__law_leaves _ [some (.imm (Tr.toD (.knot n tk ks))), none, none] = _
      generalize m__law_leaves f = M at e
      generalize Tr.toD (.knot n tk ks) = U at x0 x3 e
      unfold b__law_leaves
      rw [seq_nx (ρ' := [some (.imm (U)), none, none]) (by simp (disch := omega) only [enI, sSeq, sDP, bs, mBin, mBinL, bd, mDG, List.getElem?_cons_zero, List.getElem?_cons_succ, lift, mC, mV, mVL, fAdd, fSub, if_true, if_false, Bool.false_eq_true, List.set_cons_zero, List.set_cons_succ, sIf, mCmp, mCall, mCons, mNil, pu, gLen, List.length_map, fI, sRet, sRetL, sNx, fIxL, fIxT, endS, sSet, sSetL, sDrop, mTup, mLst, fz, mUn, bl, mAnd, mOr, mNot, mIf, mTru, mTruL, truth, mB, mAndV, mOrV, mNotV, isB, mIxL, mSl, mSlL, mPt, mNoP, pI, fSl, fSlL, mCallL, mPk, mIsi, gTuple, gList, gMax, fNeg, mCF, mCFL, mCS, mfn, mfnS, List.length_cons, List.length_nil, List.map_cons, List.map_nil, List.cons_append, List.nil_append, List.replicate, List.append_nil, Nat.reduceSub, Nat.reduceAdd, Nat.reduceLT, Nat.zero_add, fDiv_eq, fMod_eq, atI0, atI1, atI2, atI3, sz0, Nat.lt_add_left_iff_pos, msSeq, seqD, msRng, rg_eq, sFor, fIs, fIsNot, isN, Bool.not_true, Bool.not_false, Bool.true_and, Bool.false_and, Bool.and_true, Bool.or_true, Bool.true_or, decide_true, decide_false, x0, n1])]
      rw [seq_nx (ρ' := [some (.imm (U)), some (.lst (sL [])), none]) (by simp (disch := omega) only [enI, sSeq, sDP, bs, mBin, mBinL, bd, mDG, List.getElem?_cons_zero, List.getElem?_cons_succ, lift, mC, mV, mVL, fAdd, fSub, if_true, if_false, Bool.false_eq_true, List.set_cons_zero, List.set_cons_succ, sIf, mCmp, mCall, mCons, mNil, pu, gLen, List.length_map, fI, sRet, sRetL, sNx, fIxL, fIxT, endS, sSet, sSetL, sDrop, mTup, mLst, fz, mUn, bl, mAnd, mOr, mNot, mIf, mTru, mTruL, truth, mB, mAndV, mOrV, mNotV, isB, mIxL, mSl, mSlL, mPt, mNoP, pI, fSl, fSlL, mCallL, mPk, mIsi, gTuple, gList, gMax, fNeg, mCF, mCFL, mCS, mfn, mfnS, List.length_cons, List.length_nil, List.map_cons, List.map_nil, List.cons_append, List.nil_append, List.replicate, List.append_nil, Nat.reduceSub, Nat.reduceAdd, Nat.reduceLT, Nat.zero_add, fDiv_eq, fMod_eq, atI0, atI1, atI2, atI3, sz0, Nat.lt_add_left_iff_pos, msSeq, seqD, msRng, rg_eq, sFor, fIs, fIsNot, isN, Bool.not_true, Bool.not_false, Bool.true_and, Bool.false_and, Bool.and_true, Bool.or_true, Bool.true_or, decide_true, decide_false])]
      rw [seq_nx ((for_ok (ds := toDs ks) (ρ' := [some (.imm (U)), some (.lst (sL [])), none]) (by simp (disch := omega) only [enI, sSeq, sDP, bs, mBin, mBinL, bd, mDG, List.getElem?_cons_zero, List.getElem?_cons_succ, lift, mC, mV, mVL, fAdd, fSub, if_true, if_false, Bool.false_eq_true, List.set_cons_zero, List.set_cons_succ, sIf, mCmp, mCall, mCons, mNil, pu, gLen, List.length_map, fI, sRet, sRetL, sNx, fIxL, fIxT, endS, sSet, sSetL, sDrop, mTup, mLst, fz, mUn, bl, mAnd, mOr, mNot, mIf, mTru, mTruL, truth, mB, mAndV, mOrV, mNotV, isB, mIxL, mSl, mSlL, mPt, mNoP, pI, fSl, fSlL, mCallL, mPk, mIsi, gTuple, gList, gMax, fNeg, mCF, mCFL, mCS, mfn, mfnS, List.length_cons, List.length_nil, List.map_cons, List.map_nil, List.cons_append, List.nil_append, List.replicate, List.append_nil, Nat.reduceSub, Nat.reduceAdd, Nat.reduceLT, Nat.zero_add, fDiv_eq, fMod_eq, atI0, atI1, atI2, atI3, sz0, Nat.lt_add_left_iff_pos, msSeq, seqD, msRng, rg_eq, sFor, fIs, fIsNot, isN, Bool.not_true, Bool.not_false, Bool.true_and, Bool.false_and, Bool.and_true, Bool.or_true, Bool.true_or, decide_true, decide_false, x3])).trans e)]
      simp only [lv, List.nil_append]
      rfl
    | _ => exact leaf (k + 1) _ (fun n tk ks e => by cases e) f (by omega)
end K87

namespace K87
open PySem PySem.Spec PyProof.Rows L2 Pu Kt Kq
/-! ### the last leaf -/
def lastS (t : Tr) : Str := (lv t).getLast?.getD ""
theorem last_of {t : Tr} {w : Str} (h : (lv t).getLast? = some w) : lastS t = w := by unfold lastS; rw [h]; rfl
abbrev llC : MM Bool := mCmp fEqW (mBin fIx (mV 1) (mC (.int 0))) (mC (.str "knot"))
abbrev llB : MS := sSet 1 (mBin fIx (mBin fIx (mV 1) (mC (.int 3))) (mUn fNeg (mC (.int 1))))
theorem last_loop (dd : D) : ∀ (k : Nat) (t : Tr), Nk k t → ∀ N, k < N → ∃ u : Tr, whileD llC llB N [some (.imm (dd)), some (.imm (t.toD))] = .nx [some (.imm (dd)), some (.imm (u.toD))] ∧ (lv t).getLast? = some u.hd := by
  obtain ⟨l1, l2, l3, l4, l5⟩ := hd_lit
  have leaf : ∀ (k : Nat) (t : Tr), (∀ n tk ks, t ≠ .knot n tk ks) → ∀ N, k < N → ∃ u : Tr, whileD llC llB N [some (.imm (dd)), some (.imm (t.toD))] = .nx [some (.imm (dd)), some (.imm (u.toD))] ∧ (lv t).getLast? = some u.hd := by
    intro k t hk N hN
    obtain ⟨N, rfl⟩ : ∃ M, N = M + 1 := ⟨N - 1, by omega⟩
    obtain ⟨h1, h2⟩ := not_knot hk
    have h0 := hd_eq (t := t)
    have h3 : fEqW (.str t.hd) (.str "knot") = some false := by rw [fEqW_str (hd_ok t) l5, h1]
    refine ⟨t, while_f (ρ1 := [some (.imm (dd)), some (.imm (t.toD))]) ?_, by rw [h2]; rfl⟩
    generalize t.toD = U at h0
    simp (disch := omega) only [enI, sSeq, sDP, bs, mBin, mBinL, bd, mDG, List.getElem?_cons_zero, List.getElem?_cons_succ, lift, mC, mV, mVL, fAdd, fSub, if_true, if_false, Bool.false_eq_true, List.set_cons_zero, List.set_cons_succ, sIf, mCmp, mCall, mCons, mNil, pu, gLen, List.length_map, fI, sRet, sRetL, sNx, fIxL, fIxT, endS, sSet, sSetL, sDrop, mTup, mLst, fz, mUn, bl, mAnd, mOr, mNot, mIf, mTru, mTruL, truth, mB, mAndV, mOrV, mNotV, isB, mIxL, mSl, mSlL, mPt, mNoP, pI, fSl, fSlL, mCallL, mPk, mIsi, gTuple, gList, gMax, fNeg, mCF, mCFL, mCS, mfn, mfnS, List.length_cons, List.length_nil, List.map_cons, List.map_nil, List.cons_append, List.nil_append, List.replicate, List.append_nil, Nat.reduceSub, Nat.reduceAdd, Nat.reduceLT, Nat.zero_add, fDiv_eq, fMod_eq, atI0, atI1, atI2, atI3, sz0, Nat.lt_add_left_iff_pos, msSeq, seqD, msRng, rg_eq, sFor, fIs, fIsNot, isN, Bool.not_true, Bool.not_false, Bool.true_and, Bool.false_and, Bool.and_true, Bool.or_true, Bool.true_or, decide_true, decide_false, h0, h3]
  intro k
  induction k with
  | zero =>
    intro t h N hN
    exact leaf 0 t (fun n tk ks e => by subst e; exact h.elim) N hN
  | succ k ih =>
    intro t h N hN
    cases t with
    | knot n tk ks =>
      obtain ⟨N, rfl⟩ : ∃ M, N = M + 1 := ⟨N - 1, by omega⟩
      rcases List.eq_nil_or_concat ks with rfl | ⟨l, c, rfl⟩
      · have := h.1; simp at this
      · rw [List.concat_eq_append] at h ⊢
        have hc := h.2.2 c (List.mem_append_right _ (List.mem_singleton.mpr rfl))
        obtain ⟨u, e, hu⟩ := ih c hc N (by omega)
        have x0 : fIx (Tr.toD (.knot n tk (l ++ [c]))) (.int 0) = some (.str "knot") := by simp only [Tr.toD]; exact atI0
        have x3 : fIx (Tr.toD (.knot n tk (l ++ [c]))) (.int 3) = some (.tuple (toDs (l ++ [c]))) := by simp only [Tr.toD]; exact atI3
        have xl : fIx (.tuple (toDs (l ++ [c]))) (.int (-1)) = some c.toD := by
          rw [toDs_append]
          simp only [toDs]
          exact atI_end
        have h3 : fEqW (.str "knot") (.str "knot") = some true := by rw [fEqW_str l5 l5]; rfl
        refine ⟨u, (while_t (ρ1 := [some (.imm (dd)), some (.imm (Tr.toD (.knot n tk (l ++ [c]))))]) (ρ2 := [some (.imm (dd)), some (.imm (c.toD))]) ?_ ?_).trans e, ?_⟩
        · generalize Tr.toD (.knot n tk (l ++ [c])) = U at x0
          simp (disch := omega) only [enI, sSeq, sDP, bs, mBin, mBinL, bd, mDG, List.getElem?_cons_zero, List.getElem?_cons_succ, lift, mC, mV, mVL, fAdd, fSub, if_true, if_false, Bool.false_eq_true, List.set_cons_zero, List.set_cons_succ, sIf, mCmp, mCall, mCons, mNil, pu, gLen, List.length_map, fI, sRet, sRetL, sNx, fIxL, fIxT, endS, sSet, sSetL, sDrop, mTup, mLst, fz, mUn, bl, mAnd, mOr, mNot, mIf, mTru, mTruL, truth, mB, mAndV, mOrV, mNotV, isB, mIxL, mSl, mSlL, mPt, mNoP, pI, fSl, fSlL, mCallL, mPk, mIsi, gTuple, gList, gMax, fNeg, mCF, mCFL, mCS, mfn, mfnS, List.length_cons, List.length_nil, List.map_cons, List.map_nil, List.cons_append, List.nil_append, List.replicate, List.append_nil, Nat.reduceSub, Nat.reduceAdd, Nat.reduceLT, Nat.zero_add, fDiv_eq, fMod_eq, atI0, atI1, atI2, atI3, sz0, Nat.lt_add_left_iff_pos, msSeq, seqD, msRng, rg_eq, sFor, fIs, fIsNot, isN, Bool.not_true, Bool.not_false, Bool.true_and, Bool.false_and, Bool.and_true, Bool.or_true, Bool.true_or, decide_true, decide_false, x0, h3]
        · generalize Tr.toD (.knot n tk (l ++ [c])) = U at x3
          generalize toDs (l ++ [c]) = W at x3 xl
          simp (disch := omega) only [enI, sSeq, sDP, bs, mBin, mBinL, bd, mDG, List.getElem?_cons_zero, List.getElem?_cons_succ, lift, mC, mV, mVL, fSub, if_true, if_false, Bool.false_eq_true, List.set_cons_zero, List.set_cons_succ, sIf, mCmp, mCall, mCons, mNil, pu, gLen, List.length_map, fI, sRet, sRetL, sNx, endS, sSet, sSetL, sDrop, mTup, mLst, fz, mUn, bl, mAnd, mOr, mNot, mIf, mTru, mTruL, truth, mB, mAndV, mOrV, mNotV, isB, mIxL, mSl, mSlL, mPt, mNoP, pI, fSlL, mCallL, mPk, mIsi, gTuple, gList, gMax, fNeg, mCF, mCFL, mCS, mfn, mfnS, List.length_cons, List.length_nil, List.map_cons, List.map_nil, List.cons_append, List.nil_append, List.replicate, List.append_nil, Nat.reduceSub, Nat.reduceAdd, Nat.reduceLT, Nat.zero_add, fDiv_eq, fMod_eq, atI0, atI1, atI2, atI3, sz0, Nat.lt_add_left_iff_pos, msSeq, seqD, msRng, rg_eq, sFor, fIs, fIsNot, isN, Bool.not_true, Bool.not_false, Bool.true_and, Bool.false_and, Bool.and_true, Bool.or_true, Bool.true_or, decide_true, decide_false, fAdd_int, x3, xl]
        · simp only [lv, lvs_append, lvs, List.append_nil]
          rw [List.getLast?_append, hu]
          rfl
    | _ => exact leaf (k + 1) _ (fun n tk ks e => by cases e) N hN
theorem last_eq {k : Nat} {t : Tr} (h : Nk k t) (hk : k ≤ 1000) : ∃ u : Tr, m_last_leaf [t.toD] = .ok (.imm u.toD) ∧ lastS t = u.hd := by
  obtain ⟨u, e, hu⟩ := last_loop t.toD k t h 100000 (by omega)
  refine ⟨u, mfn_rt (b := b_last_leaf) (n := 2) (ρ' := [some (.imm (t.toD)), some (.imm (u.toD))]) ?_, last_of hu⟩
  show b_last_leaf [some (.imm (t.toD)), none] = _
  unfold b_last_leaf
  rw [seq_nx (ρ' := [some (.imm (t.toD)), some (.imm (t.toD))]) (by simp (disch := omega) only [enI, sSeq, sDP, bs, mBin, mBinL, bd, mDG, List.getElem?_cons_zero, List.getElem?_cons_succ, lift, mC, mV, mVL, fAdd, fSub, if_true, if_false, Bool.false_eq_true, List.set_cons_zero, List.set_cons_succ, sIf, mCmp, mCall, mCons, mNil, pu, gLen, List.length_map, fI, sRet, sRetL, sNx, fIxL, fIxT, endS, sSet, sSetL, sDrop, mTup, mLst, fz, mUn, bl, mAnd, mOr, mNot, mIf, mTru, mTruL, truth, mB, mAndV, mOrV, mNotV, isB, mIxL, mSl, mSlL, mPt, mNoP, pI, fSl, fSlL, mCallL, mPk, mIsi, gTuple, gList, gMax, fNeg, mCF, mCFL, mCS, mfn, mfnS, List.length_cons, List.length_nil, List.map_cons, List.map_nil, List.cons_append, List.nil_append, List.replicate, List.append_nil, Nat.reduceSub, Nat.reduceAdd, Nat.reduceLT, Nat.zero_add, fDiv_eq, fMod_eq, atI0, atI1, atI2, atI3, sz0, Nat.lt_add_left_iff_pos, msSeq, seqD, msRng, rg_eq, sFor, fIs, fIsNot, isN, Bool.not_true, Bool.not_false, Bool.true_and, Bool.false_and, Bool.and_true, Bool.or_true, Bool.true_or, decide_true, decide_false])]
  rw [seq_nx e]
  rfl
theorem eq1 {n : Nat} : fEqW (.int (n : Int)) (.int 1) = some (decide (n = 1)) := by
  rw [fEqW_int]
  congr 1
  by_cases h : n = 1
  · rw [decide_eq_true h]; exact beq_iff_eq.mpr (by omega)
  · rw [decide_eq_false h]; exact beq_eq_false_iff_ne.mpr (by omega)
theorem graft_eq {t : Tr} (h : t.sz ≤ 900) : m_is_graft [t.toD] = .ok (.imm (.bool (decide (t.feet.length = 1)))) := by
  have e := feet_of_eq h
  have hl : (t.feet.reverse.map PyData.str).length = t.feet.length := by rw [List.length_map, List.length_reverse]
  unfold m_is_graft
  refine mfn_rt (ρ' := [some (.imm (t.toD))]) ?_
  show b_is_graft [some (.imm (t.toD))] = _
  unfold b_is_graft
  generalize m_feet_of = M at e
  generalize t.feet.reverse.map PyData.str = W at e hl
  generalize t.toD = U at e
  refine ret_ok ?_
  simp (disch := omega) only [bl, bd, mCmp, mCall, mCons, mNil, fz, mCFL, mV, List.getElem?_cons_zero, e, pu, gLen, hl, lift, mC, eq1]
/-- trees as they are drawn -/
structure Gt (t : Tr) : Prop where
  nk : Nk 8 t
  sz : t.sz ≤ 100
  ft : t.feet.length ≤ 1
def bad (t : Tr) : Bool := decide (t.feet.length = 1) && !(lastS t == ("foot" : Str))
theorem bad_row {t : Tr} (h : Gt t) : bad t = (decide (("foot" : Str) ∈ lv t) && !(lastS t == ("foot" : Str))) := by
  unfold bad
  congr 1
  have hf := h.ft
  have q := foot_in t
  by_cases hz : t.feet = []
  · rw [decide_eq_false (by rw [hz]; simp), decide_eq_false (fun z => q.mp z hz)]
  · have : t.feet.length ≠ 0 := fun z => hz (List.eq_nil_of_length_eq_zero z)
    rw [decide_eq_true (by omega), decide_eq_true (q.mpr hz)]
abbrev eK (bk : D) (a b : Option S1) : En := [some (.imm bk), a, b]
theorem keys_lc {bk : D} {es : List (Str × Tr)} (hb : fIx bk (.int 1) = some (.tuple (es.map entD))) (h : ∀ e ∈ es, Gt e.2) (hl : es.length ≤ 100) :
    mLc [1, 2] (msSeq (mBin fIx (mV 0) (mC (.int 1)))) (gT [1, 2]) (mAnd (mTru (mCF m_is_graft (mCons (mV 2) mNil))) (mCmp fNeW (mBin fIx (mCF m_last_leaf (mCons (mV 2) mNil)) (mC (.int 0))) (mC (.str "foot")))) (mV 1) (eK bk none none) = .ok ((es.filter fun x => bad x.2).map fun x => .str x.1) (eK bk none none) := by
  obtain ⟨l1, l2, l3, l4, l5⟩ := hd_lit
  refine mLcM_eq (ρ' := eK bk none none) entD (fun x => bad x.2) (fun x => .str x.1) (by simp (disch := omega) only [enI, sSeq, sDP, bs, mBin, mBinL, bd, mDG, List.getElem?_cons_zero, List.getElem?_cons_succ, lift, mC, mV, mVL, fAdd, fSub, if_true, if_false, Bool.false_eq_true, List.set_cons_zero, List.set_cons_succ, sIf, mCmp, mCall, mCons, mNil, pu, gLen, List.length_map, fI, sRet, sRetL, sNx, fIxL, fIxT, endS, sSet, sSetL, sDrop, mTup, mLst, fz, mUn, bl, mAnd, mOr, mNot, mIf, mTru, mTruL, truth, mB, mAndV, mOrV, mNotV, isB, mIxL, mSl, mSlL, mPt, mNoP, pI, fSl, fSlL, mCallL, mPk, mIsi, gTuple, gList, gMax, fNeg, mCF, mCFL, mCS, mfn, mfnS, List.length_cons, List.length_nil, List.map_cons, List.map_nil, List.cons_append, List.nil_append, List.replicate, List.append_nil, Nat.reduceSub, Nat.reduceAdd, Nat.reduceLT, Nat.zero_add, fDiv_eq, fMod_eq, atI0, atI1, atI2, atI3, sz0, Nat.lt_add_left_iff_pos, msSeq, seqD, msRng, rg_eq, sFor, fIs, fIsNot, isN, Bool.not_true, Bool.not_false, Bool.true_and, Bool.false_and, Bool.and_true, Bool.or_true, Bool.true_or, decide_true, decide_false, hb]) rfl (fun x hx => ?_) (by omega)
  refine ⟨eK bk (some (.imm (.str x.1))) (some (.imm x.2.toD)), rfl, eK bk (some (.imm (.str x.1))) (some (.imm x.2.toD)), ?_, (fun _ => rfl), fun _ => ⟨_, rfl, rfl⟩⟩
  have hg := h x hx
  have e1 := graft_eq (t := x.2) (by have := hg.sz; omega)
  obtain ⟨u, e2, e3⟩ := last_eq hg.nk (by omega)
  have h0 := hd_eq (t := u)
  have n1 : fNeW (.str u.hd) (.str "foot") = some (!(u.hd == ("foot" : Str))) := fNeW_str (hd_ok u) l4
  show _ = Ou.ok (decide (x.2.feet.length = 1) && !(lastS x.2 == ("foot" : Str))) _
  rw [e3]
  generalize m_is_graft = M1 at e1
  generalize m_last_leaf = M2 at e2
  generalize decide (x.2.feet.length = 1) = B at e1
  generalize x.2.toD = U at e1 e2
  generalize u.toD = V at e2 h0
  cases B with
  | true => simp (disch := omega) only [enI, sSeq, sDP, bs, mBin, mBinL, bd, mDG, List.getElem?_cons_zero, List.getElem?_cons_succ, lift, mC, mV, mVL, fAdd, fSub, if_true, if_false, Bool.false_eq_true, List.set_cons_zero, List.set_cons_succ, sIf, mCmp, mCall, mCons, mNil, pu, gLen, List.length_map, fI, sRet, sRetL, sNx, fIxL, fIxT, endS, sSet, sSetL, sDrop, mTup, mLst, fz, mUn, bl, mAnd, mOr, mNot, mIf, mTru, mTruL, truth, mB, mAndV, mOrV, mNotV, isB, mIxL, mSl, mSlL, mPt, mNoP, pI, fSl, fSlL, mCallL, mPk, mIsi, gTuple, gList, gMax, fNeg, mCF, mCFL, mCS, mfn, mfnS, List.length_cons, List.length_nil, List.map_cons, List.map_nil, List.cons_append, List.nil_append, List.replicate, List.append_nil, Nat.reduceSub, Nat.reduceAdd, Nat.reduceLT, Nat.zero_add, fDiv_eq, fMod_eq, atI0, atI1, atI2, atI3, sz0, Nat.lt_add_left_iff_pos, msSeq, seqD, msRng, rg_eq, sFor, fIs, fIsNot, isN, Bool.not_true, Bool.not_false, Bool.true_and, Bool.false_and, Bool.and_true, Bool.or_true, Bool.true_or, decide_true, decide_false, e1, e2, h0, n1]
  | false => simp (disch := omega) only [enI, sSeq, sDP, bs, mBin, mBinL, bd, mDG, List.getElem?_cons_zero, List.getElem?_cons_succ, lift, mC, mV, mVL, fAdd, fSub, if_true, if_false, Bool.false_eq_true, List.set_cons_zero, List.set_cons_succ, sIf, mCmp, mCall, mCons, mNil, pu, gLen, List.length_map, fI, sRet, sRetL, sNx, fIxL, fIxT, endS, sSet, sSetL, sDrop, mTup, mLst, fz, mUn, bl, mAnd, mOr, mNot, mIf, mTru, mTruL, truth, mB, mAndV, mOrV, mNotV, isB, mIxL, mSl, mSlL, mPt, mNoP, pI, fSl, fSlL, mCallL, mPk, mIsi, gTuple, gList, gMax, fNeg, mCF, mCFL, mCS, mfn, mfnS, List.length_cons, List.length_nil, List.map_cons, List.map_nil, List.cons_append, List.nil_append, List.replicate, List.append_nil, Nat.reduceSub, Nat.reduceAdd, Nat.reduceLT, Nat.zero_add, fDiv_eq, fMod_eq, atI0, atI1, atI2, atI3, sz0, Nat.lt_add_left_iff_pos, msSeq, seqD, msRng, rg_eq, sFor, fIs, fIsNot, isN, Bool.not_true, Bool.not_false, Bool.true_and, Bool.false_and, Bool.and_true, Bool.or_true, Bool.true_or, decide_true, decide_false, e1]
theorem sided_eq {bk : D} {es : List (Str × Tr)} (hb : fIx bk (.int 1) = some (.tuple (es.map entD))) (h : ∀ e ∈ es, Gt e.2) (hl : es.length ≤ 100) : m_one_sided [bk] = .ok (.imm (.bool (es.filter fun x => bad x.2).isEmpty)) := by
  have e := keys_lc hb h hl
  have e2 : m_two_sided_keys [bk] = .ok (.own ((es.filter fun x => bad x.2).map fun x => .str x.1)) := by
    refine mfn_rt (b := b_two_sided_keys) (n := 3) (ρ' := eK bk none none) ?_
    show b_two_sided_keys (eK bk none none) = _
    unfold b_two_sided_keys
    exact retL_ok e
  have hm : ((es.filter fun x => bad x.2).map fun x => PyData.str x.1).isEmpty = (es.filter fun x => bad x.2).isEmpty := by
    cases es.filter fun x => bad x.2 <;> rfl
  unfold m_one_sided
  refine mfn_rt (ρ' := [some (.imm (bk))]) ?_
  show b_one_sided [some (.imm (bk))] = _
  unfold b_one_sided
  generalize m_two_sided_keys = M at e2
  rw [← hm]
  generalize (es.filter fun x => bad x.2).map (fun x => PyData.str x.1) = W at e2
  refine ret_ok ?_
  simp (disch := omega) only [enI, sSeq, sDP, bs, mBin, mBinL, bd, mDG, List.getElem?_cons_zero, List.getElem?_cons_succ, lift, mC, mV, mVL, fAdd, fSub, if_true, if_false, Bool.false_eq_true, List.set_cons_zero, List.set_cons_succ, sIf, mCmp, mCall, mCons, mNil, pu, gLen, List.length_map, fI, sRet, sRetL, sNx, fIxL, fIxT, endS, sSet, sSetL, sDrop, mTup, mLst, fz, mUn, bl, mAnd, mOr, mNot, mIf, mTru, mTruL, truth, mB, mAndV, mOrV, mNotV, isB, mIxL, mSl, mSlL, mPt, mNoP, pI, fSl, fSlL, mCallL, mPk, mIsi, gTuple, gList, gMax, fNeg, mCF, mCFL, mCS, mfn, mfnS, List.length_cons, List.length_nil, List.map_cons, List.map_nil, List.cons_append, List.nil_append, List.replicate, List.append_nil, Nat.reduceSub, Nat.reduceAdd, Nat.reduceLT, Nat.zero_add, fDiv_eq, fMod_eq, atI0, atI1, atI2, atI3, sz0, Nat.lt_add_left_iff_pos, msSeq, seqD, msRng, rg_eq, sFor, fIs, fIsNot, isN, Bool.not_true, Bool.not_false, Bool.true_and, Bool.false_and, Bool.and_true, Bool.or_true, Bool.true_or, decide_true, decide_false, e2, Bool.not_not]
/-! ### rows -/
mutual
theorem lv_ok : ∀ t : Tr, ∀ w ∈ lv t, PyData.strOk w = true
  | .sign _ => fun w h => by simp only [lv, List.mem_singleton] at h; subst h; exact hd_lit.1
  | .void => fun w h => by simp only [lv, List.mem_singleton] at h; subst h; exact hd_lit.2.1
  | .hole _ => fun w h => by simp only [lv, List.mem_singleton] at h; subst h; exact hd_lit.2.2.1
  | .foot _ => fun w h => by simp only [lv, List.mem_singleton] at h; subst h; exact hd_lit.2.2.2.1
  | .knot _ _ ks => fun w h => by simp only [lv] at h; exact lvs_ok ks w h
theorem lvs_ok : ∀ ts : List Tr, ∀ w ∈ lvs ts, PyData.strOk w = true
  | [] => fun w h => by simp [lvs] at h
  | t :: r => fun w h => by
    simp only [lvs, List.mem_append] at h
    rcases h with h | h
    · exact lv_ok t w h
    · exact lvs_ok r w h
end
theorem in_row : ∀ {l : List Str}, (∀ w ∈ l, PyData.strOk w = true) → fInD (.str "foot") (.list (sL l)) = some (decide (("foot" : Str) ∈ l)) := by
  intro l h
  have a1 : ∀ l : List Str, (∀ w ∈ l, PyData.strOk w = true) → PyData.canLayAll0 (sL l) = true := by
    intro l
    induction l with
    | nil => exact fun _ => rfl
    | cons a r ih =>
      intro h
      show (PyData.strOk a && PyData.canLayAll0 (sL r)) = true
      rw [h a List.mem_cons_self, ih fun w hw => h w (List.mem_cons_of_mem _ hw)]; rfl
  have a2 : ∀ l : List Str, ((sL l).any fun z => PyData.eqv z (.str "foot")) = decide (("foot" : Str) ∈ l) := by
    intro l
    induction l with
    | nil => rfl
    | cons a r ih =>
      show (PyData.eqv (.str a) (.str "foot") || (sL r).any fun z => PyData.eqv z (.str "foot")) = _
      rw [ih]
      have e : PyData.eqv (.str a) (.str "foot") = decide (("foot" : Str) = a) := by
        by_cases q : ("foot" : Str) = a
        · subst q; rw [decide_eq_true rfl]; exact PySem.SeqAt.eqv_refl _ (Bool.and_eq_true_iff.mp (shW_str hd_lit.2.2.2.1)).1
        · rw [decide_eq_false q]
          have : (a == ("foot" : Str)) = false := beq_eq_false_iff_ne.mpr fun z => q z.symm
          exact this
      rw [e]
      by_cases q : ("foot" : Str) = a
      · have m : ("foot" : Str) ∈ a :: r := by rw [q]; exact List.mem_cons_self
        rw [decide_eq_true q, Bool.true_or, decide_eq_true m]
      · rw [decide_eq_false q, Bool.false_or]
        congr 1
        simp [q]
  show (if PyData.canLayAll0 (sL l) && shW (.str "foot") then some ((sL l).any fun z => PyData.eqv z (.str "foot")) else none) = _
  rw [a1 l h, shW_str hd_lit.2.2.2.1, a2]
  rfl
theorem last_row {k : Nat} {t : Tr} (h : Nk k t) : atI (sL (lv t)) (-1) = some (.str (lastS t)) := by
  have hp := lv_pos k t h
  rcases List.eq_nil_or_concat (lv t) with e | ⟨l, c, e⟩
  · exact absurd e hp
  · rw [List.concat_eq_append] at e
    have : lastS t = c := last_of (by rw [e]; simp)
    rw [this, e]
    show atI ((l ++ [c]).map PyData.str) (-1) = _
    rw [List.map_append]
    exact atI_end
theorem lastS_ok {k : Nat} {t : Tr} (h : Nk k t) : PyData.strOk (lastS t) = true := by
  have hp := lv_pos k t h
  rcases List.eq_nil_or_concat (lv t) with e | ⟨l, c, e⟩
  · exact absurd e hp
  · rw [List.concat_eq_append] at e
    rw [last_of (t := t) (w := c) (by rw [e]; simp)]
    exact lv_ok t c (by rw [e]; simp)
end K87

namespace K87
open PySem PySem.Spec PyProof.Rows L2 Pu Kt Kq
theorem mcm_ok {i j : Nat} {m : List D → List (Str × D) → List D → ReM} {ma : MM (List D)} {ρ ρ' : En} {ds b0 b1 b2 : List D} {k0 k1 k2 : List (Str × D)} {d : D} (h0 : ρ[i]? = some (some (.box b0))) (g0 : ρ[j]? = some (some (.dct k0))) (h : ma ρ = .ok ds ρ') (h1 : ρ'[i]? = some (some (.box b1))) (g1 : ρ'[j]? = some (some (.dct k1))) (e : m b1 k1 ds = .ok (.imm d) b2 k2) :
    mCM i j m ma ρ = .ok d ((ρ'.set i (some (.box b2))).set j (some (.dct k2))) := by
  unfold mCM
  rw [h0, g0]
  dsimp only
  rw [bd_ok h, h1, g1]
  dsimp only
  rw [e]
/-! ### a tree's signs -/
theorem mem_szs {t : Tr} : ∀ l : List Tr, t ∈ l → t.sz ≤ szs l
  | [], h => by cases h
  | a :: r, h => by
    simp only [szs]
    rcases List.mem_cons.mp h with rfl | h
    · omega
    · have := mem_szs r h; omega
theorem signs_for {M : List D → Re} {dd : D} : ∀ (ks : List Tr) (acc : List D) (o : Option S1), (∀ t ∈ ks, ∃ l, M [t.toD] = .ok (.own l) ∧ l.length ≤ t.sz) → acc.length + szs ks ≤ 100000 →
    ∃ acc' o', forD (gN 2) (lvB M) (toDs ks) [some (.imm (dd)), some (.lst (acc)), o] = .nx [some (.imm (dd)), some (.lst (acc')), o'] ∧ acc'.length ≤ acc.length + szs ks
  | [], acc, o, _, _ => ⟨acc, o, rfl, Nat.le_add_right _ _⟩
  | t :: r, acc, o, h, hl => by
    obtain ⟨l, ht, hl1⟩ := h t List.mem_cons_self
    simp only [szs] at hl
    obtain ⟨acc', o', e, hl2⟩ := signs_for (M := M) (dd := dd) r (acc ++ l) (some (.imm t.toD)) (fun x hx => h x (List.mem_cons_of_mem _ hx)) (by rw [List.length_append]; omega)
    refine ⟨acc', o', ?_, by rw [List.length_append] at hl2; simp only [szs]; omega⟩
    simp only [toDs]
    have hc : fCat (.list acc) (.list l) = some (acc ++ l) := fCat_eq (by omega)
    refine (for_cons (ρ1 := [some (.imm (dd)), some (.lst (acc)), some (.imm (t.toD))]) (ρ2 := [some (.imm (dd)), some (.lst (acc ++ l)), some (.imm (t.toD))]) rfl ?_).trans e
    simp (disch := omega) only [enI, sSeq, sDP, bs, mBin, mBinL, bd, mDG, List.getElem?_cons_zero, List.getElem?_cons_succ, lift, mC, mV, mVL, fAdd, fSub, if_true, if_false, Bool.false_eq_true, List.set_cons_zero, List.set_cons_succ, sIf, mCmp, mCall, mCons, mNil, pu, gLen, List.length_map, fI, sRet, sRetL, sNx, fIxL, fIxT, endS, sSet, sSetL, sDrop, mTup, mLst, fz, mUn, bl, mAnd, mOr, mNot, mIf, mTru, mTruL, truth, mB, mAndV, mOrV, mNotV, isB, mIxL, mSl, mSlL, mPt, mNoP, pI, fSl, fSlL, mCallL, mPk, mIsi, gTuple, gList, gMax, fNeg, mCF, mCFL, mCS, mfn, mfnS, List.length_cons, List.length_nil, List.map_cons, List.map_nil, List.cons_append, List.nil_append, List.replicate, List.append_nil, Nat.reduceSub, Nat.reduceAdd, Nat.reduceLT, Nat.zero_add, fDiv_eq, fMod_eq, atI0, atI1, atI2, atI3, sz0, Nat.lt_add_left_iff_pos, msSeq, seqD, msRng, rg_eq, sFor, fIs, fIsNot, isN, Bool.not_true, Bool.not_false, Bool.true_and, Bool.false_and, Bool.and_true, Bool.or_true, Bool.true_or, decide_true, decide_false, ht, hc]
theorem signs_eq : ∀ (k : Nat) (t : Tr), Nk k t → t.sz ≤ 20000 → ∀ f, k + 1 ≤ f → ∃ l, m__law_signs f [t.toD] = .ok (.own l) ∧ l.length ≤ t.sz := by
  obtain ⟨l1, l2, l3, l4, l5⟩ := hd_lit
  have leaf : ∀ (t : Tr), (∀ n tk ks, t ≠ .knot n tk ks) → ∀ f, 1 ≤ f → ∃ l, m__law_signs f [t.toD] = .ok (.own l) ∧ l.length ≤ t.sz := by
    intro t hk f hf
    obtain ⟨f, rfl⟩ : ∃ g, f = g + 1 := ⟨f - 1, by omega⟩
    have sgn : ∀ s, ∃ l, m__law_signs (f + 1) [Tr.toD (.sign s)] = .ok (.own l) ∧ l.length ≤ 1 := fun s => by
      have e1 : fEqW (.str "sign") (.str "sign") = some true := by rw [fEqW_str l1 l1]; rfl
      refine ⟨[.str s], mfn_rt (b := b__law_signs (m__law_signs f)) (n := 3) (ρ' := [some (.imm (Tr.toD (.sign s))), none, none]) ?_, by simp⟩
      show b__law_signs _ [some (.imm (Tr.toD (.sign s))), none, none] = _
      unfold b__law_signs
      simp (disch := omega) only [enI, sSeq, sDP, bs, mBin, mBinL, bd, mDG, List.getElem?_cons_zero, List.getElem?_cons_succ, lift, mC, mV, mVL, fAdd, fSub, if_true, if_false, Bool.false_eq_true, List.set_cons_zero, List.set_cons_succ, sIf, mCmp, mCall, mCons, mNil, pu, gLen, List.length_map, fI, sRet, sRetL, sNx, fIxL, fIxT, endS, sSet, sSetL, sDrop, mTup, mLst, fz, mUn, bl, mAnd, mOr, mNot, mIf, mTru, mTruL, truth, mB, mAndV, mOrV, mNotV, isB, mIxL, mSl, mSlL, mPt, mNoP, pI, fSl, fSlL, mCallL, mPk, mIsi, gTuple, gList, gMax, fNeg, mCF, mCFL, mCS, mfn, mfnS, List.length_cons, List.length_nil, List.map_cons, List.map_nil, List.cons_append, List.nil_append, List.replicate, List.append_nil, Nat.reduceSub, Nat.reduceAdd, Nat.reduceLT, Nat.zero_add, fDiv_eq, fMod_eq, atI0, atI1, atI2, atI3, sz0, Nat.lt_add_left_iff_pos, msSeq, seqD, msRng, rg_eq, sFor, fIs, fIsNot, isN, Bool.not_true, Bool.not_false, Bool.true_and, Bool.false_and, Bool.and_true, Bool.or_true, Bool.true_or, decide_true, decide_false, Tr.toD, e1]
    have oth : ∀ (h : Str) (U : D), fIx U (.int 0) = some (.str h) → fEqW (.str h) (.str "sign") = some false → fEqW (.str h) (.str "knot") = some false → m__law_signs (f + 1) [U] = .ok (.own []) := fun h U h0 h1 h2 => by
      refine mfn_rt (b := b__law_signs (m__law_signs f)) (n := 3) (ρ' := [some (.imm (U)), none, none]) ?_
      show b__law_signs _ [some (.imm (U)), none, none] = _
      unfold b__law_signs
      simp (disch := omega) only [enI, sSeq, sDP, bs, mBin, mBinL, bd, mDG, List.getElem?_cons_zero, List.getElem?_cons_succ, lift, mC, mV, mVL, fAdd, fSub, if_true, if_false, Bool.false_eq_true, List.set_cons_zero, List.set_cons_succ, sIf, mCmp, mCall, mCons, mNil, pu, gLen, List.length_map, fI, sRet, sRetL, sNx, fIxL, fIxT, endS, sSet, sSetL, sDrop, mTup, mLst, fz, mUn, bl, mAnd, mOr, mNot, mIf, mTru, mTruL, truth, mB, mAndV, mOrV, mNotV, isB, mIxL, mSl, mSlL, mPt, mNoP, pI, fSl, fSlL, mCallL, mPk, mIsi, gTuple, gList, gMax, fNeg, mCF, mCFL, mCS, mfn, mfnS, List.length_cons, List.length_nil, List.map_cons, List.map_nil, List.cons_append, List.nil_append, List.replicate, List.append_nil, Nat.reduceSub, Nat.reduceAdd, Nat.reduceLT, Nat.zero_add, fDiv_eq, fMod_eq, atI0, atI1, atI2, atI3, sz0, Nat.lt_add_left_iff_pos, msSeq, seqD, msRng, rg_eq, sFor, fIs, fIsNot, isN, Bool.not_true, Bool.not_false, Bool.true_and, Bool.false_and, Bool.and_true, Bool.or_true, Bool.true_or, decide_true, decide_false, h0, h1, h2]
    cases t with
    | sign s => exact sgn s
    | void => exact ⟨[], oth "void" _ (by simp only [Tr.toD]; exact atI0) (by rw [fEqW_str l2 l1]; rfl) (by rw [fEqW_str l2 l5]; rfl), by simp⟩
    | hole n => exact ⟨[], oth "hole" _ (by simp only [Tr.toD]; exact atI0) (by rw [fEqW_str l3 l1]; rfl) (by rw [fEqW_str l3 l5]; rfl), by simp⟩
    | foot n => exact ⟨[], oth "foot" _ (by simp only [Tr.toD]; exact atI0) (by rw [fEqW_str l4 l1]; rfl) (by rw [fEqW_str l4 l5]; rfl), by simp⟩
    | knot n tk ks => exact absurd rfl (hk n tk ks)
  intro k
  induction k with
  | zero =>
    intro t h hz f hf
    exact leaf t (fun n tk ks e => by subst e; exact h.elim) f (by omega)
  | succ k ih =>
    intro t h hz f hf
    cases t with
    | knot n tk ks =>
      obtain ⟨f, rfl⟩ : ∃ g, f = g + 1 := ⟨f - 1, by omega⟩
      have hzk : szs ks + 1 ≤ (Tr.knot n tk ks).sz := by simp only [Tr.sz]; omega
      have hM : ∀ t ∈ ks, ∃ l, m__law_signs f [t.toD] = .ok (.own l) ∧ l.length ≤ t.sz := fun t ht => ih t (h.2.2 t ht) (by have := mem_szs ks ht; omega) f (by omega)
      have x0 : fIx (Tr.toD (.knot n tk ks)) (.int 0) = some (.str "knot") := by simp only [Tr.toD]; exact atI0
      have x3 : fIx (Tr.toD (.knot n tk ks)) (.int 3) = some (.tuple (toDs ks)) := by simp only [Tr.toD]; exact atI3
      have n1 : fEqW (.str "knot") (.str "sign") = some false := by rw [fEqW_str l5 l1]; rfl
      have n2 : fEqW (.str "knot") (.str "knot") = some true := by rw [fEqW_str l5 l5]; rfl
      obtain ⟨acc', o', e, hl⟩ := signs_for (M := m__law_signs f) (dd := Tr.toD (.knot n tk ks)) ks [] none hM (by simp only [List.length_nil]; omega)
      simp only [List.length_nil] at hl
      refine ⟨acc', mfn_rt (b := b__law_signs (m__law_signs f)) (n := 3) (ρ' := [some (.imm (Tr.toD (.knot n tk ks))), none, o']) ?_, by omega⟩
      show b__law_signs _ [some (.imm (Tr.toD (.knot n tk ks))), none, none] = _
      generalize m__law_signs f = M at e
      generalize Tr.toD (.knot n tk ks) = U at x0 x3 e
      unfold b__law_signs
      rw [seq_nx (ρ' := [some (.imm (U)), none, none]) (by simp (disch := omega) only [enI, sSeq, sDP, bs, mBin, mBinL, bd, mDG, List.getElem?_cons_zero, List.getElem?_cons_succ, lift, mC, mV, mVL, fAdd, fSub, if_true, if_false, Bool.false_eq_true, List.set_cons_zero, List.set_cons_succ, sIf, mCmp, mCall, mCons, mNil, pu, gLen, List.length_map, fI, sRet, sRetL, sNx, fIxL, fIxT, endS, sSet, sSetL, sDrop, mTup, mLst, fz, mUn, bl, mAnd, mOr, mNot, mIf, mTru, mTruL, truth, mB, mAndV, mOrV, mNotV, isB, mIxL, mSl, mSlL, mPt, mNoP, pI, fSl, fSlL, mCallL, mPk, mIsi, gTuple, gList, gMax, fNeg, mCF, mCFL, mCS, mfn, mfnS, List.length_cons, List.length_nil, List.map_cons, List.map_nil, List.cons_append, List.nil_append, List.replicate, List.append_nil, Nat.reduceSub, Nat.reduceAdd, Nat.reduceLT, Nat.zero_add, fDiv_eq, fMod_eq, atI0, atI1, atI2, atI3, sz0, Nat.lt_add_left_iff_pos, msSeq, seqD, msRng, rg_eq, sFor, fIs, fIsNot, isN, Bool.not_true, Bool.not_false, Bool.true_and, Bool.false_and, Bool.and_true, Bool.or_true, Bool.true_or, decide_true, decide_false, x0, n1])]
      rw [seq_nx (ρ' := [some (.imm (U)), some (.lst ([])), none]) (by simp (disch := omega) only [enI, sSeq, sDP, bs, mBin, mBinL, bd, mDG, List.getElem?_cons_zero, List.getElem?_cons_succ, lift, mC, mV, mVL, fAdd, fSub, if_true, if_false, Bool.false_eq_true, List.set_cons_zero, List.set_cons_succ, sIf, mCmp, mCall, mCons, mNil, pu, gLen, List.length_map, fI, sRet, sRetL, sNx, fIxL, fIxT, endS, sSet, sSetL, sDrop, mTup, mLst, fz, mUn, bl, mAnd, mOr, mNot, mIf, mTru, mTruL, truth, mB, mAndV, mOrV, mNotV, isB, mIxL, mSl, mSlL, mPt, mNoP, pI, fSl, fSlL, mCallL, mPk, mIsi, gTuple, gList, gMax, fNeg, mCF, mCFL, mCS, mfn, mfnS, List.length_cons, List.length_nil, List.map_cons, List.map_nil, List.cons_append, List.nil_append, List.replicate, List.append_nil, Nat.reduceSub, Nat.reduceAdd, Nat.reduceLT, Nat.zero_add, fDiv_eq, fMod_eq, atI0, atI1, atI2, atI3, sz0, Nat.lt_add_left_iff_pos, msSeq, seqD, msRng, rg_eq, sFor, fIs, fIsNot, isN, Bool.not_true, Bool.not_false, Bool.true_and, Bool.false_and, Bool.and_true, Bool.or_true, Bool.true_or, decide_true, decide_false])]
      rw [seq_nx (ρ' := [some (.imm (U)), some (.lst (acc')), o']) ((if_t (ρ' := [some (.imm (U)), some (.lst ([])), none]) (by simp (disch := omega) only [enI, sSeq, sDP, bs, mBin, mBinL, bd, mDG, List.getElem?_cons_zero, List.getElem?_cons_succ, lift, mC, mV, mVL, fAdd, fSub, if_true, if_false, Bool.false_eq_true, List.set_cons_zero, List.set_cons_succ, sIf, mCmp, mCall, mCons, mNil, pu, gLen, List.length_map, fI, sRet, sRetL, sNx, fIxL, fIxT, endS, sSet, sSetL, sDrop, mTup, mLst, fz, mUn, bl, mAnd, mOr, mNot, mIf, mTru, mTruL, truth, mB, mAndV, mOrV, mNotV, isB, mIxL, mSl, mSlL, mPt, mNoP, pI, fSl, fSlL, mCallL, mPk, mIsi, gTuple, gList, gMax, fNeg, mCF, mCFL, mCS, mfn, mfnS, List.length_cons, List.length_nil, List.map_cons, List.map_nil, List.cons_append, List.nil_append, List.replicate, List.append_nil, Nat.reduceSub, Nat.reduceAdd, Nat.reduceLT, Nat.zero_add, fDiv_eq, fMod_eq, atI0, atI1, atI2, atI3, sz0, Nat.lt_add_left_iff_pos, msSeq, seqD, msRng, rg_eq, sFor, fIs, fIsNot, isN, Bool.not_true, Bool.not_false, Bool.true_and, Bool.false_and, Bool.and_true, Bool.or_true, Bool.true_or, decide_true, decide_false, x0, n2])).trans ((for_ok (ds := toDs ks) (ρ' := [some (.imm (U)), some (.lst ([])), none]) (by simp (disch := omega) only [enI, sSeq, sDP, bs, mBin, mBinL, bd, mDG, List.getElem?_cons_zero, List.getElem?_cons_succ, lift, mC, mV, mVL, fAdd, fSub, if_true, if_false, Bool.false_eq_true, List.set_cons_zero, List.set_cons_succ, sIf, mCmp, mCall, mCons, mNil, pu, gLen, List.length_map, fI, sRet, sRetL, sNx, fIxL, fIxT, endS, sSet, sSetL, sDrop, mTup, mLst, fz, mUn, bl, mAnd, mOr, mNot, mIf, mTru, mTruL, truth, mB, mAndV, mOrV, mNotV, isB, mIxL, mSl, mSlL, mPt, mNoP, pI, fSl, fSlL, mCallL, mPk, mIsi, gTuple, gList, gMax, fNeg, mCF, mCFL, mCS, mfn, mfnS, List.length_cons, List.length_nil, List.map_cons, List.map_nil, List.cons_append, List.nil_append, List.replicate, List.append_nil, Nat.reduceSub, Nat.reduceAdd, Nat.reduceLT, Nat.zero_add, fDiv_eq, fMod_eq, atI0, atI1, atI2, atI3, sz0, Nat.lt_add_left_iff_pos, msSeq, seqD, msRng, rg_eq, sFor, fIs, fIsNot, isN, Bool.not_true, Bool.not_false, Bool.true_and, Bool.false_and, Bool.and_true, Bool.or_true, Bool.true_or, decide_true, decide_false, x3])).trans e))]
      rfl
    | _ => exact leaf _ (fun n tk ks e => by cases e) f (by omega)
/-! ### a knot drawn -/
def F (x : Str) : List Str := if x = "" then [] else [x]
def Hx (x : Str) : Prop := x = "" ∨ Wk x
theorem ok_e : PyData.strOk "" = true := by decide +kernel
theorem Hx.ne {x : Str} (h : Hx x) : fNeW (.str x) (.str "") = some (!(x == ("" : Str))) := by
  rcases h with rfl | h
  · exact fNeW_str ok_e ok_e
  · exact fNeW_str h.1 ok_e
def cpK : Nat → Nat
  | 0 => 1
  | n + 1 => 1 + 3 * cpK n
theorem cpK_pos : ∀ n, 1 ≤ cpK n
  | 0 => Nat.le_refl _
  | n + 1 => by simp only [cpK]; omega
section
variable {a b c d e f : Str} {fr : Int}
abbrev eN (so1 : List (Str × D)) (bx : List D) (nm : Str) (dd : Int) (x : Str) (w : D) (ks : List Tr) (sz sp : Int) (k h : Option S1) : En := [some (.box bx), some (.dct so1), some (.imm (.str nm)), some (.imm (.int dd)), some (.imm (.str x)), some (.imm w), some (.lst (toDs ks)), some (.imm (.int sz)), some (.imm (.int sp)), k, h]
abbrev elB : MS := (sIf (mCmp fNeW (mV 10) (mC (.str ""))) (sDrop (mMut 6 fApp (mCons (mTup (mCons (mC (.str "foot")) (mCons (mV 10) mNil))) mNil))) (sDrop (mMut 6 fApp (mCons (mCM 0 1 m__law_leaf mNil) mNil))))
theorem else_ok (p q : Int) (gs : List Int) (lf : Int) (nm : Str) (dd : Int) (x : Str) (w : D) (ks : List Tr) (sz sp : Int) (k : Option S1) {hh : Str} (hx : Hx hh) (hl : ks.length ≤ 100) :
    ∃ (t : Tr) (p' q' : Int) (gs' : List Int) (lf' : Int), elB (eN (so a b c d e f fr lf) (Bxd p q gs) nm dd x w ks sz sp k (some (.imm (.str hh)))) = .nx (eN (so a b c d e f fr lf') (Bxd p' q' gs') nm dd x w (ks ++ [t]) sz sp k (some (.imm (.str hh)))) ∧ t.feet = F hh ∧ Nk 0 t ∧ t.sz = 1 := by
  have hne := hx.ne
  have tl := toDs_length ks
  by_cases hq : hh = ""
  · obtain ⟨t, p1, q1, gs1, lf1, e1, ht⟩ := leaf_ok (a := a) (b := b) (c := c) (d := d) (e := e) (f := f) (fr := fr) (lf := lf) p q gs
    have hb : (hh == ("" : Str)) = true := beq_iff_eq.mpr hq
    rw [hb, Bool.not_true] at hne
    refine ⟨t, p1, q1, gs1, lf1, ?_, ?_, ?_, ?_⟩
    · have c1 := mcm_ok (i := 0) (j := 1) (m := m__law_leaf) (ma := mNil) (ρ := eN (so a b c d e f fr lf) (Bxd p q gs) nm dd x w ks sz sp k (some (.imm (.str hh)))) rfl rfl rfl rfl rfl e1
      have c2 : mCons (mCM 0 1 m__law_leaf mNil) mNil (eN (so a b c d e f fr lf) (Bxd p q gs) nm dd x w ks sz sp k (some (.imm (.str hh)))) = .ok [t.toD] (eN (so a b c d e f fr lf1) (Bxd p1 q1 gs1) nm dd x w ks sz sp k (some (.imm (.str hh)))) := by
        unfold mCons
        rw [bd_ok c1]
        rfl
      refine (if_f (ρ' := eN (so a b c d e f fr lf) (Bxd p q gs) nm dd x w ks sz sp k (some (.imm (.str hh)))) (by simp (disch := omega) only [enI, sSeq, sDP, bs, mBin, mBinL, bd, mDG, List.getElem?_cons_zero, List.getElem?_cons_succ, lift, mC, mV, mVL, fAdd, fSub, if_true, if_false, Bool.false_eq_true, List.set_cons_zero, List.set_cons_succ, sIf, mCmp, mCall, mCons, mNil, pu, gLen, List.length_map, fI, sRet, sRetL, sNx, fIxL, fIxT, endS, sSet, sSetL, sDrop, mTup, mLst, fz, mUn, bl, mAnd, mOr, mNot, mIf, mTru, mTruL, truth, mB, mAndV, mOrV, mNotV, isB, mIxL, mSl, mSlL, mPt, mNoP, pI, fSl, fSlL, mCallL, mPk, mIsi, gTuple, gList, gMax, fNeg, mCF, mCFL, mCS, mfn, mfnS, List.length_cons, List.length_nil, List.map_cons, List.map_nil, List.cons_append, List.nil_append, List.replicate, List.append_nil, Nat.reduceSub, Nat.reduceAdd, Nat.reduceLT, Nat.zero_add, fDiv_eq, fMod_eq, atI0, atI1, atI2, atI3, sz0, Nat.lt_add_left_iff_pos, msSeq, seqD, msRng, rg_eq, sFor, fIs, fIsNot, isN, Bool.not_true, Bool.not_false, Bool.true_and, Bool.false_and, Bool.and_true, Bool.or_true, Bool.true_or, decide_true, decide_false, hne])).trans ?_
      rw [drop_ok (mut_ok (d := .none) rfl c2 rfl (fApp_eq (by omega)))]
      simp only [eN, toDs_append, toDs, List.set_cons_succ, List.set_cons_zero]
    · rw [hq]
      rcases ht with rfl | ⟨s, rfl⟩ | ⟨s, rfl⟩ <;> simp [Tr.feet, F]
    · rcases ht with rfl | ⟨s, rfl⟩ | ⟨s, rfl⟩ <;> exact trivial
    · rcases ht with rfl | ⟨s, rfl⟩ | ⟨s, rfl⟩ <;> simp [Tr.sz]
  · have hb : (hh == ("" : Str)) = false := beq_eq_false_iff_ne.mpr hq
    rw [hb, Bool.not_false] at hne
    refine ⟨.foot hh, p, q, gs, lf, ?_, by simp [Tr.feet, F, hq], trivial, by simp [Tr.sz]⟩
    have c2 : mCons (mTup (mCons (mC (.str "foot")) (mCons (mV 10) mNil))) mNil (eN (so a b c d e f fr lf) (Bxd p q gs) nm dd x w ks sz sp k (some (.imm (.str hh)))) = .ok [Tr.toD (.foot hh)] (eN (so a b c d e f fr lf) (Bxd p q gs) nm dd x w ks sz sp k (some (.imm (.str hh)))) := by
      simp (disch := omega) only [enI, sSeq, sDP, bs, mBin, mBinL, bd, mDG, List.getElem?_cons_zero, List.getElem?_cons_succ, lift, mC, mV, mVL, fAdd, fSub, if_true, if_false, Bool.false_eq_true, List.set_cons_zero, List.set_cons_succ, sIf, mCmp, mCall, mCons, mNil, pu, gLen, List.length_map, fI, sRet, sRetL, sNx, fIxL, fIxT, endS, sSet, sSetL, sDrop, mTup, mLst, fz, mUn, bl, mAnd, mOr, mNot, mIf, mTru, mTruL, truth, mB, mAndV, mOrV, mNotV, isB, mIxL, mSl, mSlL, mPt, mNoP, pI, fSl, fSlL, mCallL, mPk, mIsi, gTuple, gList, gMax, fNeg, mCF, mCFL, mCS, mfn, mfnS, List.length_cons, List.length_nil, List.map_cons, List.map_nil, List.cons_append, List.nil_append, List.replicate, List.append_nil, Nat.reduceSub, Nat.reduceAdd, Nat.reduceLT, Nat.zero_add, fDiv_eq, fMod_eq, atI0, atI1, atI2, atI3, sz0, Nat.lt_add_left_iff_pos, msSeq, seqD, msRng, rg_eq, sFor, fIs, fIsNot, isN, Bool.not_true, Bool.not_false, Bool.true_and, Bool.false_and, Bool.and_true, Bool.or_true, Bool.true_or, decide_true, decide_false, Tr.toD]
    refine (if_t (ρ' := eN (so a b c d e f fr lf) (Bxd p q gs) nm dd x w ks sz sp k (some (.imm (.str hh)))) (by simp (disch := omega) only [enI, sSeq, sDP, bs, mBin, mBinL, bd, mDG, List.getElem?_cons_zero, List.getElem?_cons_succ, lift, mC, mV, mVL, fAdd, fSub, if_true, if_false, Bool.false_eq_true, List.set_cons_zero, List.set_cons_succ, sIf, mCmp, mCall, mCons, mNil, pu, gLen, List.length_map, fI, sRet, sRetL, sNx, fIxL, fIxT, endS, sSet, sSetL, sDrop, mTup, mLst, fz, mUn, bl, mAnd, mOr, mNot, mIf, mTru, mTruL, truth, mB, mAndV, mOrV, mNotV, isB, mIxL, mSl, mSlL, mPt, mNoP, pI, fSl, fSlL, mCallL, mPk, mIsi, gTuple, gList, gMax, fNeg, mCF, mCFL, mCS, mfn, mfnS, List.length_cons, List.length_nil, List.map_cons, List.map_nil, List.cons_append, List.nil_append, List.replicate, List.append_nil, Nat.reduceSub, Nat.reduceAdd, Nat.reduceLT, Nat.zero_add, fDiv_eq, fMod_eq, atI0, atI1, atI2, atI3, sz0, Nat.lt_add_left_iff_pos, msSeq, seqD, msRng, rg_eq, sFor, fIs, fIsNot, isN, Bool.not_true, Bool.not_false, Bool.true_and, Bool.false_and, Bool.and_true, Bool.or_true, Bool.true_or, decide_true, decide_false, hne])).trans ?_
    rw [drop_ok (mut_ok (d := .none) rfl c2 rfl (fApp_eq (by omega)))]
    simp only [eN, toDs_append, toDs, List.set_cons_succ, List.set_cons_zero]
/-- what the drawing of a knot so deep promises -/
def KnOk (a b c d e f : Str) (fr : Int) (M : List D → List (Str × D) → List D → ReM) (n : Nat) : Prop := ∀ (nm x : Str) (p q : Int) (gs : List Int) (lf : Int), Hx x → ∃ (tk : Option (Str × Bool)) (ks : List Tr) (p' q' : Int) (gs' : List Int) (lf' : Int),
  M (Bxd p q gs) (so a b c d e f fr lf) [.str nm, .int (n : Int), .str x] = .ok (.imm (Tr.toD (.knot nm tk ks))) (Bxd p' q' gs') (so a b c d e f fr lf') ∧ 1 ≤ ks.length ∧ ks.length ≤ 3 ∧ Nk (n + 1) (.knot nm tk ks) ∧ (Tr.knot nm tk ks).sz ≤ cpK (n + 1) ∧ feets ks = F x
end
end K87

namespace K87
open PySem PySem.Spec PyProof.Rows L2 Pu Kt Kq
section
variable {a b c d e f : Str} {fr : Int}
abbrev knB (M : List D → List (Str × D) → List D → ReM) : MS := (sSeq (sSet 10 (mC (.str ""))) (sSeq (sIf (mCmp fEqW (mV 9) (mV 8)) (sSet 10 (mV 4)) sNx) (sIf (mAnd (mCmp fGt (mV 3) (mC (.int 0))) (mCmp fEqW (mCB 0 m__law_pick (mCons (mC (.int 3)) mNil)) (mC (.int 0)))) (sDrop (mMut 6 fApp (mCons (mCM 0 1 M (mCons (mBin fIx (mDG 1 "starts") (mCB 0 m__law_pick (mCons (mC (.int 2)) mNil))) (mCons (mBin fSub (mV 3) (mC (.int 1))) (mCons (mV 10) mNil)))) mNil))) elB)))
theorem turn_ok {M : List D → List (Str × D) → List D → ReM} {n : Nat} (hM : ∀ m, n = m + 1 → KnOk a b c d e f fr M m) (p q : Int) (gs : List Int) (lf : Int) (nm : Str) {x : Str} (hx : Hx x) (w : D) (ks : List Tr) (hl : ks.length ≤ 100) (sz : Int) (sp j : Nat) (h0 : Option S1) :
    ∃ (t : Tr) (p' q' : Int) (gs' : List Int) (lf' : Int) (h' : Option S1), knB M (eN (so a b c d e f fr lf) (Bxd p q gs) nm (n : Int) x w ks sz (sp : Int) (some (.imm (.int (j : Int)))) h0) = .nx (eN (so a b c d e f fr lf') (Bxd p' q' gs') nm (n : Int) x w (ks ++ [t]) sz (sp : Int) (some (.imm (.int (j : Int)))) h') ∧ t.feet = (if j = sp then F x else []) ∧ Nk n t ∧ t.sz ≤ cpK n := by
  have tl := toDs_length ks
  obtain ⟨hh, hhx, hF, e2⟩ : ∃ hh : Str, Hx hh ∧ F hh = (if j = sp then F x else []) ∧ (sIf (mCmp fEqW (mV 9) (mV 8)) (sSet 10 (mV 4)) sNx) (eN (so a b c d e f fr lf) (Bxd p q gs) nm (n : Int) x w ks sz (sp : Int) (some (.imm (.int (j : Int)))) (some (.imm (.str "")))) = .nx (eN (so a b c d e f fr lf) (Bxd p q gs) nm (n : Int) x w ks sz (sp : Int) (some (.imm (.int (j : Int)))) (some (.imm (.str hh)))) := by
    by_cases h : j = sp
    · refine ⟨x, hx, by rw [if_pos h], ?_⟩
      have h1 : ((j : Int) == (sp : Int)) = true := beq_iff_eq.mpr (by omega)
      simp (disch := omega) only [enI, sSeq, sDP, bs, mBin, mBinL, bd, mDG, List.getElem?_cons_zero, List.getElem?_cons_succ, lift, mC, mV, mVL, fAdd, fSub, if_true, if_false, Bool.false_eq_true, List.set_cons_zero, List.set_cons_succ, sIf, mCmp, mCall, mCons, mNil, pu, gLen, List.length_map, fI, sRet, sRetL, sNx, fIxL, fIxT, endS, sSet, sSetL, sDrop, mTup, mLst, fz, mUn, bl, mAnd, mOr, mNot, mIf, mTru, mTruL, truth, mB, mAndV, mOrV, mNotV, isB, mIxL, mSl, mSlL, mPt, mNoP, pI, fSl, fSlL, mCallL, mPk, mIsi, gTuple, gList, gMax, fNeg, mCF, mCFL, mCS, mfn, mfnS, List.length_cons, List.length_nil, List.map_cons, List.map_nil, List.cons_append, List.nil_append, List.replicate, List.append_nil, Nat.reduceSub, Nat.reduceAdd, Nat.reduceLT, Nat.zero_add, fDiv_eq, fMod_eq, atI0, atI1, atI2, atI3, sz0, Nat.lt_add_left_iff_pos, msSeq, seqD, msRng, rg_eq, sFor, fIs, fIsNot, isN, Bool.not_true, Bool.not_false, Bool.true_and, Bool.false_and, Bool.and_true, Bool.or_true, Bool.true_or, decide_true, decide_false, fEqW_int, h1]
    · refine ⟨"", .inl rfl, by rw [if_neg h]; simp [F], ?_⟩
      have h1 : ((j : Int) == (sp : Int)) = false := beqI h
      simp (disch := omega) only [enI, sSeq, sDP, bs, mBin, mBinL, bd, mDG, List.getElem?_cons_zero, List.getElem?_cons_succ, lift, mC, mV, mVL, fAdd, fSub, if_true, if_false, Bool.false_eq_true, List.set_cons_zero, List.set_cons_succ, sIf, mCmp, mCall, mCons, mNil, pu, gLen, List.length_map, fI, sRet, sRetL, sNx, fIxL, fIxT, endS, sSet, sSetL, sDrop, mTup, mLst, fz, mUn, bl, mAnd, mOr, mNot, mIf, mTru, mTruL, truth, mB, mAndV, mOrV, mNotV, isB, mIxL, mSl, mSlL, mPt, mNoP, pI, fSl, fSlL, mCallL, mPk, mIsi, gTuple, gList, gMax, fNeg, mCF, mCFL, mCS, mfn, mfnS, List.length_cons, List.length_nil, List.map_cons, List.map_nil, List.cons_append, List.nil_append, List.replicate, List.append_nil, Nat.reduceSub, Nat.reduceAdd, Nat.reduceLT, Nat.zero_add, fDiv_eq, fMod_eq, atI0, atI1, atI2, atI3, sz0, Nat.lt_add_left_iff_pos, msSeq, seqD, msRng, rg_eq, sFor, fIs, fIsNot, isN, Bool.not_true, Bool.not_false, Bool.true_and, Bool.false_and, Bool.and_true, Bool.or_true, Bool.true_or, decide_true, decide_false, fEqW_int, h1]
  have e1 : sSet 10 (mC (.str "")) (eN (so a b c d e f fr lf) (Bxd p q gs) nm (n : Int) x w ks sz (sp : Int) (some (.imm (.int (j : Int)))) h0) = .nx (eN (so a b c d e f fr lf) (Bxd p q gs) nm (n : Int) x w ks sz (sp : Int) (some (.imm (.int (j : Int)))) (some (.imm (.str "")))) := by
    simp (disch := omega) only [enI, sSeq, sDP, bs, mBin, mBinL, bd, mDG, List.getElem?_cons_zero, List.getElem?_cons_succ, lift, mC, mV, mVL, fAdd, fSub, if_true, if_false, Bool.false_eq_true, List.set_cons_zero, List.set_cons_succ, sIf, mCmp, mCall, mCons, mNil, pu, gLen, List.length_map, fI, sRet, sRetL, sNx, fIxL, fIxT, endS, sSet, sSetL, sDrop, mTup, mLst, fz, mUn, bl, mAnd, mOr, mNot, mIf, mTru, mTruL, truth, mB, mAndV, mOrV, mNotV, isB, mIxL, mSl, mSlL, mPt, mNoP, pI, fSl, fSlL, mCallL, mPk, mIsi, gTuple, gList, gMax, fNeg, mCF, mCFL, mCS, mfn, mfnS, List.length_cons, List.length_nil, List.map_cons, List.map_nil, List.cons_append, List.nil_append, List.replicate, List.append_nil, Nat.reduceSub, Nat.reduceAdd, Nat.reduceLT, Nat.zero_add, fDiv_eq, fMod_eq, atI0, atI1, atI2, atI3, sz0, Nat.lt_add_left_iff_pos, msSeq, seqD, msRng, rg_eq, sFor, fIs, fIsNot, isN, Bool.not_true, Bool.not_false, Bool.true_and, Bool.false_and, Bool.and_true, Bool.or_true, Bool.true_or, decide_true, decide_false]
  unfold knB
  rw [seq_nx e1, seq_nx e2]
  rw [← hF]
  cases n with
  | zero =>
    obtain ⟨t, p1, q1, gs1, lf1, e3, h3, h4, h5⟩ := else_ok (a := a) (b := b) (c := c) (d := d) (e := e) (f := f) (fr := fr) p q gs lf nm ((0 : Nat) : Int) x w ks sz (sp : Int) (some (.imm (.int (j : Int)))) hhx hl
    refine ⟨t, p1, q1, gs1, lf1, _, (if_f (ρ' := eN (so a b c d e f fr lf) (Bxd p q gs) nm ((0 : Nat) : Int) x w ks sz (sp : Int) (some (.imm (.int (j : Int)))) (some (.imm (.str hh)))) ?_).trans e3, h3, h4, by rw [h5]; exact Nat.le_refl _⟩
    have h1 : decide ((0 : Int) < ((0 : Nat) : Int)) = false := by decide
    simp (disch := omega) only [mAnd, bd, mCmp, mV, mC, pu, lift, List.getElem?_cons_zero, List.getElem?_cons_succ, fGt, fI, h1, Bool.false_eq_true, if_false]
  | succ m =>
    have h1 : decide ((0 : Int) < ((m + 1 : Nat) : Int)) = true := decide_eq_true (by omega)
    obtain ⟨r, p1, q1, gs1, e3, hr⟩ := pick_ok (n := 3) (by omega) (by omega) p q gs
    have e3 : m__law_pick (Bxd p q gs) [.int 3] = .ok (.imm (.int r)) (Bxd p1 q1 gs1) := e3
    by_cases hr0 : r = 0
    · subst hr0
      obtain ⟨r2, p2, q2, gs2, e4, hr2⟩ := pick_ok (n := 2) (by omega) (by omega) p1 q1 gs1
      have e4 : m__law_pick (Bxd p1 q1 gs1) [.int 2] = .ok (.imm (.int r2)) (Bxd p2 q2 gs2) := e4
      obtain ⟨z, hz, ez⟩ := two (x := .str c) (y := .str d) (i := (r2 : Int)) (by omega) (by omega)
      obtain ⟨s, rfl⟩ : ∃ s, z = .str s := by rcases hz with rfl | rfl <;> exact ⟨_, rfl⟩
      obtain ⟨tk, ks1, p3, q3, gs3, lf3, e5, g1, g2, g3, g4, g5⟩ := hM m rfl s hh p2 q2 gs2 lf hhx
      have em : ((m + 1 : Nat) : Int) - 1 = (m : Int) := by omega
      refine ⟨.knot s tk ks1, p3, q3, gs3, lf3, some (.imm (.str hh)), ?_, by simp only [Tr.feet]; exact g5, g3, g4⟩
      have b0 : (((0 : Nat) : Int) == 0) = true := rfl
      refine (if_t (ρ' := eN (so a b c d e f fr lf) (Bxd p1 q1 gs1) nm ((m + 1 : Nat) : Int) x w ks sz (sp : Int) (some (.imm (.int (j : Int)))) (some (.imm (.str hh)))) ?_).trans ?_
      · simp (disch := omega) only [enI, sSeq, sDP, bs, mBin, mBinL, bd, mDG, List.getElem?_cons_zero, List.getElem?_cons_succ, lift, mC, mV, mVL, fAdd, fSub, if_true, if_false, Bool.false_eq_true, List.set_cons_zero, List.set_cons_succ, sIf, mCmp, mCall, mCons, mNil, pu, gLen, List.length_map, fI, sRet, sRetL, sNx, fIxL, fIxT, endS, sSet, sSetL, sDrop, mTup, mLst, fz, mUn, bl, mAnd, mOr, mNot, mIf, mTru, mTruL, truth, mB, mAndV, mOrV, mNotV, isB, mIxL, mSl, mSlL, mPt, mNoP, pI, fSl, fSlL, mCallL, mPk, mIsi, gTuple, gList, gMax, fNeg, mCF, mCFL, mCS, mfn, mfnS, List.length_cons, List.length_nil, List.map_cons, List.map_nil, List.cons_append, List.nil_append, List.replicate, List.append_nil, Nat.reduceSub, Nat.reduceAdd, Nat.reduceLT, Nat.zero_add, fDiv_eq, fMod_eq, atI0, atI1, atI2, atI3, sz0, Nat.lt_add_left_iff_pos, msSeq, seqD, msRng, rg_eq, sFor, fIs, fIsNot, isN, Bool.not_true, Bool.not_false, Bool.true_and, Bool.false_and, Bool.and_true, Bool.or_true, Bool.true_or, decide_true, decide_false, mCB, h1, e3, fEqW_int, b0]
      · have a1 : (mCons (mBin fIx (mDG 1 "starts") (mCB 0 m__law_pick (mCons (mC (.int 2)) mNil))) (mCons (mBin fSub (mV 3) (mC (.int 1))) (mCons (mV 10) mNil))) (eN (so a b c d e f fr lf) (Bxd p1 q1 gs1) nm ((m + 1 : Nat) : Int) x w ks sz (sp : Int) (some (.imm (.int (j : Int)))) (some (.imm (.str hh)))) = .ok [.str s, .int (m : Int), .str hh] (eN (so a b c d e f fr lf) (Bxd p2 q2 gs2) nm ((m + 1 : Nat) : Int) x w ks sz (sp : Int) (some (.imm (.int (j : Int)))) (some (.imm (.str hh)))) := by
          simp (disch := omega) only [enI, sSeq, sDP, bs, mBin, mBinL, bd, mDG, List.getElem?_cons_zero, List.getElem?_cons_succ, lift, mC, mV, mVL, fAdd, fSub, if_true, if_false, Bool.false_eq_true, List.set_cons_zero, List.set_cons_succ, sIf, mCmp, mCall, mCons, mNil, pu, gLen, List.length_map, fI, sRet, sRetL, sNx, fIxL, fIxT, endS, sSet, sSetL, sDrop, mTup, mLst, fz, mUn, bl, mAnd, mOr, mNot, mIf, mTru, mTruL, truth, mB, mAndV, mOrV, mNotV, isB, mIxL, mSl, mSlL, mPt, mNoP, pI, fSl, fSlL, mCallL, mPk, mIsi, gTuple, gList, gMax, fNeg, mCF, mCFL, mCS, mfn, mfnS, List.length_cons, List.length_nil, List.map_cons, List.map_nil, List.cons_append, List.nil_append, List.replicate, List.append_nil, Nat.reduceSub, Nat.reduceAdd, Nat.reduceLT, Nat.zero_add, fDiv_eq, fMod_eq, atI0, atI1, atI2, atI3, sz0, Nat.lt_add_left_iff_pos, msSeq, seqD, msRng, rg_eq, sFor, fIs, fIsNot, isN, Bool.not_true, Bool.not_false, Bool.true_and, Bool.false_and, Bool.and_true, Bool.or_true, Bool.true_or, decide_true, decide_false, mCB, v_starts, e4, ez, em]
        have a2 := mcm_ok (i := 0) (j := 1) (m := M) rfl rfl a1 rfl rfl e5
        have a3 : mCons (mCM 0 1 M (mCons (mBin fIx (mDG 1 "starts") (mCB 0 m__law_pick (mCons (mC (.int 2)) mNil))) (mCons (mBin fSub (mV 3) (mC (.int 1))) (mCons (mV 10) mNil)))) mNil (eN (so a b c d e f fr lf) (Bxd p1 q1 gs1) nm ((m + 1 : Nat) : Int) x w ks sz (sp : Int) (some (.imm (.int (j : Int)))) (some (.imm (.str hh)))) = .ok [Tr.toD (.knot s tk ks1)] (eN (so a b c d e f fr lf3) (Bxd p3 q3 gs3) nm ((m + 1 : Nat) : Int) x w ks sz (sp : Int) (some (.imm (.int (j : Int)))) (some (.imm (.str hh)))) := by
          unfold mCons
          unfold mCons at a2
          rw [bd_ok a2]
          rfl
        rw [drop_ok (mut_ok (d := .none) rfl a3 rfl (fApp_eq (by omega)))]
        simp only [eN, toDs_append, toDs, List.set_cons_succ, List.set_cons_zero]
    · have b0 : ((r : Int) == 0) = false := beq_eq_false_iff_ne.mpr (by omega)
      obtain ⟨t, p2, q2, gs2, lf2, e4, h3, h4, h5⟩ := else_ok (a := a) (b := b) (c := c) (d := d) (e := e) (f := f) (fr := fr) p1 q1 gs1 lf nm ((m + 1 : Nat) : Int) x w ks sz (sp : Int) (some (.imm (.int (j : Int)))) hhx hl
      refine ⟨t, p2, q2, gs2, lf2, _, (if_f (ρ' := eN (so a b c d e f fr lf) (Bxd p1 q1 gs1) nm ((m + 1 : Nat) : Int) x w ks sz (sp : Int) (some (.imm (.int (j : Int)))) (some (.imm (.str hh)))) ?_).trans e4, h3, h4.le (Nat.zero_le _), by rw [h5]; exact cpK_pos _⟩
      simp (disch := omega) only [enI, sSeq, sDP, bs, mBin, mBinL, bd, mDG, List.getElem?_cons_zero, List.getElem?_cons_succ, lift, mC, mV, mVL, fAdd, fSub, if_true, if_false, Bool.false_eq_true, List.set_cons_zero, List.set_cons_succ, sIf, mCmp, mCall, mCons, mNil, pu, gLen, List.length_map, fI, sRet, sRetL, sNx, fIxL, fIxT, endS, sSet, sSetL, sDrop, mTup, mLst, fz, mUn, bl, mAnd, mOr, mNot, mIf, mTru, mTruL, truth, mB, mAndV, mOrV, mNotV, isB, mIxL, mSl, mSlL, mPt, mNoP, pI, fSl, fSlL, mCallL, mPk, mIsi, gTuple, gList, gMax, fNeg, mCF, mCFL, mCS, mfn, mfnS, List.length_cons, List.length_nil, List.map_cons, List.map_nil, List.cons_append, List.nil_append, List.replicate, List.append_nil, Nat.reduceSub, Nat.reduceAdd, Nat.reduceLT, Nat.zero_add, fDiv_eq, fMod_eq, atI0, atI1, atI2, atI3, sz0, Nat.lt_add_left_iff_pos, msSeq, seqD, msRng, rg_eq, sFor, fIs, fIsNot, isN, Bool.not_true, Bool.not_false, Bool.true_and, Bool.false_and, Bool.and_true, Bool.or_true, Bool.true_or, decide_true, decide_false, mCB, h1, e3, fEqW_int, b0]
theorem knot_step {M : List D → List (Str × D) → List D → ReM} {n : Nat} (hM : ∀ m, n = m + 1 → KnOk a b c d e f fr M m) : KnOk a b c d e f fr (mfnM 11 (b__law_knot M)) n := by
  intro nm x p q gs lf hx
  obtain ⟨tk, p1, q1, gs1, lf1, e1⟩ := worn_ok (a := a) (b := b) (c := c) (d := d) (e := e) (f := f) (fr := fr) (lf := lf) p q gs
  obtain ⟨r, p2, q2, gs2, e2, hr⟩ := pick_ok (n := 3) (by omega) (by omega) p1 q1 gs1
  have e2 : m__law_pick (Bxd p1 q1 gs1) [.int 3] = .ok (.imm (.int r)) (Bxd p2 q2 gs2) := e2
  obtain ⟨r4, p3, q3, gs3, e3, hr4⟩ := pick_ok (n := 4) (by omega) (by omega) p2 q2 gs2
  have e3 : m__law_pick (Bxd p2 q2 gs2) [.int 4] = .ok (.imm (.int r4)) (Bxd p3 q3 gs3) := e3
  have er : (1 : Int) + (r : Int) = ((r + 1 : Nat) : Int) := by omega
  have er2 : ((r + 1 : Nat) : Int) - 1 = (r : Int) := by omega
  obtain ⟨sp, p4, q4, gs4, hsp, e4⟩ : ∃ (sp : Nat) (p4 q4 : Int) (gs4 : List Int), sp < r + 1 ∧ (sIf (mCmp fLt (mCB 0 m__law_pick (mCons (mC (.int 4)) mNil)) (mDG 1 "free")) (sSet 8 (mCB 0 m__law_pick (mCons (mV 7) mNil))) sNx) (eN (so a b c d e f fr lf1) (Bxd p2 q2 gs2) nm (n : Int) x (takD tk) [] ((r + 1 : Nat) : Int) (r : Int) none none) = .nx (eN (so a b c d e f fr lf1) (Bxd p4 q4 gs4) nm (n : Int) x (takD tk) [] ((r + 1 : Nat) : Int) (sp : Int) none none) := by
    cases h : decide ((r4 : Int) < fr) with
    | true =>
      obtain ⟨r5, p4, q4, gs4, e5, hr5⟩ := pick_ok (n := r + 1) (by omega) (by omega) p3 q3 gs3
      refine ⟨r5, p4, q4, gs4, hr5, ?_⟩
      generalize toDs [] = W
      simp (disch := omega) only [enI, sSeq, sDP, bs, mBin, mBinL, bd, mDG, List.getElem?_cons_zero, List.getElem?_cons_succ, lift, mC, mV, mVL, fAdd, fSub, if_true, if_false, Bool.false_eq_true, List.set_cons_zero, List.set_cons_succ, sIf, mCmp, mCall, mCons, mNil, pu, gLen, List.length_map, fI, sRet, sRetL, sNx, fIxL, fIxT, endS, sSet, sSetL, sDrop, mTup, mLst, fz, mUn, bl, mAnd, mOr, mNot, mIf, mTru, mTruL, truth, mB, mAndV, mOrV, mNotV, isB, mIxL, mSl, mSlL, mPt, mNoP, pI, fSl, fSlL, mCallL, mPk, mIsi, gTuple, gList, gMax, fNeg, mCF, mCFL, mCS, mfn, mfnS, List.length_cons, List.length_nil, List.map_cons, List.map_nil, List.cons_append, List.nil_append, List.replicate, List.append_nil, Nat.reduceSub, Nat.reduceAdd, Nat.reduceLT, Nat.zero_add, fDiv_eq, fMod_eq, atI0, atI1, atI2, atI3, sz0, Nat.lt_add_left_iff_pos, msSeq, seqD, msRng, rg_eq, sFor, fIs, fIsNot, isN, Bool.not_true, Bool.not_false, Bool.true_and, Bool.false_and, Bool.and_true, Bool.or_true, Bool.true_or, decide_true, decide_false, mCB, e3, v_free, h, e5]
    | false =>
      refine ⟨r, p3, q3, gs3, by omega, ?_⟩
      generalize toDs [] = W
      simp (disch := omega) only [enI, sSeq, sDP, bs, mBin, mBinL, bd, mDG, List.getElem?_cons_zero, List.getElem?_cons_succ, lift, mC, mV, mVL, fAdd, fSub, if_true, if_false, Bool.false_eq_true, List.set_cons_zero, List.set_cons_succ, sIf, mCmp, mCall, mCons, mNil, pu, gLen, List.length_map, fI, sRet, sRetL, sNx, fIxL, fIxT, endS, sSet, sSetL, sDrop, mTup, mLst, fz, mUn, bl, mAnd, mOr, mNot, mIf, mTru, mTruL, truth, mB, mAndV, mOrV, mNotV, isB, mIxL, mSl, mSlL, mPt, mNoP, pI, fSl, fSlL, mCallL, mPk, mIsi, gTuple, gList, gMax, fNeg, mCF, mCFL, mCS, mfn, mfnS, List.length_cons, List.length_nil, List.map_cons, List.map_nil, List.cons_append, List.nil_append, List.replicate, List.append_nil, Nat.reduceSub, Nat.reduceAdd, Nat.reduceLT, Nat.zero_add, fDiv_eq, fMod_eq, atI0, atI1, atI2, atI3, sz0, Nat.lt_add_left_iff_pos, msSeq, seqD, msRng, rg_eq, sFor, fIs, fIsNot, isN, Bool.not_true, Bool.not_false, Bool.true_and, Bool.false_and, Bool.and_true, Bool.or_true, Bool.true_or, decide_true, decide_false, mCB, e3, v_free, h]
  obtain ⟨ρ', e5, ks, p5, q5, gs5, lf5, k5, h5, rfl, hk1, hk2, hk3⟩ := for_inv (f := gN 9) (b := knB M)
    (fun i ρ => ∃ (ks : List Tr) (p5 q5 : Int) (gs5 : List Int) (lf5 : Int) (k5 h5 : Option S1), ρ = eN (so a b c d e f fr lf5) (Bxd p5 q5 gs5) nm (n : Int) x (takD tk) ks ((r + 1 : Nat) : Int) (sp : Int) k5 h5 ∧ ks.length = i ∧ feets ks = (if sp < i then F x else []) ∧ ∀ t ∈ ks, Nk n t ∧ t.sz ≤ cpK n)
    (rngD (r + 1)) 0 (eN (so a b c d e f fr lf1) (Bxd p4 q4 gs4) nm (n : Int) x (takD tk) [] ((r + 1 : Nat) : Int) (sp : Int) none none) ⟨[], p4, q4, gs4, lf1, none, none, rfl, rfl, by simp [feets], fun t h => by cases h⟩ (fun j dd ρ hd ⟨ks, p5, q5, gs5, lf5, k5, h5, e, hk1, hk2, hk3⟩ => by
      subst e
      obtain ⟨rfl, hj⟩ := rng_get hd
      rw [Nat.zero_add] at hk1 hk2 ⊢
      obtain ⟨t, p6, q6, gs6, lf6, h6, e6, g1, g2, g3⟩ := turn_ok hM p5 q5 gs5 lf5 nm hx (takD tk) ks (by omega) ((r + 1 : Nat) : Int) sp j h5
      refine ⟨_, rfl, _, e6, ks ++ [t], p6, q6, gs6, lf6, _, h6, rfl, by rw [List.length_append, List.length_singleton, hk1], ?_, fun y hy => ?_⟩
      · rw [feets_append, hk2]
        simp only [feets, List.append_nil, g1]
        by_cases h1 : sp < j
        · rw [if_pos h1, if_neg (by omega), if_pos (by omega), List.append_nil]
        · rw [if_neg h1, List.nil_append]
          by_cases h2 : j = sp
          · rw [if_pos h2, if_pos (by omega)]
          · rw [if_neg h2, if_neg (by omega)]
      · rcases List.mem_append.mp hy with hy | hy
        · exact hk3 y hy
        · rw [List.mem_singleton.mp hy]; exact ⟨g2, g3⟩)
  rw [rng_len, Nat.zero_add] at hk1 hk2
  rw [if_pos hsp] at hk2
  have hsz : szs ks ≤ ks.length * cpK n := szs_le fun t ht => (hk3 t ht).2
  have hsz2 : ks.length * cpK n ≤ 3 * cpK n := Nat.mul_le_mul_right _ (by omega)
  refine ⟨tk, ks, p5, q5, gs5, lf5, mfnM_rt (ρ' := [some (.imm (.str nm)), some (.imm (.int (n : Int))), some (.imm (.str x)), some (.imm (takD tk)), some (.imm (.list (toDs ks))), some (.imm (.int ((r + 1 : Nat) : Int))), some (.imm (.int (sp : Int))), k5, h5]) ?_, by omega, by omega, ⟨by omega, by omega, fun t ht => (hk3 t ht).1⟩, by simp only [Tr.sz, cpK]; omega, hk2⟩
  show b__law_knot M [some (.box (Bxd p q gs)), some (.dct (so a b c d e f fr lf)), some (.imm (.str ( nm))), some (.imm (.int ( (n : Int)))), some (.imm (.str ( x))), none, none, none, none, none, none] = _
  unfold b__law_knot
  have s1 := mcm_ok (i := 0) (j := 1) (m := m__law_worn) (ma := mNil) (ρ := [some (.box (Bxd p q gs)), some (.dct (so a b c d e f fr lf)), some (.imm (.str ( nm))), some (.imm (.int ( (n : Int)))), some (.imm (.str ( x))), none, none, none, none, none, none]) rfl rfl rfl rfl rfl e1
  rw [seq_nx (set_ok s1 (by simp))]
  rw [seq_nx (ρ' := [some (.box (Bxd p1 q1 gs1)), some (.dct (so a b c d e f fr lf1)), some (.imm (.str ( nm))), some (.imm (.int ( (n : Int)))), some (.imm (.str ( x))), some (.imm (takD tk)), some (.lst ([])), none, none, none, none]) (by simp (disch := omega) only [enI, sSeq, sDP, bs, mBin, mBinL, bd, mDG, List.getElem?_cons_zero, List.getElem?_cons_succ, lift, mC, mV, mVL, fAdd, fSub, if_true, if_false, Bool.false_eq_true, List.set_cons_zero, List.set_cons_succ, sIf, mCmp, mCall, mCons, mNil, pu, gLen, List.length_map, fI, sRet, sRetL, sNx, fIxL, fIxT, endS, sSet, sSetL, sDrop, mTup, mLst, fz, mUn, bl, mAnd, mOr, mNot, mIf, mTru, mTruL, truth, mB, mAndV, mOrV, mNotV, isB, mIxL, mSl, mSlL, mPt, mNoP, pI, fSl, fSlL, mCallL, mPk, mIsi, gTuple, gList, gMax, fNeg, mCF, mCFL, mCS, mfn, mfnS, List.length_cons, List.length_nil, List.map_cons, List.map_nil, List.cons_append, List.nil_append, List.replicate, List.append_nil, Nat.reduceSub, Nat.reduceAdd, Nat.reduceLT, Nat.zero_add, fDiv_eq, fMod_eq, atI0, atI1, atI2, atI3, sz0, Nat.lt_add_left_iff_pos, msSeq, seqD, msRng, rg_eq, sFor, fIs, fIsNot, isN, Bool.not_true, Bool.not_false, Bool.true_and, Bool.false_and, Bool.and_true, Bool.or_true, Bool.true_or, decide_true, decide_false])]
  rw [seq_nx (ρ' := [some (.box (Bxd p2 q2 gs2)), some (.dct (so a b c d e f fr lf1)), some (.imm (.str ( nm))), some (.imm (.int ( (n : Int)))), some (.imm (.str ( x))), some (.imm (takD tk)), some (.lst ([])), some (.imm (.int ( ((r + 1 : Nat) : Int)))), none, none, none]) (by simp (disch := omega) only [enI, sSeq, sDP, bs, mBin, mBinL, bd, mDG, List.getElem?_cons_zero, List.getElem?_cons_succ, lift, mC, mV, mVL, fAdd, fSub, if_true, if_false, Bool.false_eq_true, List.set_cons_zero, List.set_cons_succ, sIf, mCmp, mCall, mCons, mNil, pu, gLen, List.length_map, fI, sRet, sRetL, sNx, fIxL, fIxT, endS, sSet, sSetL, sDrop, mTup, mLst, fz, mUn, bl, mAnd, mOr, mNot, mIf, mTru, mTruL, truth, mB, mAndV, mOrV, mNotV, isB, mIxL, mSl, mSlL, mPt, mNoP, pI, fSl, fSlL, mCallL, mPk, mIsi, gTuple, gList, gMax, fNeg, mCF, mCFL, mCS, mfn, mfnS, List.length_cons, List.length_nil, List.map_cons, List.map_nil, List.cons_append, List.nil_append, List.replicate, List.append_nil, Nat.reduceSub, Nat.reduceAdd, Nat.reduceLT, Nat.zero_add, fDiv_eq, fMod_eq, atI0, atI1, atI2, atI3, sz0, Nat.lt_add_left_iff_pos, msSeq, seqD, msRng, rg_eq, sFor, fIs, fIsNot, isN, Bool.not_true, Bool.not_false, Bool.true_and, Bool.false_and, Bool.and_true, Bool.or_true, Bool.true_or, decide_true, decide_false, mCB, e2, er])]
  rw [seq_nx (ρ' := eN (so a b c d e f fr lf1) (Bxd p2 q2 gs2) nm (n : Int) x (takD tk) [] ((r + 1 : Nat) : Int) (r : Int) none none) (by simp (disch := omega) only [enI, sSeq, sDP, bs, mBin, mBinL, bd, mDG, List.getElem?_cons_zero, List.getElem?_cons_succ, lift, mC, mV, mVL, fAdd, fSub, if_true, if_false, Bool.false_eq_true, List.set_cons_zero, List.set_cons_succ, sIf, mCmp, mCall, mCons, mNil, pu, gLen, List.length_map, fI, sRet, sRetL, sNx, fIxL, fIxT, endS, sSet, sSetL, sDrop, mTup, mLst, fz, mUn, bl, mAnd, mOr, mNot, mIf, mTru, mTruL, truth, mB, mAndV, mOrV, mNotV, isB, mIxL, mSl, mSlL, mPt, mNoP, pI, fSl, fSlL, mCallL, mPk, mIsi, gTuple, gList, gMax, fNeg, mCF, mCFL, mCS, mfn, mfnS, List.length_cons, List.length_nil, List.map_cons, List.map_nil, List.cons_append, List.nil_append, List.replicate, List.append_nil, Nat.reduceSub, Nat.reduceAdd, Nat.reduceLT, Nat.zero_add, fDiv_eq, fMod_eq, atI0, atI1, atI2, atI3, sz0, Nat.lt_add_left_iff_pos, msSeq, seqD, msRng, rg_eq, sFor, fIs, fIsNot, isN, Bool.not_true, Bool.not_false, Bool.true_and, Bool.false_and, Bool.and_true, Bool.or_true, Bool.true_or, decide_true, decide_false, er2]; simp only [eN, toDs])]
  rw [seq_nx (ρ' := eN (so a b c d e f fr lf1) (Bxd p4 q4 gs4) nm (n : Int) x (takD tk) [] ((r + 1 : Nat) : Int) (sp : Int) none none) e4]
  rw [seq_nx ((for_ok (ms := msRng (mCons (mV 7) mNil)) (ds := rngD (r + 1)) (rng_ok (j := r + 1) rfl (by omega))).trans e5)]
  have tl := toDs_length ks
  have ht : Tr.toD (.knot nm tk ks) = .tuple [.str "knot", .str nm, takD tk, .tuple (toDs ks)] := by simp only [Tr.toD]
  rw [ht]
  refine ret_ok ?_
  simp (disch := omega) only [enI, sSeq, sDP, bs, mBin, mBinL, bd, mDG, List.getElem?_cons_zero, List.getElem?_cons_succ, lift, mC, mV, mVL, fAdd, fSub, if_true, if_false, Bool.false_eq_true, List.set_cons_zero, List.set_cons_succ, sIf, mCmp, mCall, mCons, mNil, pu, gLen, List.length_map, fI, sRet, sRetL, sNx, fIxL, fIxT, endS, sSet, sSetL, sDrop, mTup, mLst, fz, mUn, bl, mAnd, mOr, mNot, mIf, mTru, mTruL, truth, mB, mAndV, mOrV, mNotV, isB, mIxL, mSl, mSlL, mPt, mNoP, pI, fSl, fSlL, mCallL, mPk, mIsi, gTuple, gList, gMax, fNeg, mCF, mCFL, mCS, mfn, mfnS, List.length_cons, List.length_nil, List.map_cons, List.map_nil, List.cons_append, List.nil_append, List.replicate, List.append_nil, Nat.reduceSub, Nat.reduceAdd, Nat.reduceLT, Nat.zero_add, fDiv_eq, fMod_eq, atI0, atI1, atI2, atI3, sz0, Nat.lt_add_left_iff_pos, msSeq, seqD, msRng, rg_eq, sFor, fIs, fIsNot, isN, Bool.not_true, Bool.not_false, Bool.true_and, Bool.false_and, Bool.and_true, Bool.or_true, Bool.true_or, decide_true, decide_false]
theorem knot_ok : ∀ (n fu : Nat), n < fu → KnOk a b c d e f fr (m__law_knot fu) n := by
  intro n
  induction n with
  | zero =>
    intro fu h
    obtain ⟨fu, rfl⟩ : ∃ g, fu = g + 1 := ⟨fu - 1, by omega⟩
    exact knot_step fun m h => by omega
  | succ n ih =>
    intro fu h
    obtain ⟨fu, rfl⟩ : ∃ g, fu = g + 1 := ⟨fu - 1, by omega⟩
    exact knot_step fun m h => by
      have : m = n := by omega
      subst this
      exact ih fu (by omega)
end
end K87

namespace K87
open PySem PySem.Spec PyProof.Rows L2 Pu Kt Kq
section
variable {a b c d e f : Str} {fr : Int}
theorem F_len (x : Str) : (F x).length ≤ 1 := by
  unfold F
  split <;> simp
abbrev eT (so1 : List (Str × D)) (bx : List D) (nm x : Str) (rm : Int) (t s : Option S1) : En := [some (.box bx), some (.dct so1), some (.imm (.str nm)), some (.imm (.str x)), some (.imm (.int rm)), t, s]
theorem tree_ok (p q : Int) (gs : List Int) (lf rm : Int) (nm : Str) {x : Str} (hx : Hx x) : ∃ (t : Tr) (p' q' : Int) (gs' : List Int) (lf' : Int), m__law_tree (Bxd p q gs) (so a b c d e f fr lf) [.str nm, .str x, .int rm] = .ok (.imm t.toD) (Bxd p' q' gs') (so a b c d e f fr lf') ∧ Gt t := by
  obtain ⟨tk, ks, p1, q1, gs1, lf1, e1, h1, h2, h3, h4, h5⟩ := knot_ok (a := a) (b := b) (c := c) (d := d) (e := e) (f := f) (fr := fr) 1 4 (by omega) nm x p q gs rm hx
  have e1 : m__law_knot 4 (Bxd p q gs) (so a b c d e f fr rm) [.str nm, .int 1, .str x] = .ok (.imm (Tr.toD (.knot nm tk ks))) (Bxd p1 q1 gs1) (so a b c d e f fr lf1) := e1
  have hz : szs ks + 1 = (Tr.knot nm tk ks).sz := by simp only [Tr.sz]; omega
  have hc2 : cpK (1 + 1) = 13 := rfl
  obtain ⟨l, e2, hl⟩ := signs_eq 2 (.knot nm tk ks) h3 (by omega) 6 (by omega)
  have hf := F_len x
  have gt0 : Gt (.knot nm tk ks) := ⟨h3.le (by omega), by omega, by simp only [Tr.feet]; rw [h5]; exact hf⟩
  have s6 : (6 : Nat) < sizeLine := lt_line (by omega)
  have s1 : sDP 1 "left" (mV 4) (eT (so a b c d e f fr lf) (Bxd p q gs) nm x rm none none) = .nx (eT (so a b c d e f fr rm) (Bxd p q gs) nm x rm none none) := by
    simp (disch := omega) only [enI, sSeq, sDP, bs, mBin, mBinL, bd, mDG, List.getElem?_cons_zero, List.getElem?_cons_succ, lift, mC, mV, mVL, fAdd, fSub, if_true, if_false, Bool.false_eq_true, List.set_cons_zero, List.set_cons_succ, sIf, mCmp, mCall, mCons, mNil, pu, gLen, List.length_map, fI, sRet, sRetL, sNx, fIxL, fIxT, endS, sSet, sSetL, sDrop, mTup, mLst, fz, mUn, bl, mAnd, mOr, mNot, mIf, mTru, mTruL, truth, mB, mAndV, mOrV, mNotV, isB, mIxL, mSl, mSlL, mPt, mNoP, pI, fSl, fSlL, mCallL, mPk, mIsi, gTuple, gList, gMax, fNeg, mCF, mCFL, mCS, mfn, mfnS, List.length_cons, List.length_nil, List.map_cons, List.map_nil, List.cons_append, List.nil_append, List.replicate, List.append_nil, Nat.reduceSub, Nat.reduceAdd, Nat.reduceLT, Nat.zero_add, fDiv_eq, fMod_eq, atI0, atI1, atI2, atI3, sz0, Nat.lt_add_left_iff_pos, msSeq, seqD, msRng, rg_eq, sFor, fIs, fIsNot, isN, Bool.not_true, Bool.not_false, Bool.true_and, Bool.false_and, Bool.and_true, Bool.or_true, Bool.true_or, decide_true, decide_false, s6, p_left]
  have s2 : sSet 5 (mCM 0 1 (m__law_knot 4) (mCons (mV 2) (mCons (mC (.int 1)) (mCons (mV 3) mNil)))) (eT (so a b c d e f fr rm) (Bxd p q gs) nm x rm none none) = .nx (eT (so a b c d e f fr lf1) (Bxd p1 q1 gs1) nm x rm (some (.imm (Tr.toD (.knot nm tk ks)))) none) := by
    have c1 := mcm_ok (i := 0) (j := 1) (m := m__law_knot 4) (ma := mCons (mV 2) (mCons (mC (.int 1)) (mCons (mV 3) mNil))) (ρ := eT (so a b c d e f fr rm) (Bxd p q gs) nm x rm none none) (ρ' := eT (so a b c d e f fr rm) (Bxd p q gs) nm x rm none none) (ds := [.str nm, .int 1, .str x]) rfl rfl rfl rfl rfl e1
    rw [set_ok c1 (by simp)]
    rfl
  have tt : Tr.toD (.knot nm tk ks) = .tuple [.str "knot", .str nm, takD tk, .tuple (toDs ks)] := by simp only [Tr.toD]
  have tl := toDs_length ks
  by_cases hp : 0 < l.length
  · have g0 : decide ((0 : Int) < (l.length : Int)) = true := decide_eq_true (by omega)
    refine ⟨.knot nm tk ks, p1, q1, gs1, lf1, mfnM_rt (ρ' := [some (.imm (.str nm)), some (.imm (.str x)), some (.imm (.int rm)), some (.imm (Tr.toD (.knot nm tk ks))), none]) ?_, gt0⟩
    show b__law_tree (eT (so a b c d e f fr lf) (Bxd p q gs) nm x rm none none) = _
    unfold b__law_tree
    rw [seq_nx s1, seq_nx s2]
    generalize m__law_signs 6 = M at e2
    generalize Tr.toD (.knot nm tk ks) = U at e2
    simp (disch := omega) only [enI, sSeq, sDP, bs, mBin, mBinL, bd, mDG, List.getElem?_cons_zero, List.getElem?_cons_succ, lift, mC, mV, mVL, fAdd, fSub, if_true, if_false, Bool.false_eq_true, List.set_cons_zero, List.set_cons_succ, sIf, mCmp, mCall, mCons, mNil, pu, gLen, List.length_map, fI, sRet, sRetL, sNx, fIxL, fIxT, endS, sSet, sSetL, sDrop, mTup, mLst, fz, mUn, bl, mAnd, mOr, mNot, mIf, mTru, mTruL, truth, mB, mAndV, mOrV, mNotV, isB, mIxL, mSl, mSlL, mPt, mNoP, pI, fSl, fSlL, mCallL, mPk, mIsi, gTuple, gList, gMax, fNeg, mCF, mCFL, mCS, mfn, mfnS, List.length_cons, List.length_nil, List.map_cons, List.map_nil, List.cons_append, List.nil_append, List.replicate, List.append_nil, Nat.reduceSub, Nat.reduceAdd, Nat.reduceLT, Nat.zero_add, fDiv_eq, fMod_eq, atI0, atI1, atI2, atI3, sz0, Nat.lt_add_left_iff_pos, msSeq, seqD, msRng, rg_eq, sFor, fIs, fIsNot, isN, Bool.not_true, Bool.not_false, Bool.true_and, Bool.false_and, Bool.and_true, Bool.or_true, Bool.true_or, decide_true, decide_false, e2, g0]
  · have g0 : decide ((0 : Int) < (l.length : Int)) = false := decide_eq_false (by omega)
    obtain ⟨r2, p2, q2, gs2, e3, hr2⟩ := pick_ok (n := 2) (by omega) (by omega) p1 q1 gs1
    obtain ⟨z, hz2, ez⟩ := two (x := .str a) (y := .str b) (i := (r2 : Int)) (by omega) (by omega)
    obtain ⟨s, rfl⟩ : ∃ s, z = .str s := by rcases hz2 with rfl | rfl <;> exact ⟨_, rfl⟩
    have s3 : (sIf (mCmp fGt (mCall gLen (mCons (fz (mCFL (m__law_signs 6) (mCons (mV 5) mNil))) mNil)) (mC (.int 0))) (sRet (mV 5)) sNx) (eT (so a b c d e f fr lf1) (Bxd p1 q1 gs1) nm x rm (some (.imm (Tr.toD (.knot nm tk ks)))) none) = .nx (eT (so a b c d e f fr lf1) (Bxd p1 q1 gs1) nm x rm (some (.imm (Tr.toD (.knot nm tk ks)))) none) := by
      generalize m__law_signs 6 = M at e2
      generalize Tr.toD (.knot nm tk ks) = U at e2
      simp (disch := omega) only [enI, sSeq, sDP, bs, mBin, mBinL, bd, mDG, List.getElem?_cons_zero, List.getElem?_cons_succ, lift, mC, mV, mVL, fAdd, fSub, if_true, if_false, Bool.false_eq_true, List.set_cons_zero, List.set_cons_succ, sIf, mCmp, mCall, mCons, mNil, pu, gLen, List.length_map, fI, sRet, sRetL, sNx, fIxL, fIxT, endS, sSet, sSetL, sDrop, mTup, mLst, fz, mUn, bl, mAnd, mOr, mNot, mIf, mTru, mTruL, truth, mB, mAndV, mOrV, mNotV, isB, mIxL, mSl, mSlL, mPt, mNoP, pI, fSl, fSlL, mCallL, mPk, mIsi, gTuple, gList, gMax, fNeg, mCF, mCFL, mCS, mfn, mfnS, List.length_cons, List.length_nil, List.map_cons, List.map_nil, List.cons_append, List.nil_append, List.replicate, List.append_nil, Nat.reduceSub, Nat.reduceAdd, Nat.reduceLT, Nat.zero_add, fDiv_eq, fMod_eq, atI0, atI1, atI2, atI3, sz0, Nat.lt_add_left_iff_pos, msSeq, seqD, msRng, rg_eq, sFor, fIs, fIsNot, isN, Bool.not_true, Bool.not_false, Bool.true_and, Bool.false_and, Bool.and_true, Bool.or_true, Bool.true_or, decide_true, decide_false, e2, g0]
    have s4 : (sSet 6 (mTup (mCons (mC (.str "sign")) (mCons (mBin fIx (mDG 1 "signs") (mCB 0 m__law_pick (mCons (mCall gLen (mCons (mDG 1 "signs") mNil)) mNil))) mNil)))) (eT (so a b c d e f fr lf1) (Bxd p1 q1 gs1) nm x rm (some (.imm (Tr.toD (.knot nm tk ks)))) none) = .nx (eT (so a b c d e f fr lf1) (Bxd p2 q2 gs2) nm x rm (some (.imm (Tr.toD (.knot nm tk ks)))) (some (.imm (Tr.toD (.sign s))))) := by
      generalize Tr.toD (.knot nm tk ks) = U
      simp (disch := omega) only [enI, sSeq, sDP, bs, mBin, mBinL, bd, mDG, List.getElem?_cons_zero, List.getElem?_cons_succ, lift, mC, mV, mVL, fAdd, fSub, if_true, if_false, Bool.false_eq_true, List.set_cons_zero, List.set_cons_succ, sIf, mCmp, mCall, mCons, mNil, pu, gLen, List.length_map, fI, sRet, sRetL, sNx, fIxL, fIxT, endS, sSet, sSetL, sDrop, mTup, mLst, fz, mUn, bl, mAnd, mOr, mNot, mIf, mTru, mTruL, truth, mB, mAndV, mOrV, mNotV, isB, mIxL, mSl, mSlL, mPt, mNoP, pI, fSl, fSlL, mCallL, mPk, mIsi, gTuple, gList, gMax, fNeg, mCF, mCFL, mCS, mfn, mfnS, List.length_cons, List.length_nil, List.map_cons, List.map_nil, List.cons_append, List.nil_append, List.replicate, List.append_nil, Nat.reduceSub, Nat.reduceAdd, Nat.reduceLT, Nat.zero_add, fDiv_eq, fMod_eq, atI0, atI1, atI2, atI3, sz0, Nat.lt_add_left_iff_pos, msSeq, seqD, msRng, rg_eq, sFor, fIs, fIsNot, isN, Bool.not_true, Bool.not_false, Bool.true_and, Bool.false_and, Bool.and_true, Bool.or_true, Bool.true_or, decide_true, decide_false, mCB, v_signs, e3, ez, Tr.toD]
    have front : Gt (.knot nm tk (.sign s :: ks)) := by
      refine ⟨Nk.le (k := 2) (by omega) ⟨by simp, by simp; omega, fun t ht => ?_⟩, by simp only [Tr.sz, szs]; omega, by simp only [Tr.feet, feets, List.nil_append]; rw [h5]; exact hf⟩
      rcases List.mem_cons.mp ht with rfl | ht
      · exact trivial
      · exact h3.2.2 t ht
    have back : Gt (.knot nm tk (ks ++ [.sign s])) := by
      refine ⟨Nk.le (k := 2) (by omega) ⟨by simp, by simp; omega, fun t ht => ?_⟩, by simp only [Tr.sz, szs_append, szs]; omega, by simp only [Tr.feet, feets_append, feets, List.append_nil]; rw [h5]; exact hf⟩
      rcases List.mem_append.mp ht with ht | ht
      · exact h3.2.2 t ht
      · rw [List.mem_singleton.mp ht]; exact trivial
    have tf : Tr.toD (.knot nm tk (.sign s :: ks)) = .tuple [.str "knot", .str nm, takD tk, .tuple (.tuple [.str "sign", .str s] :: toDs ks)] := by simp only [Tr.toD, toDs]
    have tb : Tr.toD (.knot nm tk (ks ++ [.sign s])) = .tuple [.str "knot", .str nm, takD tk, .tuple (toDs ks ++ [.tuple [.str "sign", .str s]])] := by simp only [Tr.toD, toDs_append, toDs]
    have fin : ∀ (p3 q3 : Int) (gs3 : List Int) (bo : Bool), (mOr (mCmp fLt (mDG 1 "free") (mC (.int 4))) (mCmp fEqW (mCB 0 m__law_pick (mCons (mC (.int 2)) mNil)) (mC (.int 0)))) (eT (so a b c d e f fr lf1) (Bxd p2 q2 gs2) nm x rm (some (.imm (Tr.toD (.knot nm tk ks)))) (some (.imm (Tr.toD (.sign s))))) = .ok bo (eT (so a b c d e f fr lf1) (Bxd p3 q3 gs3) nm x rm (some (.imm (Tr.toD (.knot nm tk ks)))) (some (.imm (Tr.toD (.sign s))))) →
        ∃ (t : Tr) (p' q' : Int) (gs' : List Int) (lf' : Int), m__law_tree (Bxd p q gs) (so a b c d e f fr lf) [.str nm, .str x, .int rm] = .ok (.imm t.toD) (Bxd p' q' gs') (so a b c d e f fr lf') ∧ Gt t := by
      intro p3 q3 gs3 bo e5
      cases bo with
      | true =>
        refine ⟨_, p3, q3, gs3, lf1, mfnM_rt (ρ' := [some (.imm (.str nm)), some (.imm (.str x)), some (.imm (.int rm)), some (.imm (Tr.toD (.knot nm tk ks))), some (.imm (Tr.toD (.sign s)))]) ?_, front⟩
        show b__law_tree (eT (so a b c d e f fr lf) (Bxd p q gs) nm x rm none none) = _
        unfold b__law_tree
        rw [seq_nx s1, seq_nx s2, seq_nx s3, seq_nx s4]
        refine seq_rt ((if_t e5).trans ?_)
        rw [tf, tt]
        generalize toDs ks = W at tl ⊢
        simp (disch := omega) only [enI, sSeq, sDP, bs, mBin, mBinL, bd, mDG, List.getElem?_cons_zero, List.getElem?_cons_succ, lift, mC, mV, mVL, fAdd, fSub, if_true, if_false, Bool.false_eq_true, List.set_cons_zero, List.set_cons_succ, sIf, mCmp, mCall, mCons, mNil, pu, gLen, List.length_map, fI, sRet, sRetL, sNx, fIxL, fIxT, endS, sSet, sSetL, sDrop, mTup, mLst, fz, mUn, bl, mAnd, mOr, mNot, mIf, mTru, mTruL, truth, mB, mAndV, mOrV, mNotV, isB, mIxL, mSl, mSlL, mPt, mNoP, pI, fSl, fSlL, mCallL, mPk, mIsi, gTuple, gList, gMax, fNeg, mCF, mCFL, mCS, mfn, mfnS, List.length_cons, List.length_nil, List.map_cons, List.map_nil, List.cons_append, List.nil_append, List.replicate, List.append_nil, Nat.reduceSub, Nat.reduceAdd, Nat.reduceLT, Nat.zero_add, fDiv_eq, fMod_eq, atI0, atI1, atI2, atI3, sz0, Nat.lt_add_left_iff_pos, msSeq, seqD, msRng, rg_eq, sFor, fIs, fIsNot, isN, Bool.not_true, Bool.not_false, Bool.true_and, Bool.false_and, Bool.and_true, Bool.or_true, Bool.true_or, decide_true, decide_false, cut3, Tr.toD]
      | false =>
        refine ⟨_, p3, q3, gs3, lf1, mfnM_rt (ρ' := [some (.imm (.str nm)), some (.imm (.str x)), some (.imm (.int rm)), some (.imm (Tr.toD (.knot nm tk ks))), some (.imm (Tr.toD (.sign s)))]) ?_, back⟩
        show b__law_tree (eT (so a b c d e f fr lf) (Bxd p q gs) nm x rm none none) = _
        unfold b__law_tree
        rw [seq_nx s1, seq_nx s2, seq_nx s3, seq_nx s4]
        rw [seq_nx (ρ' := eT (so a b c d e f fr lf1) (Bxd p3 q3 gs3) nm x rm (some (.imm (Tr.toD (.knot nm tk ks)))) (some (.imm (Tr.toD (.sign s))))) ((if_f (b := sNx) e5).trans rfl)]
        rw [tb, tt]
        generalize toDs ks = W at tl ⊢
        simp (disch := omega) only [enI, sSeq, sDP, bs, mBin, mBinL, bd, mDG, List.getElem?_cons_zero, List.getElem?_cons_succ, lift, mC, mV, mVL, fAdd, fSub, if_true, if_false, Bool.false_eq_true, List.set_cons_zero, List.set_cons_succ, sIf, mCmp, mCall, mCons, mNil, pu, gLen, List.length_map, fI, sRet, sRetL, sNx, fIxL, fIxT, endS, sSet, sSetL, sDrop, mTup, mLst, fz, mUn, bl, mAnd, mOr, mNot, mIf, mTru, mTruL, truth, mB, mAndV, mOrV, mNotV, isB, mIxL, mSl, mSlL, mPt, mNoP, pI, fSl, fSlL, mCallL, mPk, mIsi, gTuple, gList, gMax, fNeg, mCF, mCFL, mCS, mfn, mfnS, List.length_cons, List.length_nil, List.map_cons, List.map_nil, List.cons_append, List.nil_append, List.replicate, List.append_nil, Nat.reduceSub, Nat.reduceAdd, Nat.reduceLT, Nat.zero_add, fDiv_eq, fMod_eq, atI0, atI1, atI2, atI3, sz0, Nat.lt_add_left_iff_pos, msSeq, seqD, msRng, rg_eq, sFor, fIs, fIsNot, isN, Bool.not_true, Bool.not_false, Bool.true_and, Bool.false_and, Bool.and_true, Bool.or_true, Bool.true_or, decide_true, decide_false, cut3, Tr.toD]
    cases h : decide (fr < 4) with
    | true =>
      refine fin p2 q2 gs2 true ?_
      generalize Tr.toD (.knot nm tk ks) = U
      simp (disch := omega) only [enI, sSeq, sDP, bs, mBin, mBinL, bd, mDG, List.getElem?_cons_zero, List.getElem?_cons_succ, lift, mC, mV, mVL, fAdd, fSub, if_true, if_false, Bool.false_eq_true, List.set_cons_zero, List.set_cons_succ, sIf, mCmp, mCall, mCons, mNil, pu, gLen, List.length_map, fI, sRet, sRetL, sNx, fIxL, fIxT, endS, sSet, sSetL, sDrop, mTup, mLst, fz, mUn, bl, mAnd, mOr, mNot, mIf, mTru, mTruL, truth, mB, mAndV, mOrV, mNotV, isB, mIxL, mSl, mSlL, mPt, mNoP, pI, fSl, fSlL, mCallL, mPk, mIsi, gTuple, gList, gMax, fNeg, mCF, mCFL, mCS, mfn, mfnS, List.length_cons, List.length_nil, List.map_cons, List.map_nil, List.cons_append, List.nil_append, List.replicate, List.append_nil, Nat.reduceSub, Nat.reduceAdd, Nat.reduceLT, Nat.zero_add, fDiv_eq, fMod_eq, atI0, atI1, atI2, atI3, sz0, Nat.lt_add_left_iff_pos, msSeq, seqD, msRng, rg_eq, sFor, fIs, fIsNot, isN, Bool.not_true, Bool.not_false, Bool.true_and, Bool.false_and, Bool.and_true, Bool.or_true, Bool.true_or, decide_true, decide_false, v_free, h]
    | false =>
      obtain ⟨r3, p3, q3, gs3, e4, hr3⟩ := pick_ok (n := 2) (by omega) (by omega) p2 q2 gs2
      have e4 : m__law_pick (Bxd p2 q2 gs2) [.int 2] = .ok (.imm (.int r3)) (Bxd p3 q3 gs3) := e4
      refine fin p3 q3 gs3 ((r3 : Int) == 0) ?_
      generalize Tr.toD (.knot nm tk ks) = U
      simp (disch := omega) only [enI, sSeq, sDP, bs, mBin, mBinL, bd, mDG, List.getElem?_cons_zero, List.getElem?_cons_succ, lift, mC, mV, mVL, fAdd, fSub, if_true, if_false, Bool.false_eq_true, List.set_cons_zero, List.set_cons_succ, sIf, mCmp, mCall, mCons, mNil, pu, gLen, List.length_map, fI, sRet, sRetL, sNx, fIxL, fIxT, endS, sSet, sSetL, sDrop, mTup, mLst, fz, mUn, bl, mAnd, mOr, mNot, mIf, mTru, mTruL, truth, mB, mAndV, mOrV, mNotV, isB, mIxL, mSl, mSlL, mPt, mNoP, pI, fSl, fSlL, mCallL, mPk, mIsi, gTuple, gList, gMax, fNeg, mCF, mCFL, mCS, mfn, mfnS, List.length_cons, List.length_nil, List.map_cons, List.map_nil, List.cons_append, List.nil_append, List.replicate, List.append_nil, Nat.reduceSub, Nat.reduceAdd, Nat.reduceLT, Nat.zero_add, fDiv_eq, fMod_eq, atI0, atI1, atI2, atI3, sz0, Nat.lt_add_left_iff_pos, msSeq, seqD, msRng, rg_eq, sFor, fIs, fIsNot, isN, Bool.not_true, Bool.not_false, Bool.true_and, Bool.false_and, Bool.and_true, Bool.or_true, Bool.true_or, decide_true, decide_false, mCB, v_free, h, e4, fEqW_int]
end
/-! ### a deep tree -/
section
variable {a b c d e f : Str} {fr lf : Int}
abbrev eD (so1 : List (Str × D)) (bx : List D) (t : Tr) (k k4 k5 : Option S1) : En := [some (.box bx), some (.dct so1), some (.imm t.toD), k, k4, k5]
abbrev dpB : MS := (sSeq (sSet 4 (mTup (mCons (mV 2) mNil))) (sSeq (sIf (mOr (mCmp fEqW (mV 3) (mC (.int 0))) (mCmp fEqW (mCB 0 m__law_pick (mCons (mC (.int 2)) mNil)) (mC (.int 0)))) (sSet 4 (mTup (mCons (mTup (mCons (mC (.str "sign")) (mCons (mBin fIx (mDG 1 "signs") (mCB 0 m__law_pick (mCons (mC (.int 2)) mNil))) mNil))) (mCons (mV 2) mNil)))) sNx) (sSeq (sIf (mCmp fEqW (mCB 0 m__law_pick (mCons (mC (.int 8)) mNil)) (mC (.int 0))) (sSeq (sSetL 5 (mLst (mCons (mTup (mCons (mC (.str "void")) mNil)) (mCons (mTup (mCons (mC (.str "sign")) (mCons (mBin fIx (mDG 1 "signs") (mC (.int 0))) mNil))) (mCons (mTup (mCons (mC (.str "hole")) (mCons (mBin fIx (mDG 1 "starts") (mC (.int 0))) mNil))) mNil))))) (sSet 4 (mBin fAdd (mV 4) (mTup (mCons (mIxL 5 (mCB 0 m__law_pick (mCons (mC (.int 3)) mNil))) mNil))))) sNx) (sSet 2 (mTup (mCons (mC (.str "knot")) (mCons (mBin fIx (mDG 1 "starts") (mC (.int 1))) (mCons (mC .none) (mCons (mV 4) mNil)))))))))
theorem three {x y z : D} {r : Nat} (h : r < 3) : ∃ w, (w = x ∨ w = y ∨ w = z) ∧ atI [x, y, z] (r : Int) = some w := by
  rcases r with _ | _ | _ | r
  · exact ⟨x, .inl rfl, atI0⟩
  · exact ⟨y, .inr (.inl rfl), atI1⟩
  · exact ⟨z, .inr (.inr rfl), atI2⟩
  · omega
theorem deep_step (p q : Int) (gs : List Int) (t : Tr) (j : Nat) (k4 k5 : Option S1) : ∃ (ks : List Tr) (p' q' : Int) (gs' : List Int) (k4' k5' : Option S1), dpB (eD (so a b c d e f fr lf) (Bxd p q gs) t (some (.imm (.int (j : Int)))) k4 k5) = .nx (eD (so a b c d e f fr lf) (Bxd p' q' gs') (.knot d none ks) (some (.imm (.int (j : Int)))) k4' k5') ∧ 1 ≤ ks.length ∧ ks.length ≤ 3 ∧ feets ks = t.feet ∧ szs ks ≤ t.sz + 2 ∧ ∀ x ∈ ks, x = t ∨ Nk 0 x := by
  have s1 : sSet 4 (mTup (mCons (mV 2) mNil)) (eD (so a b c d e f fr lf) (Bxd p q gs) t (some (.imm (.int (j : Int)))) k4 k5) = .nx (eD (so a b c d e f fr lf) (Bxd p q gs) t (some (.imm (.int (j : Int)))) (some (.imm (.tuple (toDs [t])))) k5) := by
    simp only [toDs]
    simp (disch := omega) only [enI, sSeq, sDP, bs, mBin, mBinL, bd, mDG, List.getElem?_cons_zero, List.getElem?_cons_succ, lift, mC, mV, mVL, fAdd, fSub, if_true, if_false, Bool.false_eq_true, List.set_cons_zero, List.set_cons_succ, sIf, mCmp, mCall, mCons, mNil, pu, gLen, List.length_map, fI, sRet, sRetL, sNx, fIxL, fIxT, endS, sSet, sSetL, sDrop, mTup, mLst, fz, mUn, bl, mAnd, mOr, mNot, mIf, mTru, mTruL, truth, mB, mAndV, mOrV, mNotV, isB, mIxL, mSl, mSlL, mPt, mNoP, pI, fSl, fSlL, mCallL, mPk, mIsi, gTuple, gList, gMax, fNeg, mCF, mCFL, mCS, mfn, mfnS, List.length_cons, List.length_nil, List.map_cons, List.map_nil, List.cons_append, List.nil_append, List.replicate, List.append_nil, Nat.reduceSub, Nat.reduceAdd, Nat.reduceLT, Nat.zero_add, fDiv_eq, fMod_eq, atI0, atI1, atI2, atI3, sz0, Nat.lt_add_left_iff_pos, msSeq, seqD, msRng, rg_eq, sFor, fIs, fIsNot, isN, Bool.not_true, Bool.not_false, Bool.true_and, Bool.false_and, Bool.and_true, Bool.or_true, Bool.true_or, decide_true, decide_false]
  obtain ⟨ks1, p1, q1, gs1, e2, g1, g2, g3, g4, g5⟩ : ∃ (ks1 : List Tr) (p1 q1 : Int) (gs1 : List Int), (sIf (mOr (mCmp fEqW (mV 3) (mC (.int 0))) (mCmp fEqW (mCB 0 m__law_pick (mCons (mC (.int 2)) mNil)) (mC (.int 0)))) (sSet 4 (mTup (mCons (mTup (mCons (mC (.str "sign")) (mCons (mBin fIx (mDG 1 "signs") (mCB 0 m__law_pick (mCons (mC (.int 2)) mNil))) mNil))) (mCons (mV 2) mNil)))) sNx) (eD (so a b c d e f fr lf) (Bxd p q gs) t (some (.imm (.int (j : Int)))) (some (.imm (.tuple (toDs [t])))) k5) = .nx (eD (so a b c d e f fr lf) (Bxd p1 q1 gs1) t (some (.imm (.int (j : Int)))) (some (.imm (.tuple (toDs ks1)))) k5) ∧ 1 ≤ ks1.length ∧ ks1.length ≤ 2 ∧ feets ks1 = t.feet ∧ szs ks1 ≤ t.sz + 1 ∧ ∀ x ∈ ks1, x = t ∨ Nk 0 x := by
    have yes : ∀ (p2 q2 : Int) (gs2 : List Int), (mOr (mCmp fEqW (mV 3) (mC (.int 0))) (mCmp fEqW (mCB 0 m__law_pick (mCons (mC (.int 2)) mNil)) (mC (.int 0)))) (eD (so a b c d e f fr lf) (Bxd p q gs) t (some (.imm (.int (j : Int)))) (some (.imm (.tuple (toDs [t])))) k5) = .ok true (eD (so a b c d e f fr lf) (Bxd p2 q2 gs2) t (some (.imm (.int (j : Int)))) (some (.imm (.tuple (toDs [t])))) k5) → ∃ (ks1 : List Tr) (p1 q1 : Int) (gs1 : List Int), (sIf (mOr (mCmp fEqW (mV 3) (mC (.int 0))) (mCmp fEqW (mCB 0 m__law_pick (mCons (mC (.int 2)) mNil)) (mC (.int 0)))) (sSet 4 (mTup (mCons (mTup (mCons (mC (.str "sign")) (mCons (mBin fIx (mDG 1 "signs") (mCB 0 m__law_pick (mCons (mC (.int 2)) mNil))) mNil))) (mCons (mV 2) mNil)))) sNx) (eD (so a b c d e f fr lf) (Bxd p q gs) t (some (.imm (.int (j : Int)))) (some (.imm (.tuple (toDs [t])))) k5) = .nx (eD (so a b c d e f fr lf) (Bxd p1 q1 gs1) t (some (.imm (.int (j : Int)))) (some (.imm (.tuple (toDs ks1)))) k5) ∧ 1 ≤ ks1.length ∧ ks1.length ≤ 2 ∧ feets ks1 = t.feet ∧ szs ks1 ≤ t.sz + 1 ∧ ∀ x ∈ ks1, x = t ∨ Nk 0 x := by
      intro p2 q2 gs2 e5
      obtain ⟨r2, p3, q3, gs3, e4, hr2⟩ := pick_ok (n := 2) (by omega) (by omega) p2 q2 gs2
      have e4 : m__law_pick (Bxd p2 q2 gs2) [.int 2] = .ok (.imm (.int r2)) (Bxd p3 q3 gs3) := e4
      obtain ⟨z, hz2, ez⟩ := two (x := .str a) (y := .str b) (i := (r2 : Int)) (by omega) (by omega)
      obtain ⟨s, rfl⟩ : ∃ s, z = .str s := by rcases hz2 with rfl | rfl <;> exact ⟨_, rfl⟩
      refine ⟨[.sign s, t], p3, q3, gs3, (if_t e5).trans ?_, by simp, by simp, by simp [feets, Tr.feet], by simp [szs, Tr.sz]; omega, fun x hx => ?_⟩
      · simp only [toDs, Tr.toD]
        simp (disch := omega) only [enI, sSeq, sDP, bs, mBin, mBinL, bd, mDG, List.getElem?_cons_zero, List.getElem?_cons_succ, lift, mC, mV, mVL, fAdd, fSub, if_true, if_false, Bool.false_eq_true, List.set_cons_zero, List.set_cons_succ, sIf, mCmp, mCall, mCons, mNil, pu, gLen, List.length_map, fI, sRet, sRetL, sNx, fIxL, fIxT, endS, sSet, sSetL, sDrop, mTup, mLst, fz, mUn, bl, mAnd, mOr, mNot, mIf, mTru, mTruL, truth, mB, mAndV, mOrV, mNotV, isB, mIxL, mSl, mSlL, mPt, mNoP, pI, fSl, fSlL, mCallL, mPk, mIsi, gTuple, gList, gMax, fNeg, mCF, mCFL, mCS, mfn, mfnS, List.length_cons, List.length_nil, List.map_cons, List.map_nil, List.cons_append, List.nil_append, List.replicate, List.append_nil, Nat.reduceSub, Nat.reduceAdd, Nat.reduceLT, Nat.zero_add, fDiv_eq, fMod_eq, atI0, atI1, atI2, atI3, sz0, Nat.lt_add_left_iff_pos, msSeq, seqD, msRng, rg_eq, sFor, fIs, fIsNot, isN, Bool.not_true, Bool.not_false, Bool.true_and, Bool.false_and, Bool.and_true, Bool.or_true, Bool.true_or, decide_true, decide_false, mCB, v_signs, e4, ez]
      · simp only [List.mem_cons, List.not_mem_nil, or_false] at hx
        rcases hx with rfl | rfl
        · exact .inr trivial
        · exact .inl rfl
    cases hj : ((j : Int) == 0) with
    | true =>
      refine yes p q gs ?_
      generalize toDs [t] = W
      simp (disch := omega) only [enI, sSeq, sDP, bs, mBin, mBinL, bd, mDG, List.getElem?_cons_zero, List.getElem?_cons_succ, lift, mC, mV, mVL, fAdd, fSub, if_true, if_false, Bool.false_eq_true, List.set_cons_zero, List.set_cons_succ, sIf, mCmp, mCall, mCons, mNil, pu, gLen, List.length_map, fI, sRet, sRetL, sNx, fIxL, fIxT, endS, sSet, sSetL, sDrop, mTup, mLst, fz, mUn, bl, mAnd, mOr, mNot, mIf, mTru, mTruL, truth, mB, mAndV, mOrV, mNotV, isB, mIxL, mSl, mSlL, mPt, mNoP, pI, fSl, fSlL, mCallL, mPk, mIsi, gTuple, gList, gMax, fNeg, mCF, mCFL, mCS, mfn, mfnS, List.length_cons, List.length_nil, List.map_cons, List.map_nil, List.cons_append, List.nil_append, List.replicate, List.append_nil, Nat.reduceSub, Nat.reduceAdd, Nat.reduceLT, Nat.zero_add, fDiv_eq, fMod_eq, atI0, atI1, atI2, atI3, sz0, Nat.lt_add_left_iff_pos, msSeq, seqD, msRng, rg_eq, sFor, fIs, fIsNot, isN, Bool.not_true, Bool.not_false, Bool.true_and, Bool.false_and, Bool.and_true, Bool.or_true, Bool.true_or, decide_true, decide_false, fEqW_int, hj]
    | false =>
      obtain ⟨r2, p3, q3, gs3, e4, hr2⟩ := pick_ok (n := 2) (by omega) (by omega) p q gs
      have e4 : m__law_pick (Bxd p q gs) [.int 2] = .ok (.imm (.int r2)) (Bxd p3 q3 gs3) := e4
      cases hr : ((r2 : Int) == 0) with
      | true =>
        refine yes p3 q3 gs3 ?_
        generalize toDs [t] = W
        simp (disch := omega) only [enI, sSeq, sDP, bs, mBin, mBinL, bd, mDG, List.getElem?_cons_zero, List.getElem?_cons_succ, lift, mC, mV, mVL, fAdd, fSub, if_true, if_false, Bool.false_eq_true, List.set_cons_zero, List.set_cons_succ, sIf, mCmp, mCall, mCons, mNil, pu, gLen, List.length_map, fI, sRet, sRetL, sNx, fIxL, fIxT, endS, sSet, sSetL, sDrop, mTup, mLst, fz, mUn, bl, mAnd, mOr, mNot, mIf, mTru, mTruL, truth, mB, mAndV, mOrV, mNotV, isB, mIxL, mSl, mSlL, mPt, mNoP, pI, fSl, fSlL, mCallL, mPk, mIsi, gTuple, gList, gMax, fNeg, mCF, mCFL, mCS, mfn, mfnS, List.length_cons, List.length_nil, List.map_cons, List.map_nil, List.cons_append, List.nil_append, List.replicate, List.append_nil, Nat.reduceSub, Nat.reduceAdd, Nat.reduceLT, Nat.zero_add, fDiv_eq, fMod_eq, atI0, atI1, atI2, atI3, sz0, Nat.lt_add_left_iff_pos, msSeq, seqD, msRng, rg_eq, sFor, fIs, fIsNot, isN, Bool.not_true, Bool.not_false, Bool.true_and, Bool.false_and, Bool.and_true, Bool.or_true, Bool.true_or, decide_true, decide_false, mCB, fEqW_int, hj, e4, hr]
      | false =>
        refine ⟨[t], p3, q3, gs3, ?_, by simp, by simp, by simp [feets], by simp [szs], fun x hx => .inl (List.mem_singleton.mp hx)⟩
        generalize toDs [t] = W
        simp (disch := omega) only [enI, sSeq, sDP, bs, mBin, mBinL, bd, mDG, List.getElem?_cons_zero, List.getElem?_cons_succ, lift, mC, mV, mVL, fAdd, fSub, if_true, if_false, Bool.false_eq_true, List.set_cons_zero, List.set_cons_succ, sIf, mCmp, mCall, mCons, mNil, pu, gLen, List.length_map, fI, sRet, sRetL, sNx, fIxL, fIxT, endS, sSet, sSetL, sDrop, mTup, mLst, fz, mUn, bl, mAnd, mOr, mNot, mIf, mTru, mTruL, truth, mB, mAndV, mOrV, mNotV, isB, mIxL, mSl, mSlL, mPt, mNoP, pI, fSl, fSlL, mCallL, mPk, mIsi, gTuple, gList, gMax, fNeg, mCF, mCFL, mCS, mfn, mfnS, List.length_cons, List.length_nil, List.map_cons, List.map_nil, List.cons_append, List.nil_append, List.replicate, List.append_nil, Nat.reduceSub, Nat.reduceAdd, Nat.reduceLT, Nat.zero_add, fDiv_eq, fMod_eq, atI0, atI1, atI2, atI3, sz0, Nat.lt_add_left_iff_pos, msSeq, seqD, msRng, rg_eq, sFor, fIs, fIsNot, isN, Bool.not_true, Bool.not_false, Bool.true_and, Bool.false_and, Bool.and_true, Bool.or_true, Bool.true_or, decide_true, decide_false, mCB, fEqW_int, hj, e4, hr]
  obtain ⟨ks2, p2, q2, gs2, k5', e3, f1, f2, f3, f4, f5⟩ : ∃ (ks2 : List Tr) (p2 q2 : Int) (gs2 : List Int) (k5' : Option S1), (sIf (mCmp fEqW (mCB 0 m__law_pick (mCons (mC (.int 8)) mNil)) (mC (.int 0))) (sSeq (sSetL 5 (mLst (mCons (mTup (mCons (mC (.str "void")) mNil)) (mCons (mTup (mCons (mC (.str "sign")) (mCons (mBin fIx (mDG 1 "signs") (mC (.int 0))) mNil))) (mCons (mTup (mCons (mC (.str "hole")) (mCons (mBin fIx (mDG 1 "starts") (mC (.int 0))) mNil))) mNil))))) (sSet 4 (mBin fAdd (mV 4) (mTup (mCons (mIxL 5 (mCB 0 m__law_pick (mCons (mC (.int 3)) mNil))) mNil))))) sNx) (eD (so a b c d e f fr lf) (Bxd p1 q1 gs1) t (some (.imm (.int (j : Int)))) (some (.imm (.tuple (toDs ks1)))) k5) = .nx (eD (so a b c d e f fr lf) (Bxd p2 q2 gs2) t (some (.imm (.int (j : Int)))) (some (.imm (.tuple (toDs ks2)))) k5') ∧ 1 ≤ ks2.length ∧ ks2.length ≤ 3 ∧ feets ks2 = t.feet ∧ szs ks2 ≤ t.sz + 2 ∧ ∀ x ∈ ks2, x = t ∨ Nk 0 x := by
    obtain ⟨r8, p3, q3, gs3, e4, hr8⟩ := pick_ok (n := 8) (by omega) (by omega) p1 q1 gs1
    have e4 : m__law_pick (Bxd p1 q1 gs1) [.int 8] = .ok (.imm (.int r8)) (Bxd p3 q3 gs3) := e4
    cases hr : ((r8 : Int) == 0) with
    | false =>
      refine ⟨ks1, p3, q3, gs3, k5, ?_, g1, by omega, g3, by omega, g5⟩
      generalize toDs ks1 = W
      simp (disch := omega) only [enI, sSeq, sDP, bs, mBin, mBinL, bd, mDG, List.getElem?_cons_zero, List.getElem?_cons_succ, lift, mC, mV, mVL, fAdd, fSub, if_true, if_false, Bool.false_eq_true, List.set_cons_zero, List.set_cons_succ, sIf, mCmp, mCall, mCons, mNil, pu, gLen, List.length_map, fI, sRet, sRetL, sNx, fIxL, fIxT, endS, sSet, sSetL, sDrop, mTup, mLst, fz, mUn, bl, mAnd, mOr, mNot, mIf, mTru, mTruL, truth, mB, mAndV, mOrV, mNotV, isB, mIxL, mSl, mSlL, mPt, mNoP, pI, fSl, fSlL, mCallL, mPk, mIsi, gTuple, gList, gMax, fNeg, mCF, mCFL, mCS, mfn, mfnS, List.length_cons, List.length_nil, List.map_cons, List.map_nil, List.cons_append, List.nil_append, List.replicate, List.append_nil, Nat.reduceSub, Nat.reduceAdd, Nat.reduceLT, Nat.zero_add, fDiv_eq, fMod_eq, atI0, atI1, atI2, atI3, sz0, Nat.lt_add_left_iff_pos, msSeq, seqD, msRng, rg_eq, sFor, fIs, fIsNot, isN, Bool.not_true, Bool.not_false, Bool.true_and, Bool.false_and, Bool.and_true, Bool.or_true, Bool.true_or, decide_true, decide_false, mCB, fEqW_int, e4, hr]
    | true =>
      obtain ⟨r3, p4, q4, gs4, e5, hr3⟩ := pick_ok (n := 3) (by omega) (by omega) p3 q3 gs3
      have e5 : m__law_pick (Bxd p3 q3 gs3) [.int 3] = .ok (.imm (.int r3)) (Bxd p4 q4 gs4) := e5
      obtain ⟨w, hw, ew⟩ := three (x := Tr.toD .void) (y := Tr.toD (.sign a)) (z := Tr.toD (.hole c)) hr3
      obtain ⟨u, rfl, hu1, hu2, hu3⟩ : ∃ u : Tr, w = u.toD ∧ u.feet = [] ∧ u.sz = 1 ∧ Nk 0 u := by
        rcases hw with rfl | rfl | rfl
        · exact ⟨.void, rfl, by simp [Tr.feet], by simp [Tr.sz], trivial⟩
        · exact ⟨.sign a, rfl, by simp [Tr.feet], by simp [Tr.sz], trivial⟩
        · exact ⟨.hole c, rfl, by simp [Tr.feet], by simp [Tr.sz], trivial⟩
      have tl := toDs_length ks1
      refine ⟨ks1 ++ [u], p4, q4, gs4, some (.lst [Tr.toD .void, Tr.toD (.sign a), Tr.toD (.hole c)]), (if_t (ρ' := eD (so a b c d e f fr lf) (Bxd p3 q3 gs3) t (some (.imm (.int (j : Int)))) (some (.imm (.tuple (toDs ks1)))) k5) ?_).trans ?_, by simp, by simp; omega, by rw [feets_append, g3]; simp [feets, hu1], by rw [szs_append]; simp [szs, hu2]; omega, fun x hx => ?_⟩
      · generalize toDs ks1 = W
        simp (disch := omega) only [enI, sSeq, sDP, bs, mBin, mBinL, bd, mDG, List.getElem?_cons_zero, List.getElem?_cons_succ, lift, mC, mV, mVL, fAdd, fSub, if_true, if_false, Bool.false_eq_true, List.set_cons_zero, List.set_cons_succ, sIf, mCmp, mCall, mCons, mNil, pu, gLen, List.length_map, fI, sRet, sRetL, sNx, fIxL, fIxT, endS, sSet, sSetL, sDrop, mTup, mLst, fz, mUn, bl, mAnd, mOr, mNot, mIf, mTru, mTruL, truth, mB, mAndV, mOrV, mNotV, isB, mIxL, mSl, mSlL, mPt, mNoP, pI, fSl, fSlL, mCallL, mPk, mIsi, gTuple, gList, gMax, fNeg, mCF, mCFL, mCS, mfn, mfnS, List.length_cons, List.length_nil, List.map_cons, List.map_nil, List.cons_append, List.nil_append, List.replicate, List.append_nil, Nat.reduceSub, Nat.reduceAdd, Nat.reduceLT, Nat.zero_add, fDiv_eq, fMod_eq, atI0, atI1, atI2, atI3, sz0, Nat.lt_add_left_iff_pos, msSeq, seqD, msRng, rg_eq, sFor, fIs, fIsNot, isN, Bool.not_true, Bool.not_false, Bool.true_and, Bool.false_and, Bool.and_true, Bool.or_true, Bool.true_or, decide_true, decide_false, mCB, fEqW_int, e4, hr]
      · rw [seq_nx (ρ' := eD (so a b c d e f fr lf) (Bxd p3 q3 gs3) t (some (.imm (.int (j : Int)))) (some (.imm (.tuple (toDs ks1)))) (some (.lst [Tr.toD .void, Tr.toD (.sign a), Tr.toD (.hole c)]))) (by
          simp only [Tr.toD]
          generalize toDs ks1 = W
          simp (disch := omega) only [enI, sSeq, sDP, bs, mBin, mBinL, bd, mDG, List.getElem?_cons_zero, List.getElem?_cons_succ, lift, mC, mV, mVL, fAdd, fSub, if_true, if_false, Bool.false_eq_true, List.set_cons_zero, List.set_cons_succ, sIf, mCmp, mCall, mCons, mNil, pu, gLen, List.length_map, fI, sRet, sRetL, sNx, fIxL, fIxT, endS, sSet, sSetL, sDrop, mTup, mLst, fz, mUn, bl, mAnd, mOr, mNot, mIf, mTru, mTruL, truth, mB, mAndV, mOrV, mNotV, isB, mIxL, mSl, mSlL, mPt, mNoP, pI, fSl, fSlL, mCallL, mPk, mIsi, gTuple, gList, gMax, fNeg, mCF, mCFL, mCS, mfn, mfnS, List.length_cons, List.length_nil, List.map_cons, List.map_nil, List.cons_append, List.nil_append, List.replicate, List.append_nil, Nat.reduceSub, Nat.reduceAdd, Nat.reduceLT, Nat.zero_add, fDiv_eq, fMod_eq, atI0, atI1, atI2, atI3, sz0, Nat.lt_add_left_iff_pos, msSeq, seqD, msRng, rg_eq, sFor, fIs, fIsNot, isN, Bool.not_true, Bool.not_false, Bool.true_and, Bool.false_and, Bool.and_true, Bool.or_true, Bool.true_or, decide_true, decide_false, v_signs, v_starts])]
        rw [toDs_append]
        simp only [toDs]
        generalize toDs ks1 = W at tl ⊢
        generalize u.toD = V at ew ⊢
        generalize [Tr.toD .void, Tr.toD (.sign a), Tr.toD (.hole c)] = Z at ew ⊢
        simp (disch := omega) only [enI, sSeq, sDP, bs, mBin, mBinL, bd, mDG, List.getElem?_cons_zero, List.getElem?_cons_succ, lift, mC, mV, mVL, fAdd, fSub, if_true, if_false, Bool.false_eq_true, List.set_cons_zero, List.set_cons_succ, sIf, mCmp, mCall, mCons, mNil, pu, gLen, List.length_map, fI, sRet, sRetL, sNx, fIxL, fIxT, endS, sSet, sSetL, sDrop, mTup, mLst, fz, mUn, bl, mAnd, mOr, mNot, mIf, mTru, mTruL, truth, mB, mAndV, mOrV, mNotV, isB, mIxL, mSl, mSlL, mPt, mNoP, pI, fSl, fSlL, mCallL, mPk, mIsi, gTuple, gList, gMax, fNeg, mCF, mCFL, mCS, mfn, mfnS, List.length_cons, List.length_nil, List.map_cons, List.map_nil, List.cons_append, List.nil_append, List.replicate, List.append_nil, Nat.reduceSub, Nat.reduceAdd, Nat.reduceLT, Nat.zero_add, fDiv_eq, fMod_eq, atI0, atI1, atI2, atI3, sz0, Nat.lt_add_left_iff_pos, msSeq, seqD, msRng, rg_eq, sFor, fIs, fIsNot, isN, Bool.not_true, Bool.not_false, Bool.true_and, Bool.false_and, Bool.and_true, Bool.or_true, Bool.true_or, decide_true, decide_false, mCB, e5, ew]
      · rcases List.mem_append.mp hx with hx | hx
        · exact g5 x hx
        · rw [List.mem_singleton.mp hx]; exact .inr hu3
  refine ⟨ks2, p2, q2, gs2, some (.imm (.tuple (toDs ks2))), k5', ?_, f1, f2, f3, f4, f5⟩
  unfold dpB
  rw [seq_nx s1, seq_nx e2, seq_nx e3]
  simp only [eD, Tr.toD, takD]
  generalize toDs ks2 = W
  simp (disch := omega) only [enI, sSeq, sDP, bs, mBin, mBinL, bd, mDG, List.getElem?_cons_zero, List.getElem?_cons_succ, lift, mC, mV, mVL, fAdd, fSub, if_true, if_false, Bool.false_eq_true, List.set_cons_zero, List.set_cons_succ, sIf, mCmp, mCall, mCons, mNil, pu, gLen, List.length_map, fI, sRet, sRetL, sNx, fIxL, fIxT, endS, sSet, sSetL, sDrop, mTup, mLst, fz, mUn, bl, mAnd, mOr, mNot, mIf, mTru, mTruL, truth, mB, mAndV, mOrV, mNotV, isB, mIxL, mSl, mSlL, mPt, mNoP, pI, fSl, fSlL, mCallL, mPk, mIsi, gTuple, gList, gMax, fNeg, mCF, mCFL, mCS, mfn, mfnS, List.length_cons, List.length_nil, List.map_cons, List.map_nil, List.cons_append, List.nil_append, List.replicate, List.append_nil, Nat.reduceSub, Nat.reduceAdd, Nat.reduceLT, Nat.zero_add, fDiv_eq, fMod_eq, atI0, atI1, atI2, atI3, sz0, Nat.lt_add_left_iff_pos, msSeq, seqD, msRng, rg_eq, sFor, fIs, fIsNot, isN, Bool.not_true, Bool.not_false, Bool.true_and, Bool.false_and, Bool.and_true, Bool.or_true, Bool.true_or, decide_true, decide_false, v_starts]
theorem deep_ok (p q : Int) (gs : List Int) : ∃ (t : Tr) (p' q' : Int) (gs' : List Int), m__law_deep (Bxd p q gs) (so a b c d e f fr lf) [] = .ok (.imm t.toD) (Bxd p' q' gs') (so a b c d e f fr lf) ∧ Gt t ∧ t.feet.length = 1 := by
  obtain ⟨r, p1, q1, gs1, e1, hr⟩ := pick_ok (n := 5) (by omega) (by omega) p q gs
  have e1 : m__law_pick (Bxd p q gs) [.int 5] = .ok (.imm (.int r)) (Bxd p1 q1 gs1) := e1
  have er : (1 : Int) + (r : Int) = ((r + 1 : Nat) : Int) := by omega
  obtain ⟨ρ', e2, t, p2, q2, gs2, k3, k4, k5, rfl, g1, g2, g3⟩ := for_inv (f := gN 3) (b := dpB)
    (fun i ρ => ∃ (t : Tr) (p2 q2 : Int) (gs2 : List Int) (k3 k4 k5 : Option S1), ρ = eD (so a b c d e f fr lf) (Bxd p2 q2 gs2) t k3 k4 k5 ∧ Nk i t ∧ t.sz ≤ 1 + 3 * i ∧ t.feet = [e])
    (rngD (r + 1)) 0 (eD (so a b c d e f fr lf) (Bxd p1 q1 gs1) (.foot e) none none none) ⟨.foot e, p1, q1, gs1, none, none, none, rfl, trivial, by simp [Tr.sz], by simp [Tr.feet]⟩ (fun j dd ρ hd ⟨t, p2, q2, gs2, k3, k4, k5, e', g1, g2, g3⟩ => by
      subst e'
      obtain ⟨rfl, hj⟩ := rng_get hd
      rw [Nat.zero_add] at g1 g2 ⊢
      obtain ⟨ks, p3, q3, gs3, k4', k5', e3, f1, f2, f3, f4, f5⟩ := deep_step (a := a) (b := b) (c := c) (d := d) (e := e) (f := f) (fr := fr) (lf := lf) p2 q2 gs2 t j k4 k5
      refine ⟨_, rfl, _, e3, .knot d none ks, p3, q3, gs3, _, k4', k5', rfl, ⟨f1, by omega, fun x hx => ?_⟩, by simp only [Tr.sz]; omega, by simp only [Tr.feet]; rw [f3, g3]⟩
      rcases f5 x hx with rfl | h
      · exact g1
      · exact h.le (Nat.zero_le _))
  rw [rng_len, Nat.zero_add] at g1 g2
  refine ⟨t, p2, q2, gs2, mfnM_rt (ρ' := [some (.imm t.toD), k3, k4, k5]) ?_, ⟨g1.le (by omega), by omega, by rw [g3]; simp⟩, by rw [g3]; rfl⟩
  show b__law_deep [some (.box (Bxd p q gs)), some (.dct (so a b c d e f fr lf)), none, none, none, none] = _
  unfold b__law_deep
  rw [seq_nx (ρ' := eD (so a b c d e f fr lf) (Bxd p q gs) (.foot e) none none none) (by simp (disch := omega) only [enI, sSeq, sDP, bs, mBin, mBinL, bd, mDG, List.getElem?_cons_zero, List.getElem?_cons_succ, lift, mC, mV, mVL, fAdd, fSub, if_true, if_false, Bool.false_eq_true, List.set_cons_zero, List.set_cons_succ, sIf, mCmp, mCall, mCons, mNil, pu, gLen, List.length_map, fI, sRet, sRetL, sNx, fIxL, fIxT, endS, sSet, sSetL, sDrop, mTup, mLst, fz, mUn, bl, mAnd, mOr, mNot, mIf, mTru, mTruL, truth, mB, mAndV, mOrV, mNotV, isB, mIxL, mSl, mSlL, mPt, mNoP, pI, fSl, fSlL, mCallL, mPk, mIsi, gTuple, gList, gMax, fNeg, mCF, mCFL, mCS, mfn, mfnS, List.length_cons, List.length_nil, List.map_cons, List.map_nil, List.cons_append, List.nil_append, List.replicate, List.append_nil, Nat.reduceSub, Nat.reduceAdd, Nat.reduceLT, Nat.zero_add, fDiv_eq, fMod_eq, atI0, atI1, atI2, atI3, sz0, Nat.lt_add_left_iff_pos, msSeq, seqD, msRng, rg_eq, sFor, fIs, fIsNot, isN, Bool.not_true, Bool.not_false, Bool.true_and, Bool.false_and, Bool.and_true, Bool.or_true, Bool.true_or, decide_true, decide_false, v_grafts]; simp only [eD, Tr.toD])]
  rw [seq_nx ((for_ok (ms := msRng (mCons (mBin fAdd (mC (.int 1)) (mCB 0 m__law_pick (mCons (mC (.int 5)) mNil))) mNil)) (ds := rngD (r + 1)) (ρ' := eD (so a b c d e f fr lf) (Bxd p1 q1 gs1) (.foot e) none none none) (rng_ok (j := r + 1) (by
    simp (disch := omega) only [enI, sSeq, sDP, bs, mBin, mBinL, bd, mDG, List.getElem?_cons_zero, List.getElem?_cons_succ, lift, mC, mV, mVL, fAdd, fSub, if_true, if_false, Bool.false_eq_true, List.set_cons_zero, List.set_cons_succ, sIf, mCmp, mCall, mCons, mNil, pu, gLen, List.length_map, fI, sRet, sRetL, sNx, fIxL, fIxT, endS, sSet, sSetL, sDrop, mTup, mLst, fz, mUn, bl, mAnd, mOr, mNot, mIf, mTru, mTruL, truth, mB, mAndV, mOrV, mNotV, isB, mIxL, mSl, mSlL, mPt, mNoP, pI, fSl, fSlL, mCallL, mPk, mIsi, gTuple, gList, gMax, fNeg, mCF, mCFL, mCS, mfn, mfnS, List.length_cons, List.length_nil, List.map_cons, List.map_nil, List.cons_append, List.nil_append, List.replicate, List.append_nil, Nat.reduceSub, Nat.reduceAdd, Nat.reduceLT, Nat.zero_add, fDiv_eq, fMod_eq, atI0, atI1, atI2, atI3, sz0, Nat.lt_add_left_iff_pos, msSeq, seqD, msRng, rg_eq, sFor, fIs, fIsNot, isN, Bool.not_true, Bool.not_false, Bool.true_and, Bool.false_and, Bool.and_true, Bool.or_true, Bool.true_or, decide_true, decide_false, mCB, e1, er]) (by omega))).trans e2)]
  rfl
end
end K87

namespace K87
open PySem PySem.Spec PyProof.Rows L2 Pu Kt Kq
abbrev so0 (a b : Str) (fr lf : Int) : List (Str × D) := [("signs", .list [.str a, .str b]), ("free", .int fr), ("knots", .bool true), ("left", .int lf)]
abbrev so5 (a b c d : Str) (fr lf : Int) : List (Str × D) := [("signs", .list [.str a, .str b]), ("free", .int fr), ("knots", .bool true), ("left", .int lf), ("starts", .list [.str c, .str d])]
section
variable {a b c d e f : Str} {fr lf : Int}
theorem p_starts {y : D} (h : y = .list [.str c, .str d]) : putD (so0 a b fr lf) "starts" y = so5 a b c d fr lf := by subst h; rfl
theorem p_grafts {y : D} (h : y = .list [.str e, .str f]) : putD (so5 a b c d fr lf) "grafts" y = so a b c d e f fr lf := by subst h; rfl
theorem p_grafts2 {e' f' : Str} {y : D} (h : y = .list [.str e', .str f']) : putD (so a b c d e f fr lf) "grafts" y = so a b c d e' f' fr lf := by subst h; rfl
end
theorem len2 {ws : List (List Nat)} (h : ws.length = 2) : ∃ u v, ws = [u, v] := by
  match ws, h with
  | [u, v], _ => exact ⟨u, v, rfl⟩
section
variable {a b c d e f : Str} {fr : Int}
abbrev eB (so1 : List (Str × D)) (bx : List D) (n : Int) (ks : List (List Nat)) (es : List (Str × Tr)) (o7 o8 o9 o10 : Option S1) : En := [some (.box bx), some (.dct so1), some (.imm (.int n)), some (.imm (.int 4)), some (.imm (.str GR)), some (.lst (ks.map sD)), some (.lst (es.map entD)), o7, o8, o9, o10]
abbrev bkB : MS := (sSeq (sSet 9 (mBin fIx (mDG 1 "starts") (mCB 0 m__law_pick (mCons (mC (.int 2)) mNil)))) (sSeq (sSet 10 (mC (.str ""))) (sSeq (sIf (mOr (mCmp fEqW (mV 7) (mC (.int 1))) (mCmp fEqW (mCB 0 m__law_pick (mCons (mC (.int 2)) mNil)) (mC (.int 0)))) (sSet 10 (mBin fIx (mDG 1 "grafts") (mBin fDiv (mCB 0 m__law_pick (mCons (mC (.int 4)) mNil)) (mC (.int 3))))) sNx) (sDrop (mMut 6 fApp (mCons (mTup (mCons (mIxL 5 (mV 7)) (mCons (mCM 0 1 m__law_tree (mCons (mV 9) (mCons (mV 10) (mCons (mV 3) mNil)))) mNil))) mNil))))))
theorem key_at {ks : List (List Nat)} {j : Nat} (h : j < ks.length) : ∃ k, atI (ks.map sD) (j : Int) = some (.str k) := by
  refine ⟨S ks[j], atI_some ?_⟩
  rw [List.getElem?_map, List.getElem?_eq_getElem h]
  rfl
theorem book_turn (he : Wk e) (hf : Wk f) (p q : Int) (gs : List Int) (lf n : Int) (ks : List (List Nat)) (es : List (Str × Tr)) (j : Nat) (hj : j < ks.length) (hl : es.length ≤ 100) (o8 o9 o10 : Option S1) :
    ∃ (x : Str × Tr) (p' q' : Int) (gs' : List Int) (lf' : Int) (o9' o10' : Option S1), bkB (eB (so a b c d e f fr lf) (Bxd p q gs) n ks es (some (.imm (.int (j : Int)))) o8 o9 o10) = .nx (eB (so a b c d e f fr lf') (Bxd p' q' gs') n ks (es ++ [x]) (some (.imm (.int (j : Int)))) o8 o9' o10') ∧ Gt x.2 := by
  obtain ⟨r, p1, q1, gs1, e1, hr⟩ := pick_ok (n := 2) (by omega) (by omega) p q gs
  have e1 : m__law_pick (Bxd p q gs) [.int 2] = .ok (.imm (.int r)) (Bxd p1 q1 gs1) := e1
  obtain ⟨z, hz, ez⟩ := two (x := .str c) (y := .str d) (i := (r : Int)) (by omega) (by omega)
  obtain ⟨s, rfl⟩ : ∃ s, z = .str s := by rcases hz with rfl | rfl <;> exact ⟨_, rfl⟩
  have s1 : sSet 9 (mBin fIx (mDG 1 "starts") (mCB 0 m__law_pick (mCons (mC (.int 2)) mNil))) (eB (so a b c d e f fr lf) (Bxd p q gs) n ks es (some (.imm (.int (j : Int)))) o8 o9 o10) = .nx (eB (so a b c d e f fr lf) (Bxd p1 q1 gs1) n ks es (some (.imm (.int (j : Int)))) o8 (some (.imm (.str s))) o10) := by
    simp (disch := omega) only [enI, sSeq, sDP, bs, mBin, mBinL, bd, mDG, List.getElem?_cons_zero, List.getElem?_cons_succ, lift, mC, mV, mVL, fAdd, fSub, if_true, if_false, Bool.false_eq_true, List.set_cons_zero, List.set_cons_succ, sIf, mCmp, mCall, mCons, mNil, pu, gLen, List.length_map, fI, sRet, sRetL, sNx, fIxL, fIxT, endS, sSet, sSetL, sDrop, mTup, mLst, fz, mUn, bl, mAnd, mOr, mNot, mIf, mTru, mTruL, truth, mB, mAndV, mOrV, mNotV, isB, mIxL, mSl, mSlL, mPt, mNoP, pI, fSl, fSlL, mCallL, mPk, mIsi, gTuple, gList, gMax, fNeg, mCF, mCFL, mCS, mfn, mfnS, List.length_cons, List.length_nil, List.map_cons, List.map_nil, List.cons_append, List.nil_append, List.replicate, List.append_nil, Nat.reduceSub, Nat.reduceAdd, Nat.reduceLT, Nat.zero_add, fDiv_eq, fMod_eq, atI0, atI1, atI2, atI3, sz0, Nat.lt_add_left_iff_pos, msSeq, seqD, msRng, rg_eq, sFor, fIs, fIsNot, isN, Bool.not_true, Bool.not_false, Bool.true_and, Bool.false_and, Bool.and_true, Bool.or_true, Bool.true_or, decide_true, decide_false, mCB, v_starts, e1, ez]
  have s2 : sSet 10 (mC (.str "")) (eB (so a b c d e f fr lf) (Bxd p1 q1 gs1) n ks es (some (.imm (.int (j : Int)))) o8 (some (.imm (.str s))) o10) = .nx (eB (so a b c d e f fr lf) (Bxd p1 q1 gs1) n ks es (some (.imm (.int (j : Int)))) o8 (some (.imm (.str s))) (some (.imm (.str "")))) := by
    simp (disch := omega) only [enI, sSeq, sDP, bs, mBin, mBinL, bd, mDG, List.getElem?_cons_zero, List.getElem?_cons_succ, lift, mC, mV, mVL, fAdd, fSub, if_true, if_false, Bool.false_eq_true, List.set_cons_zero, List.set_cons_succ, sIf, mCmp, mCall, mCons, mNil, pu, gLen, List.length_map, fI, sRet, sRetL, sNx, fIxL, fIxT, endS, sSet, sSetL, sDrop, mTup, mLst, fz, mUn, bl, mAnd, mOr, mNot, mIf, mTru, mTruL, truth, mB, mAndV, mOrV, mNotV, isB, mIxL, mSl, mSlL, mPt, mNoP, pI, fSl, fSlL, mCallL, mPk, mIsi, gTuple, gList, gMax, fNeg, mCF, mCFL, mCS, mfn, mfnS, List.length_cons, List.length_nil, List.map_cons, List.map_nil, List.cons_append, List.nil_append, List.replicate, List.append_nil, Nat.reduceSub, Nat.reduceAdd, Nat.reduceLT, Nat.zero_add, fDiv_eq, fMod_eq, atI0, atI1, atI2, atI3, sz0, Nat.lt_add_left_iff_pos, msSeq, seqD, msRng, rg_eq, sFor, fIs, fIsNot, isN, Bool.not_true, Bool.not_false, Bool.true_and, Bool.false_and, Bool.and_true, Bool.or_true, Bool.true_or, decide_true, decide_false]
  obtain ⟨x, p2, q2, gs2, s3, hx⟩ : ∃ (x : Str) (p2 q2 : Int) (gs2 : List Int), (sIf (mOr (mCmp fEqW (mV 7) (mC (.int 1))) (mCmp fEqW (mCB 0 m__law_pick (mCons (mC (.int 2)) mNil)) (mC (.int 0)))) (sSet 10 (mBin fIx (mDG 1 "grafts") (mBin fDiv (mCB 0 m__law_pick (mCons (mC (.int 4)) mNil)) (mC (.int 3))))) sNx) (eB (so a b c d e f fr lf) (Bxd p1 q1 gs1) n ks es (some (.imm (.int (j : Int)))) o8 (some (.imm (.str s))) (some (.imm (.str "")))) = .nx (eB (so a b c d e f fr lf) (Bxd p2 q2 gs2) n ks es (some (.imm (.int (j : Int)))) o8 (some (.imm (.str s))) (some (.imm (.str x)))) ∧ Hx x := by
    have yes : ∀ (p2 q2 : Int) (gs2 : List Int), ∃ (x : Str) (p3 q3 : Int) (gs3 : List Int), (sSet 10 (mBin fIx (mDG 1 "grafts") (mBin fDiv (mCB 0 m__law_pick (mCons (mC (.int 4)) mNil)) (mC (.int 3))))) (eB (so a b c d e f fr lf) (Bxd p2 q2 gs2) n ks es (some (.imm (.int (j : Int)))) o8 (some (.imm (.str s))) (some (.imm (.str "")))) = .nx (eB (so a b c d e f fr lf) (Bxd p3 q3 gs3) n ks es (some (.imm (.int (j : Int)))) o8 (some (.imm (.str s))) (some (.imm (.str x)))) ∧ Hx x := by
      intro p2 q2 gs2
      obtain ⟨r2, p3, q3, gs3, e3, hr2⟩ := pick_ok (n := 4) (by omega) (by omega) p2 q2 gs2
      have e3 : m__law_pick (Bxd p2 q2 gs2) [.int 4] = .ok (.imm (.int r2)) (Bxd p3 q3 gs3) := e3
      obtain ⟨z, hz, ez⟩ := two (x := .str e) (y := .str f) (i := (r2 : Int) / 3) (by omega) (by omega)
      obtain ⟨x, rfl, hx⟩ : ∃ x, z = .str x ∧ Wk x := by
        rcases hz with rfl | rfl
        · exact ⟨_, rfl, he⟩
        · exact ⟨_, rfl, hf⟩
      refine ⟨x, p3, q3, gs3, ?_, .inr hx⟩
      simp (disch := omega) only [enI, sSeq, sDP, bs, mBin, mBinL, bd, mDG, List.getElem?_cons_zero, List.getElem?_cons_succ, lift, mC, mV, mVL, fAdd, fSub, if_true, if_false, Bool.false_eq_true, List.set_cons_zero, List.set_cons_succ, sIf, mCmp, mCall, mCons, mNil, pu, gLen, List.length_map, fI, sRet, sRetL, sNx, fIxL, fIxT, endS, sSet, sSetL, sDrop, mTup, mLst, fz, mUn, bl, mAnd, mOr, mNot, mIf, mTru, mTruL, truth, mB, mAndV, mOrV, mNotV, isB, mIxL, mSl, mSlL, mPt, mNoP, pI, fSl, fSlL, mCallL, mPk, mIsi, gTuple, gList, gMax, fNeg, mCF, mCFL, mCS, mfn, mfnS, List.length_cons, List.length_nil, List.map_cons, List.map_nil, List.cons_append, List.nil_append, List.replicate, List.append_nil, Nat.reduceSub, Nat.reduceAdd, Nat.reduceLT, Nat.zero_add, fDiv_eq, fMod_eq, atI0, atI1, atI2, atI3, sz0, Nat.lt_add_left_iff_pos, msSeq, seqD, msRng, rg_eq, sFor, fIs, fIsNot, isN, Bool.not_true, Bool.not_false, Bool.true_and, Bool.false_and, Bool.and_true, Bool.or_true, Bool.true_or, decide_true, decide_false, mCB, v_grafts, e3, ez]
    cases hj1 : ((j : Int) == 1) with
    | true =>
      obtain ⟨x, p3, q3, gs3, e3, hx⟩ := yes p1 q1 gs1
      refine ⟨x, p3, q3, gs3, (if_t (ρ' := eB (so a b c d e f fr lf) (Bxd p1 q1 gs1) n ks es (some (.imm (.int (j : Int)))) o8 (some (.imm (.str s))) (some (.imm (.str "")))) ?_).trans e3, hx⟩
      simp (disch := omega) only [enI, sSeq, sDP, bs, mBin, mBinL, bd, mDG, List.getElem?_cons_zero, List.getElem?_cons_succ, lift, mC, mV, mVL, fAdd, fSub, if_true, if_false, Bool.false_eq_true, List.set_cons_zero, List.set_cons_succ, sIf, mCmp, mCall, mCons, mNil, pu, gLen, List.length_map, fI, sRet, sRetL, sNx, fIxL, fIxT, endS, sSet, sSetL, sDrop, mTup, mLst, fz, mUn, bl, mAnd, mOr, mNot, mIf, mTru, mTruL, truth, mB, mAndV, mOrV, mNotV, isB, mIxL, mSl, mSlL, mPt, mNoP, pI, fSl, fSlL, mCallL, mPk, mIsi, gTuple, gList, gMax, fNeg, mCF, mCFL, mCS, mfn, mfnS, List.length_cons, List.length_nil, List.map_cons, List.map_nil, List.cons_append, List.nil_append, List.replicate, List.append_nil, Nat.reduceSub, Nat.reduceAdd, Nat.reduceLT, Nat.zero_add, fDiv_eq, fMod_eq, atI0, atI1, atI2, atI3, sz0, Nat.lt_add_left_iff_pos, msSeq, seqD, msRng, rg_eq, sFor, fIs, fIsNot, isN, Bool.not_true, Bool.not_false, Bool.true_and, Bool.false_and, Bool.and_true, Bool.or_true, Bool.true_or, decide_true, decide_false, fEqW_int, hj1]
    | false =>
      obtain ⟨r2, p2, q2, gs2, e3, hr2⟩ := pick_ok (n := 2) (by omega) (by omega) p1 q1 gs1
      have e3 : m__law_pick (Bxd p1 q1 gs1) [.int 2] = .ok (.imm (.int r2)) (Bxd p2 q2 gs2) := e3
      cases hr0 : ((r2 : Int) == 0) with
      | true =>
        obtain ⟨x, p3, q3, gs3, e4, hx⟩ := yes p2 q2 gs2
        refine ⟨x, p3, q3, gs3, (if_t (ρ' := eB (so a b c d e f fr lf) (Bxd p2 q2 gs2) n ks es (some (.imm (.int (j : Int)))) o8 (some (.imm (.str s))) (some (.imm (.str "")))) ?_).trans e4, hx⟩
        simp (disch := omega) only [enI, sSeq, sDP, bs, mBin, mBinL, bd, mDG, List.getElem?_cons_zero, List.getElem?_cons_succ, lift, mC, mV, mVL, fAdd, fSub, if_true, if_false, Bool.false_eq_true, List.set_cons_zero, List.set_cons_succ, sIf, mCmp, mCall, mCons, mNil, pu, gLen, List.length_map, fI, sRet, sRetL, sNx, fIxL, fIxT, endS, sSet, sSetL, sDrop, mTup, mLst, fz, mUn, bl, mAnd, mOr, mNot, mIf, mTru, mTruL, truth, mB, mAndV, mOrV, mNotV, isB, mIxL, mSl, mSlL, mPt, mNoP, pI, fSl, fSlL, mCallL, mPk, mIsi, gTuple, gList, gMax, fNeg, mCF, mCFL, mCS, mfn, mfnS, List.length_cons, List.length_nil, List.map_cons, List.map_nil, List.cons_append, List.nil_append, List.replicate, List.append_nil, Nat.reduceSub, Nat.reduceAdd, Nat.reduceLT, Nat.zero_add, fDiv_eq, fMod_eq, atI0, atI1, atI2, atI3, sz0, Nat.lt_add_left_iff_pos, msSeq, seqD, msRng, rg_eq, sFor, fIs, fIsNot, isN, Bool.not_true, Bool.not_false, Bool.true_and, Bool.false_and, Bool.and_true, Bool.or_true, Bool.true_or, decide_true, decide_false, mCB, fEqW_int, hj1, e3, hr0]
      | false =>
        refine ⟨"", p2, q2, gs2, ?_, .inl rfl⟩
        simp (disch := omega) only [enI, sSeq, sDP, bs, mBin, mBinL, bd, mDG, List.getElem?_cons_zero, List.getElem?_cons_succ, lift, mC, mV, mVL, fAdd, fSub, if_true, if_false, Bool.false_eq_true, List.set_cons_zero, List.set_cons_succ, sIf, mCmp, mCall, mCons, mNil, pu, gLen, List.length_map, fI, sRet, sRetL, sNx, fIxL, fIxT, endS, sSet, sSetL, sDrop, mTup, mLst, fz, mUn, bl, mAnd, mOr, mNot, mIf, mTru, mTruL, truth, mB, mAndV, mOrV, mNotV, isB, mIxL, mSl, mSlL, mPt, mNoP, pI, fSl, fSlL, mCallL, mPk, mIsi, gTuple, gList, gMax, fNeg, mCF, mCFL, mCS, mfn, mfnS, List.length_cons, List.length_nil, List.map_cons, List.map_nil, List.cons_append, List.nil_append, List.replicate, List.append_nil, Nat.reduceSub, Nat.reduceAdd, Nat.reduceLT, Nat.zero_add, fDiv_eq, fMod_eq, atI0, atI1, atI2, atI3, sz0, Nat.lt_add_left_iff_pos, msSeq, seqD, msRng, rg_eq, sFor, fIs, fIsNot, isN, Bool.not_true, Bool.not_false, Bool.true_and, Bool.false_and, Bool.and_true, Bool.or_true, Bool.true_or, decide_true, decide_false, mCB, fEqW_int, hj1, e3, hr0]
  obtain ⟨t, p3, q3, gs3, lf3, e4, ht⟩ := tree_ok (a := a) (b := b) (c := c) (d := d) (e := e) (f := f) (fr := fr) p2 q2 gs2 lf 4 s hx
  obtain ⟨k, ek⟩ := key_at hj
  refine ⟨(k, t), p3, q3, gs3, lf3, some (.imm (.str s)), some (.imm (.str x)), ?_, ht⟩
  unfold bkB
  rw [seq_nx s1, seq_nx s2, seq_nx s3]
  have c1 := mcm_ok (i := 0) (j := 1) (m := m__law_tree) (ma := mCons (mV 9) (mCons (mV 10) (mCons (mV 3) mNil))) (ρ := eB (so a b c d e f fr lf) (Bxd p2 q2 gs2) n ks es (some (.imm (.int (j : Int)))) o8 (some (.imm (.str s))) (some (.imm (.str x)))) (ρ' := eB (so a b c d e f fr lf) (Bxd p2 q2 gs2) n ks es (some (.imm (.int (j : Int)))) o8 (some (.imm (.str s))) (some (.imm (.str x)))) (ds := [.str s, .str x, .int 4]) rfl rfl rfl rfl rfl e4
  have c2 : (mCons (mTup (mCons (mIxL 5 (mV 7)) (mCons (mCM 0 1 m__law_tree (mCons (mV 9) (mCons (mV 10) (mCons (mV 3) mNil)))) mNil))) mNil) (eB (so a b c d e f fr lf) (Bxd p2 q2 gs2) n ks es (some (.imm (.int (j : Int)))) o8 (some (.imm (.str s))) (some (.imm (.str x)))) = .ok [entD (k, t)] (eB (so a b c d e f fr lf3) (Bxd p3 q3 gs3) n ks es (some (.imm (.int (j : Int)))) o8 (some (.imm (.str s))) (some (.imm (.str x)))) := by
    generalize mCM 0 1 m__law_tree (mCons (mV 9) (mCons (mV 10) (mCons (mV 3) mNil))) = MM at c1 ⊢
    simp (disch := omega) only [enI, sSeq, sDP, bs, mBin, mBinL, bd, mDG, List.getElem?_cons_zero, List.getElem?_cons_succ, lift, mC, mV, mVL, fAdd, fSub, if_true, if_false, Bool.false_eq_true, List.set_cons_zero, List.set_cons_succ, sIf, mCmp, mCall, mCons, mNil, pu, gLen, List.length_map, fI, sRet, sRetL, sNx, fIxL, fIxT, endS, sSet, sSetL, sDrop, mTup, mLst, fz, mUn, bl, mAnd, mOr, mNot, mIf, mTru, mTruL, truth, mB, mAndV, mOrV, mNotV, isB, mIxL, mSl, mSlL, mPt, mNoP, pI, fSl, fSlL, mCallL, mPk, mIsi, gTuple, gList, gMax, fNeg, mCF, mCFL, mCS, mfn, mfnS, List.length_cons, List.length_nil, List.map_cons, List.map_nil, List.cons_append, List.nil_append, List.replicate, List.append_nil, Nat.reduceSub, Nat.reduceAdd, Nat.reduceLT, Nat.zero_add, fDiv_eq, fMod_eq, atI0, atI1, atI2, atI3, sz0, Nat.lt_add_left_iff_pos, msSeq, seqD, msRng, rg_eq, sFor, fIs, fIsNot, isN, Bool.not_true, Bool.not_false, Bool.true_and, Bool.false_and, Bool.and_true, Bool.or_true, Bool.true_or, decide_true, decide_false, ek, c1]
  have el : (es.map entD).length ≤ 16000000 := by rw [List.length_map]; omega
  rw [drop_ok (mut_ok (d := .none) rfl c2 rfl (fApp_eq el))]
  simp only [eB, List.map_append, List.map_cons, List.map_nil, List.set_cons_succ, List.set_cons_zero]
end
end K87

namespace K87
open PySem PySem.Spec PyProof.Rows L2 Pu Kt Kq
theorem rg2_any {i j : Int} (h0 : -1000000 ≤ i) (h1 : i ≤ 1000000) (h2 : -1000000 ≤ j) (h3 : j ≤ 1000000) : rg2D [.int i, .int j] = some (rng2 i (j - i).toNat) := by
  have e : ((decide (-(2 ^ 62) ≤ i) && decide (i < 2 ^ 62)) && (decide (-(2 ^ 62) ≤ j) && decide (j < 2 ^ 62))) = true := by
    rw [Bool.and_eq_true, Bool.and_eq_true, Bool.and_eq_true]
    exact ⟨⟨decide_eq_true (by omega), decide_eq_true (by omega)⟩, decide_eq_true (by omega), decide_eq_true (by omega)⟩
  show (if ((decide (-(2 ^ 62) ≤ i) && decide (i < 2 ^ 62)) && (decide (-(2 ^ 62) ≤ j) && decide (j < 2 ^ 62))) = true then some (rng2 i (j - i).toNat) else none) = _
  rw [if_pos e]
theorem rg2_eq {n : Nat} (h : n ≤ 1000) : rg2D [.int 1, .int ((n + 1 : Nat) : Int)] = some (rng2 1 n) := by
  rw [rg2_any (by omega) (by omega) (by omega) (by omega), show (((n + 1 : Nat) : Int) - 1).toNat = n by omega]
theorem dp_ok {i : Nat} {k : Str} {m : MM D} {ρ ρ' : En} {d : D} {kvs kvs' : List (Str × D)} (h : m ρ = .ok d ρ') (h1 : ρ'[i]? = some (some (.dct kvs))) (hl : kvs.length < sizeLine) (e : putD kvs k d = kvs') : sDP i k m ρ = .nx (ρ'.set i (some (.dct kvs'))) := by
  unfold sDP
  rw [bs_ok h, h1]
  dsimp only
  rw [if_pos hl, e]
theorem rev_eq {i : Nat} {ρ : En} {W : List D} (h : ρ[i]? = some (some (.lst W))) : mRevL (mV i) (mUn fNeg (mC (.int 1))) ρ = .ok W.reverse (ρ.set i (some (.imm (.list W)))) := by
  have e : revD (.list W) (.int (-1)) = some W.reverse := by unfold revD; simp
  have hn : fNeg (.int 1) = some (.int (-1)) := rfl
  simp only [mRevL, bd, mV, h, mUn, mC, pu, lift, hn, e]
theorem msRg2_ok {m : MM (List D)} {ρ ρ' : En} {i j : D} {ds : List D} (h : m ρ = .ok [i, j] ρ') (q : rg2D [i, j] = some ds) : msRg2 m ρ = .ok ds ρ' := by
  unfold msRg2
  rw [bd_ok h, q]
  rfl
theorem fz_ok {m : MM (List D)} {ρ ρ' : En} {ds : List D} (h : m ρ = .ok ds ρ') : fz m ρ = .ok (.list ds) ρ' := by
  unfold fz
  rw [bd_ok h]
  rfl
abbrev eP (so1 : List (Str × D)) (bx : List D) (n : Int) (o5 o6 o7 o8 : Option S1) : En := [some (.box bx), some (.dct so1), some (.imm (.int n)), some (.imm (.int 4)), some (.imm (.str GR)), o5, o6, o7, o8, none, none]
section
variable {a b : Str} {fr : Int}
theorem grafts_ok {c d e f : Str} (hc : Wk c) (hd : Wk d) (he : Wk e) (hf : Wk f) (p q : Int) (gs : List Int) (lf n : Int) : ∃ (e' f' : Str) (p' q' : Int) (gs' : List Int), (sIf (mCmp fEqW (mCB 0 m__law_pick (mCons (mC (.int 3)) mNil)) (mC (.int 0))) (sDP 1 "grafts" (fz (mCallL gList (mCons (mDG 1 "starts") mNil)))) sNx) (eP (so a b c d e f fr lf) (Bxd p q gs) n none none none none) = .nx (eP (so a b c d e' f' fr lf) (Bxd p' q' gs') n none none none none) ∧ Wk e' ∧ Wk f' := by
  obtain ⟨r, p1, q1, gs1, e1, hr⟩ := pick_ok (n := 3) (by omega) (by omega) p q gs
  have e1 : m__law_pick (Bxd p q gs) [.int 3] = .ok (.imm (.int r)) (Bxd p1 q1 gs1) := e1
  cases hr0 : ((r : Int) == 0) with
  | true =>
    refine ⟨c, d, p1, q1, gs1, (if_t (ρ' := eP (so a b c d e f fr lf) (Bxd p1 q1 gs1) n none none none none) ?_).trans ?_, hc, hd⟩
    · simp (disch := omega) only [enI, sSeq, sDP, bs, mBin, mBinL, bd, mDG, List.getElem?_cons_zero, List.getElem?_cons_succ, lift, mC, mV, mVL, fAdd, fSub, if_true, if_false, Bool.false_eq_true, List.set_cons_zero, List.set_cons_succ, sIf, mCmp, mCall, mCons, mNil, pu, gLen, List.length_map, fI, sRet, sRetL, sNx, fIxL, fIxT, endS, sSet, sSetL, sDrop, mTup, mLst, fz, mUn, bl, mAnd, mOr, mNot, mIf, mTru, mTruL, truth, mB, mAndV, mOrV, mNotV, isB, mIxL, mSl, mSlL, mPt, mNoP, pI, fSl, fSlL, mCallL, mPk, mIsi, gTuple, gList, gMax, fNeg, mCF, mCFL, mCS, mfn, mfnS, List.length_cons, List.length_nil, List.map_cons, List.map_nil, List.cons_append, List.nil_append, List.replicate, List.append_nil, Nat.reduceSub, Nat.reduceAdd, Nat.reduceLT, Nat.zero_add, fDiv_eq, fMod_eq, atI0, atI1, atI2, atI3, sz0, Nat.lt_add_left_iff_pos, msSeq, seqD, msRng, rg_eq, sFor, fIs, fIsNot, isN, Bool.not_true, Bool.not_false, Bool.true_and, Bool.false_and, Bool.and_true, Bool.or_true, Bool.true_or, decide_true, decide_false, mCB, fEqW_int, e1, hr0]
    · exact dp_ok (d := .list [.str c, .str d]) (ρ' := eP (so a b c d e f fr lf) (Bxd p1 q1 gs1) n none none none none) (by simp (disch := omega) only [enI, sSeq, sDP, bs, mBin, mBinL, bd, mDG, List.getElem?_cons_zero, List.getElem?_cons_succ, lift, mC, mV, mVL, fAdd, fSub, if_true, if_false, Bool.false_eq_true, List.set_cons_zero, List.set_cons_succ, sIf, mCmp, mCall, mCons, mNil, pu, gLen, List.length_map, fI, sRet, sRetL, sNx, fIxL, fIxT, endS, sSet, sSetL, sDrop, mTup, mLst, fz, mUn, bl, mAnd, mOr, mNot, mIf, mTru, mTruL, truth, mB, mAndV, mOrV, mNotV, isB, mIxL, mSl, mSlL, mPt, mNoP, pI, fSl, fSlL, mCallL, mPk, mIsi, gTuple, gList, gMax, fNeg, mCF, mCFL, mCS, mfn, mfnS, List.length_cons, List.length_nil, List.map_cons, List.map_nil, List.cons_append, List.nil_append, List.replicate, List.append_nil, Nat.reduceSub, Nat.reduceAdd, Nat.reduceLT, Nat.zero_add, fDiv_eq, fMod_eq, atI0, atI1, atI2, atI3, sz0, Nat.lt_add_left_iff_pos, msSeq, seqD, msRng, rg_eq, sFor, fIs, fIsNot, isN, Bool.not_true, Bool.not_false, Bool.true_and, Bool.false_and, Bool.and_true, Bool.or_true, Bool.true_or, decide_true, decide_false, v_starts]) rfl so_len (p_grafts2 rfl)
  | false =>
    refine ⟨e, f, p1, q1, gs1, (if_f (ρ' := eP (so a b c d e f fr lf) (Bxd p1 q1 gs1) n none none none none) ?_).trans rfl, he, hf⟩
    simp (disch := omega) only [enI, sSeq, sDP, bs, mBin, mBinL, bd, mDG, List.getElem?_cons_zero, List.getElem?_cons_succ, lift, mC, mV, mVL, fAdd, fSub, if_true, if_false, Bool.false_eq_true, List.set_cons_zero, List.set_cons_succ, sIf, mCmp, mCall, mCons, mNil, pu, gLen, List.length_map, fI, sRet, sRetL, sNx, fIxL, fIxT, endS, sSet, sSetL, sDrop, mTup, mLst, fz, mUn, bl, mAnd, mOr, mNot, mIf, mTru, mTruL, truth, mB, mAndV, mOrV, mNotV, isB, mIxL, mSl, mSlL, mPt, mNoP, pI, fSl, fSlL, mCallL, mPk, mIsi, gTuple, gList, gMax, fNeg, mCF, mCFL, mCS, mfn, mfnS, List.length_cons, List.length_nil, List.map_cons, List.map_nil, List.cons_append, List.nil_append, List.replicate, List.append_nil, Nat.reduceSub, Nat.reduceAdd, Nat.reduceLT, Nat.zero_add, fDiv_eq, fMod_eq, atI0, atI1, atI2, atI3, sz0, Nat.lt_add_left_iff_pos, msSeq, seqD, msRng, rg_eq, sFor, fIs, fIsNot, isN, Bool.not_true, Bool.not_false, Bool.true_and, Bool.false_and, Bool.and_true, Bool.or_true, Bool.true_or, decide_true, decide_false, mCB, fEqW_int, e1, hr0]
theorem first_ok {c d e f : Str} (p q : Int) (gs : List Int) (lf n : Int) (ks : List (List Nat)) (hk : 0 < ks.length) : ∃ (x : Str × Tr) (p' q' : Int) (gs' : List Int) (lf' : Int), (sSetL 6 (mLst (mCons (mTup (mCons (mIxL 5 (mC (.int 0))) (mCons (mCM 0 1 m__law_tree (mCons (mBin fIx (mDG 1 "starts") (mC (.int 0))) (mCons (mC (.str "")) (mCons (mBin fMul (mV 3) (mBin fDiv (mBin fAdd (mC (.int 1)) (mCB 0 m__law_pick (mCons (mC (.int 3)) mNil))) (mC (.int 2)))) mNil)))) mNil))) mNil))) (eP (so a b c d e f fr lf) (Bxd p q gs) n (some (.lst (ks.map sD))) none none none) = .nx (eP (so a b c d e f fr lf') (Bxd p' q' gs') n (some (.lst (ks.map sD))) (some (.lst [entD x])) none none) ∧ Gt x.2 := by
  obtain ⟨r, p1, q1, gs1, e1, hr⟩ := pick_ok (n := 3) (by omega) (by omega) p q gs
  have e1 : m__law_pick (Bxd p q gs) [.int 3] = .ok (.imm (.int r)) (Bxd p1 q1 gs1) := e1
  obtain ⟨t, p2, q2, gs2, lf2, e2, ht⟩ := tree_ok (a := a) (b := b) (c := c) (d := d) (e := e) (f := f) (fr := fr) p1 q1 gs1 lf (4 * ((1 + (r : Int)) / 2)) c (.inl rfl)
  obtain ⟨k, ek⟩ := key_at hk
  have ek : atI (ks.map sD) 0 = some (.str k) := ek
  have a1 : (mCons (mBin fIx (mDG 1 "starts") (mC (.int 0))) (mCons (mC (.str "")) (mCons (mBin fMul (mV 3) (mBin fDiv (mBin fAdd (mC (.int 1)) (mCB 0 m__law_pick (mCons (mC (.int 3)) mNil))) (mC (.int 2)))) mNil))) (eP (so a b c d e f fr lf) (Bxd p q gs) n (some (.lst (ks.map sD))) none none none) = .ok [.str c, .str "", .int (4 * ((1 + (r : Int)) / 2))] (eP (so a b c d e f fr lf) (Bxd p1 q1 gs1) n (some (.lst (ks.map sD))) none none none) := by
    generalize ks.map sD = W
    simp (disch := omega) only [enI, sSeq, sDP, bs, mBin, mBinL, bd, mDG, List.getElem?_cons_zero, List.getElem?_cons_succ, lift, mC, mV, mVL, fAdd, fSub, if_true, if_false, Bool.false_eq_true, List.set_cons_zero, List.set_cons_succ, sIf, mCmp, mCall, mCons, mNil, pu, gLen, List.length_map, fI, sRet, sRetL, sNx, fIxL, fIxT, endS, sSet, sSetL, sDrop, mTup, mLst, fz, mUn, bl, mAnd, mOr, mNot, mIf, mTru, mTruL, truth, mB, mAndV, mOrV, mNotV, isB, mIxL, mSl, mSlL, mPt, mNoP, pI, fSl, fSlL, mCallL, mPk, mIsi, gTuple, gList, gMax, fNeg, mCF, mCFL, mCS, mfn, mfnS, List.length_cons, List.length_nil, List.map_cons, List.map_nil, List.cons_append, List.nil_append, List.replicate, List.append_nil, Nat.reduceSub, Nat.reduceAdd, Nat.reduceLT, Nat.zero_add, fDiv_eq, fMod_eq, atI0, atI1, atI2, atI3, sz0, Nat.lt_add_left_iff_pos, msSeq, seqD, msRng, rg_eq, sFor, fIs, fIsNot, isN, Bool.not_true, Bool.not_false, Bool.true_and, Bool.false_and, Bool.and_true, Bool.or_true, Bool.true_or, decide_true, decide_false, mCB, v_starts, e1, fMulB]
  have c1 := mcm_ok (i := 0) (j := 1) (m := m__law_tree) (ma := (mCons (mBin fIx (mDG 1 "starts") (mC (.int 0))) (mCons (mC (.str "")) (mCons (mBin fMul (mV 3) (mBin fDiv (mBin fAdd (mC (.int 1)) (mCB 0 m__law_pick (mCons (mC (.int 3)) mNil))) (mC (.int 2)))) mNil)))) (ρ := eP (so a b c d e f fr lf) (Bxd p q gs) n (some (.lst (ks.map sD))) none none none) rfl rfl a1 rfl rfl e2
  refine ⟨(k, t), p2, q2, gs2, lf2, ?_, ht⟩
  generalize mCM 0 1 m__law_tree _ = MM at c1 ⊢
  generalize ks.map sD = W at ek c1 ⊢
  simp (disch := omega) only [enI, sSeq, sDP, bs, mBin, mBinL, bd, mDG, List.getElem?_cons_zero, List.getElem?_cons_succ, lift, mC, mV, mVL, fAdd, fSub, if_true, if_false, Bool.false_eq_true, List.set_cons_zero, List.set_cons_succ, sIf, mCmp, mCall, mCons, mNil, pu, gLen, List.length_map, fI, sRet, sRetL, sNx, fIxL, fIxT, endS, sSet, sSetL, sDrop, mTup, mLst, fz, mUn, bl, mAnd, mOr, mNot, mIf, mTru, mTruL, truth, mB, mAndV, mOrV, mNotV, isB, mIxL, mSl, mSlL, mPt, mNoP, pI, fSl, fSlL, mCallL, mPk, mIsi, gTuple, gList, gMax, fNeg, mCF, mCFL, mCS, mfn, mfnS, List.length_cons, List.length_nil, List.map_cons, List.map_nil, List.cons_append, List.nil_append, List.replicate, List.append_nil, Nat.reduceSub, Nat.reduceAdd, Nat.reduceLT, Nat.zero_add, fDiv_eq, fMod_eq, atI0, atI1, atI2, atI3, sz0, Nat.lt_add_left_iff_pos, msSeq, seqD, msRng, rg_eq, sFor, fIs, fIsNot, isN, Bool.not_true, Bool.not_false, Bool.true_and, Bool.false_and, Bool.and_true, Bool.or_true, Bool.true_or, decide_true, decide_false, ek, c1]
theorem book_ok {n : Nat} (h3 : 3 ≤ n) (h5 : n ≤ 5) (p q : Int) (gs : List Int) (lf : Int) : ∃ (c d e f : Str) (es : List (Str × Tr)) (p' q' : Int) (gs' : List Int) (lf' : Int), m__law_book (Bxd p q gs) (so0 a b fr lf) [.int (n : Int), .int 4] = .ok (.imm (bookD c es)) (Bxd p' q' gs') (so a b c d e f fr lf') ∧ es.length = n ∧ ∀ x ∈ es, Gt x.2 := by
  obtain ⟨ws1, p1, q1, gs1, e1, hl1, hw1⟩ := words_ok (n := 2) (p := Lo) (by omega) hd_gr tl_7 p q gs
  have e1 : m__law_words (Bxd p q gs) [.str GR, .str "7", .int 2] = .ok (.own (ws1.map sD)) (Bxd p1 q1 gs1) := e1
  obtain ⟨u, v, rfl⟩ := len2 hl1
  obtain ⟨ws2, p2, q2, gs2, e2, hl2, hw2⟩ := words_ok (n := 2) (p := Lo) (by omega) hd_gr tl_0 p1 q1 gs1
  have e2 : m__law_words (Bxd p1 q1 gs1) [.str GR, .str "0", .int 2] = .ok (.own (ws2.map sD)) (Bxd p2 q2 gs2) := e2
  obtain ⟨u2, v2, rfl⟩ := len2 hl2
  have wk : ∀ w, (w = u ∨ w = v) → Wk (S w) := fun w h => by
    have hm : w ∈ [u, v] := by rcases h with rfl | rfl <;> simp
    exact wk_of (hw1 w hm).1 (hw1 w hm).2.1
  have wk2 : ∀ w, (w = u2 ∨ w = v2) → Wk (S w) := fun w h => by
    have hm : w ∈ [u2, v2] := by rcases h with rfl | rfl <;> simp
    exact wk_of (hw2 w hm).1 (hw2 w hm).2.1
  obtain ⟨e, f, p3, q3, gs3, e3, he, hf⟩ := grafts_ok (a := a) (b := b) (fr := fr) (wk u (.inl rfl)) (wk v (.inr rfl)) (wk2 u2 (.inl rfl)) (wk2 v2 (.inr rfl)) p2 q2 gs2 lf (n : Int)
  generalize hcu : S u = c at e3 he hf
  generalize hdv : S v = d at e3 he hf
  obtain ⟨ks, p4, q4, gs4, e4, hl4, hw4⟩ := words_ok (n := n) (p := Lo) (by omega) hd_az tl_3 p3 q3 gs3
  obtain ⟨x0, p5, q5, gs5, lf5, e5, hx0⟩ := first_ok (a := a) (b := b) (c := c) (d := d) (e := e) (f := f) (fr := fr) p4 q4 gs4 lf (n : Int) ks (by omega)
  obtain ⟨k, rfl⟩ : ∃ k, n = k + 1 := ⟨n - 1, by omega⟩
  obtain ⟨ρ6, e6, es, p6, q6, gs6, lf6, o7, o9, o10, rfl, hle, hge⟩ := for_inv (f := gN 7) (b := bkB)
    (fun i ρ => ∃ (es : List (Str × Tr)) (p6 q6 : Int) (gs6 : List Int) (lf6 : Int) (o7 o9 o10 : Option S1), ρ = eB (so a b c d e f fr lf6) (Bxd p6 q6 gs6) ((k + 1 : Nat) : Int) ks es o7 none o9 o10 ∧ es.length = i + 1 ∧ ∀ x ∈ es, Gt x.2)
    (rng2 1 k) 0 (eB (so a b c d e f fr lf5) (Bxd p5 q5 gs5) ((k + 1 : Nat) : Int) ks [x0] none none none none) ⟨[x0], p5, q5, gs5, lf5, none, none, none, rfl, rfl, fun x hx => by rw [List.mem_singleton.mp hx]; exact hx0⟩ (fun j dd ρ hd ⟨es, p6, q6, gs6, lf6, o7, o9, o10, e', g1, g2⟩ => by
      subst e'
      unfold rng2 at hd
      rw [List.getElem?_map] at hd
      obtain ⟨j', hj', rfl⟩ := Option.map_eq_some_iff.mp hd
      obtain ⟨hj1, hj2⟩ := List.getElem?_eq_some_iff.mp hj'
      rw [List.length_range] at hj1
      rw [List.getElem_range] at hj2
      subst hj2
      rw [Nat.zero_add] at g1 ⊢
      obtain ⟨x, p7, q7, gs7, lf7, o9', o10', e7, hx⟩ := book_turn (a := a) (b := b) (c := c) (d := d) (fr := fr) he hf p6 q6 gs6 lf6 ((k + 1 : Nat) : Int) ks es (j + 1) (by omega) (by omega) none o9 o10
      have ej : (1 : Int) + (j : Int) = ((j + 1 : Nat) : Int) := by omega
      refine ⟨_, rfl, _, (by rw [ej]; exact e7), es ++ [x], p7, q7, gs7, lf7, _, o9', o10', rfl, by rw [List.length_append, g1]; rfl, fun y hy => ?_⟩
      rcases List.mem_append.mp hy with hy | hy
      · exact g2 y hy
      · rw [List.mem_singleton.mp hy]; exact hx)
  have hle : es.length = k + 1 := by rw [hle]; unfold rng2; rw [List.length_map, List.length_range]; omega
  obtain ⟨t, p7, q7, gs7, e7, ht⟩ := pick_ok (n := k + 1) (by omega) (by omega) p6 q6 gs6
  obtain ⟨r, p8, q8, gs8, e8, hr⟩ := pick_ok (n := 2) (by omega) (by omega) p7 q7 gs7
  have e8 : m__law_pick (Bxd p7 q7 gs7) [.int 2] = .ok (.imm (.int r)) (Bxd p8 q8 gs8) := e8
  have hdt : (es.drop t ++ es.take t).length = k + 1 := by rw [List.length_append, List.length_drop, List.length_take]; omega
  have hgt : ∀ x ∈ es.drop t ++ es.take t, Gt x.2 := fun x hx => by
    rcases List.mem_append.mp hx with hx | hx
    · exact hge x (List.mem_of_mem_drop hx)
    · exact hge x (List.mem_of_mem_take hx)
  obtain ⟨es3, e9, hl9, hg9⟩ : ∃ es3 : List (Str × Tr), (sIf (mCmp fEqW (mCB 0 m__law_pick (mCons (mC (.int 2)) mNil)) (mC (.int 1))) (sSetL 6 (mRevL (mV 6) (mUn fNeg (mC (.int 1))))) sNx) (eB (so a b c d e f fr lf6) (Bxd p7 q7 gs7) ((k + 1 : Nat) : Int) ks (es.drop t ++ es.take t) o7 (some (.imm (.int (t : Int)))) o9 o10) = .nx (eB (so a b c d e f fr lf6) (Bxd p8 q8 gs8) ((k + 1 : Nat) : Int) ks es3 o7 (some (.imm (.int (t : Int)))) o9 o10) ∧ es3.length = k + 1 ∧ ∀ x ∈ es3, Gt x.2 := by
    cases hr1 : ((r : Int) == 1) with
    | true =>
      refine ⟨(es.drop t ++ es.take t).reverse, (if_t (ρ' := eB (so a b c d e f fr lf6) (Bxd p8 q8 gs8) ((k + 1 : Nat) : Int) ks (es.drop t ++ es.take t) o7 (some (.imm (.int (t : Int)))) o9 o10) ?_).trans ?_, by rw [List.length_reverse]; exact hdt, fun x hx => hgt x (List.mem_reverse.mp hx)⟩
      · generalize es.drop t ++ es.take t = W
        simp (disch := omega) only [enI, sSeq, sDP, bs, mBin, mBinL, bd, mDG, List.getElem?_cons_zero, List.getElem?_cons_succ, lift, mC, mV, mVL, fAdd, fSub, if_true, if_false, Bool.false_eq_true, List.set_cons_zero, List.set_cons_succ, sIf, mCmp, mCall, mCons, mNil, pu, gLen, List.length_map, fI, sRet, sRetL, sNx, fIxL, fIxT, endS, sSet, sSetL, sDrop, mTup, mLst, fz, mUn, bl, mAnd, mOr, mNot, mIf, mTru, mTruL, truth, mB, mAndV, mOrV, mNotV, isB, mIxL, mSl, mSlL, mPt, mNoP, pI, fSl, fSlL, mCallL, mPk, mIsi, gTuple, gList, gMax, fNeg, mCF, mCFL, mCS, mfn, mfnS, List.length_cons, List.length_nil, List.map_cons, List.map_nil, List.cons_append, List.nil_append, List.replicate, List.append_nil, Nat.reduceSub, Nat.reduceAdd, Nat.reduceLT, Nat.zero_add, fDiv_eq, fMod_eq, atI0, atI1, atI2, atI3, sz0, Nat.lt_add_left_iff_pos, msSeq, seqD, msRng, rg_eq, sFor, fIs, fIsNot, isN, Bool.not_true, Bool.not_false, Bool.true_and, Bool.false_and, Bool.and_true, Bool.or_true, Bool.true_or, decide_true, decide_false, mCB, fEqW_int, e8, hr1]
      · generalize es.drop t ++ es.take t = W
        have hrev : (W.reverse.map entD) = (W.map entD).reverse := by rw [List.map_reverse]
        refine (setL_ok (rev_eq (i := 6) (W := W.map entD) (ρ := eB (so a b c d e f fr lf6) (Bxd p8 q8 gs8) ((k + 1 : Nat) : Int) ks W o7 (some (.imm (.int (t : Int)))) o9 o10) rfl) (by simp)).trans ?_
        rw [← hrev]
        rfl
    | false =>
      refine ⟨es.drop t ++ es.take t, (if_f (ρ' := eB (so a b c d e f fr lf6) (Bxd p8 q8 gs8) ((k + 1 : Nat) : Int) ks (es.drop t ++ es.take t) o7 (some (.imm (.int (t : Int)))) o9 o10) ?_).trans rfl, hdt, hgt⟩
      generalize es.drop t ++ es.take t = W
      simp (disch := omega) only [enI, sSeq, sDP, bs, mBin, mBinL, bd, mDG, List.getElem?_cons_zero, List.getElem?_cons_succ, lift, mC, mV, mVL, fAdd, fSub, if_true, if_false, Bool.false_eq_true, List.set_cons_zero, List.set_cons_succ, sIf, mCmp, mCall, mCons, mNil, pu, gLen, List.length_map, fI, sRet, sRetL, sNx, fIxL, fIxT, endS, sSet, sSetL, sDrop, mTup, mLst, fz, mUn, bl, mAnd, mOr, mNot, mIf, mTru, mTruL, truth, mB, mAndV, mOrV, mNotV, isB, mIxL, mSl, mSlL, mPt, mNoP, pI, fSl, fSlL, mCallL, mPk, mIsi, gTuple, gList, gMax, fNeg, mCF, mCFL, mCS, mfn, mfnS, List.length_cons, List.length_nil, List.map_cons, List.map_nil, List.cons_append, List.nil_append, List.replicate, List.append_nil, Nat.reduceSub, Nat.reduceAdd, Nat.reduceLT, Nat.zero_add, fDiv_eq, fMod_eq, atI0, atI1, atI2, atI3, sz0, Nat.lt_add_left_iff_pos, msSeq, seqD, msRng, rg_eq, sFor, fIs, fIsNot, isN, Bool.not_true, Bool.not_false, Bool.true_and, Bool.false_and, Bool.and_true, Bool.or_true, Bool.true_or, decide_true, decide_false, mCB, fEqW_int, e8, hr1]
  refine ⟨c, d, e, f, es3, p8, q8, gs8, lf6, ?_, hl9, hg9⟩
  refine mfnM_rt (n := 11) (b := b__law_book) (ρ' := [some (.imm (.int ((k + 1 : Nat) : Int))), some (.imm (.int 4)), some (.imm (.str GR)), some (.lst (ks.map sD)), some (.imm (.list (es3.map entD))), o7, some (.imm (.int (t : Int))), o9, o10]) ?_
  show b__law_book [some (.box (Bxd p q gs)), some (.dct (so0 a b fr lf)), some (.imm (.int ((k + 1 : Nat) : Int))), some (.imm (.int 4)), none, none, none, none, none, none, none] = _
  have l4 : (so0 a b fr lf).length < sizeLine := lt_line (by simp)
  have l5 : (so5 a b c d fr lf).length < sizeLine := lt_line (by simp)
  unfold b__law_book
  rw [seq_nx (ρ' := eP (so0 a b fr lf) (Bxd p q gs) ((k + 1 : Nat) : Int) none none none none) (by rfl)]
  rw [seq_nx (ρ' := eP (so5 a b c d fr lf) (Bxd p1 q1 gs1) ((k + 1 : Nat) : Int) none none none none) ((dp_ok (kvs := so0 a b fr lf) (kvs' := so5 a b c d fr lf) (fz_ok (mcbl_ok (b0 := Bxd p q gs) (b1 := Bxd p q gs) (ρ' := eP (so0 a b fr lf) (Bxd p q gs) ((k + 1 : Nat) : Int) none none none none) rfl (by rfl) rfl e1)) rfl l4 (p_starts (by rw [← hcu, ← hdv]; rfl))).trans rfl)]
  rw [seq_nx (ρ' := eP (so a b c d (S u2) (S v2) fr lf) (Bxd p2 q2 gs2) ((k + 1 : Nat) : Int) none none none none) ((dp_ok (kvs := so5 a b c d fr lf) (kvs' := so a b c d (S u2) (S v2) fr lf) (fz_ok (mcbl_ok (b0 := Bxd p1 q1 gs1) (b1 := Bxd p1 q1 gs1) (ρ' := eP (so5 a b c d fr lf) (Bxd p1 q1 gs1) ((k + 1 : Nat) : Int) none none none none) rfl (by rfl) rfl e2)) rfl l5 (p_grafts rfl)).trans rfl)]
  rw [seq_nx e3]
  rw [seq_nx (ρ' := eP (so a b c d e f fr lf) (Bxd p4 q4 gs4) ((k + 1 : Nat) : Int) (some (.lst (ks.map sD))) none none none) ((setL_ok (mcbl_ok (b0 := Bxd p3 q3 gs3) (b1 := Bxd p3 q3 gs3) (ρ' := eP (so a b c d e f fr lf) (Bxd p3 q3 gs3) ((k + 1 : Nat) : Int) none none none none) rfl (by simp (disch := omega) only [enI, sSeq, sDP, bs, mBin, mBinL, bd, mDG, List.getElem?_cons_zero, List.getElem?_cons_succ, lift, mC, mV, mVL, fAdd, fSub, if_true, if_false, Bool.false_eq_true, List.set_cons_zero, List.set_cons_succ, sIf, mCmp, mCall, mCons, mNil, pu, gLen, List.length_map, fI, sRet, sRetL, sNx, fIxL, fIxT, endS, sSet, sSetL, sDrop, mTup, mLst, fz, mUn, bl, mAnd, mOr, mNot, mIf, mTru, mTruL, truth, mB, mAndV, mOrV, mNotV, isB, mIxL, mSl, mSlL, mPt, mNoP, pI, fSl, fSlL, mCallL, mPk, mIsi, gTuple, gList, gMax, fNeg, mCF, mCFL, mCS, mfn, mfnS, List.length_cons, List.length_nil, List.map_cons, List.map_nil, List.cons_append, List.nil_append, List.replicate, List.append_nil, Nat.reduceSub, Nat.reduceAdd, Nat.reduceLT, Nat.zero_add, fDiv_eq, fMod_eq, atI0, atI1, atI2, atI3, sz0, Nat.lt_add_left_iff_pos, msSeq, seqD, msRng, rg_eq, sFor, fIs, fIsNot, isN, Bool.not_true, Bool.not_false, Bool.true_and, Bool.false_and, Bool.and_true, Bool.or_true, Bool.true_or, decide_true, decide_false, low_gr]) rfl e4) (by simp)).trans rfl)]
  rw [seq_nx e5]
  have c6 : (msRg2 (mCons (mC (.int 1)) (mCons (mV 2) mNil))) (eP (so a b c d e f fr lf5) (Bxd p5 q5 gs5) ((k + 1 : Nat) : Int) (some (.lst (ks.map sD))) (some (.lst [entD x0])) none none) = .ok (rng2 1 k) (eB (so a b c d e f fr lf5) (Bxd p5 q5 gs5) ((k + 1 : Nat) : Int) ks [x0] none none none none) := by
    have h1 : (mCons (mC (.int 1)) (mCons (mV 2) mNil)) (eP (so a b c d e f fr lf5) (Bxd p5 q5 gs5) ((k + 1 : Nat) : Int) (some (.lst (ks.map sD))) (some (.lst [entD x0])) none none) = .ok [.int 1, .int ((k + 1 : Nat) : Int)] (eB (so a b c d e f fr lf5) (Bxd p5 q5 gs5) ((k + 1 : Nat) : Int) ks [x0] none none none none) := by rfl
    exact msRg2_ok h1 (rg2_eq (by omega))
  rw [seq_nx ((for_ok c6).trans e6)]
  rw [seq_nx (ρ' := eB (so a b c d e f fr lf6) (Bxd p7 q7 gs7) ((k + 1 : Nat) : Int) ks es o7 (some (.imm (.int (t : Int)))) o9 o10) ((set_ok (mcb_ok (b1 := Bxd p6 q6 gs6) (ρ' := eB (so a b c d e f fr lf6) (Bxd p6 q6 gs6) ((k + 1 : Nat) : Int) ks es o7 none o9 o10) rfl (by rfl) rfl e7) (by simp)).trans rfl)]
  rw [seq_nx (ρ' := eB (so a b c d e f fr lf6) (Bxd p7 q7 gs7) ((k + 1 : Nat) : Int) ks (es.drop t ++ es.take t) o7 (some (.imm (.int (t : Int)))) o9 o10) (by
    have c1 : Pu.cutD (es.map entD) (some (t : Int)) none = (es.map entD).drop t := cut_drop _ _
    have c2 : Pu.cutD (es.map entD) none (some (t : Int)) = (es.map entD).take t := cut_take _ _
    have c3 : fCat (.list ((es.map entD).drop t)) (.list ((es.map entD).take t)) = some ((es.map entD).drop t ++ (es.map entD).take t) := fCat_eq (by rw [List.length_drop, List.length_take, List.length_map]; omega)
    simp only [eB, List.map_append, List.map_drop, List.map_take]
    generalize es.map entD = W at c1 c2 c3 ⊢
    simp (disch := omega) only [enI, sSeq, sDP, bs, mBin, mBinL, bd, mDG, List.getElem?_cons_zero, List.getElem?_cons_succ, lift, mC, mV, mVL, fAdd, fSub, if_true, if_false, Bool.false_eq_true, List.set_cons_zero, List.set_cons_succ, sIf, mCmp, mCall, mCons, mNil, pu, gLen, List.length_map, fI, sRet, sRetL, sNx, fIxL, fIxT, endS, sSet, sSetL, sDrop, mTup, mLst, fz, mUn, bl, mAnd, mOr, mNot, mIf, mTru, mTruL, truth, mB, mAndV, mOrV, mNotV, isB, mIxL, mSl, mSlL, mPt, mNoP, pI, fSl, fSlL, mCallL, mPk, mIsi, gTuple, gList, gMax, fNeg, mCF, mCFL, mCS, mfn, mfnS, List.length_cons, List.length_nil, List.map_cons, List.map_nil, List.cons_append, List.nil_append, List.replicate, List.append_nil, Nat.reduceSub, Nat.reduceAdd, Nat.reduceLT, Nat.zero_add, fDiv_eq, fMod_eq, atI0, atI1, atI2, atI3, sz0, Nat.lt_add_left_iff_pos, msSeq, seqD, msRng, rg_eq, sFor, fIs, fIsNot, isN, Bool.not_true, Bool.not_false, Bool.true_and, Bool.false_and, Bool.and_true, Bool.or_true, Bool.true_or, decide_true, decide_false, c1, c2, c3])]
  rw [seq_nx e9]
  refine ret_ok ?_
  simp only [eB, bookD]
  generalize es3.map entD = W
  simp (disch := omega) only [enI, sSeq, sDP, bs, mBin, mBinL, bd, mDG, List.getElem?_cons_zero, List.getElem?_cons_succ, lift, mC, mV, mVL, fAdd, fSub, if_true, if_false, Bool.false_eq_true, List.set_cons_zero, List.set_cons_succ, sIf, mCmp, mCall, mCons, mNil, pu, gLen, List.length_map, fI, sRet, sRetL, sNx, fIxL, fIxT, endS, sSet, sSetL, sDrop, mTup, mLst, fz, mUn, bl, mAnd, mOr, mNot, mIf, mTru, mTruL, truth, mB, mAndV, mOrV, mNotV, isB, mIxL, mSl, mSlL, mPt, mNoP, pI, fSl, fSlL, mCallL, mPk, mIsi, gTuple, gList, gMax, fNeg, mCF, mCFL, mCS, mfn, mfnS, List.length_cons, List.length_nil, List.map_cons, List.map_nil, List.cons_append, List.nil_append, List.replicate, List.append_nil, Nat.reduceSub, Nat.reduceAdd, Nat.reduceLT, Nat.zero_add, fDiv_eq, fMod_eq, atI0, atI1, atI2, atI3, sz0, Nat.lt_add_left_iff_pos, msSeq, seqD, msRng, rg_eq, sFor, fIs, fIsNot, isN, Bool.not_true, Bool.not_false, Bool.true_and, Bool.false_and, Bool.and_true, Bool.or_true, Bool.true_or, decide_true, decide_false, v_starts]
end
end K87

namespace K87
open PySem PySem.Spec PyProof.Rows L2 Pu Kt Kq
theorem p18 : fPow (.int 10) (.int 18) = some (.int (10 ^ 18)) := fPow_eq (n := 18) (by omega) (by omega) (by omega)
theorem box_ok (ns : List Int) (hns : ns.length ≤ 63) : ∃ (a : Int) (gs : List Int), m__law_box [.list (ns.map PyData.int)] = .ok (.own (Bxd a 0 gs)) := by
  obtain ⟨ρ', e1, a, gs, o3, rfl, hl⟩ := for_inv (f := gN 3) (b := (sSeq (sSet 1 (mBin fMod (mBin fAdd (mBin fAdd (mBin fMul (mV 1) (mC (.int 69621))) (mBin fMod (mV 3) (mC (.int 2147483629)))) (mC (.int 1))) (mC (.int 2147483647)))) (sIf (mCmp fGe (mV 3) (mBin fPow (mC (.int 10)) (mC (.int 18)))) (sDrop (mMut 2 fApp (mCons (mV 3) mNil))) sNx)))
    (fun i ρ => ∃ (a : Int) (gs : List Int) (o3 : Option S1), ρ = [some (.imm (.list (ns.map PyData.int))), some (.imm (.int ( a))), some (.lst (gs.map PyData.int)), o3] ∧ gs.length ≤ i)
    (ns.map PyData.int) 0 [some (.imm (.list (ns.map PyData.int))), some (.imm (.int ( 1))), some (.lst ([])), none] ⟨1, [], none, rfl, Nat.le_refl _⟩ (fun j d ρ hd ⟨a, gs, o3, e, hl⟩ => by
      subst e
      rw [List.getElem?_map] at hd
      obtain ⟨c, hc, rfl⟩ := Option.map_eq_some_iff.mp hd
      have hj := (List.getElem?_eq_some_iff.mp hc).1
      rw [Nat.zero_add] at hl ⊢
      refine ⟨[some (.imm (.list (ns.map PyData.int))), some (.imm (.int ( a))), some (.lst (gs.map PyData.int)), some (.imm (.int ( c)))], by simp [gN], ?_⟩
      rw [seq_nx (ρ' := [some (.imm (.list (ns.map PyData.int))), some (.imm (.int ( ((a * 69621 + c % 2147483629 + 1) % 2147483647)))), some (.lst (gs.map PyData.int)), some (.imm (.int ( c)))]) (by simp (disch := omega) only [enI, sSeq, sDP, bs, mBin, mBinL, bd, mDG, List.getElem?_cons_zero, List.getElem?_cons_succ, lift, mC, mV, mVL, fSub, if_true, if_false, Bool.false_eq_true, List.set_cons_zero, List.set_cons_succ, sIf, mCmp, mCall, mCons, mNil, pu, gLen, List.length_map, fI, sRet, sRetL, sNx, fIxL, fIxT, endS, sSet, sSetL, sDrop, mTup, mLst, fz, mUn, bl, mAnd, mOr, mNot, mIf, mTru, mTruL, truth, mB, mAndV, mOrV, mNotV, isB, mIxL, mSl, mSlL, mPt, mNoP, pI, fSl, fSlL, mCallL, mPk, mIsi, gTuple, gList, gMax, fNeg, mCF, mCFL, mCS, mfn, mfnS, List.length_cons, List.length_nil, List.map_cons, List.map_nil, List.cons_append, List.nil_append, List.replicate, List.append_nil, Nat.reduceSub, Nat.reduceAdd, Nat.reduceLT, Nat.zero_add, fDiv_eq, fMod_eq, atI0, atI1, atI2, atI3, sz0, Nat.lt_add_left_iff_pos, msSeq, seqD, msRng, rg_eq, sFor, fIs, fIsNot, isN, Bool.not_true, Bool.not_false, Bool.true_and, Bool.false_and, Bool.and_true, Bool.or_true, Bool.true_or, decide_true, decide_false, fAdd_int, fMulB])]
      generalize (a * 69621 + c % 2147483629 + 1) % 2147483647 = a2
      by_cases h : c ≥ 10 ^ 18
      · have hz4 : (gs.map PyData.int).length ≤ 16000000 := by rw [List.length_map]; omega
        refine ⟨[some (.imm (.list (ns.map PyData.int))), some (.imm (.int ( a2))), some (.lst ((gs ++ [c]).map PyData.int)), some (.imm (.int ( c)))], ?_, a2, gs ++ [c], some (.imm (.int c)), rfl, by rw [List.length_append, List.length_singleton]; omega⟩
        rw [if_t (ρ' := [some (.imm (.list (ns.map PyData.int))), some (.imm (.int ( a2))), some (.lst (gs.map PyData.int)), some (.imm (.int ( c)))]) (by simp (disch := omega) only [enI, sSeq, sDP, bs, mBin, mBinL, bd, mDG, List.getElem?_cons_zero, List.getElem?_cons_succ, lift, mC, mV, mVL, fSub, if_true, if_false, Bool.false_eq_true, List.set_cons_zero, List.set_cons_succ, sIf, mCmp, mCall, mCons, mNil, pu, gLen, List.length_map, fI, sRet, sRetL, sNx, fIxL, fIxT, endS, sSet, sSetL, sDrop, mTup, mLst, fz, mUn, bl, mAnd, mOr, mNot, mIf, mTru, mTruL, truth, mB, mAndV, mOrV, mNotV, isB, mIxL, mSl, mSlL, mPt, mNoP, pI, fSl, fSlL, mCallL, mPk, mIsi, gTuple, gList, gMax, fNeg, mCF, mCFL, mCS, mfn, mfnS, List.length_cons, List.length_nil, List.map_cons, List.map_nil, List.cons_append, List.nil_append, List.replicate, List.append_nil, Nat.reduceSub, Nat.reduceAdd, Nat.reduceLT, Nat.zero_add, fDiv_eq, fMod_eq, atI0, atI1, atI2, atI3, sz0, Nat.lt_add_left_iff_pos, msSeq, seqD, msRng, rg_eq, sFor, fIs, fIsNot, isN, Bool.not_true, Bool.not_false, Bool.true_and, Bool.false_and, Bool.and_true, Bool.or_true, Bool.true_or, decide_true, decide_false, fAdd_int, p18, decide_eq_true h])]
        rw [drop_ok (mut_ok (i := 2) (ds0 := gs.map PyData.int) (as := [.int c]) (d := .none) (ρ' := [some (.imm (.list (ns.map PyData.int))), some (.imm (.int ( a2))), some (.lst (gs.map PyData.int)), some (.imm (.int ( c)))]) rfl (by rfl) rfl (fApp_eq hz4)), List.map_append]
        rfl
      · refine ⟨[some (.imm (.list (ns.map PyData.int))), some (.imm (.int ( a2))), some (.lst (gs.map PyData.int)), some (.imm (.int ( c)))], ?_, a2, gs, some (.imm (.int c)), rfl, by omega⟩
        rw [if_f (ρ' := [some (.imm (.list (ns.map PyData.int))), some (.imm (.int ( a2))), some (.lst (gs.map PyData.int)), some (.imm (.int ( c)))]) (by simp (disch := omega) only [enI, sSeq, sDP, bs, mBin, mBinL, bd, mDG, List.getElem?_cons_zero, List.getElem?_cons_succ, lift, mC, mV, mVL, fSub, if_true, if_false, Bool.false_eq_true, List.set_cons_zero, List.set_cons_succ, sIf, mCmp, mCall, mCons, mNil, pu, gLen, List.length_map, fI, sRet, sRetL, sNx, fIxL, fIxT, endS, sSet, sSetL, sDrop, mTup, mLst, fz, mUn, bl, mAnd, mOr, mNot, mIf, mTru, mTruL, truth, mB, mAndV, mOrV, mNotV, isB, mIxL, mSl, mSlL, mPt, mNoP, pI, fSl, fSlL, mCallL, mPk, mIsi, gTuple, gList, gMax, fNeg, mCF, mCFL, mCS, mfn, mfnS, List.length_cons, List.length_nil, List.map_cons, List.map_nil, List.cons_append, List.nil_append, List.replicate, List.append_nil, Nat.reduceSub, Nat.reduceAdd, Nat.reduceLT, Nat.zero_add, fDiv_eq, fMod_eq, atI0, atI1, atI2, atI3, sz0, Nat.lt_add_left_iff_pos, msSeq, seqD, msRng, rg_eq, sFor, fIs, fIsNot, isN, Bool.not_true, Bool.not_false, Bool.true_and, Bool.false_and, Bool.and_true, Bool.or_true, Bool.true_or, decide_true, decide_false, fAdd_int, p18, decide_eq_false h])]
        rfl)
  refine ⟨a, gs, mfn_rt (ρ' := [some (.imm (.list (ns.map PyData.int))), some (.imm (.int ( a))), some (.imm (.list (gs.map PyData.int))), o3]) ?_⟩
  unfold b__law_box
  rw [seq_nx (ρ' := [some (.imm (.list (ns.map PyData.int))), some (.imm (.int ( 1))), none, none]) (by rfl)]
  rw [seq_nx (ρ' := [some (.imm (.list (ns.map PyData.int))), some (.imm (.int ( 1))), some (.lst ([])), none]) (by rfl)]
  rw [seq_nx ((for_ok (by rfl)).trans e1)]
  refine retL_ok ?_
  simp (disch := omega) only [enI, sSeq, sDP, bs, mBin, mBinL, bd, mDG, List.getElem?_cons_zero, List.getElem?_cons_succ, lift, mC, mV, mVL, fSub, if_true, if_false, Bool.false_eq_true, List.set_cons_zero, List.set_cons_succ, sIf, mCmp, mCall, mCons, mNil, pu, gLen, List.length_map, fI, sRet, sRetL, sNx, fIxL, fIxT, endS, sSet, sSetL, sDrop, mTup, mLst, fz, mUn, bl, mAnd, mOr, mNot, mIf, mTru, mTruL, truth, mB, mAndV, mOrV, mNotV, isB, mIxL, mSl, mSlL, mPt, mNoP, pI, fSl, fSlL, mCallL, mPk, mIsi, gTuple, gList, gMax, fNeg, mCF, mCFL, mCS, mfn, mfnS, List.length_cons, List.length_nil, List.map_cons, List.map_nil, List.cons_append, List.nil_append, List.replicate, List.append_nil, Nat.reduceSub, Nat.reduceAdd, Nat.reduceLT, Nat.zero_add, fDiv_eq, fMod_eq, atI0, atI1, atI2, atI3, sz0, Nat.lt_add_left_iff_pos, msSeq, seqD, msRng, rg_eq, sFor, fIs, fIsNot, isN, Bool.not_true, Bool.not_false, Bool.true_and, Bool.false_and, Bool.and_true, Bool.or_true, Bool.true_or, decide_true, decide_false, fAdd_int]
theorem ne_bool (b : Bool) : fNeW (.bool b) (.bool b) = some false := by cases b <;> rfl
theorem isb (b : Bool) : isT "bool" (.bool b) = true := by cases b <;> rfl

abbrev eL (d0 : D) (o1 o2 o3 o4 o5 o6 o7 o8 o9 o10 o11 o12 : Option S1) : En := [some (.imm d0), o1, o2, o3, o4, o5, o6, o7, o8, o9, o10, o11, o12, none, none, none, none]
abbrev rowD (x : Str × Tr) : D := .list (sL (lv x.2))
def nof (x : Str × Tr) : Bool := !decide (("foot" : Str) ∈ lv x.2)
section
variable {d0 : D} {o1 o2 o3 o4 o7 o8 o9 o10 o11 o12 : Option S1} {bk : D} {es : List (Str × Tr)}
theorem ix_bk {c : Str} {es : List (Str × Tr)} : fIx (bookD c es) (.int 1) = some (.tuple (es.map entD)) := atI1
theorem rows_ok (hb : fIx bk (.int 1) = some (.tuple (es.map entD))) (h : ∀ e ∈ es, Gt e.2) (hl : es.length ≤ 100) :
    mLc [13, 14] (msSeq (mBin fIx (mV 5) (mC (.int 1)))) (gT [13, 14]) mYes (fz (mCFL (m__law_leaves 12) (mCons (mV 14) mNil))) (eL d0 o1 o2 o3 o4 (some (.imm bk)) none o7 o8 o9 o10 o11 o12) = .ok (es.map rowD) (eL d0 o1 o2 o3 o4 (some (.imm bk)) none o7 o8 o9 o10 o11 o12) := by
  have hf : es.filter (fun _ => true) = es := List.filter_eq_self.mpr fun _ _ => rfl
  rw [show es.map rowD = (es.filter (fun _ => true)).map rowD by rw [hf]]
  refine mLcM_eq (ρ' := eL d0 o1 o2 o3 o4 (some (.imm bk)) none o7 o8 o9 o10 o11 o12) entD (fun _ => true) rowD (by simp (disch := omega) only [enI, sSeq, sDP, bs, mBin, mBinL, bd, mDG, List.getElem?_cons_zero, List.getElem?_cons_succ, lift, mC, mV, mVL, fAdd, fSub, if_true, if_false, Bool.false_eq_true, List.set_cons_zero, List.set_cons_succ, sIf, mCmp, mCall, mCons, mNil, pu, gLen, List.length_map, fI, sRet, sRetL, sNx, fIxL, fIxT, endS, sSet, sSetL, sDrop, mTup, mLst, fz, mUn, bl, mAnd, mOr, mNot, mIf, mTru, mTruL, truth, mB, mAndV, mOrV, mNotV, isB, mIxL, mSl, mSlL, mPt, mNoP, pI, fSl, fSlL, mCallL, mPk, mIsi, gTuple, gList, gMax, fNeg, mCF, mCFL, mCS, mfn, mfnS, List.length_cons, List.length_nil, List.map_cons, List.map_nil, List.cons_append, List.nil_append, List.replicate, List.append_nil, Nat.reduceSub, Nat.reduceAdd, Nat.reduceLT, Nat.zero_add, fDiv_eq, fMod_eq, atI0, atI1, atI2, atI3, sz0, Nat.lt_add_left_iff_pos, msSeq, seqD, msRng, rg_eq, sFor, fIs, fIsNot, isN, Bool.not_true, Bool.not_false, Bool.true_and, Bool.false_and, Bool.and_true, Bool.or_true, Bool.true_or, decide_true, decide_false, hb]) rfl (fun x hx => ?_) (by omega)
  refine ⟨[some (.imm d0), o1, o2, o3, o4, some (.imm bk), none, o7, o8, o9, o10, o11, o12, some (.imm (.str x.1)), some (.imm x.2.toD), none, none], rfl, [some (.imm d0), o1, o2, o3, o4, some (.imm bk), none, o7, o8, o9, o10, o11, o12, some (.imm (.str x.1)), some (.imm x.2.toD), none, none], rfl, (fun z => by cases z), fun _ => ⟨[some (.imm d0), o1, o2, o3, o4, some (.imm bk), none, o7, o8, o9, o10, o11, o12, some (.imm (.str x.1)), some (.imm x.2.toD), none, none], ?_, rfl⟩⟩
  have hg := h x hx
  have e := leaves_eq 8 x.2 hg.nk (by have := hg.sz; omega) 12 (by omega)
  generalize x.2.toD = U at e ⊢
  generalize m__law_leaves 12 = M at e ⊢
  exact fz_ok (mcl_ok (ds := [U]) (by rfl) e)
theorem due_lc (h : ∀ e ∈ es, Gt e.2) (hl : es.length ≤ 100) :
    mLc [16] (msSeq (mV 6)) (gN 16) (mAnd (mCmp fInD (mC (.str "foot")) (mV 16)) (mCmp fNeW (mBin fIx (mV 16) (mUn fNeg (mC (.int 1)))) (mC (.str "foot")))) (mV 16) (eL d0 o1 o2 o3 o4 (some (.imm bk)) (some (.lst (es.map rowD))) o7 o8 o9 o10 o11 o12) = .ok ((es.filter fun x => bad x.2).map rowD) (eL d0 o1 o2 o3 o4 (some (.imm bk)) (some (.imm (.list (es.map rowD)))) o7 o8 o9 o10 o11 o12) := by
  refine mLcM_eq (ρ' := eL d0 o1 o2 o3 o4 (some (.imm bk)) (some (.imm (.list (es.map rowD)))) o7 o8 o9 o10 o11 o12) rowD (fun x => bad x.2) rowD (by rfl) rfl (fun x hx => ?_) (by omega)
  have hg := h x hx
  have hbd := bad_row hg
  have e1 := in_row (lv_ok x.2)
  have e2 := last_row hg.nk
  have n1 : fNeW (.str (lastS x.2)) (.str "foot") = some (!(lastS x.2 == ("foot" : Str))) := fNeW_str (lastS_ok hg.nk) hd_lit.2.2.2.1
  generalize es.map rowD = W
  refine ⟨[some (.imm d0), o1, o2, o3, o4, some (.imm bk), some (.imm (.list W)), o7, o8, o9, o10, o11, o12, none, none, none, some (.imm (rowD x))], rfl, [some (.imm d0), o1, o2, o3, o4, some (.imm bk), some (.imm (.list W)), o7, o8, o9, o10, o11, o12, none, none, none, some (.imm (rowD x))], ?_, (fun _ => rfl), fun _ => ⟨[some (.imm d0), o1, o2, o3, o4, some (.imm bk), some (.imm (.list W)), o7, o8, o9, o10, o11, o12, none, none, none, some (.imm (rowD x))], by rfl, rfl⟩⟩
  show _ = Ou.ok (bad x.2) _
  rw [hbd]
  simp only [rowD]
  generalize sL (lv x.2) = V at e1 e2 ⊢
  generalize decide (("foot" : Str) ∈ lv x.2) = B at e1 ⊢
  generalize (!(lastS x.2 == ("foot" : Str))) = C at n1 ⊢
  generalize PyData.str (lastS x.2) = Y at e2 n1
  cases B with
  | true => simp (disch := omega) only [enI, sSeq, sDP, bs, mBin, mBinL, bd, mDG, List.getElem?_cons_zero, List.getElem?_cons_succ, lift, mC, mV, mVL, fAdd, fSub, if_true, if_false, Bool.false_eq_true, List.set_cons_zero, List.set_cons_succ, sIf, mCmp, mCall, mCons, mNil, pu, gLen, List.length_map, fI, sRet, sRetL, sNx, fIxL, fIxT, endS, sSet, sSetL, sDrop, mTup, mLst, fz, mUn, bl, mAnd, mOr, mNot, mIf, mTru, mTruL, truth, mB, mAndV, mOrV, mNotV, isB, mIxL, mSl, mSlL, mPt, mNoP, pI, fSl, fSlL, mCallL, mPk, mIsi, gTuple, gList, gMax, fNeg, mCF, mCFL, mCS, mfn, mfnS, List.length_cons, List.length_nil, List.map_cons, List.map_nil, List.cons_append, List.nil_append, List.replicate, List.append_nil, Nat.reduceSub, Nat.reduceAdd, Nat.reduceLT, Nat.zero_add, fDiv_eq, fMod_eq, atI0, atI1, atI2, atI3, sz0, Nat.lt_add_left_iff_pos, msSeq, seqD, msRng, rg_eq, sFor, fIs, fIsNot, isN, Bool.not_true, Bool.not_false, Bool.true_and, Bool.false_and, Bool.and_true, Bool.or_true, Bool.true_or, decide_true, decide_false, e1, e2, n1]
  | false => simp (disch := omega) only [enI, sSeq, sDP, bs, mBin, mBinL, bd, mDG, List.getElem?_cons_zero, List.getElem?_cons_succ, lift, mC, mV, mVL, fAdd, fSub, if_true, if_false, Bool.false_eq_true, List.set_cons_zero, List.set_cons_succ, sIf, mCmp, mCall, mCons, mNil, pu, gLen, List.length_map, fI, sRet, sRetL, sNx, fIxL, fIxT, endS, sSet, sSetL, sDrop, mTup, mLst, fz, mUn, bl, mAnd, mOr, mNot, mIf, mTru, mTruL, truth, mB, mAndV, mOrV, mNotV, isB, mIxL, mSl, mSlL, mPt, mNoP, pI, fSl, fSlL, mCallL, mPk, mIsi, gTuple, gList, gMax, fNeg, mCF, mCFL, mCS, mfn, mfnS, List.length_cons, List.length_nil, List.map_cons, List.map_nil, List.cons_append, List.nil_append, List.replicate, List.append_nil, Nat.reduceSub, Nat.reduceAdd, Nat.reduceLT, Nat.zero_add, fDiv_eq, fMod_eq, atI0, atI1, atI2, atI3, sz0, Nat.lt_add_left_iff_pos, msSeq, seqD, msRng, rg_eq, sFor, fIs, fIsNot, isN, Bool.not_true, Bool.not_false, Bool.true_and, Bool.false_and, Bool.and_true, Bool.or_true, Bool.true_or, decide_true, decide_false, e1]
theorem due_ok (h : ∀ e ∈ es, Gt e.2) (hl : es.length ≤ 100) :
    (bl (mCmp fEqW (mCall gLen (mCons (fz (mLc [16] (msSeq (mV 6)) (gN 16) (mAnd (mCmp fInD (mC (.str "foot")) (mV 16)) (mCmp fNeW (mBin fIx (mV 16) (mUn fNeg (mC (.int 1)))) (mC (.str "foot")))) (mV 16))) mNil)) (mC (.int 0)))) (eL d0 o1 o2 o3 o4 (some (.imm bk)) (some (.lst (es.map rowD))) o7 o8 o9 o10 o11 o12) = .ok (.bool (es.filter fun x => bad x.2).isEmpty) (eL d0 o1 o2 o3 o4 (some (.imm bk)) (some (.imm (.list (es.map rowD)))) o7 o8 o9 o10 o11 o12) := by
  have e := due_lc (d0 := d0) (o1 := o1) (o2 := o2) (o3 := o3) (o4 := o4) (o7 := o7) (o8 := o8) (o9 := o9) (o10 := o10) (o11 := o11) (o12 := o12) (bk := bk) h hl
  generalize mLc [16] (msSeq (mV 6)) (gN 16) (mAnd (mCmp fInD (mC (.str "foot")) (mV 16)) (mCmp fNeW (mBin fIx (mV 16) (mUn fNeg (mC (.int 1)))) (mC (.str "foot")))) (mV 16) = M at e ⊢
  have hz : ((((es.filter fun x => bad x.2).map rowD).length : Nat) : Int) = ((es.filter fun x => bad x.2).length : Int) := by rw [List.length_map]
  have hq : (((es.filter fun x => bad x.2).length : Int) == 0) = (es.filter fun x => bad x.2).isEmpty := by
    cases es.filter fun x => bad x.2 with
    | nil => rfl
    | cons a r =>
      rw [beq_eq_false_iff_ne.mpr (by rw [List.length_cons]; omega)]
      rfl
  rw [← hq, ← hz]
  generalize (es.filter fun x => bad x.2).map rowD = V at e ⊢
  simp only [bl, bd, mCmp, mCall, mCons, mNil, pu, fz, e, gLen, lift, mC, fEqW_int]
theorem zp_map : ∀ es : List (Str × Tr), zpD (es.map entD) (es.map rowD) = es.map fun x => .tuple [entD x, rowD x]
  | [] => rfl
  | x :: r => by simp only [List.map_cons, zpD, zp_map r]
theorem starts_ok (hb : fIx bk (.int 1) = some (.tuple (es.map entD))) (hl : es.length ≤ 100) :
    (mCall gTuple (mCons (fz (mLc [15, 16] (msZip (mCons (mBin fIx (mV 5) (mC (.int 1))) (mCons (mV 6) mNil))) (gT [15, 16]) (mCmp fNotInD (mC (.str "foot")) (mV 16)) (mV 15))) mNil)) (eL d0 o1 o2 o3 o4 (some (.imm bk)) (some (.imm (.list (es.map rowD)))) o7 o8 o9 o10 o11 o12) = .ok (.tuple ((es.filter nof).map entD)) (eL d0 o1 o2 o3 o4 (some (.imm bk)) (some (.imm (.list (es.map rowD)))) o7 o8 o9 o10 o11 o12) := by
  have e : mLc [15, 16] (msZip (mCons (mBin fIx (mV 5) (mC (.int 1))) (mCons (mV 6) mNil))) (gT [15, 16]) (mCmp fNotInD (mC (.str "foot")) (mV 16)) (mV 15) (eL d0 o1 o2 o3 o4 (some (.imm bk)) (some (.imm (.list (es.map rowD)))) o7 o8 o9 o10 o11 o12) = .ok ((es.filter nof).map entD) (eL d0 o1 o2 o3 o4 (some (.imm bk)) (some (.imm (.list (es.map rowD)))) o7 o8 o9 o10 o11 o12) := by
    refine mLcM_eq (ρ' := eL d0 o1 o2 o3 o4 (some (.imm bk)) (some (.imm (.list (es.map rowD)))) o7 o8 o9 o10 o11 o12) (fun x => .tuple [entD x, rowD x]) nof entD ?_ rfl (fun x hx => ?_) (by omega)
    · rw [← zp_map]
      generalize es.map rowD = W
      generalize es.map entD = V at hb ⊢
      simp (disch := omega) only [enI, sSeq, sDP, bs, mBin, mBinL, bd, mDG, List.getElem?_cons_zero, List.getElem?_cons_succ, lift, mC, mV, mVL, fAdd, fSub, if_true, if_false, Bool.false_eq_true, List.set_cons_zero, List.set_cons_succ, sIf, mCmp, mCall, mCons, mNil, pu, gLen, List.length_map, fI, sRet, sRetL, sNx, fIxL, fIxT, endS, sSet, sSetL, sDrop, mTup, mLst, fz, mUn, bl, mAnd, mOr, mNot, mIf, mTru, mTruL, truth, mB, mAndV, mOrV, mNotV, isB, mIxL, mSl, mSlL, mPt, mNoP, pI, fSl, fSlL, mCallL, mPk, mIsi, gTuple, gList, gMax, fNeg, mCF, mCFL, mCS, mfn, mfnS, List.length_cons, List.length_nil, List.map_cons, List.map_nil, List.cons_append, List.nil_append, List.replicate, List.append_nil, Nat.reduceSub, Nat.reduceAdd, Nat.reduceLT, Nat.zero_add, fDiv_eq, fMod_eq, atI0, atI1, atI2, atI3, sz0, Nat.lt_add_left_iff_pos, msSeq, seqD, msRng, rg_eq, sFor, fIs, fIsNot, isN, Bool.not_true, Bool.not_false, Bool.true_and, Bool.false_and, Bool.and_true, Bool.or_true, Bool.true_or, decide_true, decide_false, msZip, hb, zpT]
    · have e1 := in_row (lv_ok x.2)
      have e2 : fNotInD (.str "foot") (.list (sL (lv x.2))) = some (nof x) := by unfold fNotInD; rw [e1]; rfl
      generalize es.map rowD = W
      refine ⟨[some (.imm d0), o1, o2, o3, o4, some (.imm bk), some (.imm (.list W)), o7, o8, o9, o10, o11, o12, none, none, some (.imm (entD x)), some (.imm (rowD x))], rfl, [some (.imm d0), o1, o2, o3, o4, some (.imm bk), some (.imm (.list W)), o7, o8, o9, o10, o11, o12, none, none, some (.imm (entD x)), some (.imm (rowD x))], ?_, (fun _ => rfl), fun _ => ⟨[some (.imm d0), o1, o2, o3, o4, some (.imm bk), some (.imm (.list W)), o7, o8, o9, o10, o11, o12, none, none, some (.imm (entD x)), some (.imm (rowD x))], by rfl, rfl⟩⟩
      simp only [rowD]
      generalize sL (lv x.2) = V at e2 ⊢
      simp (disch := omega) only [enI, sSeq, sDP, bs, mBin, mBinL, bd, mDG, List.getElem?_cons_zero, List.getElem?_cons_succ, lift, mC, mV, mVL, fAdd, fSub, if_true, if_false, Bool.false_eq_true, List.set_cons_zero, List.set_cons_succ, sIf, mCmp, mCall, mCons, mNil, pu, gLen, List.length_map, fI, sRet, sRetL, sNx, fIxL, fIxT, endS, sSet, sSetL, sDrop, mTup, mLst, fz, mUn, bl, mAnd, mOr, mNot, mIf, mTru, mTruL, truth, mB, mAndV, mOrV, mNotV, isB, mIxL, mSl, mSlL, mPt, mNoP, pI, fSl, fSlL, mCallL, mPk, mIsi, gTuple, gList, gMax, fNeg, mCF, mCFL, mCS, mfn, mfnS, List.length_cons, List.length_nil, List.map_cons, List.map_nil, List.cons_append, List.nil_append, List.replicate, List.append_nil, Nat.reduceSub, Nat.reduceAdd, Nat.reduceLT, Nat.zero_add, fDiv_eq, fMod_eq, atI0, atI1, atI2, atI3, sz0, Nat.lt_add_left_iff_pos, msSeq, seqD, msRng, rg_eq, sFor, fIs, fIsNot, isN, Bool.not_true, Bool.not_false, Bool.true_and, Bool.false_and, Bool.and_true, Bool.or_true, Bool.true_or, decide_true, decide_false, e2]
  generalize mLc [15, 16] (msZip (mCons (mBin fIx (mV 5) (mC (.int 1))) (mCons (mV 6) mNil))) (gT [15, 16]) (mCmp fNotInD (mC (.str "foot")) (mV 16)) (mV 15) = M at e ⊢
  generalize (es.filter nof).map entD = V at e ⊢
  simp only [bd, mCall, mCons, mNil, pu, fz, e, gTuple, lift]
end
/-! ### what is due -/
theorem due_rev (es : List (Str × Tr)) : (es.reverse.filter fun x => bad x.2).isEmpty = (es.filter fun x => bad x.2).isEmpty := by
  rw [List.filter_reverse, List.isEmpty_reverse]
theorem nof_bad {es : List (Str × Tr)} (h : ∀ e ∈ es, Gt e.2) : ((es.filter nof).filter fun x => bad x.2) = [] := by
  rw [List.filter_eq_nil_iff]
  intro x hx
  obtain ⟨h1, h2⟩ := List.mem_filter.mp hx
  rw [bad_row (h x h1)]
  unfold nof at h2
  rw [Bool.not_eq_true'] at h2
  rw [h2]
  simp
theorem zdeep_bad {es : List (Str × Tr)} {z : Str × Tr} (h : ∀ e ∈ es, Gt e.2) (hz : z.2.feet.length = 1) : (((es.filter nof) ++ [z]).filter fun x => bad x.2).isEmpty = (lastS z.2 == ("foot" : Str)) := by
  rw [List.filter_append, nof_bad h, List.nil_append]
  have e : bad z.2 = !(lastS z.2 == ("foot" : Str)) := by unfold bad; rw [decide_eq_true hz, Bool.true_and]
  cases q : (lastS z.2 == ("foot" : Str)) with
  | true => rw [q] at e; rw [List.filter_cons_of_neg (by simp [e])]; rfl
  | false => rw [q] at e; rw [List.filter_cons_of_pos (by simp [e])]; rfl
theorem four {r : Nat} (h : r < 4) : ∃ i : Int, atI [PyData.int 0, .int 1, .int 1, .int 4] (r : Int) = some (.int i) := by
  match r, h with
  | 0, _ => exact ⟨0, atI_some rfl⟩
  | 1, _ => exact ⟨1, atI_some rfl⟩
  | 2, _ => exact ⟨1, atI_some rfl⟩
  | 3, _ => exact ⟨4, atI_some rfl⟩
abbrev thD (y : D × Bool) : D := .tuple [y.1, .bool y.2]
theorem told_ok {d0 : D} {o1 o2 o3 o4 o5 o6 o8 o9 : Option S1} (L : List (D × Bool)) (hL : ∀ y ∈ L, m_one_sided [y.1] = .ok (.imm (.bool y.2))) (o7 : Option S1) : ∃ o7' o11' o12', sFor (msSeq (mV 10)) (gT [11, 7]) (sSeq (sSet 12 (mCF m_one_sided (mCons (mV 11) mNil))) (sIf (mOr (mNot (mTru (mIsi "bool" (mV 12)))) (mCmp fNeW (mV 12) (mV 7))) (sRet (mC (.bool false))) sNx)) (eL d0 o1 o2 o3 o4 o5 o6 o7 o8 o9 (some (.lst (L.map thD))) none none) = .nx (eL d0 o1 o2 o3 o4 o5 o6 o7' o8 o9 (some (.imm (.list (L.map thD)))) o11' o12') := by
  obtain ⟨ρ', e, o7', o11', o12', rfl⟩ := for_inv (f := gT [11, 7]) (b := (sSeq (sSet 12 (mCF m_one_sided (mCons (mV 11) mNil))) (sIf (mOr (mNot (mTru (mIsi "bool" (mV 12)))) (mCmp fNeW (mV 12) (mV 7))) (sRet (mC (.bool false))) sNx)))
    (fun i ρ => ∃ o7 o11 o12 : Option S1, ρ = eL d0 o1 o2 o3 o4 o5 o6 o7 o8 o9 (some (.imm (.list (L.map thD)))) o11 o12)
    (L.map thD) 0 (eL d0 o1 o2 o3 o4 o5 o6 o7 o8 o9 (some (.imm (.list (L.map thD)))) none none) ⟨o7, none, none, rfl⟩ (fun j d ρ hd ⟨o7, o11, o12, e⟩ => by
      subst e
      rw [List.getElem?_map] at hd
      obtain ⟨y, hy, rfl⟩ := Option.map_eq_some_iff.mp hd
      have e := hL y (List.mem_of_getElem? hy)
      generalize L.map thD = W
      refine ⟨eL d0 o1 o2 o3 o4 o5 o6 (some (.imm (.bool y.2))) o8 o9 (some (.imm (.list W))) (some (.imm y.1)) o12, rfl, eL d0 o1 o2 o3 o4 o5 o6 (some (.imm (.bool y.2))) o8 o9 (some (.imm (.list W))) (some (.imm y.1)) (some (.imm (.bool y.2))), ?_, _, _, _, rfl⟩
      generalize m_one_sided = M at e
      have hne := ne_bool y.2
      have hib := isb y.2
      generalize PyData.bool y.2 = B at e hne hib ⊢
      simp (disch := omega) only [enI, sSeq, sDP, bs, mBin, mBinL, bd, mDG, List.getElem?_cons_zero, List.getElem?_cons_succ, lift, mC, mV, mVL, fAdd, fSub, if_true, if_false, Bool.false_eq_true, List.set_cons_zero, List.set_cons_succ, sIf, mCmp, mCall, mCons, mNil, pu, gLen, List.length_map, fI, sRet, sRetL, sNx, fIxL, fIxT, endS, sSet, sSetL, sDrop, mTup, mLst, fz, mUn, bl, mAnd, mOr, mNot, mIf, mTru, mTruL, truth, mB, mAndV, mOrV, mNotV, isB, mIxL, mSl, mSlL, mPt, mNoP, pI, fSl, fSlL, mCallL, mPk, mIsi, gTuple, gList, gMax, fNeg, mCF, mCFL, mCS, mfn, mfnS, List.length_cons, List.length_nil, List.map_cons, List.map_nil, List.cons_append, List.nil_append, List.replicate, List.append_nil, Nat.reduceSub, Nat.reduceAdd, Nat.reduceLT, Nat.zero_add, fDiv_eq, fMod_eq, atI0, atI1, atI2, atI3, sz0, Nat.lt_add_left_iff_pos, msSeq, seqD, msRng, rg_eq, sFor, fIs, fIsNot, isN, Bool.not_true, Bool.not_false, Bool.true_and, Bool.false_and, Bool.and_true, Bool.or_true, Bool.true_or, decide_true, decide_false, e, hib, hne])
  refine ⟨o7', o11', o12', (for_ok (ds := L.map thD) (ρ' := eL d0 o1 o2 o3 o4 o5 o6 o7 o8 o9 (some (.imm (.list (L.map thD)))) none none) ?_).trans e⟩
  rfl
end K87

namespace K87
open PySem PySem.Spec PyProof.Rows L2 Pu Kt Kq
abbrev zt (t : Tr) : Str × Tr := ("zdeep", t)
section
variable {a b c d e f : Str} {fr lf : Int}
theorem things_ok {d0 : D} {o1 o2 o3 o4 o6 o8 : Option S1} {c : Str} {es st : List (Str × Tr)} {du : Bool} :
    sSetL 10 (mLst (mCons (mTup (mCons (mV 5) (mCons (mV 7) mNil))) (mCons (mTup (mCons (mTup (mCons (mBin fIx (mV 5) (mC (.int 0))) (mCons (mBin fRevT (mBin fIx (mV 5) (mC (.int 1))) (mUn fNeg (mC (.int 1)))) mNil))) (mCons (mV 7) mNil))) (mCons (mTup (mCons (mV 5) (mCons (mV 7) mNil))) (mCons (mTup (mCons (mTup (mCons (mBin fIx (mV 5) (mC (.int 0))) (mCons (mV 9) mNil))) (mCons (mC (.bool true)) mNil))) mNil))))) (eL d0 o1 o2 o3 o4 (some (.imm (bookD c es))) o6 (some (.imm (.bool du))) o8 (some (.imm (.tuple (st.map entD)))) none none none) = .nx (eL d0 o1 o2 o3 o4 (some (.imm (bookD c es))) o6 (some (.imm (.bool du))) o8 (some (.imm (.tuple (st.map entD)))) (some (.lst [thD (bookD c es, du), thD (bookD c es.reverse, du), thD (bookD c es, du), thD (bookD c st, true)])) none none) := by
  have e1 : fIx (bookD c es) (.int 1) = some (.tuple (es.map entD)) := ix_bk
  have e0 : fIx (bookD c es) (.int 0) = some (.str c) := atI0
  have e2 : fRevT (.tuple (es.map entD)) (.int (-1)) = some (.tuple (es.map entD).reverse) := by unfold fRevT; simp
  have hn : fNeg (.int 1) = some (.int (-1)) := rfl
  simp only [thD, bookD, List.map_reverse]
  simp only [bookD] at e1 e0
  generalize es.map entD = W at e1 e0 e2 ⊢
  generalize st.map entD = V
  generalize hbk : PyData.tuple [PyData.str c, PyData.tuple W] = bk at e1 e0 ⊢
  simp (disch := omega) only [enI, sSeq, sDP, bs, mBin, mBinL, bd, mDG, List.getElem?_cons_zero, List.getElem?_cons_succ, lift, mC, mV, mVL, fAdd, fSub, if_true, if_false, Bool.false_eq_true, List.set_cons_zero, List.set_cons_succ, sIf, mCmp, mCall, mCons, mNil, pu, gLen, List.length_map, fI, sRet, sRetL, sNx, fIxL, fIxT, endS, sSet, sSetL, sDrop, mTup, mLst, fz, mUn, bl, mAnd, mOr, mNot, mIf, mTru, mTruL, truth, mB, mAndV, mOrV, mNotV, isB, mIxL, mSl, mSlL, mPt, mNoP, pI, fSl, fSlL, mCallL, mPk, mIsi, gTuple, gList, gMax, fNeg, mCF, mCFL, mCS, mfn, mfnS, List.length_cons, List.length_nil, List.map_cons, List.map_nil, List.cons_append, List.nil_append, List.replicate, List.append_nil, Nat.reduceSub, Nat.reduceAdd, Nat.reduceLT, Nat.zero_add, fDiv_eq, fMod_eq, atI0, atI1, atI2, atI3, sz0, Nat.lt_add_left_iff_pos, msSeq, seqD, msRng, rg_eq, sFor, fIs, fIsNot, isN, Bool.not_true, Bool.not_false, Bool.true_and, Bool.false_and, Bool.and_true, Bool.or_true, Bool.true_or, decide_true, decide_false, e1, e0, e2, hn]
theorem zdeep_ok {d0 : D} {o1 o2 o3 o4 o6 o7 : Option S1} {c : Str} {es st : List (Str × Tr)} {t : Tr} {L : List D} (hst : st.length ≤ 100) (ht : Gt t) (hL : L.length ≤ 100) :
    (sDrop (mMut 10 fApp (mCons (mTup (mCons (mTup (mCons (mBin fIx (mV 5) (mC (.int 0))) (mCons (mBin fAdd (mV 9) (mTup (mCons (mTup (mCons (mC (.str "zdeep")) (mCons (mV 8) mNil))) mNil))) mNil))) (mCons (bl (mCmp fEqW (mBin fIx (fz (mCFL (m__law_leaves 12) (mCons (mV 8) mNil))) (mUn fNeg (mC (.int 1)))) (mC (.str "foot")))) mNil))) mNil))) (eL d0 o1 o2 o3 o4 (some (.imm (bookD c es))) o6 o7 (some (.imm t.toD)) (some (.imm (.tuple (st.map entD)))) (some (.lst L)) none none) = .nx (eL d0 o1 o2 o3 o4 (some (.imm (bookD c es))) o6 o7 (some (.imm t.toD)) (some (.imm (.tuple (st.map entD)))) (some (.lst (L ++ [thD (bookD c (st ++ [zt t]), lastS t == ("foot" : Str))]))) none none) := by
  have e0 : fIx (bookD c es) (.int 0) = some (.str c) := atI0
  have e1 := leaves_eq 8 t ht.nk (by have := ht.sz; omega) 12 (by omega)
  have e2 := last_row ht.nk
  have e3 : fEqW (.str (lastS t)) (.str "foot") = some (lastS t == ("foot" : Str)) := fEqW_str (lastS_ok ht.nk) hd_lit.2.2.2.1
  have e4 : fAdd (.tuple (st.map entD)) (.tuple [.tuple [.str "zdeep", t.toD]]) = some (.tuple ((st ++ [zt t]).map entD)) := by
    rw [List.map_append]
    show (if sized ((st.map entD).length + [entD (zt t)].length) then some (PyData.tuple (st.map entD ++ [entD ("zdeep", t)])) else none) = _
    rw [if_pos (sized_le (by rw [List.length_map, List.length_singleton]; omega))]
    rfl
  have hn : fNeg (.int 1) = some (.int (-1)) := rfl
  have hm : (mCons (mTup (mCons (mTup (mCons (mBin fIx (mV 5) (mC (.int 0))) (mCons (mBin fAdd (mV 9) (mTup (mCons (mTup (mCons (mC (.str "zdeep")) (mCons (mV 8) mNil))) mNil))) mNil))) (mCons (bl (mCmp fEqW (mBin fIx (fz (mCFL (m__law_leaves 12) (mCons (mV 8) mNil))) (mUn fNeg (mC (.int 1)))) (mC (.str "foot")))) mNil))) mNil) (eL d0 o1 o2 o3 o4 (some (.imm (bookD c es))) o6 o7 (some (.imm t.toD)) (some (.imm (.tuple (st.map entD)))) (some (.lst L)) none none) = .ok [thD (bookD c (st ++ [zt t]), lastS t == ("foot" : Str))] (eL d0 o1 o2 o3 o4 (some (.imm (bookD c es))) o6 o7 (some (.imm t.toD)) (some (.imm (.tuple (st.map entD)))) (some (.lst L)) none none) := by
    simp only [thD]
    simp only [bookD] at e0 ⊢
    generalize (st ++ [zt t]).map entD = Y at e4 ⊢
    generalize st.map entD = W at e4 ⊢
    generalize hbk : PyData.tuple [PyData.str c, PyData.tuple (es.map entD)] = bk at e0 ⊢
    generalize t.toD = U at e1 e4 ⊢
    generalize m__law_leaves 12 = M at e1 ⊢
    generalize sL (lv t) = V at e1 e2
    generalize (lastS t == ("foot" : Str)) = B at e3 ⊢
    generalize PyData.str (lastS t) = Z at e2 e3
    simp (disch := omega) only [enI, sSeq, sDP, bs, mBin, mBinL, bd, mDG, List.getElem?_cons_zero, List.getElem?_cons_succ, lift, mC, mV, mVL, fSub, if_true, if_false, Bool.false_eq_true, List.set_cons_zero, List.set_cons_succ, sIf, mCmp, mCall, mCons, mNil, pu, gLen, List.length_map, fI, sRet, sRetL, sNx, fIxL, fIxT, endS, sSet, sSetL, sDrop, mTup, mLst, fz, mUn, bl, mAnd, mOr, mNot, mIf, mTru, mTruL, truth, mB, mAndV, mOrV, mNotV, isB, mIxL, mSl, mSlL, mPt, mNoP, pI, fSl, fSlL, mCallL, mPk, mIsi, gTuple, gList, gMax, fNeg, mCF, mCFL, mCS, mfn, mfnS, List.length_cons, List.length_nil, List.map_cons, List.map_nil, List.cons_append, List.nil_append, List.replicate, List.append_nil, Nat.reduceSub, Nat.reduceAdd, Nat.reduceLT, Nat.zero_add, fDiv_eq, fMod_eq, atI0, atI1, atI2, atI3, sz0, Nat.lt_add_left_iff_pos, msSeq, seqD, msRng, rg_eq, sFor, fIs, fIsNot, isN, Bool.not_true, Bool.not_false, Bool.true_and, Bool.false_and, Bool.and_true, Bool.or_true, Bool.true_or, decide_true, decide_false, fAdd_int, e0, e1, e2, e3, e4, hn]
  exact (drop_ok (mut_ok (d := .none) rfl hm rfl (fApp_eq (by omega)))).trans rfl
end
theorem law_true (ns : List Int) (hns : ns.length ≤ 63) : m_law [.list (ns.map PyData.int)] = .ok (.imm (.bool true)) := by
  generalize hd0 : PyData.list (ns.map PyData.int) = d0
  obtain ⟨a0, gs0, e0⟩ := box_ok ns hns
  rw [hd0] at e0
  obtain ⟨ws, p1, q1, gs1, e1, hl1, hw1⟩ := words_ok (n := 2) (p := Lo) (by omega) hd_az tl_q a0 0 gs0
  have e1 : m__law_words (Bxd a0 0 gs0) [.str AZ, .str "q", .int 2] = .ok (.own (ws.map sD)) (Bxd p1 q1 gs1) := e1
  obtain ⟨u, v, rfl⟩ := len2 hl1
  obtain ⟨r, p2, q2, gs2, e2, hr⟩ := pick_ok (n := 4) (by omega) (by omega) p1 q1 gs1
  have e2 : m__law_pick (Bxd p1 q1 gs1) [.int 4] = .ok (.imm (.int r)) (Bxd p2 q2 gs2) := e2
  obtain ⟨fr, hfr⟩ := four hr
  obtain ⟨r3, p3, q3, gs3, e3, hr3⟩ := pick_ok (n := 3) (by omega) (by omega) p2 q2 gs2
  have e3 : m__law_pick (Bxd p2 q2 gs2) [.int 3] = .ok (.imm (.int r3)) (Bxd p3 q3 gs3) := e3
  generalize hcu : S u = a at *
  generalize hdv : S v = b at *
  obtain ⟨c, d, e, f, es, p4, q4, gs4, lf, e4, hle, hge⟩ := book_ok (a := a) (b := b) (fr := fr) (n := 3 + r3) (by omega) (by omega) p3 q3 gs3 0
  have e4 : m__law_book (Bxd p3 q3 gs3) (so0 a b fr 0) [.int (3 + (r3 : Int)), .int 4] = .ok (.imm (bookD c es)) (Bxd p4 q4 gs4) (so a b c d e f fr lf) := by
    rw [show (3 + (r3 : Int)) = ((3 + r3 : Nat) : Int) by omega]; exact e4
  obtain ⟨t, p5, q5, gs5, e5, ht, hft⟩ := deep_ok (a := a) (b := b) (c := c) (d := d) (e := e) (f := f) (fr := fr) (lf := lf) p4 q4 gs4
  have hl : es.length ≤ 100 := by omega
  have hlf : (es.filter nof).length ≤ 100 := by have := List.length_filter_le nof es; omega
  have hgf : ∀ x ∈ es.filter nof, Gt x.2 := fun x hx => hge x (List.mem_filter.mp hx).1
  generalize hdu : (es.filter fun x => bad x.2).isEmpty = du
  have L1 : m_one_sided [bookD c es] = .ok (.imm (.bool du)) := by rw [← hdu]; exact sided_eq ix_bk hge hl
  have L2' : m_one_sided [bookD c es.reverse] = .ok (.imm (.bool du)) := by
    rw [← hdu, ← due_rev]; exact sided_eq ix_bk (fun x hx => hge x (List.mem_reverse.mp hx)) (by rw [List.length_reverse]; exact hl)
  have L3 : m_one_sided [bookD c (es.filter nof)] = .ok (.imm (.bool true)) := by
    have q := sided_eq (bk := bookD c (es.filter nof)) ix_bk hgf hlf
    rw [nof_bad hge] at q
    exact q
  have L4 : m_one_sided [bookD c (es.filter nof ++ [zt t])] = .ok (.imm (.bool (lastS t == ("foot" : Str)))) := by
    rw [← zdeep_bad (z := zt t) hge hft]
    refine sided_eq ix_bk (fun x hx => ?_) (by rw [List.length_append, List.length_singleton]; have := List.length_filter_le nof es; omega)
    rcases List.mem_append.mp hx with hx | hx
    · exact hgf x hx
    · rw [List.mem_singleton.mp hx]; exact ht
  obtain ⟨o7', o11', o12', e6⟩ := told_ok (d0 := d0) (o1 := some (.box (Bxd p5 q5 gs5))) (o2 := some (.imm (.list [.str a, .str b]))) (o3 := some (.imm (.int fr))) (o4 := some (.dct (so a b c d e f fr lf))) (o5 := some (.imm (bookD c es))) (o6 := some (.imm (.list (es.map rowD)))) (o8 := some (.imm t.toD)) (o9 := some (.imm (.tuple ((es.filter nof).map entD))))
    [(bookD c es, du), (bookD c es.reverse, du), (bookD c es, du), (bookD c (es.filter nof), true), (bookD c (es.filter nof ++ [zt t]), lastS t == ("foot" : Str))] (fun y hy => by
      simp only [List.mem_cons, List.not_mem_nil, or_false] at hy
      rcases hy with rfl | rfl | rfl | rfl | rfl
      · exact L1
      · exact L2'
      · exact L1
      · exact L3
      · exact L4) (some (.imm (.bool du)))
  refine mfn_rt (b := b_law) (n := 17) (ρ' := eL d0 (some (.box (Bxd p5 q5 gs5))) (some (.imm (.list [.str a, .str b]))) (some (.imm (.int fr))) (some (.dct (so a b c d e f fr lf))) (some (.imm (bookD c es))) (some (.imm (.list (es.map rowD)))) o7' (some (.imm t.toD)) (some (.imm (.tuple ((es.filter nof).map entD)))) (some (.imm (.list (List.map thD [(bookD c es, du), (bookD c es.reverse, du), (bookD c es, du), (bookD c (es.filter nof), true), (bookD c (es.filter nof ++ [zt t]), lastS t == ("foot" : Str))])))) o11' o12') ?_
  show b_law (eL d0 none none none none none none none none none none none none) = _
  unfold b_law
  rw [seq_nx (ρ' := eL d0 (some (.box (Bxd a0 0 gs0))) none none none none none none none none none none none) (by
    unfold sSetB
    rw [bs_ok (mcl_ok (ρ' := eL d0 none none none none none none none none none none none none) (by rfl) e0)]
    rfl)]
  rw [seq_nx (ρ' := eL d0 (some (.box (Bxd p1 q1 gs1))) (some (.lst [.str a, .str b])) none none none none none none none none none none) ((setL_ok (mcbl_ok (b1 := Bxd a0 0 gs0) (ρ' := eL d0 (some (.box (Bxd a0 0 gs0))) none none none none none none none none none none none) rfl (by rfl) rfl e1) (by simp)).trans (by rw [← hcu, ← hdv]; rfl))]
  rw [seq_nx (ρ' := eL d0 (some (.box (Bxd p2 q2 gs2))) (some (.lst [.str a, .str b])) (some (.imm (.int fr))) none none none none none none none none none) (by
    simp (disch := omega) only [enI, sSeq, sDP, bs, mBin, mBinL, bd, mDG, List.getElem?_cons_zero, List.getElem?_cons_succ, lift, mC, mV, mVL, fAdd, fSub, if_true, if_false, Bool.false_eq_true, List.set_cons_zero, List.set_cons_succ, sIf, mCmp, mCall, mCons, mNil, pu, gLen, List.length_map, fI, sRet, sRetL, sNx, fIxL, fIxT, endS, sSet, sSetL, sDrop, mTup, mLst, fz, mUn, bl, mAnd, mOr, mNot, mIf, mTru, mTruL, truth, mB, mAndV, mOrV, mNotV, isB, mIxL, mSl, mSlL, mPt, mNoP, pI, fSl, fSlL, mCallL, mPk, mIsi, gTuple, gList, gMax, fNeg, mCF, mCFL, mCS, mfn, mfnS, List.length_cons, List.length_nil, List.map_cons, List.map_nil, List.cons_append, List.nil_append, List.replicate, List.append_nil, Nat.reduceSub, Nat.reduceAdd, Nat.reduceLT, Nat.zero_add, fDiv_eq, fMod_eq, atI0, atI1, atI2, atI3, sz0, Nat.lt_add_left_iff_pos, msSeq, seqD, msRng, rg_eq, sFor, fIs, fIsNot, isN, Bool.not_true, Bool.not_false, Bool.true_and, Bool.false_and, Bool.and_true, Bool.or_true, Bool.true_or, decide_true, decide_false, mCB, e2, hfr])]
  rw [seq_nx (ρ' := eL d0 (some (.box (Bxd p2 q2 gs2))) (some (.imm (.list [.str a, .str b]))) (some (.imm (.int fr))) (some (.dct (so0 a b fr 0))) none none none none none none none none) (by rfl)]
  have a4 : (mCons (mBin fAdd (mC (.int 3)) (mCB 1 m__law_pick (mCons (mC (.int 3)) mNil))) (mCons (mC (.int 4)) mNil)) (eL d0 (some (.box (Bxd p2 q2 gs2))) (some (.imm (.list [.str a, .str b]))) (some (.imm (.int fr))) (some (.dct (so0 a b fr 0))) none none none none none none none none) = .ok [.int (3 + (r3 : Int)), .int 4] (eL d0 (some (.box (Bxd p3 q3 gs3))) (some (.imm (.list [.str a, .str b]))) (some (.imm (.int fr))) (some (.dct (so0 a b fr 0))) none none none none none none none none) := by
    simp (disch := omega) only [enI, sSeq, sDP, bs, mBin, mBinL, bd, mDG, List.getElem?_cons_zero, List.getElem?_cons_succ, lift, mC, mV, mVL, fAdd, fSub, if_true, if_false, Bool.false_eq_true, List.set_cons_zero, List.set_cons_succ, sIf, mCmp, mCall, mCons, mNil, pu, gLen, List.length_map, fI, sRet, sRetL, sNx, fIxL, fIxT, endS, sSet, sSetL, sDrop, mTup, mLst, fz, mUn, bl, mAnd, mOr, mNot, mIf, mTru, mTruL, truth, mB, mAndV, mOrV, mNotV, isB, mIxL, mSl, mSlL, mPt, mNoP, pI, fSl, fSlL, mCallL, mPk, mIsi, gTuple, gList, gMax, fNeg, mCF, mCFL, mCS, mfn, mfnS, List.length_cons, List.length_nil, List.map_cons, List.map_nil, List.cons_append, List.nil_append, List.replicate, List.append_nil, Nat.reduceSub, Nat.reduceAdd, Nat.reduceLT, Nat.zero_add, fDiv_eq, fMod_eq, atI0, atI1, atI2, atI3, sz0, Nat.lt_add_left_iff_pos, msSeq, seqD, msRng, rg_eq, sFor, fIs, fIsNot, isN, Bool.not_true, Bool.not_false, Bool.true_and, Bool.false_and, Bool.and_true, Bool.or_true, Bool.true_or, decide_true, decide_false, mCB, e3]
  rw [seq_nx (ρ' := eL d0 (some (.box (Bxd p4 q4 gs4))) (some (.imm (.list [.str a, .str b]))) (some (.imm (.int fr))) (some (.dct (so a b c d e f fr lf))) (some (.imm (bookD c es))) none none none none none none none) ((set_ok (mcm_ok (i := 1) (j := 4) (m := m__law_book) (ρ := (eL d0 (some (.box (Bxd p2 q2 gs2))) (some (.imm (.list [.str a, .str b]))) (some (.imm (.int fr))) (some (.dct (so0 a b fr 0))) none none none none none none none none)) rfl rfl a4 rfl rfl e4) (by simp)).trans rfl)]
  rw [seq_nx (ρ' := eL d0 (some (.box (Bxd p4 q4 gs4))) (some (.imm (.list [.str a, .str b]))) (some (.imm (.int fr))) (some (.dct (so a b c d e f fr lf))) (some (.imm (bookD c es))) (some (.lst (es.map rowD))) none none none none none none) ((setL_ok (rows_ok ix_bk hge hl) (by simp)).trans rfl)]
  rw [seq_nx (ρ' := eL d0 (some (.box (Bxd p4 q4 gs4))) (some (.imm (.list [.str a, .str b]))) (some (.imm (.int fr))) (some (.dct (so a b c d e f fr lf))) (some (.imm (bookD c es))) (some (.imm (.list (es.map rowD)))) (some (.imm (.bool du))) none none none none none) ((set_ok (due_ok (bk := bookD c es) hge hl) (by simp)).trans (by rw [hdu]; rfl))]
  rw [seq_nx (ρ' := eL d0 (some (.box (Bxd p5 q5 gs5))) (some (.imm (.list [.str a, .str b]))) (some (.imm (.int fr))) (some (.dct (so a b c d e f fr lf))) (some (.imm (bookD c es))) (some (.imm (.list (es.map rowD)))) (some (.imm (.bool du))) (some (.imm t.toD)) none none none none) ((set_ok (mcm_ok (i := 1) (j := 4) (m := m__law_deep) (ma := mNil) (ρ := eL d0 (some (.box (Bxd p4 q4 gs4))) (some (.imm (.list [.str a, .str b]))) (some (.imm (.int fr))) (some (.dct (so a b c d e f fr lf))) (some (.imm (bookD c es))) (some (.imm (.list (es.map rowD)))) (some (.imm (.bool du))) none none none none none) rfl rfl rfl rfl rfl e5) (by simp)).trans rfl)]
  rw [seq_nx (ρ' := eL d0 (some (.box (Bxd p5 q5 gs5))) (some (.imm (.list [.str a, .str b]))) (some (.imm (.int fr))) (some (.dct (so a b c d e f fr lf))) (some (.imm (bookD c es))) (some (.imm (.list (es.map rowD)))) (some (.imm (.bool du))) (some (.imm t.toD)) (some (.imm (.tuple ((es.filter nof).map entD)))) none none none) ((set_ok (starts_ok ix_bk hl) (by simp)).trans rfl)]
  rw [seq_nx things_ok]
  rw [seq_nx (zdeep_ok hlf ht (by simp))]
  refine (seq_nx e6).trans ?_
  rfl
end K87

open PySem PySem.W PyProof.Rows
set_option maxRecDepth 100000 in
set_option maxHeartbeats 0 in
theorem PySem.Challenge.cw_graftsay_k87_one_side_holds : PySem.Challenge.rw_graftsay_k87_one_side.Holds := by
  w_on; o_law; k_head; (case hw => w_witness2)
  k_fill
  refine Pu.walk (l := PySem.Challenge.rw_graftsay_k87_one_side) (k := 13) rfl rfl ⟨rfl, by decide, by decide, rfl⟩ (fun w h Y => PySem.W.kIn_of Y) ?F
  case F =>
    intro w mg fa h KX G hmg hTb
    refine' K87.all_mk (q := PySem.Challenge.pw_graftsay_k87_one_side) KX G hmg ?a1 ?l1 ?c1 ?k1 ?a2 ?l2 ?c2 ?k2 ?a3 ?l3 ?c3 ?k3 ?a4 ?l4 ?c4 ?k4 ?a5 ?l5 ?c5 ?k5 ?a6 ?l6 ?c6 ?k6 ?a7 ?l7 ?c7 ?k7 ?a8 ?l8 ?c8 ?k8 ?a9 ?l9 ?c9 ?k9 ?a10 ?l10 ?c10 ?k10 ?a11 ?l11 ?c11 ?k11 ?a12 ?l12 ?c12 ?k12 ?a13 ?l13 ?c13 ?k13 ?a14 ?l14 ?c14 ?k14 ?a15 ?l15 ?c15 ?k15 ?a16 ?l16 ?c16 ?k16 ?a17 ?l17 ?c17 ?k17 ?a18 ?l18 ?c18 ?k18 ?z_bool ?z_isinstance ?z_len ?z_list ?z_range ?z_tuple ?z_zip K87.law_true
    (case a1 => k_is); (case l1 => k_is); (case c1 => k_is); (case k1 => k_is)
    (case a2 => k_is); (case l2 => k_is); (case c2 => k_is); (case k2 => k_is)
    (case a3 => k_is); (case l3 => k_is); (case c3 => k_is); (case k3 => k_is)
    (case a4 => k_is); (case l4 => k_is); (case c4 => k_is); (case k4 => k_is)
    (case a5 => k_is); (case l5 => k_is); (case c5 => k_is); (case k5 => k_is)
    (case a6 => k_is); (case l6 => k_is); (case c6 => k_is); (case k6 => k_is)
    (case a7 => k_is); (case l7 => k_is); (case c7 => k_is); (case k7 => k_is)
    (case a8 => k_is); (case l8 => k_is); (case c8 => k_is); (case k8 => k_is)
    (case a9 => k_is); (case l9 => k_is); (case c9 => k_is); (case k9 => k_is)
    (case a10 => k_is); (case l10 => k_is); (case c10 => k_is); (case k10 => k_is)
    (case a11 => k_is); (case l11 => k_is); (case c11 => k_is); (case k11 => k_is)
    (case a12 => k_is); (case l12 => k_is); (case c12 => k_is); (case k12 => k_is)
    (case a13 => k_is); (case l13 => k_is); (case c13 => k_is); (case k13 => k_is)
    (case a14 => k_is); (case l14 => k_is); (case c14 => k_is); (case k14 => k_is)
    (case a15 => k_is); (case l15 => k_is); (case c15 => k_is); (case k15 => k_is)
    (case a16 => k_is); (case l16 => k_is); (case c16 => k_is); (case k16 => k_is)
    (case a17 => k_is); (case l17 => k_is); (case c17 => k_is); (case k17 => k_is)
    (case a18 => k_is); (case l18 => k_is); (case c18 => k_is); (case k18 => k_is)
    (case z_bool => k_is)
    (case z_isinstance => k_is)
    (case z_len => k_is)
    (case z_list => k_is)
    (case z_range => k_is)
    (case z_tuple => k_is)
    (case z_zip => k_is)


