import PyProof.Rows.All
import Wide.All
import OpenK.AllK
import Wide.FinOn
import PyProof.EqAt
import PyProof.EqKinds
import PyProof.TupleCall
import KE.BitLaws
import KE.KSuper
import PyProof.ExcClass2
import PyProof.ExcInit
import PyProof.ExcBaseAll.ValueError
import PyProof.InstStoreFacts
import PyProof.ExcAttrAll.ValueError
import PyProof.ExcArgsOwn
import KE.KIsAll
import KE.KRegrown
import KE.KUnpack
import PyProof.Rows.SortShellAny
import PyProof.ListRange
import PyProof.NsDelKeeps
import PySem.Challenge.RW_graftsay_k18_refusals_apart
set_option Elab.async false
set_option linter.all false
set_option maxRecDepth 100000
/-! THE HAND LAYER, for ints, bools, texts, own classes, lists, tuples, dicts, comprehensions, walks over dicts, enumerate, zip, reversed, texts, calls, loops. Paste it whole ahead of your own text; what your proof does not reach may be deleted. -/
namespace L2
open PySem PySem.Spec PyProof.Rows

/-- a key: an int or a str -/
abbrev Key := Sum Int Str
def keyIs : Key → Value → Bool
  | .inl k, v => Value.isInt k v
  | .inr x, v => Value.isStrOf x v
def keyH (w : World) : Key → Int
  | .inl k => hashInt k
  | .inr x => hashStr w x
theorem keyIs_shape : ∀ {k : Key} {v : Value}, keyIs k v = true → (∃ i t, k = Sum.inl i ∧ v = Value.int i t) ∨ (∃ x t, k = Sum.inr x ∧ v = Value.str x t)
  | .inl i, v, h => by
    obtain ⟨t, e⟩ := Value.isInt_shape (k := i) (v := v) h
    exact .inl ⟨i, t, rfl, e⟩
  | .inr x, v, h => by
    obtain ⟨t, e⟩ := Value.isStrOf_shape (x := x) (v := v) h
    exact .inr ⟨x, t, rfl, e⟩
theorem key_ll (a b : Int) : decide ((Sum.inl a : Key) = Sum.inl b) = (a == b) := by
  by_cases e : a = b
  · subst e; simp
  · have h : ¬ (Sum.inl a : Key) = Sum.inl b := fun q => e (Sum.inl.inj q)
    rw [decide_eq_false h]
    exact (beq_eq_false_iff_ne.mpr e).symm
theorem key_rr (a b : Str) : decide ((Sum.inr a : Key) = Sum.inr b) = decide (a = b) := by
  by_cases e : a = b
  · subst e; simp
  · have h : ¬ (Sum.inr a : Key) = Sum.inr b := fun q => e (Sum.inr.inj q)
    rw [decide_eq_false h, decide_eq_false e]
theorem key_lr (a : Int) (b : Str) : decide ((Sum.inl a : Key) = Sum.inr b) = false := decide_eq_false (fun q => nomatch q)
theorem key_rl (a : Str) (b : Int) : decide ((Sum.inr a : Key) = Sum.inl b) = false := decide_eq_false (fun q => nomatch q)

def mixKind (prog : Program) (w : World) : PySem.KeyKind prog w Key where
  is := keyIs
  hash := keyH w
  inj := fun v a b ha hb => by
    rcases keyIs_shape ha with ⟨i, t, rfl, rfl⟩ | ⟨x, t, rfl, rfl⟩
    · rcases keyIs_shape hb with ⟨j, u, rfl, e⟩ | ⟨y, u, rfl, e⟩
      · injection e with e1 _; rw [e1]
      · exact nomatch e
    · rcases keyIs_shape hb with ⟨j, u, rfl, e⟩ | ⟨y, u, rfl, e⟩
      · exact nomatch e
      · injection e with e1 _; rw [e1]
  byValue := fun k v h => by
    rcases keyIs_shape h with ⟨i, t, rfl, rfl⟩ | ⟨x, t, rfl, rfl⟩ <;> rfl
  pyHash := fun hv h => by
    rcases keyIs_shape hv with ⟨i, t, rfl, rfl⟩ | ⟨x, t, rfl, rfl⟩
    · exact wpAny_pyHash_int h
    · exact wpAny_pyHash_str h
  eqBool := fun hu hv h => by
    rcases keyIs_shape hu with ⟨i, t, rfl, rfl⟩ | ⟨x, t, rfl, rfl⟩
    · rcases keyIs_shape hv with ⟨j, u, rfl, rfl⟩ | ⟨y, u, rfl, rfl⟩
      · rw [key_ll] at h; exact wpAny_eqBool_int h
      · rw [key_lr] at h; exact SeqAt.EqAt.int_str i t y u _ _ _ _ h
    · rcases keyIs_shape hv with ⟨j, u, rfl, rfl⟩ | ⟨y, u, rfl, rfl⟩
      · rw [key_rl] at h; exact SeqAt.EqAt.str_int x t j u _ _ _ _ h
      · rw [key_rr] at h; exact wpAny_eqBool_str h
  «strs» := fun k x t v h => by
    rcases keyIs_shape h with ⟨i, u, rfl, e⟩ | ⟨y, u, rfl, e⟩
    · exact nomatch e
    · injection e with e1 _
      subst e1
      cases v <;> rfl

end L2

namespace L2
open PySem PySem.Spec PyProof.Rows

/-- a value, without the heap -/
inductive V where
  | non | bl (b : Bool) | int (i : Int) | str (x : Str) | byt (b : Array UInt8) | flt (b : UInt64) | ref (a : Addr) | ty (n : String)
  deriving DecidableEq

def RelV : V → Value → Prop
  | .non, u => u = Value.none
  | .bl b, u => u = Value.bool b
  | .int i, u => ∃ t, u = Value.int i t
  | .str x, u => ∃ t, u = Value.str x t
  | .byt b, u => ∃ t, u = Value.bytes b t
  | .flt b, u => ∃ t, u = Value.float b t
  | .ref a, u => u = Value.ref a
  | .ty n, u => u = Value.type n

abbrev Vals : List V → List Value → Prop := Paired RelV
theorem Vals.length {xs : List V} {us : List Value} (r : Vals xs us) : xs.length = us.length := Paired.length r
theorem Vals.get : ∀ {xs : List V} {us : List Value} {i : Nat} {x : V}, Vals xs us → xs[i]? = some x → ∃ u, us[i]? = some u ∧ RelV x u
  | _, _, _, _, .nil, e => by simp at e
  | _, _, 0, _, .cons r _, e => by simp at e; subst e; exact ⟨_, rfl, r⟩
  | _, _, i + 1, x, .cons _ t, e => by
    obtain ⟨u, h1, h2⟩ := Vals.get (i := i) (x := x) t (by simpa using e)
    exact ⟨u, by simpa using h1, h2⟩
theorem Vals.set {x : V} {u : Value} (r : RelV x u) : ∀ {xs : List V} {us : List Value} (i : Nat), Vals xs us → Vals (xs.set i x) (us.set i u)
  | _, _, _, .nil => .nil
  | _, _, 0, .cons _ t => .cons r t
  | _, _, i + 1, .cons q t => .cons q (Vals.set r i t)
theorem Vals.append : ∀ {xs ys : List V} {us ws : List Value}, Vals xs us → Vals ys ws → Vals (xs ++ ys) (us ++ ws)
  | _, _, _, _, .nil, s => s
  | _, _, _, _, .cons r t, s => .cons r (Vals.append t s)
theorem Vals.take : ∀ {xs : List V} {us : List Value} (n : Nat), Vals xs us → Vals (xs.take n) (us.take n)
  | _, _, 0, _ => .nil
  | _, _, _ + 1, .nil => .nil
  | _, _, n + 1, .cons r t => .cons r (Vals.take n t)
theorem Vals.drop : ∀ {xs : List V} {us : List Value} (n : Nat), Vals xs us → Vals (xs.drop n) (us.drop n)
  | _, _, 0, r => r
  | _, _, _ + 1, .nil => .nil
  | _, _, n + 1, .cons _ t => Vals.drop n t
def RelO : Option V → Option Value → Prop
  | some v, some u => RelV v u
  | none, none => True
  | _, _ => False
def KV {κ : Type} : List (κ × V) → List (κ × Value) → Prop := Paired fun (p : κ × V) (q : κ × Value) => p.1 = q.1 ∧ RelV p.2 q.2

/-- a key of a dict (00_mix): an int or a text -/
def kV : Key → V
  | .inl i => .int i
  | .inr x => .str x

/-- a tuple without a dict of its own -/
def PlainT (h : Heap) (a : Addr) (its : Array Value) : Prop := ∃ o, h.get? a = some o ∧ o.cls = .type "tuple" ∧ o.dict = none ∧ ∃ n, o.data = .seq its n
theorem PlainT.tup {h : Heap} {a : Addr} {its : Array Value} (x : PlainT h a its) : IsTup h a its := let ⟨o, e, c, _, d⟩ := x; ⟨o, e, c, d⟩
theorem PlainT.lt {h : Heap} {a : Addr} {its : Array Value} (x : PlainT h a its) : a < h.objs.size := x.tup.lt
theorem PlainT.new (h : Heap) (items : Array Value) : PlainT (h.push { cls := .type "tuple", data := .seq items }) h.objs.size items := ⟨_, Heap.get?_push_size _ rfl, rfl, rfl, _, rfl⟩

/-- what stands at a tracked address -/
inductive HO where
  /-- a list -/
  | lst (xs : List V)
  /-- a tuple (never changes) -/
  | tup (xs : List V)
  /-- a dict whose keys are ints and texts; one whose keys are tuples of ints and texts (the empty one is both) -/
  | dK (kvs : List (Key × V)) | dT (kvs : List (List Key × V))
  /-- a set of ints: its members, its size -/
  | set (S : Key → Bool) (n : Nat)
  /-- an instance of the class at C, its dict at dx, its attributes -/
  | ins (C dx : Addr) (fs : List (Str × V))
  /-- the dict of the instance at x -/
  | own (x : Addr)
  /-- the dict of an exception -/
  | xd (fs : List (Str × V))
  /-- a bound method, f of x -/
  | met (f x : Addr)
  /-- a range object lo, lo + 1, .. below hi -/
  | rng (lo hi : Int)
  /-- a thing that is known to the object (the script; a dict while a loop walks it): read, never written while it is so -/
  | frz (o : Obj) (u : HO)
  /-- a code object's table -/
  | tbl (ps : Array Value)
  /-- any other thing, by what is true of its one object (a def of one's own: SetO a S n := HO.ext fun h => ..) -/
  | ext (φ : Heap → Prop)

abbrev Hp := Addr → Option HO
def upd (H : Hp) (a : Addr) (o : HO) : Hp := fun b => if b = a then some o else H b
theorem upd_same {H : Hp} {a : Addr} {o : HO} : upd H a o a = some o := by unfold upd; rw [if_pos rfl]
theorem upd_ne {H : Hp} {a b : Addr} {o : HO} (h : b ≠ a) : upd H a o b = H b := by unfold upd; rw [if_neg h]
/-- two objects of different content stand apart -/
theorem ne_of {H : Hp} {a b : Addr} {o u : HO} (h : H a = some o) (h' : H b = some u) (d : o ≠ u) : a ≠ b := by
  intro e; subst e; rw [h] at h'; exact d (Option.some.inj h')
theorem ne_of_none {H : Hp} {a b : Addr} {o : HO} (h : H a = some o) (h' : H b = none) : a ≠ b := by
  intro e; subst e; rw [h] at h'; cases h'

section
variable (P : Program) (w : World)
def ObjOk (H : Hp) (h : Heap) (a : Addr) : HO → Prop
  | .lst xs => xs.length ≤ sizeLine ∧ ∃ (its : List Value) (n : Nat), Vals xs its ∧ h.get? a = some { cls := .type "list", data := .seq its.toArray n }
  | .tup xs => xs.length ≤ sizeLine ∧ ∃ its : List Value, Vals xs its ∧ PlainT h a its.toArray
  | .dK kvs => kvs.length ≤ sizeLine ∧ (a == sysModules) = false ∧ ∃ vs, KV kvs vs ∧ h.DictOf (mixKind P w) a vs
  | .dT kvs => kvs.length ≤ sizeLine ∧ (a == sysModules) = false ∧ ∃ xs : List (List Key × Addr × Value),
      Paired (fun (p : List Key × V) (q : List Key × Addr × Value) => p.1 = q.1 ∧ H q.2.1 = some (.tup (p.1.map kV)) ∧ RelV p.2 q.2.2) kvs xs ∧
      ∃ o es ep, h.get? a = some o ∧ o.ExactDict ∧ o.data = .dict es ep ∧ es.toList = xs.map (entryOfKey (tupleKind (mixKind P w))) ∧ (xs.map (·.1)).Nodup
  | .set S n => h.SetOf (mixKind P w) a S n
  | .ins C dx fs => H dx = some (.own a) ∧ fs.length ≤ 1000 ∧ dx ≠ a ∧ h.get? a = some (PySem.W.instObj C dx) ∧
      ∃ mA, h.Ns1 dx mA ∧ (∀ f, RelO (fs.lookup f) (mA f)) ∧ PySem.Within mA (fs.map (·.1))
  | .own _ => ∃ o, h.get? a = some o
  | .xd fs => ∃ mA, h.Ns1 a mA ∧ ∀ f, RelO (fs.lookup f) (mA f)
  | .rng lo hi => ∃ t u v, h.get? a = some { cls := .type "range", data := .fields #[.int lo t, .int hi u, .int 1 v] }
  | .frz o u => h.get? a = some o ∧ ObjOk H h a u
  | .tbl ps => h.get? a = some { cls := .none, data := .fields ps }
  | .met f x => h.get? a = some (PySem.W.methodObj (.ref f) (.ref x))
  | .ext φ => φ h ∧ (∃ o, h.get? a = some o) ∧ ∀ h1 h2 : Heap, φ h1 → (∀ o, h1.get? a = some o → h2.get? a = some o) → φ h2
/-- the abstract heap is held -/
def HOk (H : Hp) (h : Heap) : Prop := ∀ a o, H a = some o → ObjOk P w H h a o
end

section
variable {P : Program} {w : World} {H H' : Hp} {h h' : Heap} {a : Addr} {o : HO}
theorem ObjOk.lt (x : ObjOk P w H h a o) : a < h.objs.size := by
  cases o with
  | lst xs => obtain ⟨_, _, _, _, e⟩ := x; exact Heap.lt_size e
  | tup xs => obtain ⟨_, _, _, p⟩ := x; exact p.lt
  | dK kvs => obtain ⟨_, _, _, _, o, _, _, e, _⟩ := x; exact Heap.lt_size e
  | dT kvs => obtain ⟨_, _, _, _, o, _, _, e, _⟩ := x; exact Heap.lt_size e
  | set S n => obtain ⟨o, _, _, _, e, _⟩ := x; exact Heap.lt_size e
  | ins C dx fs => obtain ⟨_, _, _, e, _⟩ := x; exact Heap.lt_size e
  | own y => obtain ⟨_, e⟩ := x; exact Heap.lt_size e
  | xd fs => obtain ⟨_, ⟨_, _, _, e, _⟩, _⟩ := x; exact Heap.lt_size e
  | rng lo hi => obtain ⟨_, _, _, e⟩ := x; exact Heap.lt_size e
  | frz ob u => obtain ⟨e, _⟩ := x; exact Heap.lt_size e
  | tbl ps => exact Heap.lt_size (show h.get? a = some _ from x)
  | met f y => exact Heap.lt_size (show h.get? a = some _ from x)
  | ext φ => obtain ⟨_, ⟨_, e⟩, _⟩ := x; exact Heap.lt_size e
theorem Paired.mapP {α β : Type} {F G : α → β → Prop} : ∀ {l₁ : List α} {l₂ : List β}, Paired F l₁ l₂ → (∀ a b, F a b → G a b) → Paired G l₁ l₂
  | _, _, .nil, _ => .nil
  | _, _, .cons r t, f => .cons (f _ _ r) (Paired.mapP t f)
/-- what an object's description leans on: its own object, its own dict, the tuples -/
theorem ObjOk.stay (x : ObjOk P w H h a o) (k : ∀ b u, (b = a ∨ H b = some (.own a)) → h.get? b = some u → h'.get? b = some u)
    (ho : ∀ b, H b = some (.own a) → H' b = some (.own a)) (ht : ∀ b xs, H b = some (.tup xs) → H' b = some (.tup xs)) : ObjOk P w H' h' a o := by
  induction o with
  | lst xs => obtain ⟨z, its, n, r, e⟩ := x; exact ⟨z, its, n, r, k _ _ (.inl rfl) e⟩
  | tup xs => obtain ⟨z, its, r, ob, e, c⟩ := x; exact ⟨z, its, r, ob, k _ _ (.inl rfl) e, c⟩
  | dK kvs => obtain ⟨z, y, vs, r, ob, es, ep, e, c⟩ := x; exact ⟨z, y, vs, r, ob, es, ep, k _ _ (.inl rfl) e, c⟩
  | dT kvs =>
    obtain ⟨z, y, xs, r, ob, es, ep, e, c⟩ := x
    exact ⟨z, y, xs, Paired.mapP r fun p q z => ⟨z.1, ht _ _ z.2.1, z.2.2⟩, ob, es, ep, k _ _ (.inl rfl) e, c⟩
  | set S n => obtain ⟨ob, es, ep, t, e, c⟩ := x; exact ⟨ob, es, ep, t, k _ _ (.inl rfl) e, c⟩
  | ins C dx fs =>
    obtain ⟨d, z, ne, e, mA, ⟨od, es, ep, e2, c⟩, r⟩ := x
    exact ⟨ho _ d, z, ne, k _ _ (.inl rfl) e, mA, ⟨od, es, ep, k _ _ (.inr d) e2, c⟩, r⟩
  | own y => obtain ⟨ob, e⟩ := x; exact ⟨ob, k _ _ (.inl rfl) e⟩
  | xd fs => obtain ⟨mA, ⟨od, es, ep, e, c⟩, r⟩ := x; exact ⟨mA, ⟨od, es, ep, k _ _ (.inl rfl) e, c⟩, r⟩
  | rng lo hi => obtain ⟨t, u, v, e⟩ := x; exact ⟨t, u, v, k _ _ (.inl rfl) e⟩
  | frz ob u ih => obtain ⟨e, q⟩ := x; exact ⟨k _ _ (.inl rfl) e, ih q⟩
  | tbl ps =>
    have e : h.get? a = some { cls := .none, data := .fields ps } := x
    show h'.get? a = some { cls := .none, data := .fields ps }
    exact k a _ (.inl rfl) e
  | met f y =>
    have e : h.get? a = some (PySem.W.methodObj (.ref f) (.ref y)) := x
    show h'.get? a = some (PySem.W.methodObj (.ref f) (.ref y))
    exact k a _ (.inl rfl) e
  | ext φ => obtain ⟨p, ⟨o, e⟩, st⟩ := x; exact ⟨st _ _ p fun o q => k _ _ (.inl rfl) q, ⟨o, k _ _ (.inl rfl) e⟩, st⟩
theorem HOk.lt (x : HOk P w H h) (e : H a = some o) : a < h.objs.size := (x a o e).lt
theorem HOk.fresh (x : HOk P w H h) (e : h.objs.size ≤ a) : H a = none := by
  cases q : H a with
  | none => rfl
  | some u => exact absurd (Nat.lt_of_lt_of_le (x.lt q) e) (Nat.lt_irrefl _)
/-- every object of the heap is kept -/
theorem HOk.kept (x : HOk P w H h) (k : ∀ b u, h.get? b = some u → h'.get? b = some u) : HOk P w H h' := fun a o e =>
  (x a o e).stay (fun b u _ q => k b u q) (fun _ q => q) fun _ _ q => q
/-- a new object is laid and tracked -/
theorem HOk.laid (x : HOk P w H h) (k : ∀ b u, h.get? b = some u → h'.get? b = some u) (hp : h.objs.size ≤ a) (new : ObjOk P w (upd H a o) h' a o) : HOk P w (upd H a o) h' := fun b u e => by
  have hn := x.fresh hp
  by_cases hb : b = a
  · subst hb; rw [upd_same] at e; cases e; exact new
  · rw [upd_ne hb] at e
    exact (x b u e).stay (fun c v _ q => k c v q) (fun c q => by rw [upd_ne (ne_of_none q hn)]; exact q) fun c xs q => by rw [upd_ne (ne_of_none q hn)]; exact q
end

/-- what may be read as u: it is u, or a known u -/
def Rd (H : Hp) (a : Addr) (u : HO) : Prop := H a = some u ∨ ∃ o, H a = some (.frz o u)
theorem Rd.of {H : Hp} {a : Addr} {u : HO} (h : H a = some u) : Rd H a u := .inl h
theorem Rd.ok {P : Program} {w : World} {H : Hp} {h : Heap} {a : Addr} {u : HO} (r : Rd H a u) (x : HOk P w H h) : ObjOk P w H h a u := by
  rcases r with r | ⟨o, r⟩
  · exact x a u r
  · obtain ⟨_, q⟩ := x a _ r
    exact q
/-- what may be written -/
def Mut : Option HO → Prop
  | some (.lst _) => True
  | some (.dK _) => True
  | some (.dT _) => True
  | some (.set _ _) => True
  | some (.ins _ _ _) => True
  | some (.ext _) => True
  | _ => False
section
variable {P : Program} {w : World} {H : Hp} {h h' : Heap} {x e : Addr} {o' : HO}
/-- the object at e is changed: x itself, or the dict of the instance x -/
theorem HOk.write (ok : HOk P w H h) (mu : Mut (H x)) (he : e = x ∨ H e = some (.own x)) (k : ∀ b u, b ≠ e → h.get? b = some u → h'.get? b = some u) (heo : ∃ u, h'.get? e = some u)
    (new : ObjOk P w (upd H x o') h' x o') : HOk P w (upd H x o') h' := fun b u q => by
  have nown : ∀ c y, H c = some (.own y) → c ≠ x := fun c y r z => by subst z; rw [r] at mu; exact mu
  have ntup : ∀ c xs, H c = some (.tup xs) → c ≠ x := fun c xs r z => by subst z; rw [r] at mu; exact mu
  by_cases hb : b = x
  · subst hb; rw [upd_same] at q; cases q; exact new
  · rw [upd_ne hb] at q
    by_cases hbe : b = e
    · have q' : H b = some (.own x) := by
        rcases he with z | z
        · exact absurd (hbe.trans z) hb
        · rw [hbe]; exact z
      rw [q] at q'; cases q'
      obtain ⟨v, hv⟩ := heo
      exact ⟨v, by rw [hbe]; exact hv⟩
    · refine (ok b u q).stay (fun c v hc r => k c v ?_ r) (fun c r => by rw [upd_ne (nown c b r)]; exact r) fun c xs r => by rw [upd_ne (ntup c xs r)]; exact r
      rcases hc with rfl | hc
      · exact hbe
      · rintro rfl
        rcases he with z | z
        · exact nown c b hc z
        · rw [hc] at z; cases z; exact hb rfl
end

/-! ### kept unless tracked; of the frames at fs (the callers') the slots may change (an exception that passes writes there); of the records at ex (iterators) nothing is said -/
structure Un (fs ex : List Addr) (H H' : Hp) (h h' : Heap) : Prop where
  keep : ∀ b o, h.get? b = some o → H b = none → b ∉ fs → b ∉ ex → h'.get? b = some o
  slot : ∀ b o, h.get? b = some o → H b = none → b ∈ fs → b ∉ ex → ∃ sl, h'.get? b = some { o with slots := sl }
  free : ∀ b o, h.get? b = some o → H b = none → b ∉ ex → H' b = none
  there : ∀ b o, h.get? b = some o → b ∉ ex → ∃ o', h'.get? b = some o'
  tups : ∀ b xs, H b = some (.tup xs) → H' b = some (.tup xs)
  frzs : ∀ b o u, H b = some (.frz o u) → H' b = some (.frz o u)
  tbls : ∀ b ps, H b = some (.tbl ps) → ∃ more, H' b = some (.tbl (ps ++ more))
section
variable {fs fs' ex ex' : List Addr} {H H1 H2 : Hp} {h h1 h2 h' : Heap} {a x e : Addr} {o : HO}
theorem Un.any (u : Un fs ex H H1 h h1) {b : Addr} {ob : Obj} (q : h.get? b = some ob) (n : H b = none) (hx : b ∉ ex) : ∃ sl, h1.get? b = some { ob with slots := sl } := by
  by_cases hb : b ∈ fs
  · exact u.slot b ob q n hb hx
  · exact ⟨ob.slots, u.keep b ob q n hb hx⟩
theorem Un.trans (a : Un fs ex H H1 h h1) (b : Un fs ex H1 H2 h1 h2) : Un fs ex H H2 h h2 where
  keep := fun c ob q n hc hx => b.keep c ob (a.keep c ob q n hc hx) (a.free c ob q n hx) hc hx
  slot := fun c ob q n hc hx => by
    obtain ⟨sl, e1⟩ := a.slot c ob q n hc hx
    obtain ⟨sl', e2⟩ := b.slot c _ e1 (a.free c ob q n hx) hc hx
    exact ⟨sl', e2⟩
  free := fun c ob q n hx => by
    obtain ⟨o', e1⟩ := a.there c ob q hx
    exact b.free c o' e1 (a.free c ob q n hx) hx
  there := fun c ob q hx => by
    obtain ⟨o', e1⟩ := a.there c ob q hx
    exact b.there c o' e1 hx
  tups := fun c xs q => b.tups c xs (a.tups c xs q)
  frzs := fun c ob xs q => b.frzs c ob xs (a.frzs c ob xs q)
  tbls := fun c ps q => by
    obtain ⟨m1, e1⟩ := a.tbls c ps q
    obtain ⟨m2, e2⟩ := b.tbls c _ e1
    exact ⟨m1 ++ m2, by rw [e2, Array.append_assoc]⟩
theorem Un.kept (k : ∀ b u, h.get? b = some u → h'.get? b = some u) : Un fs ex H H h h' :=
  ⟨fun b ob q _ _ _ => k b ob q, fun b ob q _ _ _ => ⟨ob.slots, k b ob q⟩, fun _ _ _ n _ => n, fun b ob q _ => ⟨ob, k b ob q⟩, fun _ _ q => q, fun _ _ _ q => q, fun _ ps q => ⟨#[], by rw [q]; simp⟩⟩
theorem Un.refl : Un fs ex H H h h := Un.kept fun _ _ q => q
theorem Un.laid (k : ∀ b u, h.get? b = some u → h'.get? b = some u) (hp : h.objs.size ≤ a) (hn : H a = none) : Un fs ex H (upd H a o) h h' where
  keep := fun b u q _ _ _ => k b u q
  slot := fun b u q _ _ _ => ⟨u.slots, k b u q⟩
  free := fun b u q n _ => by rw [upd_ne (Nat.ne_of_lt (Nat.lt_of_lt_of_le (Heap.lt_size q) hp))]; exact n
  there := fun b u q _ => ⟨u, k b u q⟩
  tups := fun b xs q => by rw [upd_ne (ne_of_none q hn)]; exact q
  frzs := fun b u xs q => by rw [upd_ne (ne_of_none q hn)]; exact q
  tbls := fun b ps q => ⟨#[], by rw [upd_ne (ne_of_none q hn), q]; simp⟩
theorem Un.write (mu : Mut (H x)) (he : e = x ∨ H e = some (.own x)) (k : ∀ b u, b ≠ e → h.get? b = some u → h'.get? b = some u) (heo : ∃ u, h'.get? e = some u) : Un fs ex H (upd H x o) h h' := by
  have hx : ∀ b, H b = none → b ≠ x := fun b n z => by subst z; rw [n] at mu; exact mu
  have hb : ∀ b, H b = none → b ≠ e := fun b n z => by
    subst z
    rcases he with r | r
    · exact hx b n r
    · rw [n] at r; cases r
  have hm : ∀ b u, H b = some u → ¬ Mut (some u) → b ≠ x := fun b u q nm z => by subst z; rw [q] at mu; exact nm mu
  refine ⟨fun b u q n _ _ => k b u (hb b n) q, fun b u q n _ _ => ⟨u.slots, k b u (hb b n) q⟩, fun b u q n _ => by rw [upd_ne (hx b n)]; exact n, fun b u q _ => ?_,
    fun b xs q => by rw [upd_ne (hm b _ q fun z => z)]; exact q, fun b u xs q => by rw [upd_ne (hm b _ q fun z => z)]; exact q, fun b ps q => ⟨#[], by rw [upd_ne (hm b _ q fun z => z), q]; simp⟩⟩
  by_cases hbe : b = e
  · subst hbe; exact heo
  · exact ⟨u, k b u hbe q⟩
theorem Un.mono (u : Un fs ex H H1 h h1) (hs : ∀ b ∈ fs, b ∈ fs') (hx : ∀ b ∈ ex, b ∈ ex') : Un fs' ex' H H1 h h1 :=
  ⟨fun b ob q n hb he => u.keep b ob q n (fun z => hb (hs b z)) fun z => he (hx b z), fun _ _ q n _ he => u.any q n fun z => he (hx _ z), fun b ob q n he => u.free b ob q n fun z => he (hx b z), fun b ob q he => u.there b ob q fun z => he (hx b z), u.tups, u.frzs, u.tbls⟩
end

/-! ### the heap without what is tracked -/
def trk (h : Heap) (H : Hp) : List Addr := (List.range h.objs.size).filter fun a => (H a).isSome
def hidT (h : Heap) (H : Hp) : Heap := PySem.W.hideAll h (trk h H)
theorem hidT_size (h : Heap) (H : Hp) : (hidT h H).objs.size = h.objs.size := PySem.W.hideAll_size _ _
theorem hidT_get {h : Heap} {H : Hp} {b : Addr} {o : Obj} (e : h.get? b = some o) (n : H b = none) : (hidT h H).get? b = some o :=
  PySem.W.hideAll_get _ e fun hm => by
    have q : (H b).isSome = true := (List.mem_filter.mp hm).2
    rw [n] at q; simp at q
theorem of_hidT {h : Heap} {H : Hp} {b : Addr} {o : Obj} (e : (hidT h H).get? b = some o) : h.get? b = some o ∧ H b = none := by
  have e' : h.get? b = some o := PySem.W.of_hideAll (trk h H) e
  refine ⟨e', ?_⟩
  cases q : H b with
  | none => rfl
  | some x =>
    have hm : b ∈ trk h H := List.mem_filter.mpr ⟨List.mem_range.mpr (Heap.lt_size e'), by simp [q]⟩
    have z : (hidT h H).get? b = none := PySem.W.hideAll_none (trk h H) hm
    rw [z] at e; cases e

/-! ### OpenK's ledger, filled with every new object but one -/
def allNews (g h : Heap) (L : Addr) : List (Addr × Obj) := (List.range h.objs.size).filterMap fun a => if a = L ∨ (g.get? a).isSome = true then none else (h.get? a).map fun o => (a, o)
def rest (g h : Heap) (L d : Addr) : List (Addr × Obj) := (allNews g h L).filter fun p => decide (p.1 ≠ d)
end L2

namespace L2
open PySem PySem.Spec PyProof.Rows

/-- the module's facts, over the base: the heap at the law's entry without what is tracked there -/
structure Mod (K : PySem.W.Frag) (mg : Str → Option Value) (base : Heap) : Prop where
  kin : K.In base
  glob : base.Ns mainGlobals mg
  blt : ∃ mb, base.Ns builtinsNs mb ∧ ∀ x : Str, x ≠ "__name__" → mb x = bootBuiltins x
  nolimit : base.NoLimit

/-- the context: a def's body (or a comprehension's block) running. base: fixed through the whole law; s₀, H₀: the entry; outer: the frames whose slots others may change (a def's callers); stack: all frames that run;
   ex: iterators that were made ahead of the entry and are walked here (a comprehension's); fn: the names whose cells were made at the entry (a def: all; a comprehension's block: its own); calm: not within an except suite; pn: pins that every state bears; xe: what is wanted of an exception that leaves the code -/
structure Cx where
  prog : Program
  w : World
  K : PySem.W.Frag
  mg : Str → Option Value
  base : Heap
  A : Around
  N : List Str
  s_0 : Shared
  H_0 : Hp
  env : Env
  outer : List Env
  stack : List Env
  ex : List Addr
  fn : Str → Bool
  calm : Bool
  pn : List (Addr × Obj)
  xe : Value → Shared → Prop
/-- the callers' frames -/
def frs (l : List Env) : List Addr := l.filterMap (·.frame)
abbrev Cx.fs (X : Cx) : List Addr := frs X.outer

def Vis (sc : Scope) (x : Str) : Prop := sc.names.lookup x = some .local ∨ sc.names.lookup x = some .cell ∨ sc.names.lookup x = some .free
def Loc (sc : Scope) (x : Str) : Prop := sc.names.lookup x = some .local ∨ sc.names.lookup x = some .cell
def Look (env : Env) (h : Heap) (m : Str → Option Value) (x : Str) (u : Value) : Prop :=
  (env.kindOf x = some .local ∧ m x = some u) ∨ ((env.kindOf x = some .cell ∨ env.kindOf x = some .free) ∧ ∃ c, env.cells.lookup x = some c ∧ h.IsCell c (some u))

structure Cx.Ok (X : Cx) : Prop where
  mod : Mod X.K X.mg X.base
  kind : X.env.scope.kind = .function
  glob : X.env.globals = mainGlobals
  blt : X.env.builtins = builtinsNs
  above : X.s_0.heap.objs.size ≤ X.env.locals
  inj : ∀ x y c, X.env.cells.lookup x = some c → X.env.cells.lookup y = some c → x = y
  has : ∀ x, (X.env.kindOf x = some .cell ∨ X.env.kindOf x = some .free) → ∃ c, X.env.cells.lookup x = some c
  cab : ∀ x c, X.fn x = true → X.env.cells.lookup x = some c → X.s_0.heap.objs.size ≤ c
  hd : X.calm = true → X.A.handled = none
  frames : X.A.frames = some X.stack
  stk : X.stack = X.outer ∨ (X.stack = X.env :: X.outer ∧ X.env.frame = some X.env.locals)
  exf : ∀ b ∈ X.ex, b ≠ X.env.locals ∧ ∀ x c, X.env.cells.lookup x = some c → c ≠ b
  bs : ∀ b o, X.base.get? b = some o → X.s_0.heap.get? b = some o ∧ X.H_0 b = none
  bsz : X.base.objs.size ≤ X.s_0.heap.objs.size
  noex : ∀ b o, X.base.get? b = some o → b ∉ X.ex
  exfs : ∀ b ∈ X.ex, b ∉ X.fs
  funs : X.s_0.heap.FunFrames X.base X.outer
  frf : ∀ b ∈ X.fs, X.H_0 b = none

structure Inv (X : Cx) (pins : List (Addr × Obj)) (σ : List (Option V)) (H : Hp) (s : Shared) : Prop where
  ok : X.Ok
  os : s.os = X.s_0.os
  bare : AllBare s.gens
  base : Un X.fs X.ex X.H_0 H X.s_0.heap s.heap
  loc : ∃ m, s.heap.Ns X.env.locals m ∧ ∀ (i : Nat) (x : Str) (v : V), X.N[i]? = some x → σ[i]? = some (some v) → Vis X.env.scope x → ∃ u, RelV v u ∧ Look X.env s.heap m x u
  cell : ∀ x c, X.env.cells.lookup x = some c → ∃ v, s.heap.IsCell c v
  free : H X.env.locals = none
  freeC : ∀ x c, X.env.cells.lookup x = some c → H c = none
  pin : ∀ p ∈ X.pn ++ pins, s.heap.get? p.1 = some p.2 ∧ H p.1 = none ∧ p.1 ≠ X.env.locals ∧ p.1 ∉ X.fs ∧ ∀ v, p.2.data ≠ .cell v
  hok : HOk X.prog X.w H s.heap
  len : σ.length = X.N.length

section
variable {X : Cx} {pins : List (Addr × Obj)} {σ : List (Option V)} {H H' : Hp} {s : Shared} {h' : Heap}

theorem Cx.Ok.nofr (ok : X.Ok) {b : Addr} {o : Obj} (e : X.base.get? b = some o) : b ∉ X.fs := fun hb => by
  have := (ok.funs.mem hb).1
  rw [e] at this; cases this
theorem Inv.bs (I : Inv X pins σ H s) : ∀ b o, X.base.get? b = some o → s.heap.get? b = some o ∧ H b = none := fun b o e =>
  ⟨I.base.keep b o (I.ok.bs b o e).1 (I.ok.bs b o e).2 (I.ok.nofr e) (I.ok.noex b o e), I.base.free b o (I.ok.bs b o e).1 (I.ok.bs b o e).2 (I.ok.noex b o e)⟩
theorem Inv.bk (I : Inv X pins σ H s) : ∀ b o, X.base.get? b = some o → s.heap.get? b = some o := fun b o e => (I.bs b o e).1
theorem Inv.mod (I : Inv X pins σ H s) : Mod X.K X.mg X.base := I.ok.mod
theorem Inv.kIn (I : Inv X pins σ H s) : X.K.In s.heap := I.ok.mod.kin.keeps I.bk
theorem Inv.nolimit (I : Inv X pins σ H s) : s.heap.NoLimit := I.ok.mod.nolimit.keeps I.bk
/-- the frame over the base: for OpenK's rules (K.In X.base is I.mod.kin) -/
theorem Inv.fr (I : Inv X pins σ H s) : ∃ m, Fr X.base X.env.locals s.heap m :=
  let ⟨m, hn, _⟩ := I.loc
  ⟨m, hn, I.bk, Nat.le_trans I.ok.bsz I.ok.above⟩
theorem Inv.lt (I : Inv X pins σ H s) : X.env.locals < s.heap.objs.size := let ⟨_, hn, _⟩ := I.loc; hn.lt
theorem Inv.sz (I : Inv X pins σ H s) : X.s_0.heap.objs.size ≤ s.heap.objs.size := Nat.le_trans I.ok.above (Nat.le_of_lt I.lt)
theorem Inv.nofs (I : Inv X pins σ H s) {a : Addr} (h : s.heap.objs.size ≤ a) : a ∉ X.fs := fun hb => by
  obtain ⟨_, o, ho, _⟩ := I.ok.funs.mem hb
  exact absurd (Nat.lt_of_lt_of_le (Heap.lt_size ho) (Nat.le_trans I.sz h)) (Nat.lt_irrefl _)
theorem Inv.cne (I : Inv X pins σ H s) : ∀ x c, X.env.cells.lookup x = some c → c ≠ X.env.locals := fun x c e z => by
  obtain ⟨v, o, ho, hd⟩ := I.cell x c e
  obtain ⟨m, ⟨o', es, ep, ho', hd', _⟩, _⟩ := I.loc
  rw [z, ho'] at ho; cases ho; rw [hd'] at hd; cases hd
theorem Inv.funs (I : Inv X pins σ H s) : s.heap.FunFrames X.base X.outer := by
  have all : ∀ (l : List Env), (∀ b ∈ frs l, b ∈ X.fs) → X.s_0.heap.FunFrames X.base l → s.heap.FunFrames X.base l := by
    intro l
    induction l with
    | nil => intro _ _; trivial
    | cons env r ih =>
      intro hs hl
      obtain ⟨hk, ⟨L, o, hf, hn, ho, hd⟩, hr⟩ := hl
      have hL : L ∈ X.fs := hs L (by unfold frs; rw [List.filterMap_cons, hf]; exact List.mem_cons_self)
      obtain ⟨sl, e⟩ := I.base.slot L o ho (I.ok.frf L hL) hL fun z => I.ok.exfs L z hL
      exact ⟨hk, ⟨L, _, hf, hn, e, hd⟩, ih (fun b hb => hs b (by unfold frs; rw [List.filterMap_cons, hf]; exact List.mem_cons_of_mem _ hb)) hr⟩
  exact all X.outer (fun _ hb => hb) I.ok.funs

/-- the frames that run, for a call -/
theorem Inv.stack (I : Inv X pins σ H s) : s.heap.FunFrames X.base X.stack := by
  rcases I.ok.stk with e | ⟨e, hf⟩
  · rw [e]; exact I.funs
  · rw [e]
    obtain ⟨m, hn, _⟩ := I.loc
    refine .cons (by rw [I.ok.kind]; decide) hf hn ?_ I.funs
    exact Heap.get?_none_of_le (Nat.le_trans I.ok.bsz I.ok.above)
theorem Inv.stkSub (I : Inv X pins σ H s) : ∀ b ∈ frs X.stack, b ∈ X.env.locals :: X.fs := fun b hb => by
  rcases I.ok.stk with e | ⟨e, hf⟩
  · rw [e] at hb; exact List.mem_cons_of_mem _ hb
  · rw [e] at hb
    unfold frs at hb
    rw [List.filterMap_cons, hf] at hb
    exact hb
theorem Inv.stkFree (I : Inv X pins σ H s) : ∀ b ∈ frs X.stack, H b = none := fun b hb => by
  rcases List.mem_cons.mp (I.stkSub b hb) with e | hb
  · rw [e]; exact I.free
  · obtain ⟨_, o, ho, _⟩ := I.ok.funs.mem hb
    exact I.base.free b o ho (I.ok.frf b hb) fun z => I.ok.exfs b z hb

/-- THE STEP: the untracked objects but the frame and the records at ch are kept (the callers' frames up to slots), the frame's map is kept, the new abstract heap is held -/
theorem Inv.step {g' : Array GenState} {t' : Nat} {d' : Drawn} {ch : List Addr} (I : Inv X pins σ H s)
    (hch : ∀ b ∈ ch, (b ∈ X.ex ∨ X.s_0.heap.objs.size ≤ b) ∧ b ≠ X.env.locals ∧ (∀ x c, X.env.cells.lookup x = some c → c ≠ b) ∧ ∀ p ∈ X.pn ++ pins, p.1 ≠ b)
    (keep : ∀ b o, b ≠ X.env.locals → b ∉ X.fs → b ∉ ch → s.heap.get? b = some o → H b = none → h'.get? b = some o)
    (slot : ∀ b o, b ≠ X.env.locals → b ∈ X.fs → b ∉ ch → s.heap.get? b = some o → H b = none → ∃ sl, h'.get? b = some { o with slots := sl }) (free : ∀ b o, b ∉ ch → s.heap.get? b = some o → H b = none → H' b = none)
    (there : ∀ b o, b ∉ ch → s.heap.get? b = some o → ∃ o', h'.get? b = some o')
    (tups : ∀ b xs, H b = some (.tup xs) → H' b = some (.tup xs)) (frzs : ∀ b o u, H b = some (.frz o u) → H' b = some (.frz o u)) (tbls : ∀ b ps, H b = some (.tbl ps) → ∃ more, H' b = some (.tbl (ps ++ more)))
    (ns : ∀ m, s.heap.Ns X.env.locals m → h'.Ns X.env.locals m) (hok : HOk X.prog X.w H' h') (hg : AllBare g') :
    Inv X pins σ H' { s with heap := h', gens := g', drawn := d', toks := t' } := by
  have neL : ∀ b o, X.s_0.heap.get? b = some o → b ≠ X.env.locals := fun b o e => Nat.ne_of_lt (Nat.lt_of_lt_of_le (Heap.lt_size e) I.ok.above)
  have neC : ∀ b o, X.s_0.heap.get? b = some o → b ∉ X.ex → b ∉ ch := fun b o e hx hb => by
    rcases (hch b hb).1 with z | z
    · exact hx z
    · exact absurd (Nat.lt_of_lt_of_le (Heap.lt_size e) z) (Nat.lt_irrefl _)
  have cellK : ∀ x c, X.env.cells.lookup x = some c → ∀ v, s.heap.IsCell c v → h'.IsCell c v := fun x c e v ⟨o, ho, hd⟩ => by
    have nch : c ∉ ch := fun z => (hch c z).2.2.1 x c e rfl
    by_cases hc : c ∈ X.fs
    · obtain ⟨sl, q⟩ := slot c o (I.cne x c e) hc nch ho (I.freeC x c e)
      exact ⟨_, q, hd⟩
    · exact ⟨o, keep c o (I.cne x c e) hc nch ho (I.freeC x c e), hd⟩
  refine ⟨I.ok, I.os, hg, ⟨fun b o e n hb hx => ?_, fun b o e n hb hx => ?_, fun b o e n hx => ?_, fun b o e hx => ?_, fun b xs e => tups b xs (I.base.tups b xs e), fun b o xs e => frzs b o xs (I.base.frzs b o xs e), fun b ps e => ?_⟩, ?_, fun x c e => ?_, ?_, fun x c e => ?_, fun p hp => ?_, hok, I.len⟩
  · exact keep b o (neL b o e) hb (neC b o e hx) (I.base.keep b o e n hb hx) (I.base.free b o e n hx)
  · obtain ⟨sl, e1⟩ := I.base.slot b o e n hb hx
    obtain ⟨sl', e2⟩ := slot b _ (neL b o e) hb (neC b o e hx) e1 (I.base.free b o e n hx)
    exact ⟨sl', e2⟩
  · obtain ⟨o', e1⟩ := I.base.there b o e hx
    exact free b o' (neC b o e hx) e1 (I.base.free b o e n hx)
  · obtain ⟨o', e1⟩ := I.base.there b o e hx
    exact there b o' (neC b o e hx) e1
  · obtain ⟨m1, e1⟩ := I.base.tbls b ps e
    obtain ⟨m2, e2⟩ := tbls b _ e1
    exact ⟨m1 ++ m2, by rw [e2, Array.append_assoc]⟩
  · obtain ⟨m, hn, hl⟩ := I.loc
    refine ⟨m, ns m hn, fun i x v e1 e2 e3 => ?_⟩
    obtain ⟨u, r, l⟩ := hl i x v e1 e2 e3
    refine ⟨u, r, ?_⟩
    rcases l with l | ⟨k, c, e, z⟩
    · exact .inl l
    · exact .inr ⟨k, c, e, cellK x c e _ z⟩
  · obtain ⟨v, z⟩ := I.cell x c e
    exact ⟨v, cellK x c e v z⟩
  · obtain ⟨m, ⟨o, _, _, ho, _⟩, _⟩ := I.loc
    exact free _ o (fun z => (hch _ z).2.1 rfl) ho I.free
  · obtain ⟨v, o, ho, hd⟩ := I.cell x c e
    exact free c o (fun z => (hch c z).2.2.1 x c e rfl) ho (I.freeC x c e)
  · obtain ⟨e, n, ne, nf, d⟩ := I.pin p hp
    have nch : p.1 ∉ ch := fun z => (hch p.1 z).2.2.2 p hp rfl
    exact ⟨keep p.1 p.2 ne nf nch e n, free p.1 p.2 nch e n, ne, nf, d⟩
/-- .. where the frame's own object is kept too -/
theorem Inv.un {t' : Nat} (I : Inv X pins σ H s) (u : Un X.fs [] H H' s.heap h') (hok : HOk X.prog X.w H' h') : Inv X pins σ H' { s with heap := h', toks := t' } := by
  obtain ⟨m, ⟨o, es, ep, ho, r⟩, _⟩ := id I.loc
  obtain ⟨sl, hL⟩ := u.any ho I.free (by simp)
  exact I.step (g' := s.gens) (d' := s.drawn) (ch := []) (fun _ z => nomatch z) (fun b o _ hb _ e n => u.keep b o e n hb (by simp)) (fun b o _ hb _ e n => u.slot b o e n hb (by simp)) (fun b o _ e n => u.free b o e n (by simp)) (fun b o _ e => u.there b o e (by simp)) u.tups u.frzs u.tbls (fun m' hm => by
    obtain ⟨o', es', ep', ho', r'⟩ := hm
    rw [ho] at ho'; cases ho'
    exact ⟨_, es', ep', hL, r'⟩) hok I.bare
/-- behind a call (or a comprehension's block): the slots of this frame may have changed too, the records at ch may have turned -/
theorem Inv.call {g' : Array GenState} {t' : Nat} {d' : Drawn} {ch : List Addr} (I : Inv X pins σ H s) (u : Un (frs X.stack) ch H H' s.heap h') (hok : HOk X.prog X.w H' h') (hg : AllBare g')
    (hch : ∀ b ∈ ch, (b ∈ X.ex ∨ X.s_0.heap.objs.size ≤ b) ∧ b ≠ X.env.locals ∧ (∀ x c, X.env.cells.lookup x = some c → c ≠ b) ∧ ∀ p ∈ X.pn ++ pins, p.1 ≠ b) :
    Inv X pins σ H' { s with heap := h', gens := g', drawn := d', toks := t' } := by
  obtain ⟨m, ⟨o, es, ep, ho, r⟩, _⟩ := id I.loc
  obtain ⟨sl, hL⟩ := u.any ho I.free fun z => (hch _ z).2.1 rfl
  exact I.step (ch := ch) hch (fun b o hL hb hc e n => u.keep b o e n (fun z => (List.mem_cons.mp (I.stkSub b z)).elim hL hb) hc) (fun b o _ _ hc e n => u.any e n hc) (fun b o hc e n => u.free b o e n hc) (fun b o hc e => u.there b o e hc) u.tups u.frzs u.tbls (fun m' hm => by
    obtain ⟨o', es', ep', ho', r'⟩ := hm
    rw [ho] at ho'; cases ho'
    exact ⟨_, es', ep', hL, r'⟩) hok hg
/-- an untracked record of ours (an iterator) has turned -/
theorem Inv.turned {t' : Nat} {it : Addr} (I : Inv X pins σ H s) (k : ∀ b o, b ≠ it → s.heap.get? b = some o → h'.get? b = some o) (hn : H it = none) (hL : it ≠ X.env.locals)
    (h1 : it ∈ X.ex ∨ X.s_0.heap.objs.size ≤ it) (h2 : ∀ x c, X.env.cells.lookup x = some c → c ≠ it) (h3 : ∀ p ∈ X.pn ++ pins, p.1 ≠ it) : Inv X pins σ H { s with heap := h', toks := t' } := by
  have nit : ∀ b u, H b = some u → b ≠ it := fun b u e z => by rw [z, hn] at e; cases e
  refine I.step (g' := s.gens) (d' := s.drawn) (ch := [it]) (fun b hb => ?_) (fun b o _ _ hc e _ => k b o (fun z => hc (by simp [z])) e) (fun b o _ _ hc e _ => ⟨o.slots, k b o (fun z => hc (by simp [z])) e⟩) (fun _ _ _ _ n => n)
    (fun b o hc e => ⟨o, k b o (fun z => hc (by simp [z])) e⟩) (fun _ _ e => e) (fun _ _ _ e => e) (fun b ps e => ⟨#[], by rw [e]; simp⟩) (fun m hm => ?_) (fun b u e => ?_) I.bare
  · have e : b = it := by simpa using hb
    subst e
    exact ⟨h1, hL, h2, h3⟩
  · obtain ⟨o, es, ep, ho, r⟩ := hm
    exact ⟨o, es, ep, k _ o (Ne.symm hL) ho, r⟩
  · refine (I.hok b u e).stay (fun c v hc q => k c v ?_ q) (fun _ q => q) fun _ _ q => q
    rcases hc with z | z
    · rw [z]; exact nit b u e
    · exact nit c _ z
theorem Inv.tok (I : Inv X pins σ H s) (t : Nat) : Inv X pins σ H { s with toks := t } := I.un (h' := s.heap) (t' := t) Un.refl I.hok
/-- all objects kept -/
theorem Inv.kept {t' : Nat} (I : Inv X pins σ H s) (k : ∀ b u, s.heap.get? b = some u → h'.get? b = some u) : Inv X pins σ H { s with heap := h', toks := t' } := I.un (Un.kept k) (I.hok.kept k)
/-- a new object laid and tracked -/
theorem Inv.laid {a : Addr} {o : HO} {t' : Nat} (I : Inv X pins σ H s) (k : ∀ b u, s.heap.get? b = some u → h'.get? b = some u) (hp : s.heap.objs.size ≤ a) (new : ObjOk X.prog X.w (upd H a o) h' a o) :
    Inv X pins σ (upd H a o) { s with heap := h', toks := t' } := I.un (Un.laid k hp (I.hok.fresh hp)) (I.hok.laid k hp new)
/-- an object written -/
theorem Inv.write {x e : Addr} {o : HO} {t' : Nat} (I : Inv X pins σ H s) (mu : Mut (H x)) (he : e = x ∨ H e = some (.own x)) (k : ∀ b u, b ≠ e → s.heap.get? b = some u → h'.get? b = some u) (heo : ∃ u, h'.get? e = some u)
    (new : ObjOk X.prog X.w (upd H x o) h' x o) : Inv X pins σ (upd H x o) { s with heap := h', toks := t' } := I.un (Un.write mu he k heo) (I.hok.write mu he k heo new)
/-- forgetting slots, pins -/
theorem Inv.weak {σ' : List (Option V)} (I : Inv X pins σ H s) (hl : σ'.length = σ.length) (w : ∀ (i : Nat) v, σ'[i]? = some (some v) → σ[i]? = some (some v)) : Inv X pins σ' H s :=
  ⟨I.ok, I.os, I.bare, I.base, let ⟨m, hn, hl'⟩ := I.loc; ⟨m, hn, fun i x v e1 e2 e3 => hl' i x v e1 (w i v e2) e3⟩, I.cell, I.free, I.freeC, I.pin, I.hok, hl.trans I.len⟩
theorem Inv.pins_of {pins' : List (Addr × Obj)} (I : Inv X pins σ H s) (h : ∀ p ∈ pins', s.heap.get? p.1 = some p.2 ∧ H p.1 = none ∧ p.1 ≠ X.env.locals ∧ p.1 ∉ X.fs ∧ ∀ v, p.2.data ≠ .cell v) : Inv X pins' σ H s :=
  ⟨I.ok, I.os, I.bare, I.base, I.loc, I.cell, I.free, I.freeC, fun p hp => (List.mem_append.mp hp).elim (fun z => I.pin p (List.mem_append_left _ z)) (h p), I.hok, I.len⟩

theorem nodup_ix {N : List Str} (hN : N.Nodup) {i j : Nat} {x : Str} (a : N[i]? = some x) (b : N[j]? = some x) : i = j := by
  obtain ⟨h1, e1⟩ := List.getElem?_eq_some_iff.mp a
  obtain ⟨h2, e2⟩ := List.getElem?_eq_some_iff.mp b
  exact (List.getElem_inj hN).mp (e1.trans e2.symm)

/-- a name is stored; what changed -/
theorem store_ok2 {M : Model} {A : Around} {E : Value → Shared → Prop} {i : Nat} {x : Str} {v : V} {u : Value} {Q : Unit → Shared → Prop} (I : Inv X pins σ H s) (hN : X.N.Nodup) (hi : X.N[i]? = some x) (hx : Loc X.env.scope x) (r : RelV v u)
    (h : ∀ s', Inv X pins (σ.set i (some v)) H s' → (∃ a, Heap.SameBut a s.heap s'.heap ∧ (a = X.env.locals ∨ X.env.cells.lookup x = some a)) → Q () s') (hf : X.fn x = true ∨ X.env.scope.names.lookup x = some .local := by first | exact .inl rfl | exact .inr rfl | assumption) : wpAny M A (storeName X.env x u) Q E s := by
  obtain ⟨m, hn, hl⟩ := id I.loc
  have hcls : (X.env.scope.kind == .class || (X.env.scope.kind == .module && X.env.locals != X.env.globals)) = false := by rw [I.ok.kind]; rfl
  have hiσ : i < σ.length := by rw [I.len]; exact (List.getElem?_eq_some_iff.mp hi).1
  have cne := I.cne
  have tracked : ∀ {a : Addr} {h' : Heap}, (∃ o, s.heap.get? a = some o ∧ H a = none) → Heap.SameBut a s.heap h' → HOk X.prog X.w H h' := fun {a h'} ha hs b ob e => by
    obtain ⟨_, _, hfree⟩ := ha
    refine (I.hok b ob e).stay (fun c w' hc q => (hs.2 c ?_).trans q) (fun _ q => q) fun _ _ q => q
    rintro rfl
    rcases hc with rfl | hc
    · rw [hfree] at e; cases e
    · rw [hfree] at hc; cases hc
  rcases hx with hk | hk
  · refine wpAny_storeName_local hk hn (fun h' hn' hs => ?_) hcls
    obtain ⟨oL, _, _, hoL, _⟩ := id hn
    refine h _ ⟨I.ok, I.os, I.bare, ⟨fun b o e n hb hx => ?_, fun b o e n hb hx => ?_, I.base.free, fun b o e hx => ?_, I.base.tups, I.base.frzs, I.base.tbls⟩, ⟨_, hn', fun j y v' e1 e2 e3 => ?_⟩, fun y c e => ?_, I.free, I.freeC, fun p hp => ?_, tracked ⟨oL, hoL, I.free⟩ hs, by simpa using I.len⟩ ⟨_, hs, .inl rfl⟩
    · exact (hs.2 b (Nat.ne_of_lt (Nat.lt_of_lt_of_le (Heap.lt_size e) I.ok.above))).trans (I.base.keep b o e n hb hx)
    · obtain ⟨sl, e1⟩ := I.base.slot b o e n hb hx
      exact ⟨sl, (hs.2 b (Nat.ne_of_lt (Nat.lt_of_lt_of_le (Heap.lt_size e) I.ok.above))).trans e1⟩
    · obtain ⟨o', e1⟩ := I.base.there b o e hx
      exact ⟨o', (hs.2 b (Nat.ne_of_lt (Nat.lt_of_lt_of_le (Heap.lt_size e) I.ok.above))).trans e1⟩
    · by_cases hj : j = i
      · subst hj
        rw [hi] at e1; cases e1
        rw [List.getElem?_set_self hiσ] at e2
        cases e2
        exact ⟨u, r, .inl ⟨hk, by simp⟩⟩
      · rw [List.getElem?_set_ne (Ne.symm hj)] at e2
        obtain ⟨u', r', q⟩ := hl j y v' e1 e2 e3
        refine ⟨u', r', ?_⟩
        rcases q with ⟨k, e⟩ | ⟨k, c, e, z⟩
        · refine .inl ⟨k, ?_⟩
          have : y ≠ x := fun e => hj (nodup_ix hN e1 (e ▸ hi))
          simp [this, e]
        · exact .inr ⟨k, c, e, z.sameBut hs (cne y c e)⟩
    · obtain ⟨w', z⟩ := I.cell y c e
      exact ⟨w', z.sameBut hs (cne y c e)⟩
    · obtain ⟨e, n, ne, nf, d⟩ := I.pin p hp
      exact ⟨(hs.2 p.1 ne).trans e, n, ne, nf, d⟩
  · have hfn : X.fn x = true := by
      rcases hf with z | z
      · exact z
      · rw [z] at hk; cases hk
    obtain ⟨c, hc⟩ := I.ok.has x (.inl hk)
    obtain ⟨w', z⟩ := I.cell x c hc
    refine wpAny_storeName_cell I.ok.kind hk hc z (fun h' hc' hs => ?_)
    obtain ⟨oc, hoc, hocd⟩ := id z
    refine h { s with heap := h' } ⟨I.ok, I.os, I.bare, ⟨fun b o e n hb hx => ?_, fun b o e n hb hx => ?_, I.base.free, fun b o e hx => ?_, I.base.tups, I.base.frzs, I.base.tbls⟩, ⟨m, hn.sameBut hs (Ne.symm (cne x c hc)), fun j y v' e1 e2 e3 => ?_⟩, fun y c' e => ?_, I.free, I.freeC, fun p hp => ?_, tracked ⟨oc, hoc, I.freeC x c hc⟩ hs, by simpa using I.len⟩ ⟨c, hs, .inr hc⟩
    · exact (hs.2 b (Nat.ne_of_lt (Nat.lt_of_lt_of_le (Heap.lt_size e) (I.ok.cab x c hfn hc)))).trans (I.base.keep b o e n hb hx)
    · obtain ⟨sl, e1⟩ := I.base.slot b o e n hb hx
      exact ⟨sl, (hs.2 b (Nat.ne_of_lt (Nat.lt_of_lt_of_le (Heap.lt_size e) (I.ok.cab x c hfn hc)))).trans e1⟩
    · obtain ⟨o', e1⟩ := I.base.there b o e hx
      exact ⟨o', (hs.2 b (Nat.ne_of_lt (Nat.lt_of_lt_of_le (Heap.lt_size e) (I.ok.cab x c hfn hc)))).trans e1⟩
    · by_cases hj : j = i
      · subst hj
        rw [hi] at e1; cases e1
        rw [List.getElem?_set_self hiσ] at e2
        cases e2
        exact ⟨u, r, .inr ⟨.inl hk, c, hc, hc'⟩⟩
      · rw [List.getElem?_set_ne (Ne.symm hj)] at e2
        obtain ⟨u', r', q⟩ := hl j y v' e1 e2 e3
        refine ⟨u', r', ?_⟩
        rcases q with q | ⟨k, c', e, z'⟩
        · exact .inl q
        · refine .inr ⟨k, c', e, z'.sameBut hs ?_⟩
          rintro rfl
          exact hj (nodup_ix hN e1 (I.ok.inj _ _ _ e hc ▸ hi))
    · by_cases hcc : c' = c
      · subst hcc; exact ⟨_, hc'⟩
      · obtain ⟨w2, z2⟩ := I.cell y c' e
        exact ⟨w2, z2.sameBut hs hcc⟩
    · obtain ⟨e, n, ne, nf, d⟩ := I.pin p hp
      refine ⟨(hs.2 p.1 ?_).trans e, n, ne, nf, d⟩
      intro q
      rw [q, hoc] at e
      have q' : oc = p.2 := Option.some.inj e
      exact d w' (by rw [← q']; exact hocd)
theorem store_ok {M : Model} {A : Around} {E : Value → Shared → Prop} {i : Nat} {x : Str} {v : V} {u : Value} {Q : Unit → Shared → Prop} (I : Inv X pins σ H s) (hN : X.N.Nodup) (hi : X.N[i]? = some x) (hx : Loc X.env.scope x) (r : RelV v u)
    (h : ∀ s', Inv X pins (σ.set i (some v)) H s' → Q () s') (hf : X.fn x = true ∨ X.env.scope.names.lookup x = some .local := by first | exact .inl rfl | exact .inr rfl | assumption) : wpAny M A (storeName X.env x u) Q E s :=
  store_ok2 I hN hi hx r (fun s' I' _ => h s' I') hf
/-- behind a call or a block, the state as it is -/
theorem Inv.call' {s' : Shared} {ch : List Addr} (I : Inv X pins σ H s) (ho : s'.os = s.os) (u : Un (frs X.stack) ch H H' s.heap s'.heap) (hok : HOk X.prog X.w H' s'.heap) (hg : AllBare s'.gens)
    (hch : ∀ b ∈ ch, (b ∈ X.ex ∨ X.s_0.heap.objs.size ≤ b) ∧ b ≠ X.env.locals ∧ (∀ x c, X.env.cells.lookup x = some c → c ≠ b) ∧ ∀ p ∈ X.pn ++ pins, p.1 ≠ b) : Inv X pins σ H' s' := by
  obtain ⟨h', g', d', t', o'⟩ := s'
  have e : o' = s.os := ho
  subst e
  exact I.call (g' := g') (t' := t') (d' := d') u hok hg hch
end

/-! ### the judgements -/
/-- an exception: its class, its own dict's address (where it has one), the abstract heap behind it -/
abbrev XK := Value → Option Addr → Hp → Prop
abbrev St := List (Option V)
abbrev VK := V → Hp → Prop
/-- an expression's reading; a test's; an argument list's -/
abbrev TE := St → Hp → VK → Prop
abbrev TT := St → Hp → (Bool → Hp → Prop) → Prop
abbrev TA := St → Hp → (List V → Hp → Prop) → Prop
/-- what is wanted behind a statement -/
structure Ends where
  nx : St → Hp → Prop
  rt : VK
  bk : St → Hp → Prop := fun _ _ => False
  ct : St → Hp → Prop := fun _ _ => False
abbrev TS := Ends → St → Hp → Prop

def EP (X : Cx) (pins : List (Addr × Obj)) (σ : St) (Q : VK) (u : Value) (s' : Shared) : Prop := ∃ v H', Inv X pins σ H' s' ∧ RelV v u ∧ Q v H'
def TP (X : Cx) (pins : List (Addr × Obj)) (σ : St) (Q : Bool → Hp → Prop) (b : Bool) (s' : Shared) : Prop := ∃ H', Inv X pins σ H' s' ∧ Q b H'
def AP (X : Cx) (pins : List (Addr × Obj)) (σ : St) (Q : List V → Hp → Prop) (us : List Value) (s' : Shared) : Prop := ∃ vs H', Inv X pins σ H' s' ∧ Vals vs us ∧ Q vs H'
def SP (X : Cx) (pins : List (Addr × Obj)) (D : Ends) (f : Flow) (s' : Shared) : Prop :=
  match f with
  | .next => ∃ σ' H', Inv X pins σ' H' s' ∧ D.nx σ' H'
  | .brk => ∃ σ' H', Inv X pins σ' H' s' ∧ D.bk σ' H'
  | .cont => ∃ σ' H', Inv X pins σ' H' s' ∧ D.ct σ' H'
  | .ret u => ∃ v σ' H', Inv X pins σ' H' s' ∧ RelV v u ∧ D.rt v H'

def PE (X : Cx) (e : Expr) (t : TE) : Prop :=
  ∀ (pins : List (Addr × Obj)) (s : Shared) (σ : St) (H : Hp) (Q : VK), Inv X pins σ H s → t σ H Q → wpAny (model X.prog X.w) X.A (eval e X.env) (EP X pins σ Q) X.xe s
def PT (X : Cx) (e : Expr) (t : TT) : Prop :=
  ∀ (pins : List (Addr × Obj)) (s : Shared) (σ : St) (H : Hp) (Q : Bool → Hp → Prop), Inv X pins σ H s → t σ H Q → wpAny (model X.prog X.w) X.A (isTrue e X.env (eval e X.env)) (TP X pins σ Q) X.xe s
/-- a test whatever its 'whole' is (and, or) -/
def PW (X : Cx) (e : Expr) (t : TT) : Prop :=
  ∀ (whole : Sem Value) (pins : List (Addr × Obj)) (s : Shared) (σ : St) (H : Hp) (Q : Bool → Hp → Prop), Inv X pins σ H s → t σ H Q → wpAny (model X.prog X.w) X.A (isTrue e X.env whole) (TP X pins σ Q) X.xe s
theorem PW.pt {X : Cx} {e : Expr} {t : TT} (h : PW X e t) : PT X e t := h _
/-- an argument list (no star), from the left -/
def PA (X : Cx) (es : List Expr) (t : TA) : Prop :=
  ∀ (pos : Pos) (pins : List (Addr × Obj)) (s : Shared) (σ : St) (H : Hp) (Q : List V → Hp → Prop), Inv X pins σ H s → t σ H Q → wpAny (model X.prog X.w) X.A (spliced (backTo pos (starEach es X.env))) (AP X pins σ Q) X.xe s
def PS (X : Cx) (st : Stmt) (t : TS) : Prop :=
  ∀ (pins : List (Addr × Obj)) (s : Shared) (σ : St) (H : Hp) (D : Ends), Inv X pins σ H s → t D σ H → wpAny (model X.prog X.w) X.A (exec st X.env) (SP X pins D) X.xe s
def PSs (X : Cx) (st : List Stmt) (t : TS) : Prop :=
  ∀ (pins : List (Addr × Obj)) (s : Shared) (σ : St) (H : Hp) (D : Ends), Inv X pins σ H s → t D σ H → wpAny (model X.prog X.w) X.A (execs st X.env) (SP X pins D) X.xe s
/-- weaken the end -/
theorem thn {α : Type} {t : Sem α} {Q Q' : α → Shared → Prop} {M : Model} {A : Around} {E : Value → Shared → Prop} {s : Shared} (h : wpAny M A t Q E s) (hQ : ∀ a s, Q a s → Q' a s) : wpAny M A t Q' E s := wpAny_mono h hQ fun _ _ x => x
end L2

namespace L2
open PySem PySem.Spec PyProof.Rows
section
variable {X : Cx}

/-! ### names and constants -/
def tVar (i : Nat) : TE := fun σ H Q => ∃ v, σ[i]? = some (some v) ∧ Q v H
def tC (v : V) : TE := fun _ H Q => Q v H
theorem pe_var {i : Nat} {x : Str} {pos : Pos} (hN : X.N[i]? = some x) (hv : Vis X.env.scope x) (hd : (x == ("__debug__" : Str)) = false := by decide) (hcd : (x == ("__classdict__" : Str)) = false := by decide) : PE X (.Name x pos) (tVar i) := by
  intro pins s σ H Q I h
  obtain ⟨v, e, h⟩ := h
  obtain ⟨m, hn, hl⟩ := I.loc
  obtain ⟨u, r, l⟩ := hl i x v hN e hv
  have fin : EP X pins σ Q u s := ⟨v, H, I, r, h⟩
  rcases l with ⟨hk, hm⟩ | ⟨hk, c, hc, hcell⟩
  · exact wpAny_Name (wpAny_loadName_local I.ok.kind hk hn hm fin) hd
  · rcases hk with hk | hk
    · exact wpAny_Name (wpAny_loadName_cell I.ok.kind hk hc hcell fin) hd
    · exact wpAny_Name (wpAny_loadName_free I.ok.kind hk hc hcell fin hcd) hd
theorem pe_int {i j pos} : PE X (.Constant (.int i) j pos) (tC (.int i)) := fun _ _ _ H _ I h => wpAny_Constant_int ⟨.int i, H, I.tok _, ⟨_, rfl⟩, h⟩
theorem pe_bl {b j pos} : PE X (.Constant (.bool b) j pos) (tC (.bl b)) := fun _ _ _ H _ I h => Constant_bool ⟨.bl b, H, I, rfl, h⟩
theorem pe_str {x j pos} : PE X (.Constant (.str x) j pos) (tC (.str x)) := fun _ _ _ H _ I h => Calls.Constant_str ⟨.str x, H, I.tok _, ⟨_, rfl⟩, h⟩

/-- a global name of the def -/
def Gl (X : Cx) (x : Str) : Prop := X.env.kindOf x = some .globalImplicit
theorem ld_glob {E : Value → Shared → Prop} {pins : List (Addr × Obj)} {s : Shared} {σ : St} {H : Hp} {x : Str} {u : Value} {pos : Pos} {Q : Value → Shared → Prop} (I : Inv X pins σ H s) (hg : Gl X x) (hm : X.mg x = some u) (h : Q u s)
    (hd : (x == ("__debug__" : Str)) = false := by decide) : wpAny (model X.prog X.w) X.A (eval (.Name x pos) X.env) Q E s :=
  Calls.Name_function_global I.ok.kind hg (Calls.loadGlobal_global (by rw [I.ok.glob]; exact I.mod.glob.keeps I.bk) hm h) hd
theorem ld_blt {E : Value → Shared → Prop} {pins : List (Addr × Obj)} {s : Shared} {σ : St} {H : Hp} {x : Str} {u : Value} {pos : Pos} {Q : Value → Shared → Prop} (I : Inv X pins σ H s) (hg : Gl X x) (hm : X.mg x = none) (hv : bootBuiltins x = some u) (h : Q u s)
    (hn : x ≠ "__name__" := by decide) (hd : (x == ("__debug__" : Str)) = false := by decide) : wpAny (model X.prog X.w) X.A (eval (.Name x pos) X.env) Q E s := by
  obtain ⟨mb, h1, h2⟩ := I.mod.blt
  exact Calls.Name_function_global I.ok.kind hg (Calls.loadGlobal_builtin (by rw [I.ok.glob]; exact I.mod.glob.keeps I.bk) hm (by rw [I.ok.blt]; exact h1.keeps I.bk) ((h2 x hn).trans hv) h) hd
/-- a module's constant, a class, a function, as a value -/
theorem pe_glob {x : Str} {v : V} {u : Value} {pos : Pos} (hg : Gl X x) (hm : X.mg x = some u) (r : RelV v u) (hd : (x == ("__debug__" : Str)) = false := by decide) : PE X (.Name x pos) (tC v) :=
  fun _ _ _ H _ I h => ld_glob I hg hm ⟨v, H, I, r, h⟩ hd
theorem pe_bltn {x : Str} {v : V} {u : Value} {pos : Pos} (hg : Gl X x) (hm : X.mg x = none) (hv : bootBuiltins x = some u) (r : RelV v u) (hn : x ≠ "__name__" := by decide) (hd : (x == ("__debug__" : Str)) = false := by decide) : PE X (.Name x pos) (tC v) :=
  fun _ _ _ H _ I h => ld_blt I hg hm hv ⟨v, H, I, r, h⟩ hn hd

/-! ### arithmetic -/
variable {a b : Expr} {ta tb : TE} {pos : Pos}
/-! ### comparisons -/
theorem nobehind (b : Expr) {op : CmpOp} (h : op ≠ .In) (h2 : op ≠ .NotIn) : behindInMarks op b = false := by
  have e1 : (op == CmpOp.In) = false := by cases op <;> first | rfl | exact absurd rfl h
  have e2 : (op == CmpOp.NotIn) = false := by cases op <;> first | rfl | exact absurd rfl h2
  cases b <;> simp [behindInMarks, e1, e2]
/-! ### and, or, not -/
variable {tA tB' : TT} {rest : List Expr}
def tOr (t u : TT) : TT := fun σ H Q => t σ H fun c H1 => if c = true then Q true H1 else u σ H1 Q
def tNot (t : TT) : TT := fun σ H Q => t σ H fun c H1 => Q (!c) H1
theorem pw_or1 (ha : PT X a tA) : PW X (.BoolOp .Or [a] pos) tA := by
  intro wh pins s σ H Q I h
  refine isTrue_or (thn (ha pins s σ H Q I h) fun c s1 e => ?_)
  cases c with
  | false => exact isTrue_or_nil e
  | true => exact e
theorem pw_or (ha : PT X a tA) (hb : PW X (.BoolOp .Or (b :: rest) pos) tB') : PW X (.BoolOp .Or (a :: b :: rest) pos) (tOr tA tB') := by
  intro wh pins s σ H Q I h
  refine isTrue_or (thn (ha pins s σ H _ I h) fun c s1 ⟨H1, I1, q1⟩ => ?_)
  cases c with
  | true => exact ⟨H1, I1, q1⟩
  | false => exact hb wh pins s1 σ H1 Q I1 q1
theorem pt_not (ha : PT X a tA) : PT X (.UnaryOp .Not a pos) (tNot tA) := by
  intro pins s σ H Q I h
  exact isTrue_not (ha pins s σ H (fun c H1 => Q (!c) H1) I h)
/-- a if t else b -/
def tIf (t : TT) (ta tb : TE) : TE := fun σ H Q => t σ H fun c H1 => if c = true then ta σ H1 Q else tb σ H1 Q
theorem pe_ifExp {c : Expr} (hc : PT X c tA) (ha : PE X a ta) (hb : PE X b tb) : PE X (.IfExp c a b pos) (tIf tA ta tb) := by
  intro pins s σ H Q I h
  refine wpAny_IfExp (thn (hc pins s σ H _ I h) fun d s1 ⟨H1, I1, q1⟩ => ?_)
  cases d with
  | true => exact ha pins s1 σ H1 Q I1 q1
  | false => exact hb pins s1 σ H1 Q I1 q1
end
end L2

namespace L2
open PySem PySem.Spec PyProof.Rows

/-! ### a list, a tuple that is read: tracked, frozen, or an object of the module -/
def SqL (K : PySem.W.Frag) (H : Hp) (a : Addr) (xs : List V) : Prop :=
  Rd H a (.lst xs) ∨
    ∃ (o : Obj) (its : Array Value) (n : Nat), K.lookup a = some o ∧ o.cls = .type "list" ∧ o.dict = none ∧ o.data = .seq its n ∧ its.size ≤ sizeLine ∧ Vals xs its.toList
def SqT (K : PySem.W.Frag) (H : Hp) (a : Addr) (xs : List V) : Prop :=
  Rd H a (.tup xs) ∨
    ∃ (o : Obj) (its : Array Value) (n : Nat), K.lookup a = some o ∧ o.cls = .type "tuple" ∧ o.dict = none ∧ o.data = .seq its n ∧ its.size ≤ sizeLine ∧ Vals xs its.toList
def absV : Value → Option V
  | .none => some .non
  | .bool b => some (.bl b)
  | .int i _ => some (.int i)
  | .str x _ => some (.str x)
  | .bytes b _ => some (.byt b)
  | .float b _ => some (.flt b)
  | .ref a => some (.ref a)
  | .type n => some (.ty n)
  | _ => none
theorem RelV.abs {x : V} {u : Value} (r : RelV x u) : absV u = some x := by
  cases x with
  | non => cases r; rfl
  | bl _ => cases r; rfl
  | int _ => obtain ⟨t, rfl⟩ := r; rfl
  | str _ => obtain ⟨t, rfl⟩ := r; rfl
  | byt _ => obtain ⟨t, rfl⟩ := r; rfl
  | flt _ => obtain ⟨t, rfl⟩ := r; rfl
  | ref _ => cases r; rfl
  | ty _ => cases r; rfl
theorem RelV.inj {x y : V} {u : Value} (r : RelV x u) (q : RelV y u) : x = y := Option.some.inj (r.abs.symm.trans q.abs)
theorem Vals.inj : ∀ {xs ys : List V} {us : List Value}, Vals xs us → Vals ys us → xs = ys
  | _, _, _, .nil, .nil => rfl
  | _, _, _, .cons r t, .cons r' t' => by rw [r.inj r', Vals.inj t t']
section
variable {X : Cx} {pins : List (Addr × Obj)} {σ : St} {H : Hp} {s : Shared} {a : Addr} {xs ys : List V}
theorem SqL.of {K : PySem.W.Frag} (h : H a = some (.lst xs)) : SqL K H a xs := .inl (.inl h)
theorem SqT.of {K : PySem.W.Frag} (h : H a = some (.tup xs)) : SqT K H a xs := .inl (.inl h)
theorem Inv.list (I : Inv X pins σ H s) (h : SqL X.K H a xs) : ∃ its : List Value, Vals xs its ∧ PlainL s.heap a its.toArray ∧ xs.length ≤ sizeLine := by
  rcases h with h | ⟨o, its, n, hk, hc, hd, hs, hz, r⟩
  · obtain ⟨z, its, n, r, e⟩ := h.ok I.hok
    exact ⟨its, r, ⟨_, n, e, rfl, rfl, rfl⟩, z⟩
  · refine ⟨its.toList, r, ⟨o, n, I.kIn a o hk, hc, hd, by simpa using hs⟩, ?_⟩
    have e := r.length
    simp only [Array.length_toList] at e
    omega
theorem Inv.tupleP (I : Inv X pins σ H s) (h : SqT X.K H a xs) : ∃ its : List Value, Vals xs its ∧ PlainT s.heap a its.toArray ∧ xs.length ≤ sizeLine := by
  rcases h with h | ⟨o, its, n, hk, hc, hdd, hs, hz, r⟩
  · obtain ⟨z, its, r, p⟩ := h.ok I.hok
    exact ⟨its, r, p, z⟩
  · refine ⟨its.toList, r, ⟨o, I.kIn a o hk, hc, hdd, n, by simpa using hs⟩, ?_⟩
    have e := r.length
    simp only [Array.length_toList] at e
    omega
theorem Inv.tuple (I : Inv X pins σ H s) (h : SqT X.K H a xs) : ∃ its : List Value, Vals xs its ∧ IsTup s.heap a its.toArray ∧ xs.length ≤ sizeLine :=
  let ⟨its, r, p, z⟩ := I.tupleP h
  ⟨its, r, p.tup, z⟩
theorem Inv.list_inj (I : Inv X pins σ H s) (h : SqL X.K H a xs) (h' : SqL X.K H a ys) : xs = ys := by
  obtain ⟨its, r, ⟨o, n, e, _, _, d⟩, _⟩ := I.list h
  obtain ⟨its', r', ⟨o', n', e', _, _, d'⟩, _⟩ := I.list h'
  rw [e] at e'; cases e'
  rw [d] at d'
  injection d' with d1 _
  have : its = its' := by simpa using congrArg Array.toList d1
  subst this
  exact r.inj r'
theorem Inv.tuple_inj (I : Inv X pins σ H s) (h : SqT X.K H a xs) (h' : SqT X.K H a ys) : xs = ys := by
  obtain ⟨its, r, ⟨o, e, _, n, d⟩, _⟩ := I.tuple h
  obtain ⟨its', r', ⟨o', e', _, n', d'⟩, _⟩ := I.tuple h'
  rw [e] at e'; cases e'
  rw [d] at d'
  injection d' with d1 _
  have : its = its' := by simpa using congrArg Array.toList d1
  subst this
  exact r.inj r'
end

/-! ### another wish about exceptions -/
abbrev Cx.wish (X : Cx) (E : Value → Shared → Prop) : Cx := { X with xe := E }
/-- no exception leaves -/
abbrev Cx.nox (X : Cx) : Cx := X.wish fun _ _ => False
theorem Cx.Ok.wish {X : Cx} (ok : X.Ok) (E : Value → Shared → Prop) : (X.wish E).Ok :=
  ⟨ok.mod, ok.kind, ok.glob, ok.blt, ok.above, ok.inj, ok.has, ok.cab, ok.hd, ok.frames, ok.stk, ok.exf, ok.bs, ok.bsz, ok.noex, ok.exfs, ok.funs, ok.frf⟩
theorem Cx.Ok.unwish {X : Cx} {E : Value → Shared → Prop} (ok : (X.wish E).Ok) : X.Ok :=
  ⟨ok.mod, ok.kind, ok.glob, ok.blt, ok.above, ok.inj, ok.has, ok.cab, ok.hd, ok.frames, ok.stk, ok.exf, ok.bs, ok.bsz, ok.noex, ok.exfs, ok.funs, ok.frf⟩
section
variable {X : Cx} {pins : List (Addr × Obj)} {σ : St} {H : Hp} {s : Shared} {E : Value → Shared → Prop}
theorem Inv.wish (I : Inv X pins σ H s) (E : Value → Shared → Prop) : Inv (X.wish E) pins σ H s := ⟨I.ok.wish E, I.os, I.bare, I.base, I.loc, I.cell, I.free, I.freeC, I.pin, I.hok, I.len⟩
theorem Inv.unwish (I : Inv (X.wish E) pins σ H s) : Inv X pins σ H s := ⟨I.ok.unwish, I.os, I.bare, I.base, I.loc, I.cell, I.free, I.freeC, I.pin, I.hok, I.len⟩
theorem SP.unwish {D : Ends} {f : Flow} {s' : Shared} (h : SP (X.wish E) pins D f s') : SP X pins D f s' := by
  cases f with
  | next => obtain ⟨σ', H', I, q⟩ := h; exact ⟨σ', H', I.unwish, q⟩
  | brk => obtain ⟨σ', H', I, q⟩ := h; exact ⟨σ', H', I.unwish, q⟩
  | cont => obtain ⟨σ', H', I, q⟩ := h; exact ⟨σ', H', I.unwish, q⟩
  | ret u => obtain ⟨v, σ', H', I, r, q⟩ := h; exact ⟨v, σ', H', I.unwish, r, q⟩
theorem PE.nox {e : Expr} {t : TE} (h : PE X.nox e t) : PE X e t := fun pins s σ H Q I hw =>
  wpAny_mono (h pins s σ H Q (I.wish _) hw) (fun _ _ ⟨v, H', I', r, q⟩ => ⟨v, H', I'.unwish, r, q⟩) fun _ _ z => False.elim z
theorem PT.nox {e : Expr} {t : TT} (h : PT X.nox e t) : PT X e t := fun pins s σ H Q I hw =>
  wpAny_mono (h pins s σ H Q (I.wish _) hw) (fun _ _ ⟨H', I', q⟩ => ⟨H', I'.unwish, q⟩) fun _ _ z => False.elim z
theorem PSs.nox {st : List Stmt} {t : TS} (h : PSs X.nox st t) : PSs X st t := fun pins s σ H D I hw =>
  wpAny_mono (h pins s σ H D (I.wish _) hw) (fun _ _ q => q.unwish) fun _ _ z => False.elim z
end

/-! ### blocks and small statements -/
section
variable {X : Cx} {st : Stmt} {rest : List Stmt} {t u : TS} {e : Expr} {te : TE} {pos : Pos}
def tNext : TS := fun D σ H => D.nx σ H
def tSeq (t u : TS) : TS := fun D σ H => t { D with nx := u D } σ H
theorem pss_nil : PSs X [] tNext := fun _ _ σ H _ I h => wpAny_execs_nil ⟨σ, H, I, h⟩
theorem pss_cons (h1 : PS X st t) (h2 : PSs X rest u) : PSs X (st :: rest) (tSeq t u) := by
  intro pins s σ H D I h
  refine wpAny_execs_cons (thn (h1 pins s σ H { D with nx := u D } I h) fun f s1 q => ?_)
  cases f with
  | next =>
    obtain ⟨σ', H', I', q⟩ := q
    exact h2 pins s1 σ' H' D I' q
  | ret v => exact q
  | brk => exact q
  | cont => exact q
theorem pss_one (h1 : PS X st t) : PSs X [st] t := by
  intro pins s σ H D I h
  refine wpAny_execs_cons (thn (h1 pins s σ H D I h) fun f s1 q => ?_)
  cases f with
  | next => exact wpAny_execs_nil q
  | ret v => exact q
  | brk => exact q
  | cont => exact q
/-- in a def's body nothing is shown -/
theorem Inv.quiet {pins : List (Addr × Obj)} {σ : St} {H : Hp} {s : Shared} (I : Inv X pins σ H s) : interactive X.env = false := by simp [interactive, I.ok.kind]
def tRet (te : TE) : TS := fun D σ H => te σ H D.rt
theorem ps_ret (he : PE X e te) : PS X (.Return (some e) pos) (tRet te) := by
  intro pins s σ H D I h
  exact wpAny_Return_some (thn (he pins s σ H _ I h) fun v s1 ⟨x, H1, I1, r1, q1⟩ => ⟨x, σ, H1, I1, r1, q1⟩)
def tIfS (c : TT) (t u : TS) : TS := fun D σ H => c σ H fun b H1 => if b = true then t D σ H1 else u D σ H1
theorem ps_if {c : Expr} {a b : List Stmt} {tc : TT} (hc : PT X c tc) (ha : PSs X a t) (hb : PSs X b u) : PS X (.If c a b pos) (tIfS tc t u) := by
  intro pins s σ H D I h
  refine wpAny_If (thn (hc pins s σ H _ I h) fun d s1 ⟨H1, I1, q1⟩ => ?_)
  cases d with
  | true => exact ha pins s1 σ H1 D I1 q1
  | false => exact hb pins s1 σ H1 D I1 q1
end

/-! ### targets -/
abbrev TG := V → St → Hp → (St → Hp → Prop) → Prop
abbrev TGs := List V → St → Hp → (St → Hp → Prop) → Prop
def PG (X : Cx) (target : Expr) (t : TG) : Prop :=
  ∀ (pins : List (Addr × Obj)) (s : Shared) (σ : St) (H : Hp) (v : V) (u : Value) (Q : St → Hp → Prop), Inv X pins σ H s → RelV v u → t v σ H Q →
    wpAny (model X.prog X.w) X.A (assign target X.env u) (fun _ s' => ∃ σ' H', Inv X pins σ' H' s' ∧ Q σ' H') X.xe s
/-- several targets, one after another -/
def PGs (X : Cx) (ts : List Expr) (t : TGs) : Prop :=
  ∀ (pins : List (Addr × Obj)) (s : Shared) (σ : St) (H : Hp) (vs : List V) (us : List Value) (Q : St → Hp → Prop), Inv X pins σ H s → Vals vs us → t vs σ H Q →
    wpAny (model X.prog X.w) X.A (assignInOrder ((assignEach ts X.env).map (·.2)) us) (fun _ s' => ∃ σ' H', Inv X pins σ' H' s' ∧ Q σ' H') X.xe s
section
variable {X : Cx} {pos : Pos}
def gName (i : Nat) : TG := fun v σ H Q => Q (σ.set i (some v)) H
theorem pg_name {i : Nat} {x : Str} (hN : X.N.Nodup) (hi : X.N[i]? = some x) (hx : Loc X.env.scope x) (hf : X.fn x = true ∨ X.env.scope.names.lookup x = some .local := by first | exact .inl rfl | exact .inr rfl | assumption) : PG X (.Name x pos) (gName i) := by
  intro pins s σ H v u Q I r h
  exact wpAny_assign_Name (store_ok I hN hi hx r (fun s' I' => ⟨_, H, I', h⟩) hf)
/-- target = value -/
def tAsg (te : TE) (g : TG) : TS := fun D σ H => te σ H fun x H1 => g x σ H1 D.nx
/-- name = value -/
theorem ps_set {i : Nat} {x : Str} {e : Expr} {te : TE} {pos' : Pos} (hN : X.N.Nodup) (hi : X.N[i]? = some x) (hx : Loc X.env.scope x) (he : PE X e te) (hs : swapsWith e (some (.Name x pos')) pos.line X.env = pure false := by rfl) (hf : X.fn x = true ∨ X.env.scope.names.lookup x = some .local := by first | exact .inl rfl | exact .inr rfl | assumption) :
    PS X (.Assign [.Name x pos'] e pos) (tAsg te (gName i)) := by
  intro pins s σ H D I h
  refine wpAny_Assign_Name (thn (he pins s σ H _ I h) fun v s1 ⟨y, H1, I1, r1, q1⟩ => ?_) hs
  exact store_ok I1 hN hi hx r1 (fun s2 I2 => ⟨_, H1, I2, q1⟩) hf
end

/-! ### while -/
section
variable {X : Cx} {pos : Pos}
end

/-! ### what a loop or a comprehension walks -/
/-- at turn i: it yields x (the heap may grow), or it stops -/
structure It where
  go : Nat → Hp → Prop
  yld : Nat → Hp → V → Hp → Prop
  stop : Nat → Hp → Prop
/-- the iterator's own objects may turn: they are not the frame's, not pinned, younger than the entry (or a comprehension's own) -/
def FpOk (X : Cx) (pins : List (Addr × Obj)) (H : Hp) (b : Addr) : Prop :=
  H b = none ∧ b ≠ X.env.locals ∧ b ∉ X.fs ∧ (b ∈ X.ex ∨ X.s_0.heap.objs.size ≤ b) ∧ (∀ x c, X.env.cells.lookup x = some c → c ≠ b) ∧ ∀ p ∈ X.pn ++ pins, p.1 ≠ b
theorem Inv.fpOk {X : Cx} {pins : List (Addr × Obj)} {σ : St} {H H' : Hp} {s : Shared} {b : Addr} (I : Inv X pins σ H s) (hb : s.heap.objs.size ≤ b) (hn : H' b = none) : FpOk X pins H' b := by
  refine ⟨hn, Nat.ne_of_gt (Nat.lt_of_lt_of_le I.lt hb), I.nofs hb, .inr (Nat.le_trans I.sz hb), fun x c e z => ?_, fun p hp z => ?_⟩
  · obtain ⟨v, q⟩ := I.cell x c e
    exact absurd (Nat.lt_of_lt_of_le q.lt (by rw [z]; exact hb)) (Nat.lt_irrefl _)
  · exact absurd (Nat.lt_of_lt_of_le (Heap.lt_size (I.pin p hp).1) (by rw [z]; exact hb)) (Nat.lt_irrefl _)
structure Turn (P : Program) (w : World) (K : PySem.W.Frag) (tg : Expr) (J : It) (fp : List Addr) (it : Addr) (tn : Nat → Heap → Prop) : Prop where
  mem : it ∈ fp
  obj : ∀ i h, tn i h → ∀ b ∈ fp, ∃ o, h.get? b = some o ∧ ∀ v, o.data ≠ .cell v
  keep : ∀ i h h', tn i h → (∀ b ∈ fp, ∀ o, h.get? b = some o → h'.get? b = some o) → tn i h'
  item : ∀ (X : Cx), X.prog = P → X.w = w → X.K = K → X.calm = true → ∀ (i : Nat) (pins : List (Addr × Obj)) (s : Shared) (σ : St) (H : Hp) (E : Value → Shared → Prop), Inv X pins σ H s → (∀ b ∈ fp, FpOk X pins H b) → tn i s.heap → J.go i H →
    wpAny (model P w) X.A (pyNext (.ref it)) (fun r s1 => ∃ u, r = some u ∧
      wpAny (model P w) X.A (letOwnedTupleGo tg (.ref it) u) (fun _ s2 => ∃ x H', Inv X pins σ H' s2 ∧ RelV x u ∧ J.yld i H x H' ∧ tn (i + 1) s2.heap ∧ ∀ b ∈ fp, H' b = none) E s1) E s
  done : ∀ (X : Cx), X.prog = P → X.w = w → X.K = K → X.calm = true → ∀ (i : Nat) (pins : List (Addr × Obj)) (s : Shared) (σ : St) (H : Hp) (E : Value → Shared → Prop), Inv X pins σ H s → (∀ b ∈ fp, FpOk X pins H b) → tn i s.heap → J.stop i H →
    wpAny (model P w) X.A (pyNext (.ref it)) (fun r s1 => r = none ∧ Inv X pins σ H s1) E s
  self : ∀ (A : Around) (i : Nat) (s : Shared) (Q : Value → Shared → Prop) (E : Value → Shared → Prop), tn i s.heap → Q (.ref it) s → wpAny (model P w) A (pyIter (.ref it)) Q E s
abbrev TI := St → Hp → (It → Hp → Prop) → Prop
/-- an iterator has come -/
def PIE (X : Cx) (pins : List (Addr × Obj)) (σ : St) (tg : Expr) (R : It → Hp → Prop) (itv : Value) (s2 : Shared) : Prop :=
  ∃ (it : Addr) (fp : List Addr) (tn : Nat → Heap → Prop) (J : It) (H' : Hp), itv = .ref it ∧ Inv X pins σ H' s2 ∧ Turn X.prog X.w X.K tg J fp it tn ∧ tn 0 s2.heap ∧ (∀ b ∈ fp, FpOk X pins H' b) ∧ R J H'
def PI (X : Cx) (tg iter : Expr) (wi : TI) : Prop :=
  ∀ (pins : List (Addr × Obj)) (s : Shared) (σ : St) (H : Hp) (R : It → Hp → Prop), Inv X pins σ H s → wi σ H R →
    wpAny (model X.prog X.w) X.A (eval iter X.env) (fun v s1 => wpAny (model X.prog X.w) X.A (pyIter v) (PIE X pins σ tg R) X.xe s1) X.xe s

/-- the step ahead of the store is nothing for an iterator that keeps no tuple -/
theorem go_of {M : Model} {A : Around} {E : Value → Shared → Prop} {s : Shared} {tg : Expr} {it : Addr} {u : Value} {o : Obj} {n : String} {vs : Array Value} {Q : Unit → Shared → Prop} (ho : s.heap.get? it = some o) (hc : o.cls = .type n) (hd : o.data = .fields vs)
    (hn : ["enumerate", "zip", "dict_itemiterator", "dict_reverseitemiterator", "odict_iterator", "itertools.zip_longest", "itertools.pairwise"].contains n = false) (hQ : Q () s) : wpAny M A (letOwnedTupleGo tg (.ref it) u) Q E s := by
  unfold letOwnedTupleGo
  cases tg <;> first
    | exact wpAny_pure hQ
    | (cases u <;> first
        | exact wpAny_pure hQ
        | (refine wpAny_bind (wpAny_load ho ?_)
           rw [hc, hd]
           show wpAny M A (if (["enumerate", "zip", "dict_itemiterator", "dict_reverseitemiterator", "odict_iterator", "itertools.zip_longest", "itertools.pairwise"].contains n && vs[0]? == some (rawInt _)) = true then _ else _) Q E s
           rw [if_neg (by intro h; rw [hn, Bool.false_and] at h; cases h)]
           exact wpAny_pure hQ))

/-- the list at a, as it stands at each turn (a loop may append to it) -/
def Itl (K : PySem.W.Frag) (a : Addr) : It :=
  ⟨fun i H => ∃ xs x, SqL K H a xs ∧ xs[i]? = some x, fun i H x H' => H' = H ∧ ∀ xs, SqL K H a xs → xs[i]? = some x, fun i H => ∃ xs, SqL K H a xs ∧ xs.length ≤ i⟩
def Itt (K : PySem.W.Frag) (a : Addr) : It :=
  ⟨fun i H => ∃ xs x, SqT K H a xs ∧ xs[i]? = some x, fun i H x H' => H' = H ∧ ∀ xs, SqT K H a xs → xs[i]? = some x, fun i H => ∃ xs, SqT K H a xs ∧ xs.length ≤ i⟩
/-- lo, lo + 1, .. (n of them) -/
def Itr (lo : Int) (n : Nat) : It := ⟨fun i _ => i < n, fun i H x H' => H' = H ∧ x = .int (lo + i), fun i _ => n ≤ i⟩
theorem turn_list {P : Program} {w : World} {K : PySem.W.Frag} {tg : Expr} (a it : Addr) : Turn P w K tg (Itl K a) [it] it (fun i h => h.IsListIter it a i) where
  mem := by simp
  obj := fun i h st b hb => by
    have e : b = it := by simpa using hb
    subst e
    obtain ⟨o, e, c, d⟩ := st
    exact ⟨o, e, fun v z => by rw [d] at z; cases z⟩
  keep := fun i h h' st k => st.at fun o e => k it (by simp) o e
  item := by
    intro X hP hw hK hc i pins s σ H E I hf st hg
    subst hP hw hK
    obtain ⟨xs, x, hq, hx⟩ := hg
    obtain ⟨its, rv, p, hz⟩ := I.list hq
    obtain ⟨u, hu, ru⟩ := rv.get hx
    obtain ⟨f0, f1, f2, f3, f4, f5⟩ := hf it (by simp)
    refine wpAny_pyNext_list_item st p.isList (x := u) (by simpa using hu) fun h' st' sb => ?_
    have I1 : Inv X pins σ H { s with heap := h' } := I.turned (t' := s.toks) (fun b o hb e => (sb.2 b hb).trans e) f0 f1 f3 f4 f5
    obtain ⟨o, e, c, d⟩ := id st'
    exact ⟨u, rfl, go_of (s := { s with heap := h' }) e c d (by decide) ⟨x, H, I1, ru, ⟨rfl, fun ys hy => by rw [I.list_inj hy hq]; exact hx⟩, st', fun b hb => (hf b hb).1⟩⟩
  done := by
    intro X hP hw hK hc i pins s σ H E I hf st hg
    subst hP hw hK
    obtain ⟨xs, hq, hx⟩ := hg
    obtain ⟨its, rv, p, hz⟩ := I.list hq
    obtain ⟨f0, f1, f2, f3, f4, f5⟩ := hf it (by simp)
    have hl := rv.length
    exact wpAny_pyNext_list_end (I.ok.hd hc) st p.isList (by simp; omega) fun h' eb => ⟨rfl, I.turned (t' := s.toks) (fun b o hb e => eb b o hb e) f0 f1 f3 f4 f5⟩
  self := fun _ _ _ _ _ st h => wpAny_pyIter_listiter st h
theorem turn_tuple {P : Program} {w : World} {K : PySem.W.Frag} {tg : Expr} (a it : Addr) : Turn P w K tg (Itt K a) [it] it (fun i h => h.IsTupleIter it a i) where
  mem := by simp
  obj := fun i h st b hb => by
    have e : b = it := by simpa using hb
    subst e
    obtain ⟨o, e, c, d⟩ := st
    exact ⟨o, e, fun v z => by rw [d] at z; cases z⟩
  keep := fun i h h' st k => st.at fun o e => k it (by simp) o e
  item := by
    intro X hP hw hK hc i pins s σ H E I hf st hg
    subst hP hw hK
    obtain ⟨xs, x, hq, hx⟩ := hg
    obtain ⟨its, rv, p, hz⟩ := I.tuple hq
    obtain ⟨u, hu, ru⟩ := rv.get hx
    obtain ⟨f0, f1, f2, f3, f4, f5⟩ := hf it (by simp)
    refine wpAny_pyNext_tuple_item st (show s.heap.IsTuple a its.toArray from p) (x := u) (by simpa using hu) fun h' st' sb => ?_
    have I1 : Inv X pins σ H { s with heap := h' } := I.turned (t' := s.toks) (fun b o hb e => (sb.2 b hb).trans e) f0 f1 f3 f4 f5
    obtain ⟨o, e, c, d⟩ := id st'
    exact ⟨u, rfl, go_of (s := { s with heap := h' }) e c d (by decide) ⟨x, H, I1, ru, ⟨rfl, fun ys hy => by rw [I.tuple_inj hy hq]; exact hx⟩, st', fun b hb => (hf b hb).1⟩⟩
  done := by
    intro X hP hw hK hc i pins s σ H E I hf st hg
    subst hP hw hK
    obtain ⟨xs, hq, hx⟩ := hg
    obtain ⟨its, rv, p, hz⟩ := I.tuple hq
    obtain ⟨f0, f1, f2, f3, f4, f5⟩ := hf it (by simp)
    have hl := rv.length
    exact wpAny_pyNext_tuple_end (I.ok.hd hc) st (show s.heap.IsTuple a its.toArray from p) (by simp; omega) fun h' eb => ⟨rfl, I.turned (t' := s.toks) (fun b o hb e => eb b o hb e) f0 f1 f3 f4 f5⟩
  self := fun _ _ _ _ _ st h => wpAny_pyIter_tupleiter st h
theorem turn_range {P : Program} {w : World} {K : PySem.W.Frag} {tg : Expr} (it : Addr) (lo : Int) (n : Nat) : Turn P w K tg (Itr lo n) [it] it (fun i h => IsRangeIter h it (lo + (i : Nat) * 1) ((n : Int) - (i : Nat)) 1) where
  mem := by simp
  obj := fun i h st b hb => by
    have e : b = it := by simpa using hb
    subst e
    exact ⟨_, st, fun v z => by
      have z' : Data.fields _ = Data.cell v := z
      cases z'⟩
  keep := fun i h h' st k => k it (by simp) _ st
  item := by
    intro X hP hw hK hc i pins s σ H E I hf st hg
    subst hP hw hK
    obtain ⟨f0, f1, f2, f3, f4, f5⟩ := hf it (by simp)
    have W := Walks.range (prog := X.prog) (w := X.w) (I.ok.hd hc) it lo 1 n
    refine W.item i s _ _ hg st fun v h' tk hv st' kk => ?_
    obtain ⟨t, rfl⟩ := hv
    have I1 : Inv X pins σ H { s with heap := h', toks := tk } := I.turned (fun b o hb e => kk b o (by simpa using hb) e) f0 f1 f3 f4 f5
    refine ⟨_, rfl, go_of (s := { s with heap := h', toks := tk }) (n := "range_iterator") st' rfl rfl (by decide) ⟨.int (lo + i), H, I1, ⟨t, ?_⟩, ⟨rfl, rfl⟩, st', fun b hb => (hf b hb).1⟩⟩
    rw [Int.mul_one]
  done := by
    intro X hP hw hK hc i pins s σ H E I hf st hg
    subst hP hw hK
    obtain ⟨f0, f1, f2, f3, f4, f5⟩ := hf it (by simp)
    exact wpAny_pyNext_range_end (I.ok.hd hc) st (by have : n ≤ i := hg; omega) fun h' eb => ⟨rfl, I.turned (t' := s.toks) (fun b o hb e => eb b o hb e) f0 f1 f3 f4 f5⟩
  self := fun _ _ _ _ _ st h => wpAny_pyIter_rangeiter st h
end L2

namespace L2
open PySem PySem.Spec PyProof.Rows
section
variable {X : Cx} {tg : Expr}
/-- a range object just made, walked -/
theorem range_it {pins : List (Addr × Obj)} {σ : St} {H : Hp} {s : Shared} {R : It → Hp → Prop} {E : Value → Shared → Prop} {lo hi : Int} {t u v : Tok} {tk : Nat} (I : Inv X pins σ H s) (h1 : -(2 ^ 62) ≤ lo) (h2 : lo < 2 ^ 62) (h3 : -(2 ^ 62) ≤ hi) (h4 : hi < 2 ^ 62)
    (q : R (Itr lo (hi - lo).toNat) H) : wpAny (model X.prog X.w) X.A (pyIter (.ref s.heap.objs.size)) (PIE X pins σ tg R) E { s with heap := s.heap.push { cls := .type "range", data := .fields #[.int lo t, .int hi u, .int 1 v] }, toks := tk } := by
  refine wpAny_pyIter_range (IsRange.new ..) (small_one h1 h2 h3 h4) ?_
  have I1 : Inv X pins σ H { s with heap := s.heap.push { cls := .type "range", data := .fields #[.int lo t, .int hi u, .int 1 v] }, toks := tk } := I.kept fun b o e => Heap.get?_push_of_some _ e
  refine ⟨(s.heap.push { cls := .type "range", data := .fields #[.int lo t, .int hi u, .int 1 v] }).objs.size, [(s.heap.push { cls := .type "range", data := .fields #[.int lo t, .int hi u, .int 1 v] }).objs.size], _, _, H, rfl,
    I1.kept (t' := tk) fun b o e => Heap.get?_push_of_some _ e, turn_range _ lo (hi - lo).toNat, ?_, fun b hb => ?_, q⟩
  · have e1 : lo + ((0 : Nat) : Int) * 1 = lo := by simp
    have e2 : (((hi - lo).toNat : Nat) : Int) - ((0 : Nat) : Int) = Builtin.Range.rangeSize lo hi 1 := by rw [rangeSize_one]; split <;> omega
    show IsRangeIter _ _ (lo + ((0 : Nat) : Int) * 1) ((((hi - lo).toNat : Nat) : Int) - ((0 : Nat) : Int)) 1
    rw [e1, e2]
    exact Heap.get?_push_size _ rfl
  · have e : b = (s.heap.push { cls := .type "range", data := .fields #[.int lo t, .int hi u, .int 1 v] }).objs.size := by simpa using hb
    subst e
    exact I1.fpOk (Nat.le_refl _) (I1.hok.fresh (Nat.le_refl _))
def iRng1 (ta : TA) : TI := fun σ H R => ta σ H fun vs H1 => ∃ j : Int, vs = [.int j] ∧ -(2 ^ 62) ≤ j ∧ j < 2 ^ 62 ∧ R (Itr 0 j.toNat) H1
theorem pi_range1 {a : Expr} {ta : TA} {p pos : Pos} (hg : Gl X "range") (hm : X.mg "range" = none) (ha : PA X [a] ta) (hs : starEach [a] X.env = [(false, eval a X.env)] := by rfl) : PI X tg (.Call (.Name "range" p) [a] [] pos) (iRng1 ta) := by
  intro pins s σ H R I h
  refine Call_ (ld_blt I hg hm boot_range (PyProof.Rows.callWith_type1 (thn (ha pos pins s σ H _ I h) fun us s1 ⟨vs, H1, I1, r1, q1⟩ => ?_) hs rfl))
  obtain ⟨j, e, q1, q2, q⟩ := q1
  subst e
  cases r1 with
  | cons r rr =>
    cases rr
    obtain ⟨t, rfl⟩ := r
    exact call_range_1 (range_it I1 (by omega) (by omega) q1 q2 (by simpa using q))
/-! ### for -/
/-- W: the invariant by the turn and a measure; N: what the body is to reach -/
def tFor (wi : TI) (g : TG) (tb : TS) : TS := fun D σ H => wi σ H fun J H1 => ∃ W : Nat → Nat → St → Hp → Prop, (∃ m, W 0 m σ H1) ∧ ∀ i m σ H, W i m σ H →
  (J.stop i H ∧ D.nx σ H) ∨ (J.go i H ∧ ∃ N : St → Hp → Prop, (∀ σ' H', N σ' H' → ∃ m', m' < m ∧ W (i + 1) m' σ' H') ∧ ∀ x H', J.yld i H x H' → g x σ H' fun σ2 H2 => tb { D with nx := N, ct := N, bk := D.nx } σ2 H2)
/-- the records at fp as they stand -/
def pinsAt (fp : List Addr) (h : Heap) : List (Addr × Obj) := fp.filterMap fun b => (h.get? b).map fun o => (b, o)
theorem mem_pinsAt {fp : List Addr} {h : Heap} {b : Addr} {o : Obj} (hb : b ∈ fp) (e : h.get? b = some o) : (b, o) ∈ pinsAt fp h := List.mem_filterMap.mpr ⟨b, hb, by rw [e]; rfl⟩
theorem of_pinsAt {fp : List Addr} {h : Heap} {p : Addr × Obj} (hp : p ∈ pinsAt fp h) : p.1 ∈ fp ∧ h.get? p.1 = some p.2 := by
  obtain ⟨b, hb, e⟩ := List.mem_filterMap.mp hp
  cases q : h.get? b with
  | none => rw [q] at e; cases e
  | some o =>
    rw [q] at e
    have e' : (b, o) = p := Option.some.inj e
    subst e'
    exact ⟨hb, q⟩
theorem Inv.pinned {pins : List (Addr × Obj)} {σ : St} {H : Hp} {s : Shared} {fp : List Addr} (I : Inv X pins σ H s) (hf : ∀ b ∈ fp, FpOk X pins H b) (ho : ∀ b ∈ fp, ∃ o, s.heap.get? b = some o ∧ ∀ v, o.data ≠ .cell v) : Inv X (pins ++ pinsAt fp s.heap) σ H s :=
  I.pins_of fun p hp => (List.mem_append.mp hp).elim (fun z => I.pin p (List.mem_append_right _ z)) fun z => by
    obtain ⟨hb, e⟩ := of_pinsAt z
    obtain ⟨f0, f1, f2, _⟩ := hf p.1 hb
    obtain ⟨o, e', d⟩ := ho p.1 hb
    rw [e] at e'; cases e'
    exact ⟨e, f0, f1, f2, d⟩
theorem Inv.unpinned {pins pl : List (Addr × Obj)} {σ : St} {H : Hp} {s : Shared} (I : Inv X (pins ++ pl) σ H s) : Inv X pins σ H s := I.pins_of fun p hp => I.pin p (List.mem_append_right _ (List.mem_append_left _ hp))
theorem ps_for {iter : Expr} {body : List Stmt} {wi : TI} {g : TG} {tb : TS} {pos : Pos} (hp : PassesOwn (model X.prog X.w) X.A X.env X.xe) (hc : X.calm = true) (hi : PI X tg iter wi) (hg : PG X tg g) (hb : PSs X body tb)
    (hs : ∀ x, foldedSetIterable iter X.env x = pure x := by intro _; rfl) : PS X (.For tg iter body [] pos) (tFor wi g tb) := by
  intro pins s σ H D I h
  refine wpAny_For (thn (hi pins s σ H _ I h) fun v s1 h1 => thn h1 fun itv s2 h2 => ?_) hs
  obtain ⟨it, fp, tn, J, H2, e, I2, T, st2, f2, W, ⟨m0, w0⟩, turn⟩ := h2
  subst e
  -- what stays true of the iterator's objects through the loop
  have stat : ∀ {H' : Hp}, (∀ b ∈ fp, H' b = none) → ∀ b ∈ fp, FpOk X pins H' b := fun hn b hb => ⟨hn b hb, (f2 b hb).2⟩
  refine codeAny_forLoop_any (fun n s' => ∃ i σ' H', Inv X pins σ' H' s' ∧ tn i s'.heap ∧ (∀ b ∈ fp, H' b = none) ∧ W i n σ' H') ?_ m0 ⟨0, σ, H2, I2, st2, fun b hb => (f2 b hb).1, w0⟩
  rintro n s3 ⟨i, σ3, H3, I3, st3, fr3, w3⟩
  rcases turn i n σ3 H3 w3 with ⟨stop, qn⟩ | ⟨go, N, hN, step⟩
  · refine wpAny_passesOwn hp (thn (T.done X rfl rfl rfl hc i pins s3 σ3 H3 X.xe I3 (stat fr3) st3 stop) fun r s4 ⟨hr, I4⟩ => ?_)
    subst hr
    exact wpAny_execs_nil ⟨σ3, H3, I4, qn⟩
  · refine wpAny_passesOwn hp (thn (T.item X rfl rfl rfl hc i pins s3 σ3 H3 X.xe I3 (stat fr3) st3 go) fun r s4 ⟨u, hr, h4⟩ => ?_)
    subst hr
    refine wpAny_passesOwn hp (thn h4 fun _ s5 ⟨x, H5, I5, r5, y5, st5, fr5⟩ => ?_)
    have I5' := I5.pinned (stat fr5) (T.obj _ _ st5)
    refine wpAny_passesOwn hp (thn (hg _ s5 σ3 H5 x u _ I5' r5 (step x H5 y5)) fun _ s6 ⟨σ6, H6, I6, q6⟩ => ?_)
    refine wpAny_passesOwn hp (thn (hb _ s6 σ6 H6 _ I6 q6) fun f s7 q7 => ?_)
    have again : ∀ {σ7 : St} {H7 : Hp}, Inv X (pins ++ pinsAt fp s5.heap) σ7 H7 s7 → N σ7 H7 → ∃ m, m < n ∧ ∃ i σ' H', Inv X pins σ' H' s7 ∧ tn i s7.heap ∧ (∀ b ∈ fp, H' b = none) ∧ W i m σ' H' := fun {σ7 H7} I7 n7 => by
      obtain ⟨m', hm, w7⟩ := hN σ7 H7 n7
      refine ⟨m', hm, i + 1, σ7, H7, I7.unpinned, T.keep _ _ _ st5 fun b hb o e => (I7.pin (b, o) (List.mem_append_right _ (List.mem_append_right _ (mem_pinsAt hb e)))).1, fun b hb => ?_, w7⟩
      obtain ⟨o, e, d⟩ := T.obj _ _ st5 b hb
      exact (I7.pin (b, o) (List.mem_append_right _ (List.mem_append_right _ (mem_pinsAt hb e)))).2.1
    cases f with
    | next => obtain ⟨σ7, H7, I7, n7⟩ := q7; exact again I7 n7
    | cont => obtain ⟨σ7, H7, I7, n7⟩ := q7; exact again I7 n7
    | brk => obtain ⟨σ7, H7, I7, q7⟩ := q7; exact ⟨σ7, H7, I7.unpinned, q7⟩
    | ret v => obtain ⟨x7, σ7, H7, I7, r7, q7⟩ := q7; exact ⟨x7, σ7, H7, I7.unpinned, r7, q7⟩
end

/-! ### the forms one uses -/
end L2

namespace L2
open PySem PySem.Spec PyProof.Rows

abbrev R2 := V → V → Hp → VK → Prop
/-- a two-place operation on values: f is binaryOp op, inplaceOp op or compareOp op -/
def OpR (X : Cx) (f : Value → Value → Sem Value) (r : R2) : Prop :=
  ∀ (pins : List (Addr × Obj)) (s : Shared) (σ : St) (H : Hp) (x y : V) (v u : Value) (Q : VK), Inv X pins σ H s → RelV x v → RelV y u → r x y H Q →
    wpAny (model X.prog X.w) X.A (f v u) (EP X pins σ Q) X.xe s
/-- a call of a value that is known (a builtin, a type) with values -/
def CallR (X : Cx) (f : Value) (r : List V → Hp → VK → Prop) : Prop :=
  ∀ (pins : List (Addr × Obj)) (s : Shared) (σ : St) (H : Hp) (xs : List V) (us : List Value) (Q : VK), Inv X pins σ H s → Vals xs us → r xs H Q →
    wpAny (model X.prog X.w) X.A (call f us) (EP X pins σ Q) X.xe s
/-- a value's truth -/
def TruR (X : Cx) (r : V → Hp → (Bool → Hp → Prop) → Prop) : Prop :=
  ∀ (pins : List (Addr × Obj)) (s : Shared) (σ : St) (H : Hp) (x : V) (v : Value) (Q : Bool → Hp → Prop), Inv X pins σ H s → RelV x v → r x H Q →
    wpAny (model X.prog X.w) X.A (truthy v) (TP X pins σ Q) X.xe s

def tOp (r : R2) (ta tb : TE) : TE := fun σ H Q => ta σ H fun x H1 => tb σ H1 fun y H2 => r x y H2 Q
/-- ints in, under C, and a value out -/
def rI (C : Int → Int → Prop) (g : Int → Int → V) : R2 := fun x y H Q => ∃ i j, x = .int i ∧ y = .int j ∧ C i j ∧ Q (g i j) H
def rI0 (g : Int → Int → V) : R2 := fun x y H Q => ∃ i j, x = .int i ∧ y = .int j ∧ Q (g i j) H
section
variable {X : Cx} {a b c : Expr} {ta tb tc : TE} {pos : Pos}

theorem binT (ha : PE X a ta) (hb : PE X b tb) {pins : List (Addr × Obj)} {s : Shared} {σ : St} {H : Hp} {R : V → V → Hp → Prop} (I : Inv X pins σ H s)
    (h : ta σ H fun x H1 => tb σ H1 fun y H2 => R x y H2) {Q : Value → Shared → Prop} {f : Value → Value → Sem Value}
    (hf : ∀ v u s2 x y H2, Inv X pins σ H2 s2 → RelV x v → RelV y u → R x y H2 → wpAny (model X.prog X.w) X.A (f v u) Q X.xe s2) :
    wpAny (model X.prog X.w) X.A (eval a X.env) (fun v s₁ => wpAny (model X.prog X.w) X.A (eval b X.env) (fun u s₂ => wpAny (model X.prog X.w) X.A (f v u) Q X.xe s₂) X.xe s₁) X.xe s := by
  refine thn (ha pins s σ H _ I h) fun v s1 ⟨x, H1, I1, r1, q1⟩ => ?_
  refine thn (hb pins s1 σ H1 _ I1 q1) fun u s2 ⟨y, H2, I2, r2, q2⟩ => ?_
  exact hf v u s2 x y H2 I2 r1 r2 q2

theorem pe_op {op : Operator} {r : R2} (ho : OpR X (binaryOp op) r) (ha : PE X a ta) (hb : PE X b tb) : PE X (.BinOp a op b pos) (tOp r ta tb) := by
  intro pins s σ H Q I h
  exact wpAny_BinOp (binT ha hb I h fun v u s2 x y H2 I2 rx ry q => ho pins s2 σ H2 x y v u Q I2 rx ry q)
/-! ### ints -/
theorem opI {f : Value → Value → Sem Value} {C : Int → Int → Prop} {g : Int → Int → Int}
    (rule : ∀ (i j : Int) (t u : Tok) (s : Shared) (Q : Value → Shared → Prop) (E : Value → Shared → Prop), C i j → Q (.int (g i j) s.toks) { s with toks := s.toks + 1 } → wpAny (model X.prog X.w) X.A (f (.int i t) (.int j u)) Q E s) :
    OpR X f (rI C fun i j => .int (g i j)) := by
  intro pins s σ H x y v u Q I rx ry h
  obtain ⟨i, j, rfl, rfl, hc, q⟩ := h
  obtain ⟨t, rfl⟩ := rx
  obtain ⟨t', rfl⟩ := ry
  exact rule i j t t' s _ _ hc ⟨.int (g i j), H, I.tok _, ⟨_, rfl⟩, q⟩
theorem opI0 {f : Value → Value → Sem Value} {g : Int → Int → Int}
    (rule : ∀ (i j : Int) (t u : Tok) (s : Shared) (Q : Value → Shared → Prop) (E : Value → Shared → Prop), Q (.int (g i j) s.toks) { s with toks := s.toks + 1 } → wpAny (model X.prog X.w) X.A (f (.int i t) (.int j u)) Q E s) :
    OpR X f (rI0 fun i j => .int (g i j)) := by
  intro pins s σ H x y v u Q I rx ry h
  obtain ⟨i, j, rfl, rfl, q⟩ := h
  obtain ⟨t, rfl⟩ := rx
  obtain ⟨t', rfl⟩ := ry
  exact rule i j t t' s _ _ ⟨.int (g i j), H, I.tok _, ⟨_, rfl⟩, q⟩
theorem opB0 {f : Value → Value → Sem Value} {g : Int → Int → Bool}
    (rule : ∀ (i j : Int) (t u : Tok) (s : Shared) (Q : Value → Shared → Prop) (E : Value → Shared → Prop), Q (.bool (g i j)) s → wpAny (model X.prog X.w) X.A (f (.int i t) (.int j u)) Q E s) :
    OpR X f (rI0 fun i j => .bl (g i j)) := by
  intro pins s σ H x y v u Q I rx ry h
  obtain ⟨i, j, rfl, rfl, q⟩ := h
  obtain ⟨t, rfl⟩ := rx
  obtain ⟨t', rfl⟩ := ry
  exact rule i j t t' s _ _ ⟨.bl (g i j), H, I, rfl, q⟩

def CMul (i j : Int) : Prop := (-(2 ^ 64) < i ∧ i < 2 ^ 64) ∨ (-(2 ^ 64) < j ∧ j < 2 ^ 64)
theorem CMul.ok {i j : Int} (h : CMul i j) : IntMulOk i j := by
  rcases h with ⟨h1, h2⟩ | ⟨h1, h2⟩
  · exact .of_left (intBits_le_64 h1 h2)
  · exact .of_right (intBits_le_64 h1 h2)
theorem op_add : OpR X (binaryOp .Add) (rI0 fun i j => .int (i + j)) := opI0 fun _ _ _ _ _ _ _ q => add_int q
/-- % by a positive divisor of any size -/
theorem op_mod : OpR X (binaryOp .Mod) (rI (fun _ j => 0 < j) fun i j => .int (i % j)) := opI fun i j _ _ _ _ _ hc q => by
  have h1 : (0 : Int) < j := hc
  exact mod_int' (by omega) (by rw [Int.fmod_eq_emod_of_nonneg i (by omega)]; exact q)
/-! ### bools among ints: n += (a < b) -/
end

/-! ### comparisons -/
section
variable {X : Cx} {a b c : Expr} {ta tb tc : TE} {pos : Pos}
theorem op_gt : OpR X (compareOp .Gt) (rI0 fun i j => .bl (decide (j < i))) := opB0 fun _ _ _ _ _ _ _ q => gt_int q
/-- two rules for one operation: by cases -/
theorem OpR.or {f : Value → Value → Sem Value} {r r' : R2} (h : OpR X f r) (h' : OpR X f r') : OpR X f (fun x y H Q => r x y H Q ∨ r' x y H Q) := by
  intro pins s σ H x y v u Q I rx ry q
  rcases q with q | q
  · exact h pins s σ H x y v u Q I rx ry q
  · exact h' pins s σ H x y v u Q I rx ry q

theorem nomark (b : Expr) {op : CmpOp} (h : op ≠ .In := by decide) (h2 : op ≠ .NotIn := by decide) : behindInMarks op b = false := by
  have e1 : (op == CmpOp.In) = false := by cases op <;> first | rfl | exact absurd rfl h
  have e2 : (op == CmpOp.NotIn) = false := by cases op <;> first | rfl | exact absurd rfl h2
  cases b <;> simp [behindInMarks, e1, e2]
/-- a comparison as a value; hm: nomark b, or (for in, not in) by with_unfolding_all rfl -/
theorem pe_cmpR {op : CmpOp} {r : R2} (ho : OpR X (compareOp op) r) (ha : PE X a ta) (hb : PE X b tb) (hm : behindInMarks op b = false) : PE X (.Compare a [op] [b] pos) (tOp r ta tb) := by
  intro pins s σ H Q I h
  exact wpAny_Compare1 (binT ha hb I h fun v u s2 x y H2 I2 rx ry q => ho pins s2 σ H2 x y v u Q I2 rx ry q) hm
/-- a reading of a value as a test -/
def tTest (t : TE) : TT := fun σ H Q => t σ H fun x H' => ∃ k, x = .bl k ∧ Q k H'
theorem pt_cmpR {op : CmpOp} {r : R2} (ho : OpR X (compareOp op) r) (ha : PE X a ta) (hb : PE X b tb) (hm : behindInMarks op b = false) : PT X (.Compare a [op] [b] pos) (tTest (tOp r ta tb)) := by
  intro pins s σ H Q I h
  refine wpAny_isTrue_Compare1 (thn (ha pins s σ H _ I h) fun v s1 ⟨x, H1, I1, r1, q1⟩ => thn (hb pins s1 σ H1 _ I1 q1) fun u s2 ⟨y, H2, I2, r2, q2⟩ =>
    thn (ho pins s2 σ H2 x y v u _ I2 r1 r2 q2) fun c s3 ⟨z, H3, I3, r3, k, e, q3⟩ => ?_) hm
  subst e
  cases r3
  exact wpAny_truthy_bool ⟨H3, I3, q3⟩
/-! ### truth -/
/-- a value's truth by the abstract heap -/
def TruV (K : PySem.W.Frag) (x : V) (H : Hp) (k : Bool) : Prop :=
  match x with
  | .non => k = false
  | .bl b => k = b
  | .int i => k = (i != 0)
  | .str y => y.length ≤ sizeLine ∧ k = ((y.length : Int) != 0)
  | .byt y => y.size ≤ sizeLine ∧ k = ((y.size : Int) != 0)
  | .ref p => (∃ xs, SqL K H p xs ∧ k = !xs.isEmpty) ∨ (∃ xs, SqT K H p xs ∧ k = !xs.isEmpty) ∨ ∃ kvs, H p = some (.dK kvs) ∧ k = !kvs.isEmpty
  | _ => False
theorem isEmpty_kv {κ : Type} {kvs : List (κ × V)} {vs : List (κ × Value)} (r : KV kvs vs) : (!vs.isEmpty) = !kvs.isEmpty := by
  cases r <;> rfl
theorem isEmpty_of {xs : List V} {its : List Value} (r : Vals xs its) : (!its.toArray.isEmpty) = !xs.isEmpty := by
  cases r <;> simp
theorem line63 : (sizeLine : Nat) < 2 ^ 63 := by rw [sizeLine_eq]; decide
theorem tru_ok : TruR X (fun x H Q => ∃ k, TruV X.K x H k ∧ Q k H) := by
  intro pins s σ H x v Q I rx h
  obtain ⟨k, e, q⟩ := h
  have hl := line63
  have hs : sizeLine = 16777216 := sizeLine_eq
  cases x with
  | non =>
    cases rx
    have e' : k = false := e
    subst e'
    exact truthy_none ⟨H, I, q⟩
  | bl b =>
    cases rx
    have e' : k = b := e
    subst e'
    exact wpAny_truthy_bool ⟨H, I, q⟩
  | int i =>
    obtain ⟨t, rfl⟩ := rx
    have e' : k = (i != 0) := e
    subst e'
    exact PySem.P.truthy_int ⟨H, I, q⟩
  | str y =>
    obtain ⟨t, rfl⟩ := rx
    obtain ⟨hy, e'⟩ : y.length ≤ sizeLine ∧ k = ((y.length : Int) != 0) := e
    subst e'
    exact PySem.P.truthy_str (by omega) ⟨H, I.tok _, q⟩
  | byt y =>
    obtain ⟨t, rfl⟩ := rx
    obtain ⟨hy, e'⟩ : y.size ≤ sizeLine ∧ k = ((y.size : Int) != 0) := e
    subst e'
    exact PySem.W.truthy_bytes (by omega) ⟨H, I.tok _, q⟩
  | ref p =>
    cases rx
    have e' : (∃ xs, SqL X.K H p xs ∧ k = !xs.isEmpty) ∨ (∃ xs, SqT X.K H p xs ∧ k = !xs.isEmpty) ∨ ∃ kvs, H p = some (.dK kvs) ∧ k = !kvs.isEmpty := e
    rcases e' with ⟨xs, hx, e'⟩ | ⟨xs, hx, e'⟩ | ⟨kvs, hx, e'⟩
    · subst e'
      obtain ⟨its, r, pl, hz⟩ := I.list hx
      have hlen := r.length
      exact wpAny_truthy_list pl.isList (by simp only [List.size_toArray]; omega) ⟨H, I.tok _, by rw [isEmpty_of r]; exact q⟩
    · subst e'
      obtain ⟨its, r, pl, hz⟩ := I.tuple hx
      have hlen := r.length
      exact truthy_tuple pl (by simp only [List.size_toArray]; omega) ⟨H, I.tok _, by rw [isEmpty_of r]; exact q⟩
    · subst e'
      obtain ⟨hz, hS, vs, r, m⟩ : kvs.length ≤ sizeLine ∧ (p == sysModules) = false ∧ ∃ vs, KV kvs vs ∧ s.heap.DictOf (mixKind X.prog X.w) p vs := I.hok p _ hx
      have hlen : kvs.length = vs.length := Paired.length r
      exact wpAny_truthy_dict hS m (by omega) ⟨H, I.tok _, by rw [isEmpty_kv r]; exact q⟩
  | _ => exact (show False from e).elim
/-- any expression whose test is its value's truth (a name, a call, a subscript, a field ..: he by fun _ => rfl) -/
theorem pt_truth (ha : PE X a ta) (he : ∀ whole, isTrue a X.env whole = (do let v ← whole; standAt a.pos; holding [v] (truthy v))) :
    PT X a (fun σ H Q => ta σ H fun x H' => ∃ k, TruV X.K x H' k ∧ Q k H') := by
  intro pins s σ H Q I h
  exact isTrue_plain (thn (ha pins s σ H _ I h) fun v s1 ⟨x, H1, I1, r1, q1⟩ => tru_ok pins s1 σ H1 x v Q I1 r1 q1) (he _)

/-! ### strs and bytes -/
theorem op_add_str : OpR X (binaryOp .Add) (fun x y H Q => ∃ i j, x = .str i ∧ y = .str j ∧ i.length + j.length ≤ sizeLine ∧ Q (.str (i ++ j)) H) := by
  intro pins s σ H x y v u Q I rx ry h
  obtain ⟨i, j, rfl, rfl, hz, q⟩ := h
  obtain ⟨t, rfl⟩ := rx
  obtain ⟨t', rfl⟩ := ry
  exact add_str (fun t' tk => ⟨.str (i ++ j), H, I.tok _, ⟨_, rfl⟩, q⟩) hz
/-! ### scalar builtins, by CallR -/
theorem vals1 {x : V} {us : List Value} (r : Vals [x] us) : ∃ u, us = [u] ∧ RelV x u := by
  cases r with
  | cons r1 r2 => cases r2; exact ⟨_, rfl, r1⟩
/-- len of a str, a bytes, a list, a tuple -/
def LenV (K : PySem.W.Frag) (x : V) (H : Hp) (n : Nat) : Prop :=
  match x with
  | .str y => y.length ≤ sizeLine ∧ n = y.length
  | .byt y => y.size ≤ sizeLine ∧ n = y.size
  | .ref p => (∃ xs, SqL K H p xs ∧ n = xs.length) ∨ ∃ xs, SqT K H p xs ∧ n = xs.length
  | _ => False
theorem call_len : CallR X (.builtin "len") (fun xs H Q => ∃ x n, xs = [x] ∧ LenV X.K x H n ∧ Q (.int n) H) := by
  intro pins s σ H xs us Q I r h
  obtain ⟨x, n, rfl, e, q⟩ := h
  obtain ⟨u, rfl, rx⟩ := vals1 r
  have hl := line63
  have hs : sizeLine = 16777216 := sizeLine_eq
  cases x with
  | str y =>
    obtain ⟨t, rfl⟩ := rx
    obtain ⟨hy, e'⟩ : y.length ≤ sizeLine ∧ n = y.length := e
    subst e'
    exact len_str (by omega) ⟨.int _, H, I.tok _, ⟨_, rfl⟩, q⟩
  | byt y =>
    obtain ⟨t, rfl⟩ := rx
    obtain ⟨hy, e'⟩ : y.size ≤ sizeLine ∧ n = y.size := e
    subst e'
    exact PySem.W.len_bytes (by omega) ⟨.int _, H, I.tok _, ⟨_, rfl⟩, q⟩
  | ref p =>
    cases rx
    have e' : (∃ xs, SqL X.K H p xs ∧ n = xs.length) ∨ ∃ xs, SqT X.K H p xs ∧ n = xs.length := e
    rcases e' with ⟨xs, hx, e'⟩ | ⟨xs, hx, e'⟩
    · subst e'
      obtain ⟨its, r', pl, hz⟩ := I.list hx
      have hlen := r'.length
      exact Calls.call_len_list pl.isList (by simp only [List.size_toArray]; omega) ⟨.int xs.length, H, I.tok _, ⟨_, by simp only [List.size_toArray]; rw [hlen]⟩, q⟩
    · subst e'
      obtain ⟨its, r', pl, hz⟩ := I.tuple hx
      have hlen := r'.length
      exact len_tuple pl (by simp only [List.size_toArray]; omega) ⟨.int xs.length, H, I.tok _, ⟨_, by simp only [List.size_toArray]; rw [hlen]⟩, q⟩
  | _ => exact (show False from e).elim
end
end L2

namespace L2
open PySem PySem.Spec PyProof.Rows

/-! ### an instance, its attributes a map -/
structure ObjM (h : Heap) (x dx C : Addr) (mA : Str → Option Value) : Prop where
  obj : h.get? x = some (PySem.W.instObj C dx)
  ns : h.Ns1 dx mA
  ne : dx ≠ x

theorem lookIn_ns {h : Heap} {dx : Addr} {mA : Str → Option Value} (n : h.Ns1 dx mA) : ∃ od, h.get? dx = some od ∧ ∀ name, PySem.W.lookIn name od = some (mA name) := by
  obtain ⟨o, es, ep, ho, hd, hk, _, hm⟩ := n
  refine ⟨o, ho, fun name => ?_⟩
  have e := hm name
  unfold nsFind findBy at e
  rw [← Array.find?_toList] at e
  unfold PySem.W.lookIn
  rw [hd]
  dsimp only
  split
  · rename_i y q
    rw [q] at e
    exact congrArg some e
  · rename_i q
    rw [q] at e
    have a : es.toList.any (·.refKey) = false := by
      rw [List.any_eq_false]
      intro y hy
      obtain ⟨z, t, hkey⟩ := hk y (Array.mem_toList_iff.mp hy)
      simp [DictEntry.refKey, hkey]
    have a' : ¬ es.toList.any (·.refKey) = true := by rw [a]; exact Bool.false_ne_true
    rw [if_neg a']
    exact congrArg some e

theorem ObjM.look {h : Heap} {x dx C : Addr} {mA : Str → Option Value} (I : ObjM h x dx C mA) : ∃ od, PySem.W.InstAt h x (PySem.W.instObj C dx) C (some od) ∧ ∀ name, PySem.W.lookIn name od = some (mA name) :=
  let ⟨od, ho, hl⟩ := lookIn_ns I.ns
  ⟨od, ⟨I.obj, rfl, rfl, ho⟩, hl⟩

section
variable {prog : Program} {w : World} {A : Around} {E : Value → Shared → Prop} {s : Shared} {K : PySem.W.Frag} {x dx C f : Addr} {mA : Str → Option Value} {name : Str} {v : Value}

end

/-! ### the attributes as a list of pairs -/
def putF (f : Str) (v : V) : List (Str × V) → List (Str × V)
  | [] => [(f, v)]
  | (g, x) :: r => if g = f then (g, v) :: r else (g, x) :: putF f v r
section
variable {P : Program} {w : World} {H H' : Hp} {h h' : Heap} {a C dx : Addr} {fs fs' : List (Str × V)}
theorem ins_get (hok : HOk P w H h) (e : H a = some (.ins C dx fs)) : ∃ mA, ObjM h a dx C mA ∧ (∀ f, RelO (fs.lookup f) (mA f)) ∧ PySem.Within mA (fs.map (·.1)) ∧ fs.length ≤ 1000 ∧ H dx = some (.own a) := by
  obtain ⟨d, z, ne, ob, mA, n, r, q⟩ := (show ObjOk P w H h a (.ins C dx fs) from hok a _ e)
  exact ⟨mA, ⟨ob, n, ne⟩, r, q, z, d⟩
end

/-! ### what of the text a class must have -/
structure Cls (K : PySem.W.Frag) (C : Addr) : Prop where
  pg : PySem.W.plainGet K C Str.empty = true
  hd : PySem.W.hasDictIn K C = true
  po : PySem.W.plainOver K C = true
  sa : PySem.W.findIn K (.ref C) "__setattr__" = some (some (.builtin "object.__setattr__"))
theorem Cls.get {K : PySem.W.Frag} {C : Addr} (c : Cls K C) (f : Str) : PySem.W.plainGet K C f = true := c.pg
/-- a constant of the class -/
structure Con (K : PySem.W.Frag) (C : Addr) (f : Str) (v : V) (u : Value) : Prop where
  at_ : PySem.W.findIn K (.ref C) f = some (some u)
  rel : RelV v u
  get : PySem.W.specialIn K u "__get__" = some none
  cp : PySem.W.copiedNames.contains f = false
/-- a method: a plain def of the class or of one above it -/
structure Meth (K : PySem.W.Frag) (C : Addr) (m : Str) (f : Addr) : Prop where
  at_ : PySem.W.findIn K (.ref C) m = some (some (.ref f))
  fn : PySem.W.isFn K (.ref f) = true
  kp : PySem.W.keepIn K (.ref f) = true

section
variable {X : Cx} {pins : List (Addr × Obj)} {σ : St} {H : Hp} {s : Shared} {a C dx : Addr} {fs : List (Str × V)} {f : Str} {v : V} {A : Around} {E : Value → Shared → Prop}

/-- a new instance, tracked, without attributes -/
theorem Inv.made (I : Inv X pins σ H s) : Inv X pins σ (upd (upd H s.heap.objs.size (.own (s.heap.objs.size + 1))) (s.heap.objs.size + 1) (.ins C s.heap.objs.size []))
    { s with heap := (s.heap.push PySem.W.emptyDict).push (PySem.W.instObj C s.heap.objs.size) } := by
  have e1 : (s.heap.push PySem.W.emptyDict).get? s.heap.objs.size = some PySem.W.emptyDict := Heap.get?_push_size s.heap rfl
  have e2 : ((s.heap.push PySem.W.emptyDict).push (PySem.W.instObj C s.heap.objs.size)).get? (s.heap.objs.size + 1) = some (PySem.W.instObj C s.heap.objs.size) := by
    have := Heap.get?_push_size (s.heap.push PySem.W.emptyDict) (o := PySem.W.instObj C s.heap.objs.size) rfl
    rwa [Heap.size_push] at this
  have e3 : (s.heap.push PySem.W.emptyDict).Ns s.heap.objs.size (fun _ => none) := ⟨PySem.W.emptyDict, #[], _, e1, rfl, (fun e he => absurd he (by simp)), fun _ => rfl⟩
  have I1 := I.laid (a := s.heap.objs.size) (o := .own (s.heap.objs.size + 1)) (h' := s.heap.push PySem.W.emptyDict) (t' := s.toks) (fun b u q => Heap.get?_push_of_some _ q) (Nat.le_refl _) ⟨_, e1⟩
  refine I1.laid (a := s.heap.objs.size + 1) (o := .ins C s.heap.objs.size []) (t' := s.toks) (fun b u q => Heap.get?_push_of_some _ q) (Nat.le_of_eq (Heap.size_push _ _)) ?_
  have ne : s.heap.objs.size ≠ s.heap.objs.size + 1 := Nat.ne_of_lt (Nat.lt_succ_self _)
  refine ⟨by rw [upd_ne ne, upd_same], Nat.zero_le _, ne, e2, fun _ => none, (Heap.Ns1.of_empty e3).at fun o q => Heap.get?_push_of_some _ q, fun _ => True.intro, fun y hy => absurd rfl hy⟩

/-- e.f where nothing but the object is asked: through attributeBase (super) and the last hold -/
theorem attr_of {prog : Program} {w : World} {env : Env} {e : Expr} {f : Str} {pos : Pos} {s : Shared} {Q : Value → Shared → Prop} (hb : attributeBase e f env (eval e env) = eval e env)
    (h : wpAny (model prog w) A (eval e env) (fun o s₁ => wpAny (model prog w) A (getAttr o f true) Q E s₁) E s) : wpAny (model prog w) A (eval (.Attribute e f pos) env) Q E s :=
  Attribute_any_ h (by rw [arm_eval_Attribute, hb])
end

/-! ### readings and rules -/
section
variable {X : Cx} {o e value : Expr} {f : Str} {pos pos' tpos : Pos} {ta tv : TE}
end

/-! ### isinstance -/
section
variable {X : Cx} {pins : List (Addr × Obj)} {σ : St} {H : Hp} {s : Shared} {A : Around} {E : Value → Shared → Prop} {Q : Value → Shared → Prop} {c : Value} {b : Bool}
/-- the type of a value, as the fragment's deciders take it; for an instance its class -/
inductive TyOf (K : PySem.W.Frag) (H : Hp) : V → Value → Prop where
  | non : TyOf K H .non (.type "NoneType")
  | bl (x : Bool) : TyOf K H (.bl x) (.type "bool")
  | int (i : Int) : TyOf K H (.int i) (.type "int")
  | str (x : Str) : TyOf K H (.str x) (.type "str")
  | flt (x : UInt64) : TyOf K H (.flt x) (.type "float")
  | lst {a : Addr} {xs : List V} (e : H a = some (.lst xs)) : TyOf K H (.ref a) (.type "list")
  | frz {a : Addr} {o : Obj} {xs : List V} (e : H a = some (.frz o (.lst xs))) : TyOf K H (.ref a) (.type "list")
  | tup {a : Addr} {xs : List V} (e : H a = some (.tup xs)) : TyOf K H (.ref a) (.type "tuple")
  | dK {a : Addr} {kvs : List (Key × V)} (e : H a = some (.dK kvs)) : TyOf K H (.ref a) (.type "dict")
  | dT {a : Addr} {kvs : List (List Key × V)} (e : H a = some (.dT kvs)) : TyOf K H (.ref a) (.type "dict")
  | ins {a C dx : Addr} {fs : List (Str × V)} (e : H a = some (.ins C dx fs)) (cl : Cls K C) (ha : PySem.W.findIn K (.ref C) "__class__" = some (some (.builtin "object.__class__")))
      (hn : PySem.W.specialIn K (.builtin "object.__class__") "__get__" = some (some (.builtin "getset_descriptor.__get__"))) (htk : PySem.W.takesIn K (.builtin "object.__class__") = some true)
      (hm : PySem.W.mroIn K C (.type "object") = some true) : TyOf K H (.ref a) (.ref C)
/-- isinstance(x, c) for one class c, a built-in or an own one: kitOne's answer -/
theorem isinst_ok {x : V} {u t : Value} (I : Inv X pins σ H s) (rx : RelV x u) (ty : TyOf X.K H x t) (e : PySem.W.kitOne X.K t c = some b) (h : ∀ tk, Q (.bool b) { s with toks := tk }) :
    wpAny (model X.prog X.w) A (call (.builtin "isinstance") [u, c]) Q E s := by
  cases ty with
  | non => cases (show u = Value.none from rx); exact PySem.W.kia_one PySem.W.kitx_none I.kIn True.intro e (fun z => nomatch z) h
  | bl y => cases (show u = Value.bool y from rx); exact PySem.W.kia_one PySem.W.kitx_bool I.kIn True.intro e (fun z => nomatch z) h
  | int i => obtain ⟨t, q⟩ := (show ∃ t, u = Value.int i t from rx); cases q; exact PySem.W.kia_one PySem.W.kitx_int I.kIn True.intro e (fun z => nomatch z) h
  | str y => obtain ⟨t, q⟩ := (show ∃ t, u = Value.str y t from rx); cases q; exact PySem.W.kia_one PySem.W.kitx_str I.kIn True.intro e (fun z => nomatch z) h
  | flt y => obtain ⟨t, q⟩ := (show ∃ t, u = Value.float y t from rx); cases q; exact PySem.W.kia_one PySem.W.kitx_float I.kIn True.intro e (fun z => nomatch z) h
  | @lst a xs ea =>
    cases (show u = Value.ref a from rx)
    obtain ⟨_, _, n, _, h1⟩ := (show ObjOk X.prog X.w H s.heap a (.lst xs) from I.hok a _ ea)
    exact PySem.W.kia_one PySem.W.kitx_list I.kIn ⟨_, h1, rfl⟩ e (fun z => nomatch z) h
  | @frz a ob xs ea =>
    cases (show u = Value.ref a from rx)
    obtain ⟨_, _, _, n, _, h1⟩ := (show ObjOk X.prog X.w H s.heap a (.frz ob (.lst xs)) from I.hok a _ ea)
    exact PySem.W.kia_one PySem.W.kitx_list I.kIn ⟨_, h1, rfl⟩ e (fun z => nomatch z) h
  | @tup a xs ea =>
    cases (show u = Value.ref a from rx)
    obtain ⟨_, _, _, p⟩ := (show ObjOk X.prog X.w H s.heap a (.tup xs) from I.hok a _ ea)
    obtain ⟨o, h1, h2, _⟩ := p
    exact PySem.W.kia_one PySem.W.kitx_tuple I.kIn ⟨o, h1, h2⟩ e (fun z => nomatch z) h
  | @dK a kvs ea =>
    cases (show u = Value.ref a from rx)
    obtain ⟨_, _, vs, _, p⟩ := (show ObjOk X.prog X.w H s.heap a (.dK kvs) from I.hok a _ ea)
    obtain ⟨o, es, ep, h1, h2, _⟩ := p
    exact PySem.W.kia_one PySem.W.kitx_dict I.kIn ⟨o, h1, h2.1⟩ e (fun z => nomatch z) h
  | @dT a kvs ea =>
    cases (show u = Value.ref a from rx)
    obtain ⟨_, _, xs, _, o, es, ep, h1, h2, _⟩ := (show ObjOk X.prog X.w H s.heap a (.dT kvs) from I.hok a _ ea)
    exact PySem.W.kia_one PySem.W.kitx_dict I.kIn ⟨o, h1, h2.1⟩ e (fun z => nomatch z) h
  | @ins a C dx fs ea cl ha hn htk hm =>
    cases (show u = Value.ref a from rx)
    obtain ⟨mA, O, _⟩ := ins_get I.hok ea
    obtain ⟨od, J, _⟩ := O.look
    exact PySem.W.kia_one (PySem.W.kitx_own (cl.get _) cl.hd ha hn htk hm) I.kIn J e (fun z => nomatch z) h
end
end L2

namespace L2
open PySem PySem.Spec PyProof.Rows

/-! ### room -/
structure Room (k : Nat) (A : Around) : Prop where
  hd : A.handled = none
  dp : A.depth + 3 * k + 5 < recursionLimit
  un : A.units + 16 * k + 200 < cLine
  gd : A.guards = some []
theorem Room.mono {j k : Nat} {A : Around} (r : Room k A) (h : j ≤ k) : Room j A := ⟨r.hd, by have := r.dp; omega, by have := r.un; omega, r.gd⟩
theorem Room.deeper {k : Nat} {A : Around} (r : Room (k + 1) A) (env : Env) : Room k (A.deeper env) :=
  ⟨r.hd, by have := r.dp; show A.depth + 1 + 3 * k + 5 < _; omega, by have := r.un; show A.units + 3 + 16 * k + 200 < _; omega, r.gd⟩
theorem Room.in1 {k : Nat} {A : Around} (r : Room (k + 1) A) : Room k A.in1 :=
  ⟨r.hd, by have := r.dp; show A.depth + 3 * k + 5 < _; omega, by have := r.un; show A.units + 1 + 16 * k + 200 < _; omega, r.gd⟩
theorem make_depth {A : Around} {C : Addr} {us : List Value} {kw : List (Str × Value)} : (A.under (.builtin "type.__call__" ⟨.ref C :: us, kw⟩)).depth = A.depth + 1 := by
  first | rfl | simp [Around.under, Code.weight, Code.isCreation, Code.isGuard, Code.isCaller, Code.frames, Code.isFrame, guardIds]
theorem make_units {A : Around} {C : Addr} {us : List Value} {kw : List (Str × Value)} : (A.under (.builtin "type.__call__" ⟨.ref C :: us, kw⟩)).units = A.units + 1 := by
  first | rfl | simp [Around.under, Code.cUnits, Code.frames, Code.isFrame]
theorem Room.make {k : Nat} {A : Around} (r : Room (k + 1) A) (C : Addr) (us : List Value) (kw : List (Str × Value)) : Room k (A.under (.builtin "type.__call__" ⟨.ref C :: us, kw⟩)) :=
  ⟨r.hd, by have := r.dp; rw [make_depth]; omega, by have := r.un; rw [make_units]; omega, by first | exact r.gd | simpa [Around.under, Code.guards, Code.isGuard, guardIds, pushGuards] using r.gd⟩
theorem Room.depth {k : Nat} {A : Around} (r : Room k A) : A.depth < recursionLimit := by have := r.dp; omega
theorem Room.units {k : Nat} {A : Around} (r : Room k A) : A.units + 64 < cLine := by have := r.un; omega
/-! ### argument lists and displays -/
def tNil : TA := fun _ H Q => Q [] H
def tCons (ta : TE) (tr : TA) : TA := fun σ H Q => ta σ H fun x H1 => tr σ H1 fun xs H2 => Q (x :: xs) H2
section
variable {X : Cx} {e : Expr} {es : List Expr} {te : TE} {t : TA} {pos : Pos}
theorem pa_nil : PA X [] tNil := fun _ _ _ _ H Q I h => Calls.spliced_nil ⟨[], H, I, .nil, h⟩
theorem pa_cons (ha : PE X e te) (hr : PA X es t) (hs : starEach (e :: es) X.env = (false, eval e X.env) :: starEach es X.env := by rfl) : PA X (e :: es) (tCons te t) := by
  intro pos pins s σ H Q I h
  rw [hs]
  show wpAny _ _ (spliced ((false, eval e X.env) :: backTo pos (starEach es X.env))) _ _ s
  refine Calls.spliced_cons (thn (ha pins s σ H _ I h) fun u s1 ⟨x, H1, I1, r1, q1⟩ => ?_)
  exact thn (hr pos pins s1 σ H1 _ I1 q1) fun us s2 ⟨xs, H2, I2, r2, q2⟩ => ⟨x :: xs, H2, I2, .cons r1 r2, q2⟩

def tLst (t : TA) : TE := fun σ H Q => t σ H fun xs H1 => xs.length ≤ sizeLine ∧ ∀ p, H1 p = none → Q (.ref p) (upd H1 p (.lst xs))
theorem pe_lst (h : PA X es t) : PE X (.List es pos) (tLst t) := by
  intro pins s σ H Q I hq
  refine wpAny_List_spliced (thn (h pos pins s σ H _ I hq) fun us s1 ⟨xs, H1, I1, r, z, q⟩ => ⟨by rw [← r.length]; exact z, ?_⟩)
  have hf : H1 s1.heap.objs.size = none := I1.hok.fresh (Nat.le_refl _)
  refine ⟨.ref s1.heap.objs.size, upd H1 s1.heap.objs.size (.lst xs), I1.laid (t' := s1.toks) (fun b u e => Heap.get?_push_of_some _ e) (Nat.le_refl _) ?_, rfl, q _ hf⟩
  exact ⟨z, us, 0, r, Heap.get?_push_size _ rfl⟩
end

/-! ### what a def promises -/
/-- a def's promise: the bound arguments in the parameters' order, the heap, the wanted end, the wanted exception -/
abbrev Sp := List V → Hp → VK → XK → Prop
/-- how an exception lies behind a call (file 08 gives it): the callers' frames, abstract heap and state ahead of the call, the wish, the exception, the state -/
abbrev CXT := List Env → Hp → Shared → XK → Value → Shared → Prop

/-- the state at a call -/
structure Env0 (P : Program) (w : World) (K : PySem.W.Frag) (mg : Str → Option Value) (base : Heap) (A : Around) (outer : List Env) (s : Shared) (H : Hp) : Prop where
  frames : A.frames = some outer
  mod : Mod K mg base
  bs : ∀ b o, base.get? b = some o → s.heap.get? b = some o ∧ H b = none
  bsz : base.objs.size ≤ s.heap.objs.size
  funs : s.heap.FunFrames base outer
  frf : ∀ b ∈ frs outer, H b = none
  hok : HOk P w H s.heap
  bare : AllBare s.gens
/-- a call's end -/
def CE (outer : List Env) (P : Program) (w : World) (H : Hp) (s : Shared) (Q : VK) (u : Value) (s' : Shared) : Prop :=
  ∃ v H', s'.os = s.os ∧ AllBare s'.gens ∧ Un (frs outer) [] H H' s.heap s'.heap ∧ HOk P w H' s'.heap ∧ RelV v u ∧ Q v H'
def CR (CX : CXT) (outer : List Env) (P : Program) (w : World) (H : Hp) (s : Shared) (Q : VK) (E : XK) (r : Result) (s' : Shared) : Prop :=
  match r with
  | .ok (.ret u) => CE outer P w H s Q u s'
  | .ok _ => False
  | .error e => CX outer H s E e s'
structure FnOk (P : Program) (w : World) (K : PySem.W.Frag) (mg : Str → Option Value) (base : Heap) (CX : CXT) (k : Nat) (f : Addr) (fd : FuncData) (ps : List Str) (sp : Sp) : Prop where
  len : ∀ vs H Q E, sp vs H Q E → vs.length = ps.length
  run : ∀ (A : Around) (outer : List Env) (s : Shared) (H : Hp) (args : Args) (us : List Value) (vs : List V) (Q : VK) (E : XK), Room k A → Env0 P w K mg base A outer s H → BindsTo s fd args (ps.zip us) → Vals vs us → sp vs H Q E →
    codeAny (model P w) A (.call (.ref f) args) (CR CX outer P w H s Q E) s
theorem FnOk.mono {P : Program} {w : World} {K : PySem.W.Frag} {mg : Str → Option Value} {base : Heap} {CX : CXT} {j k : Nat} {f : Addr} {fd : FuncData} {ps : List Str} {sp : Sp} (F : FnOk P w K mg base CX j f fd ps sp) (h : j ≤ k) :
    FnOk P w K mg base CX k f fd ps sp := ⟨F.len, fun A outer s H args us vs Q E hr => F.run A outer s H args us vs Q E (hr.mono h)⟩
/-- a weaker promise -/
theorem FnOk.imp {P : Program} {w : World} {K : PySem.W.Frag} {mg : Str → Option Value} {base : Heap} {CX : CXT} {k : Nat} {f : Addr} {fd : FuncData} {ps : List Str} {sp sp' : Sp} (F : FnOk P w K mg base CX k f fd ps sp)
    (h : ∀ vs H Q E, sp' vs H Q E → sp vs H Q E) : FnOk P w K mg base CX k f fd ps sp' :=
  ⟨fun vs H Q E q => F.len vs H Q E (h _ _ _ _ q), fun A outer s H args us vs Q E hr he hb hv hs => F.run A outer s H args us vs Q E hr he hb hv (h _ _ _ _ hs)⟩

theorem Env0.make {P : Program} {w : World} {K : PySem.W.Frag} {mg : Str → Option Value} {base : Heap} {A : Around} {outer : List Env} {s : Shared} {H : Hp} (e : Env0 P w K mg base A outer s H) (C : Addr) (us : List Value) (kw : List (Str × Value)) :
    Env0 P w K mg base (A.under (.builtin "type.__call__" ⟨.ref C :: us, kw⟩)) outer s H := ⟨by first | exact e.frames | (simpa [Around.under, Code.envs, Code.isFrame, pushEnvs] using e.frames), e.mod, e.bs, e.bsz, e.funs, e.frf, e.hok, e.bare⟩
theorem Env0.in1 {P : Program} {w : World} {K : PySem.W.Frag} {mg : Str → Option Value} {base : Heap} {A : Around} {outer : List Env} {s : Shared} {H : Hp} (e : Env0 P w K mg base A outer s H) :
    Env0 P w K mg base A.in1 outer s H := ⟨e.frames, e.mod, e.bs, e.bsz, e.funs, e.frf, e.hok, e.bare⟩

section
variable {X : Cx} {pins : List (Addr × Obj)} {σ : St} {H : Hp} {s s' : Shared}
/-- from a body: what a callee wants -/
theorem Inv.env0 (I : Inv X pins σ H s) : Env0 X.prog X.w X.K X.mg X.base X.A X.stack s H :=
  ⟨I.ok.frames, I.ok.mod, I.bs, Nat.le_trans I.ok.bsz I.sz, I.stack, I.stkFree, I.hok, I.bare⟩
/-- behind a call -/
theorem Inv.after {Q : VK} {u : Value} (I : Inv X pins σ H s) (h : CE X.stack X.prog X.w H s Q u s') : EP X pins σ Q u s' := by
  obtain ⟨v, H', os, bare, un, hok, r, q⟩ := h
  obtain ⟨hh, g, d, t, os'⟩ := s'
  obtain rfl : os' = s.os := os
  exact ⟨v, H', I.call (h' := hh) (g' := g) (d' := d) (t' := t) (ch := []) un hok bare (fun b z => absurd z (by simp)), r, q⟩
end

/-! ### calls -/
/-- f(..): the written arguments, then the defaults dvs; E: what is wanted of an exception -/
def tCall (sp : Sp) (dvs : List V) (E : XK) (t : TA) : TE := fun σ H Q => t σ H fun vs H1 => sp (vs ++ dvs) H1 Q E
/-- how the parameters are bound: us the positional arguments, kw the keywords' values by name, ds the defaults that fill up -/
def Binds (K : PySem.W.Frag) (fd : FuncData) (ps : List Str) (ds : List Value) : Prop :=
  ∀ (s : Shared) (us : List Value), K.In s.heap → (us ++ ds).length = ps.length → BindsTo s fd ⟨us, []⟩ (ps.zip (us ++ ds))
/-- every parameter is given -/
theorem Binds.all {K : PySem.W.Frag} {fd : FuncData} {ps : List Str} (h : ∀ us : List Value, us.length = ps.length → bindArgs fd ⟨us, []⟩ = pure (ps.zip us)) : Binds K fd ps [] := fun s us _ hl => by
  rw [List.append_nil] at hl ⊢
  exact .of_eq (h us hl)

/-- an exception of a callee reaches what this body wants of exceptions -/
def Passes (CX : CXT) (X : Cx) (E : XK) : Prop := ∀ (pins : List (Addr × Obj)) (σ : St) (H : Hp) (s : Shared) (e : Value) (s' : Shared), Inv X pins σ H s → CX X.stack H s E e s' → X.xe e s'

section
variable {X : Cx} {CX : CXT} {k : Nat} {f C : Addr} {fd : FuncData} {ps : List Str} {sp : Sp} {dvs : List V} {ds : List Value} {E : XK} {x m : Str} {p pos apos : Pos} {e o : Expr} {es : List Expr} {ta : TE} {t : TA}

/-- the callee runs -/
theorem run_fn {pins : List (Addr × Obj)} {σ : St} {H : Hp} {s : Shared} {Q : VK} {us : List Value} {vs : List V} (F : FnOk X.prog X.w X.K X.mg X.base CX k f fd ps sp) (hr : Room k X.A) (hb : Binds X.K fd ps ds) (hd : Vals dvs ds) (hx : Passes CX X E)
    (I : Inv X pins σ H s) (r : Vals vs us) (h : sp (vs ++ dvs) H Q E) : wpAny (model X.prog X.w) X.A (call (.ref f) us) (EP X pins σ Q) X.xe s := by
  have r2 : Vals (vs ++ dvs) (us ++ ds) := r.append hd
  have hl : (us ++ ds).length = ps.length := by rw [← r2.length]; exact F.len _ _ _ _ h
  refine wpAny_call (codeAny_mono (F.run X.A X.stack s H ⟨us, []⟩ (us ++ ds) (vs ++ dvs) Q E hr I.env0 (hb s us I.kIn hl) r2 h) fun r s' hq => ?_)
  cases r with
  | error e => exact hx pins σ H s e s' I hq
  | ok fl =>
    cases fl with
    | ret u => exact I.after hq
    | next => exact False.elim hq
    | brk => exact False.elim hq
    | cont => exact False.elim hq

theorem pe_call (F : FnOk X.prog X.w X.K X.mg X.base CX k f fd ps sp) (hr : Room k X.A) (hg : Gl X x) (hm : X.mg x = some (.ref f)) (hk : PySem.W.keepIn X.K (.ref f) = true) (hb : Binds X.K fd ps ds) (hd : Vals dvs ds) (hx : Passes CX X E)
    (ha : PA X (e :: es) t) (hdb : (x == ("__debug__" : Str)) = false := by decide) (he : starEach (e :: es) X.env = (false, eval e X.env) :: starEach es X.env := by rfl) (hpl : (backTo pos (starEach es X.env)).any (·.1) = false := by rfl) :
    PE X (.Call (.Name x p) (e :: es) [] pos) (tCall sp dvs E t) := by
  intro pins s σ H Q I h
  refine wpAny_Call_Name_kw (ld_glob I hg hm ?_ hdb)
  refine PySem.W.callWith_K (h₀ := X.base) I.ok.mod.kin hk (thn (ha pos pins s σ H _ I h) fun us s1 ⟨vs, H1, I1, r, q⟩ => ⟨I1.kIn, ?_⟩) he hpl
  exact run_fn F hr hb hd hx I1 r q
/-- what a class must have to be made -/
structure Mk (K : PySem.W.Frag) (C f : Addr) : Prop where
  makes : PySem.W.makesIn K C = true
  init : PySem.W.findIn K (.ref C) "__init__" = some (some (.ref f))
  fn : PySem.W.isFn K (.ref f) = true
  kp : PySem.W.keepIn K (.ref C) = true

end

/-! ### keywords -/
section
variable {X : Cx} {CX : CXT} {k : Nat} {f C : Addr} {fd : FuncData} {ps ks : List Str} {sp : Sp} {E : XK} {x m : Str} {p pos apos kpos : Pos} {e o : Expr} {es : List Expr} {kws : List Keyword} {te ta : TE} {t tk : TA} {nm : Option Str}
/-- how a call with keywords binds: g puts the positional values us and the keywords' values ws (names ks) in the parameters' order, defaults among them -/
structure KBinds (K : PySem.W.Frag) (fd : FuncData) (ps ks : List Str) (g : List Value → List Value → List Value) (gV : List V → List V → List V) : Prop where
  to : ∀ (s : Shared) (us ws : List Value), K.In s.heap → (g us ws).length = ps.length → BindsTo s fd ⟨us, ks.zip ws⟩ (ps.zip (g us ws))
  rel : ∀ {vs : List V} {us : List Value} {zs : List V} {ws : List Value}, Vals vs us → Vals zs ws → Vals (gV vs zs) (g us ws)
variable {g : List Value → List Value → List Value} {gV : List V → List V → List V}
end

/-! ### a def's body keeps its promise -/
/-- names: the parameters first -/
structure FnScope (N P : List Str) (sc : Scope) : Prop where
  kind : sc.kind = .function
  co : sc.isCoroutine = false
  gen : sc.isGenerator = false
  nd : N.Nodup
  pre : N.take P.length = P
  par : ∀ x ∈ P, sc.names.lookup x = some .local ∨ sc.names.lookup x = some .cell
  nofree : ∀ y ∈ sc.names, y.2 ≠ .free

theorem bindL_out {kindOf : Str → Option NameKind} {x : Str} : ∀ {binds : List (Str × Value)} {m : Str → Option Value}, (∀ v, (x, v) ∉ binds) → bindL kindOf binds m x = m x
  | [], _, _ => rfl
  | (n, v) :: r, m, h => by
    unfold bindL
    rw [bindL_out fun w hw => h w (List.mem_cons_of_mem _ hw)]
    split
    · have : x ≠ n := by rintro rfl; exact h v List.mem_cons_self
      simp [this]
    · rfl
theorem bindC_out {kindOf : Str → Option NameKind} {x : Str} : ∀ {binds : List (Str × Value)} {m : Str → Option Value}, (∀ v, (x, v) ∉ binds) → bindC kindOf binds m x = m x
  | [], _, _ => rfl
  | (n, v) :: r, m, h => by
    unfold bindC
    rw [bindC_out fun w hw => h w (List.mem_cons_of_mem _ hw)]
    split
    · rfl
    · have : x ≠ n := by rintro rfl; exact h v List.mem_cons_self
      simp [this]
theorem bindL_get {kindOf : Str → Option NameKind} {x : Str} {v : Value} : ∀ {P : List Str} {vs : List Value} {i : Nat} {m : Str → Option Value}, P.Nodup → P[i]? = some x → vs[i]? = some v → kindOf x = some .local →
    bindL kindOf (P.zip vs) m x = some v
  | [], _, _, _, _, h, _, _ => by simp at h
  | _ :: _, [], _, _, _, _, h, _ => by simp at h
  | p :: P, w :: vs, 0, m, nd, h1, h2, hk => by
    simp at h1 h2; subst h1; subst h2
    show bindL kindOf ((p, w) :: P.zip vs) m p = _
    unfold bindL
    rw [bindL_out fun v hv => (List.nodup_cons.mp nd).1 (List.of_mem_zip hv).1, if_pos hk]
    simp
  | p :: P, w :: vs, i + 1, m, nd, h1, h2, hk => by
    show bindL kindOf ((p, w) :: P.zip vs) m x = _
    unfold bindL
    exact bindL_get (i := i) (List.nodup_cons.mp nd).2 (by simpa using h1) (by simpa using h2) hk
theorem bindC_get {kindOf : Str → Option NameKind} {x : Str} {v : Value} : ∀ {P : List Str} {vs : List Value} {i : Nat} {m : Str → Option Value}, P.Nodup → P[i]? = some x → vs[i]? = some v → kindOf x ≠ some .local →
    bindC kindOf (P.zip vs) m x = some v
  | [], _, _, _, _, h, _, _ => by simp at h
  | _ :: _, [], _, _, _, _, h, _ => by simp at h
  | p :: P, w :: vs, 0, m, nd, h1, h2, hk => by
    simp at h1 h2; subst h1; subst h2
    show bindC kindOf ((p, w) :: P.zip vs) m p = _
    unfold bindC
    rw [bindC_out fun v hv => (List.nodup_cons.mp nd).1 (List.of_mem_zip hv).1, if_neg hk]
    simp
  | p :: P, w :: vs, i + 1, m, nd, h1, h2, hk => by
    show bindC kindOf ((p, w) :: P.zip vs) m x = _
    unfold bindC
    exact bindC_get (i := i) (List.nodup_cons.mp nd).2 (by simpa using h1) (by simpa using h2) hk

/-- the names' values at the entry -/
def start (N : List Str) (vs : List V) : St := vs.map some ++ List.replicate (N.length - vs.length) none

/-- the context of a def's body, at its entry; an exception leaves the frame, then lies as CX says -/
def cxOf (CX : CXT) (P : Program) (w : World) (K : PySem.W.Frag) (mg : Str → Option Value) (base : Heap) (N : List Str) (qual : Str) (scope : Scope) (f : Addr) (cd : Value) (A : Around) (outer : List Env) (s : Shared) (H : Hp) (E : XK) : Cx where
  prog := P
  w := w
  K := K
  mg := mg
  base := base
  A := A.deeper (envOfC qual scope s.heap.objs.size f cd)
  N := N
  s_0 := s
  H_0 := H
  env := envOfC qual scope s.heap.objs.size f cd
  outer := outer
  stack := envOfC qual scope s.heap.objs.size f cd :: outer
  ex := []
  calm := true
  fn := fun _ => true
  pn := []
  xe := fun e s' => wpAny (model P w) (A.deeper (envOfC qual scope s.heap.objs.size f cd)) (leaving (envOfC qual scope s.heap.objs.size f cd) e) (fun _ s'' => CX outer H s E e s'') (fun e' s'' => CX outer H s E e' s'') s'

theorem cell_has {sc : Scope} {n : Nat} {x : Str} (h : sc.names.lookup x = some .cell) : ∃ c, (cellsFrom n sc.names []).lookup x = some c := by
  have q := PySem.W.cellsFrom_some sc.names n [] (.inl h)
  exact Option.isSome_iff_exists.mp q

theorem inv_start {CX : CXT} {P : Program} {w : World} {K : PySem.W.Frag} {mg : Str → Option Value} {base : Heap} {N ps : List Str} {qual : Str} {scope : Scope} {f : Addr} {cd : Value} {A : Around} {outer : List Env} {s s1 : Shared} {H : Hp} {E : XK} {us : List Value} {vs : List V}
    (S : FnScope N ps scope) (hd : A.handled = none) (e0 : Env0 P w K mg base A outer s H) (hl : vs.length = ps.length) (r : Vals vs us)
    (x : InCallC s s.heap.objs.size (bindL (envOfC qual scope s.heap.objs.size f cd).kindOf (ps.zip us) fun _ => none) (cellsFrom (s.heap.objs.size + 1) scope.names []) (bindC (envOfC qual scope s.heap.objs.size f cd).kindOf (ps.zip us) fun _ => none) s1) :
    Inv (cxOf CX P w K mg base N qual scope f cd A outer s H E) [] (start N vs) H s1 := by
  have hpl : ps.length ≤ N.length := by have := congrArg List.length S.pre; rw [List.length_take] at this; omega
  obtain ⟨h1, tk, rfl, hk⟩ := x.done
  have noA : ∀ b : Addr, b ∉ (cxOf CX P w K mg base N qual scope f cd A outer s H E).ex := fun b z => absurd (show b ∈ ([] : List Addr) from z) (by simp)
  refine ⟨⟨e0.mod, S.kind, rfl, rfl, Nat.le_refl _, fun y z c h1 h2 => ?_, fun y hy => ?_, fun y c _ h => ?_, fun _ => hd, Around.frames_deeper e0.frames, .inr ⟨rfl, rfl⟩, fun b z => absurd z (noA b), e0.bs, e0.bsz, fun b _ _ => noA b, fun b z => absurd z (noA b), e0.funs, e0.frf⟩,
    rfl, e0.bare, Un.kept hk, ⟨_, x.toInCall.ns, fun i y v h1 h2 h3 => ?_⟩, fun y c h => ⟨_, x.cell y c h⟩, e0.hok.fresh (Nat.le_refl _), fun y c h => ?_, fun p hp => absurd (show p ∈ ([] : List (Addr × Obj)) from hp) (by simp), e0.hok.kept hk, ?_⟩
  · exact name_of_addr x.apart (PySem.mem_of_lookup h1) (PySem.mem_of_lookup h2)
  · have hy : scope.names.lookup y = some .cell ∨ scope.names.lookup y = some .free := hy
    rcases hy with hy | hy
    · exact cell_has hy
    · exact absurd rfl (S.nofree _ (PySem.mem_of_lookup hy))
  · exact Nat.le_of_lt (x.above y c (PySem.mem_of_lookup h))
  · have hi : i < vs.length := by
      unfold start at h2
      by_cases hi : i < vs.length
      · exact hi
      · rw [List.getElem?_append_right (by simpa using hi)] at h2
        rw [List.getElem?_replicate] at h2
        split at h2 <;> cases h2
    have ha : vs[i]? = some v := by
      unfold start at h2
      rw [List.getElem?_append_left (by simpa using hi), List.getElem?_map] at h2
      cases e : vs[i]? with
      | none => rw [e] at h2; cases h2
      | some a => rw [e] at h2; cases h2; rfl
    obtain ⟨u, hu, rv⟩ := r.get ha
    have hp : ps[i]? = some y := by
      rw [← S.pre, List.getElem?_take_of_lt (by omega)]; exact h1
    have ndP : ps.Nodup := by rw [← S.pre]; exact S.nd.sublist (List.take_sublist _ _)
    refine ⟨u, rv, ?_⟩
    rcases S.par y (List.mem_of_getElem? hp) with k | k
    · exact .inl ⟨k, bindL_get ndP hp hu k⟩
    · obtain ⟨c, e⟩ := cell_has (n := s.heap.objs.size + 1) k
      refine .inr ⟨.inl k, c, e, ?_⟩
      have q := x.cell y c e
      rw [bindC_get ndP hp hu (by show scope.names.lookup y ≠ _; rw [k]; decide)] at q
      exact q
  · exact e0.hok.fresh (Nat.le_of_lt (x.above y c (PySem.mem_of_lookup h)))
  · unfold start
    show _ = N.length
    rw [List.length_append, List.length_map, List.length_replicate]
    omega

/-- THE RULE: a def (or a method) of the text, by its body. The body's reading t is chosen for each entry; it is run at the parameters' values -/
theorem fn_of {CX : CXT} {P : Program} {w : World} {K : PySem.W.Frag} {mg : Str → Option Value} {base : Heap} {k : Nat} {f : Addr} {name qual : Str} {params : Arguments} {body : List Stmt} {scope : Scope} {dV kV doc pm cdv ct oc : Value} {an od : Option Addr}
    {osl : Array (Option Value)} {N ps : List Str} {sp : Sp} (lk : K.lookup f = some ⟨oc, od, .func (PySem.W.fnOf name qual params body scope dV kV doc pm an cdv ct), osl⟩) (hcd : PySem.W.codeIn K cdv qual = true) (S : FnScope N ps scope)
    (len : ∀ vs H Q E, sp vs H Q E → vs.length = ps.length)
    (hbody : ∀ (A : Around) (outer : List Env) (s : Shared) (H : Hp) (vs : List V) (Q : VK) (E : XK), Room k (A.deeper (envOfC qual scope s.heap.objs.size f cdv)) → sp vs H Q E →
      ∃ t, PSs (cxOf CX P w K mg base N qual scope f cdv A outer s H E) body t ∧ t { nx := fun _ H' => Q .non H', rt := Q } (start N vs) H) :
    FnOk P w K mg base CX (k + 1) f (PySem.W.fnOf name qual params body scope dV kV doc pm an cdv ct) ps sp := by
  refine ⟨len, fun A outer s H args us vs Q E hr e0 hb r hsp => ?_⟩
  have hl := len _ _ _ _ hsp
  have KX : K.In s.heap := e0.mod.kin.keeps fun b o e => (e0.bs b o e).1
  have lim : s.heap.NoLimit := e0.mod.nolimit.keeps fun b o e => (e0.bs b o e).1
  have hkind : ∀ y ∈ ps.zip us, scope.names.lookup y.1 = some .local ∨ (scope.names.lookup y.1 = some .cell ∧ ((cellsFrom (s.heap.objs.size + 1) scope.names []).lookup y.1).isSome = true) := fun ⟨n, v⟩ hy => by
    rcases S.par n (List.of_mem_zip hy).1 with q | q
    · exact .inl q
    · exact .inr ⟨q, PySem.W.cellsFrom_some _ _ _ (.inl q)⟩
  refine codeAny_call_function hr.depth (KX _ _ lk) rfl S.co S.gen rfl (PySem.W.codeRec_of KX hcd) (hb _ _ _ _ ?_)
  refine wpAny_newFunctionEnv_cells S.kind hkind fun env he s1 x => ?_
  subst he
  refine ⟨lim.keeps x.toInCall.keep, codeAny_func ?_⟩
  obtain ⟨t, ht, hq⟩ := hbody A outer s H vs Q E (hr.deeper _) hsp
  have I : Inv (cxOf CX P w K mg base N qual scope f cdv A outer s H E) [] (start N vs) H s1 := inv_start S hr.hd e0 hl r x
  refine wpAny_mono (ht [] s1 (start N vs) H _ I hq) (fun fl s' hs => ?_) fun e s' hs => hs
  have fin : ∀ {σ' : St} {H' : Hp} {v : V} {u : Value}, Inv (cxOf CX P w K mg base N qual scope f cdv A outer s H E) [] σ' H' s' → RelV v u → Q v H' → CE outer P w H s Q u s' :=
    fun {σ' H' v u} J rv q => ⟨v, H', J.os, J.bare, J.base, J.hok, rv, q⟩
  cases fl with
  | ret u =>
    obtain ⟨v, σ', H', J, rv, q⟩ := hs
    exact fin J rv q
  | next =>
    obtain ⟨σ', H', J, q⟩ := hs
    exact fin (v := V.non) (u := Value.none) J rfl q
  | brk =>
    obtain ⟨_, _, _, q⟩ := hs
    exact False.elim q
  | cont =>
    obtain ⟨_, _, _, q⟩ := hs
    exact False.elim q
end L2

namespace L2
open PySem PySem.Spec PyProof.Rows
section
variable {X : Cx} {x : Str} {p pos : Pos} {e : Expr} {es : List Expr} {t : TA} {id T : String} {r : List V → Hp → VK → Prop}

def tCB (r : List V → Hp → VK → Prop) (t : TA) : TE := fun σ H Q => t σ H fun vs H1 => r vs H1 Q
/-- f(e, ..), f a built-in function -/
theorem pe_callB (hc : CallR X (.builtin id) r) (hg : Gl X x) (hm : X.mg x = none) (hv : bootBuiltins x = some (.builtin id)) (ha : PA X (e :: es) t) (hn : x ≠ "__name__" := by decide) (hdb : (x == ("__debug__" : Str)) = false := by decide)
    (he : starEach (e :: es) X.env = (false, eval e X.env) :: starEach es X.env := by rfl) (hpl : (backTo pos (starEach es X.env)).any (·.1) = false := by rfl) : PE X (.Call (.Name x p) (e :: es) [] pos) (tCB r t) := by
  intro pins s σ H Q I h
  refine wpAny_Call_Name_kw (ld_blt I hg hm hv ?_ hn hdb)
  exact PyProof.Rows.callWith_builtin1 (thn (ha pos pins s σ H _ I h) fun us s1 ⟨vs, H1, I1, r1, q1⟩ => hc pins s1 σ H1 vs us Q I1 r1 q1) he hpl
/-- T(e, ..), T a built-in type -/
theorem pe_callTy (hc : CallR X (.type T) r) (hg : Gl X x) (hm : X.mg x = none) (hv : bootBuiltins x = some (.type T)) (ha : PA X (e :: es) t) (hn : x ≠ "__name__" := by decide) (hdb : (x == ("__debug__" : Str)) = false := by decide)
    (he : starEach (e :: es) X.env = (false, eval e X.env) :: starEach es X.env := by rfl) (hpl : (backTo pos (starEach es X.env)).any (·.1) = false := by rfl) : PE X (.Call (.Name x p) (e :: es) [] pos) (tCB r t) := by
  intro pins s σ H Q I h
  refine wpAny_Call_Name_kw (ld_blt I hg hm hv ?_ hn hdb)
  exact PyProof.Rows.callWith_type1 (thn (ha pos pins s σ H _ I h) fun us s1 ⟨vs, H1, I1, r1, q1⟩ => hc pins s1 σ H1 vs us Q I1 r1 q1) he hpl
end
end L2

namespace HT
open PySem PyProof.Rows

section
open PySem.SeqAt
open PySem.AutoSeq1 (wpAny_loadPart')
open PySem.MeetsSeq PySem.MeetsSeq2 PySem.MeetsSeq3

end

section
variable {prog : Program} {w : World} {A : Around} {E : Value → Shared → Prop} {s : Shared}

/-- t + u, t not empty -/
theorem cat_tup {t b : Addr} {vs ws : List Value} {Q : Value → Shared → Prop} (ht : IsTup s.heap t vs.toArray) (hb : IsTup s.heap b ws.toArray) (hv : vs ≠ [])
    (h1 : ws = [] → Q (.ref t) s) (h2 : ws ≠ [] → Q (.ref s.heap.objs.size) { s with heap := s.heap.push { cls := .type "tuple", data := .seq (vs ++ ws).toArray } })
    (hsz : vs.length + ws.length ≤ sizeLine) : wpAny (model prog w) A (binaryOp .Add (.ref t) (.ref b)) Q E s := by
  obtain ⟨⟨cls, dd, data, sl⟩, ho, hc, n, hd⟩ := id ht
  obtain ⟨⟨cls2, dd2, data2, sl2⟩, ho2, hc2, n2, hd2⟩ := id hb
  simp only at hc hd hc2 hd2
  subst hc hd hc2 hd2
  have e : vs.toArray ++ ws.toArray = (vs ++ ws).toArray := by simp
  by_cases hw : ws = []
  · exact concat_meets ⟨_, ho, rfl⟩ ⟨_, ho2, rfl⟩ noFill_tuple_add seq_tuple_add PySem.F.slot_tuple_add PySem.F.entry_tuple_add (PySem.F.args_tuple_add_2 _ _)
      (tuple_addW1 t b vs.toArray ws.toArray n n2 dd dd2 sl sl2 (by simpa using hv) (by simp [hw])) ⟨ho, ho2, h1 hw⟩
  · refine concat_meets ⟨_, ho, rfl⟩ ⟨_, ho2, rfl⟩ noFill_tuple_add seq_tuple_add PySem.F.slot_tuple_add PySem.F.entry_tuple_add (PySem.F.args_tuple_add_2 _ _)
      (tuple_addW2 t b vs.toArray ws.toArray n n2 dd dd2 sl sl2 (by simpa using hv) (by simpa using hw) (by rw [List.size_toArray, List.size_toArray]; exact hsz)) ⟨ho, ho2, ?_⟩
    rw [e]
    exact h2 hw

/-! ### t[a:b], not the whole -/
/-- a slice's bound as a place among n (d where it is left out) -/
def sIx (n d : Nat) : Option Int → Nat
  | none => d
  | some v => if v < 0 then (v + (n : Int)).toNat else min v.toNat n
theorem sIx_none (n d : Nat) : sIx n d none = d := rfl
theorem sIx_nat (n d k : Nat) : sIx n d (some (k : Int)) = min k n := by
  show (if (k : Int) < 0 then ((k : Int) + (n : Int)).toNat else min (k : Int).toNat n) = min k n
  rw [if_neg (by omega), Int.toNat_natCast]
end
end HT

namespace L2
open PySem PySem.Spec PyProof.Rows

/-! ### the parts of a slice -/
abbrev TO := St → Hp → (Option Int → Hp → Prop) → Prop
/-- a slice's part (left out, or an int) -/
def PO (X : Cx) (e : Option Expr) (t : TO) : Prop :=
  ∀ (pins : List (Addr × Obj)) (s : Shared) (σ : St) (H : Hp) (Q : Option Int → Hp → Prop), Inv X pins σ H s → t σ H Q →
    wpAny (model X.prog X.w) X.A (evalPart e X.env) (fun u s' => ∃ o H', Inv X pins σ H' s' ∧ IsPart u o ∧ Q o H') X.xe s
def tNoPart : TO := fun _ H Q => Q none H
def tPart (t : TE) : TO := fun σ H Q => t σ H fun x H1 => ∃ i, x = .int i ∧ Q (some i) H1

section
variable {X : Cx} {e : Expr} {te : TE} {lo hi : Option Expr} {tl th : TO} {pos p2 : Pos}

theorem po_none : PO X none tNoPart := by
  intro pins s σ H Q I h
  rw [evalPart_none]
  exact wpAny_pure ⟨none, H, I, .none, h⟩
theorem po_some (h : PE X e te) : PO X (some e) (tPart te) := by
  intro pins s σ H Q I hw
  rw [evalPart_some]
  refine thn (h pins s σ H _ I hw) fun u s1 ⟨x, H1, I1, r1, q1⟩ => ?_
  obtain ⟨i, rfl, q⟩ := q1
  obtain ⟨t, rfl⟩ := r1
  exact ⟨some i, H1, I1, .int i t, q⟩

/-- what a slice of a value is, by values: the slice object stands at sl -/
def SlR (X : Cx) (r : V → Option Int → Option Int → Hp → VK → Prop) : Prop :=
  ∀ (pins : List (Addr × Obj)) (s : Shared) (σ : St) (H : Hp) (x : V) (v vl vu : Value) (lo hi : Option Int) (sl : Addr) (Q : VK), Inv X pins σ H s → RelV x v → s.heap.IsSliceOf sl vl vu .none → IsPart vl lo → IsPart vu hi → r x lo hi H Q →
    ∃ T id, typeLookup (.type T) "__getitem__" = pure (some (.builtin id)) ∧ s.TypeIs v T ∧ wpAny (model X.prog X.w) X.A (getItem v (.ref sl)) (EP X pins σ Q) X.xe s
theorem SlR.or {r r' : V → Option Int → Option Int → Hp → VK → Prop} (h : SlR X r) (h' : SlR X r') : SlR X (fun x lo hi H Q => r x lo hi H Q ∨ r' x lo hi H Q) := by
  intro pins s σ H x v vl vu lo hi sl Q I rx hs pl pu q
  rcases q with q | q
  · exact h pins s σ H x v vl vu lo hi sl Q I rx hs pl pu q
  · exact h' pins s σ H x v vl vu lo hi sl Q I rx hs pl pu q
def tSl (r : V → Option Int → Option Int → Hp → VK → Prop) (te : TE) (tl th : TO) : TE := fun σ H Q => te σ H fun x H1 => tl σ H1 fun l H2 => th σ H2 fun u H3 => r x l u H3 Q
/-- a[lo:hi], any a -/
theorem pe_slice {r : V → Option Int → Option Int → Hp → VK → Prop} (hr : SlR X r) (he : PE X e te) (hl : PO X lo tl) (hu : PO X hi th) : PE X (.Subscript e (.Slice lo hi none p2) pos) (tSl r te tl th) := by
  intro pins s σ H Q I h
  refine Subscript_ (thn (he pins s σ H _ I h) fun v s1 ⟨x, H1, I1, r1, q1⟩ => ?_)
  refine wpAny_Slice (thn (hl pins s1 σ H1 _ I1 q1) fun vl s2 ⟨l, H2, I2, pl, q2⟩ => thn (hu pins s2 σ H2 _ I2 q2) fun vu s3 ⟨u, H3, I3, pu, q3⟩ => ?_)
  rw [evalPart_none]
  refine wpAny_pure ?_
  have I4 : Inv X pins σ H3 { s3 with heap := s3.heap.push { cls := .type "slice", data := .fields #[vl, vu, .none] } } := I3.kept (t' := s3.toks) fun b ob q => Heap.get?_push_of_some _ q
  obtain ⟨T, id, hT, ht, hg⟩ := hr pins { s3 with heap := s3.heap.push { cls := .type "slice", data := .fields #[vl, vu, .none] } } σ H3 x v vl vu l u s3.heap.objs.size Q I4 r1 (Heap.IsSliceOf.new ..) pl pu q3
  show wpAny (model X.prog X.w) X.A (subscriptTail e (.Slice lo hi none p2) v (.ref s3.heap.objs.size)) (EP X pins σ Q) X.xe { s3 with heap := s3.heap.push { cls := .type "slice", data := .fields #[vl, vu, .none] } }
  exact tail_any (ops := [.ref s3.heap.objs.size, v]) ht hT hg (by with_unfolding_all rfl)

/-- the items of xs[lo:hi] -/
def cutV (xs : List V) (lo hi : Option Int) : List V := (xs.drop (HT.sIx xs.length 0 lo)).take (HT.sIx xs.length xs.length hi - HT.sIx xs.length 0 lo)
theorem cutV_length (xs : List V) (lo hi : Option Int) : (cutV xs lo hi).length ≤ xs.length := by
  unfold cutV
  rw [List.length_take, List.length_drop]
  omega
/-! ### t < u, t + u -/
/-- t + u, t not empty: u empty gives t itself -/
def rCatT (K : PySem.W.Frag) : R2 := fun x y H Q => ∃ a b xs ys, x = .ref a ∧ y = .ref b ∧ SqT K H a xs ∧ SqT K H b ys ∧ xs ≠ [] ∧ xs.length + ys.length ≤ sizeLine ∧
  (ys = [] → Q (.ref a) H) ∧ (ys ≠ [] → ∀ p, H p = none → Q (.ref p) (upd H p (.tup (xs ++ ys))))
theorem Vals.nil_iff {xs : List V} {us : List Value} (r : Vals xs us) : us = [] ↔ xs = [] := by
  cases r with
  | nil => simp
  | cons _ _ => simp
theorem op_catT : OpR X (binaryOp .Add) (rCatT X.K) := by
  intro pins s σ H x y v u Q I rx ry h
  obtain ⟨a, b, xs, ys, rfl, rfl, ha, hb, hx, hz, q1, q2⟩ := h
  cases rx
  cases ry
  obtain ⟨its, r1, p1, _⟩ := I.tuple ha
  obtain ⟨its2, r2, p2, _⟩ := I.tuple hb
  refine HT.cat_tup p1 p2 (fun z => hx (r1.nil_iff.mp z)) (fun z => ⟨.ref a, H, I, rfl, q1 (r2.nil_iff.mp z)⟩) (fun z => ?_) (by rw [← r1.length, ← r2.length]; exact hz)
  refine ⟨.ref s.heap.objs.size, _, I.laid (t' := s.toks) (o := .tup (xs ++ ys)) (fun b ob q => Heap.get?_push_of_some _ q) (Nat.le_refl _) ?_, rfl, q2 (fun w => z (r2.nil_iff.mpr w)) _ (I.hok.fresh (Nat.le_refl _))⟩
  exact ⟨by rw [List.length_append]; exact hz, _, r1.append r2, PlainT.new _ _⟩
end
end L2

namespace L2
open PySem PySem.Spec PyProof.Rows

/-! ### places -/
/-- the place that an index of any sign means -/
def ixN (n : Nat) (i : Int) : Option Nat := if 0 ≤ i then (if i < n then some i.toNat else none) else if -(n : Int) ≤ i then some (i + n).toNat else none
def atI {α : Type} (xs : List α) (i : Int) : Option α := (ixN xs.length i).bind fun j => xs[j]?
theorem ixN_seq {n : Nat} {i : Int} {j : Nat} (h : ixN n i = some j) : seqIndex? i n = some j ∧ j < n ∧ -(n : Int) ≤ i ∧ i < n := by
  unfold ixN at h
  by_cases h0 : 0 ≤ i
  · rw [if_pos h0] at h
    by_cases h1 : i < n
    · rw [if_pos h1] at h
      have e : i.toNat = j := Option.some.inj h
      exact ⟨by rw [seqIndex_of h0 h1, e], by omega, by omega, h1⟩
    · rw [if_neg h1] at h; cases h
  · rw [if_neg h0] at h
    by_cases h1 : -(n : Int) ≤ i
    · rw [if_pos h1] at h
      have e : (i + n).toNat = j := Option.some.inj h
      exact ⟨by rw [seqIndex_neg (by omega) h1, e], by omega, h1, by omega⟩
    · rw [if_neg h1] at h; cases h
theorem atI_get {α : Type} {xs : List α} {i : Int} {v : α} (h : atI xs i = some v) : ∃ j, seqIndex? i xs.length = some j ∧ xs[j]? = some v ∧ j < xs.length ∧ -(xs.length : Int) ≤ i ∧ i < xs.length := by
  unfold atI at h
  cases e : ixN xs.length i with
  | none => rw [e] at h; cases h
  | some j =>
    rw [e] at h
    obtain ⟨h1, h2, h3, h4⟩ := ixN_seq e
    exact ⟨j, h1, h, h2, h3, h4⟩
/-! ### what may be subscripted -/
/-- what stands as an index of a plain subscript -/
def PlainIx (b : Expr) : Prop := ∀ o i, subscripted b false o i = operate [o, i] (getItem o i)
/-- a subscript by values -/
def IxR (X : Cx) (r : R2) : Prop :=
  ∀ (value slice : Expr) (pins : List (Addr × Obj)) (s : Shared) (σ : St) (H : Hp) (x y : V) (v u : Value) (Q : VK), Inv X pins σ H s → RelV x v → RelV y u → r x y H Q →
    subscripted slice false v u = operate [v, u] (getItem v u) → wpAny (model X.prog X.w) X.A (subscriptTail value slice v u) (EP X pins σ Q) X.xe s
/-- a call of a builtin's method by values: the receiver, the arguments -/
def MtR (X : Cx) (id : String) (r : V → List V → Hp → VK → Prop) : Prop :=
  ∀ (pins : List (Addr × Obj)) (s : Shared) (σ : St) (H : Hp) (x : V) (xs : List V) (v : Value) (us : List Value) (Q : VK), Inv X pins σ H s → RelV x v → Vals xs us → r x xs H Q →
    wpAny (model X.prog X.w) X.A (call (.builtin id) (v :: us)) (EP X pins σ Q) X.xe s
section
variable {X : Cx} {a b : Expr} {ta tb : TE} {pos : Pos}
theorem IxR.or {r r' : R2} (h : IxR X r) (h' : IxR X r') : IxR X (fun x y H Q => r x y H Q ∨ r' x y H Q) := by
  intro value slice pins s σ H x y v u Q I rx ry q hs
  rcases q with q | q
  · exact h value slice pins s σ H x y v u Q I rx ry q hs
  · exact h' value slice pins s σ H x y v u Q I rx ry q hs
theorem MtR.or {id : String} {r r' : V → List V → Hp → VK → Prop} (h : MtR X id r) (h' : MtR X id r') : MtR X id (fun x xs H Q => r x xs H Q ∨ r' x xs H Q) := by
  intro pins s σ H x xs v us Q I rx rs q
  rcases q with q | q
  · exact h pins s σ H x xs v us Q I rx rs q
  · exact h' pins s σ H x xs v us Q I rx rs q
/-- a[b] -/
theorem pe_ix {r : R2} (hr : IxR X r) (ha : PE X a ta) (hb : PE X b tb) (hs : PlainIx b) : PE X (.Subscript a b pos) (tOp r ta tb) := by
  intro pins s σ H Q I h
  exact Subscript_ (binT ha hb I h fun v u s2 x y H2 I2 rx ry q => hr a b pins s2 σ H2 x y v u Q I2 rx ry q (hs _ _))

def rIxL (K : PySem.W.Frag) : R2 := fun x y H Q => ∃ p xs i v, x = .ref p ∧ y = .int i ∧ SqL K H p xs ∧ atI xs i = some v ∧ Q v H
def rIxT (K : PySem.W.Frag) : R2 := fun x y H Q => ∃ p xs i v, x = .ref p ∧ y = .int i ∧ SqT K H p xs ∧ atI xs i = some v ∧ Q v H
def rIxS : R2 := fun x y H Q => ∃ z i c, x = .str z ∧ y = .int i ∧ z.length ≤ sizeLine ∧ atI z.cps.toList i = some c ∧ Q (.str ⟨#[c]⟩) H
theorem ix_list : IxR X (rIxL X.K) := by
  intro value slice pins s σ H x y v u Q I rx ry h hs
  obtain ⟨p, xs, i, z, rfl, rfl, hq, he, q⟩ := h
  cases rx
  obtain ⟨t, rfl⟩ := ry
  obtain ⟨its, r, pl, hz⟩ := I.list hq
  obtain ⟨j, h1, h2, h3, h4, h5⟩ := atI_get he
  obtain ⟨w, ew, rw'⟩ := r.get h2
  have hl := r.length
  have hn := line63
  have fin : EP X pins σ Q w s := ⟨z, H, I, rw', q⟩
  by_cases h0 : 0 ≤ i
  · have hj : i.toNat = j := by
      rw [seqIndex_of h0 h5] at h1
      exact Option.some.inj h1
    exact item_listR pl.isList h0 (by omega) (by rw [hj]; simpa using ew) fin hs
  · have hj : (i + (its.toArray.size : Int)).toNat = j := by
      rw [seqIndex_neg (by omega) h4] at h1
      rw [List.size_toArray, ← hl]
      exact Option.some.inj h1
    exact subscriptTail_builtinR (x := w) pl.isList.typeIs slot_list_getitem.lookup
      (wpAny_getItem_list_neg (Q := fun r s' => r = w ∧ EP X pins σ Q r s') pl.isList (by omega) (by rw [List.size_toArray] <;> omega) (by omega) (by rw [hj]; simpa using ew) ⟨rfl, fin⟩) hs
theorem ix_tup : IxR X (rIxT X.K) := by
  intro value slice pins s σ H x y v u Q I rx ry h hs
  obtain ⟨p, xs, i, z, rfl, rfl, hq, he, q⟩ := h
  cases rx
  obtain ⟨t, rfl⟩ := ry
  obtain ⟨its, r, pl, hz⟩ := I.tuple hq
  obtain ⟨j, h1, h2, h3, h4, h5⟩ := atI_get he
  obtain ⟨w, ew, rw'⟩ := r.get h2
  have hl := r.length
  have hn := line63
  have fin : EP X pins σ Q w s := ⟨z, H, I, rw', q⟩
  exact subscriptTail_builtinR (x := w) pl.typeIs slot_tuple_getitem.lookup
    (getItem_tuple (j := j) (Q := fun r s' => r = w ∧ EP X pins σ Q r s') pl (by omega) (by omega) (by rw [List.size_toArray, ← hl]; exact h1) (by simpa using ew) ⟨rfl, fin⟩) hs
theorem ix_str : IxR X rIxS := by
  intro value slice pins s σ H x y v u Q I rx ry h hs
  obtain ⟨z, i, c, rfl, rfl, hz, he, q⟩ := h
  obtain ⟨t, rfl⟩ := rx
  obtain ⟨t', rfl⟩ := ry
  obtain ⟨j, h1, h2, h3, h4, h5⟩ := atI_get he
  have hl : z.cps.toList.length = z.length := by simp [Str.length]
  rw [hl] at h1 h4 h5
  have hn := line63
  exact tail_any (typeIs_str s z t) slot_str_getitem.lookup (getItem_str (c := c) (by
    have e1 : decide (i < -(2 ^ 63 : Int)) = false := decide_eq_false (by omega)
    have e2 : decide (i ≥ 2 ^ 63) = false := decide_eq_false (by omega)
    rw [e1, e2, Bool.or_false]) (by rw [h1]; simpa using h2) ⟨.str ⟨#[c]⟩, H, I.tok _, ⟨_, rfl⟩, q⟩) hs
/-! ### xs[i] = v, any sign -/
theorem Inv.lst {pins : List (Addr × Obj)} {σ : St} {H : Hp} {s : Shared} {p : Addr} {xs : List V} (I : Inv X pins σ H s) (h : H p = some (.lst xs)) :
    ∃ (its : List Value) (n : Nat), Vals xs its ∧ s.heap.get? p = some { cls := .type "list", data := .seq its.toArray n } ∧ xs.length ≤ sizeLine := by
  obtain ⟨z, its, n, r, e⟩ := I.hok p _ h
  exact ⟨its, n, r, e, z⟩
/-! ### slices -/
theorem slice_bounds (lo hi : Option Int) (n : Nat) : (sliceBounds lo hi none n).1 = ((HT.sIx n 0 lo : Nat) : Int) ∧ (sliceBounds lo hi none n).2.1 = ((HT.sIx n n hi : Nat) : Int) ∧ (sliceBounds lo hi none n).2.2 = 1 := by
  refine ⟨?_, ?_, rfl⟩
  · cases lo with
    | none => simp [sliceBounds, HT.sIx]
    | some i =>
      simp only [sliceBounds, HT.sIx, Option.getD_none, show (1 : Int) > 0 by decide, if_true]
      by_cases h : i < 0
      · simp only [h, if_true] <;> omega
      · simp only [h, if_false] <;> omega
  · cases hi with
    | none => simp [sliceBounds, HT.sIx]
    | some i =>
      simp only [sliceBounds, HT.sIx, Option.getD_none, show (1 : Int) > 0 by decide, if_true]
      by_cases h : i < 0
      · simp only [h, if_true] <;> omega
      · simp only [h, if_false] <;> omega
theorem slicePick_cut (its : List Value) (lo hi : Option Int) : slicePick its.toArray lo hi none = ((its.drop (HT.sIx its.length 0 lo)).take (HT.sIx its.length its.length hi - HT.sIx its.length 0 lo)).toArray := by
  obtain ⟨h1, h2, h3⟩ := slice_bounds lo hi its.toArray.size
  unfold slicePick
  rw [h1, h2, h3]
  simp only [sliceRange_one, pick_run, List.size_toArray] <;> rfl
/-- xs[lo:hi] of a list: a new list -/
def rSlL (K : PySem.W.Frag) : V → Option Int → Option Int → Hp → VK → Prop := fun x lo hi H Q => ∃ a xs, x = .ref a ∧ SqL K H a xs ∧ ∀ p, H p = none → Q (.ref p) (upd H p (.lst (cutV xs lo hi)))
theorem sl_list : SlR X (rSlL X.K) := by
  intro pins s σ H x v vl vu lo hi sl Q I rx hs pl pu h
  obtain ⟨a, xs, rfl, hx, q⟩ := h
  cases rx
  obtain ⟨its, r, ht, hz⟩ := I.list hx
  have hlen := r.length
  refine ⟨"list", _, slot_list_getitem.lookup, ht.isList.typeIs, ?_⟩
  refine wpAny_getItem_list_slice ht.isList hs pl pu .none (by simp) ?_ (by rw [List.size_toArray] <;> omega)
  rw [slicePick_cut, ← hlen]
  refine ⟨.ref s.heap.objs.size, _, I.laid (t' := s.toks) (o := .lst (cutV xs lo hi)) (fun b ob q => Heap.get?_push_of_some _ q) (Nat.le_refl _) ?_, rfl, q _ (I.hok.fresh (Nat.le_refl _))⟩
  exact ⟨Nat.le_trans (cutV_length xs lo hi) hz, _, 0, (r.drop (HT.sIx xs.length 0 lo)).take (HT.sIx xs.length xs.length hi - HT.sIx xs.length 0 lo), Heap.get?_push_size _ rfl⟩

/-! ### in, not in: flat items -/
/-! ### len, list(x), tuple(x) of any list or tuple that is read -/
theorem CallR.or {f : Value} {r r' : List V → Hp → VK → Prop} (h : CallR X f r) (h' : CallR X f r') : CallR X f (fun xs H Q => r xs H Q ∨ r' xs H Q) := by
  intro pins s σ H xs us Q I rs q
  rcases q with q | q
  · exact h pins s σ H xs us Q I rs q
  · exact h' pins s σ H xs us Q I rs q
theorem call_tuple_of : CallR X (.type "tuple") (fun xs H Q => ∃ p ys, xs = [.ref p] ∧ ((SqL X.K H p ys ∧ ∀ l, H l = none → Q (.ref l) (upd H l (.tup ys))) ∨ (SqT X.K H p ys ∧ Q (.ref p) H))) := by
  intro pins s σ H xs us Q I r h
  obtain ⟨p, ys, rfl, h⟩ := h
  obtain ⟨u, rfl, rx⟩ := vals1 r
  cases rx
  rcases h with ⟨hq, q⟩ | ⟨hq, q⟩
  · obtain ⟨its, r', pl, hz⟩ := I.list hq
    have hlen := r'.length
    refine call_tuple_list pl.isList (fun h' kp => ?_) (by simp only [List.size_toArray] <;> omega)
    have I1 : Inv X pins σ H { s with heap := h' } := I.kept (t' := s.toks) kp
    have I2 : Inv X pins σ (upd H h'.objs.size (.tup ys)) { s with heap := h'.push { cls := .type "tuple", data := .seq its.toArray } } :=
      I1.laid (t' := s.toks) (fun b o e => Heap.get?_push_of_some _ e) (Nat.le_refl _) (show ObjOk X.prog X.w _ _ _ (.tup ys) from ⟨hz, its, r', PlainT.new _ _⟩)
    exact ⟨.ref h'.objs.size, _, I2, rfl, q _ (I1.hok.fresh (Nat.le_refl _))⟩
  · obtain ⟨its, r', pl, hz⟩ := I.tuple hq
    exact call_tuple_same pl ⟨.ref p, H, I, rfl, q⟩

/-! ### the call of a builtin's method: o.m(..) -/
variable {o e : Expr} {es : List Expr} {to : TE} {t : TA} {name : Str} {apos cpos : Pos} {T id : String} {r : V → List V → Hp → VK → Prop}
/- xs.append(e), list.index on a module's tuple .. are MtR facts of 06m -/
end
end L2

namespace L2
open PySem PySem.Spec PyProof.Rows

/-! ### lists of values -/
theorem Vals.one : ∀ {x : V} {us : List Value}, Vals [x] us → ∃ u, us = [u] ∧ RelV x u
  | _, _, .cons r .nil => ⟨_, rfl, r⟩
theorem Vals.two : ∀ {x y : V} {us : List Value}, Vals [x, y] us → ∃ u v, us = [u, v] ∧ RelV x u ∧ RelV y v
  | _, _, _, .cons r (.cons q .nil) => ⟨_, _, rfl, r, q⟩
theorem Vals.zero : ∀ {us : List Value}, Vals [] us → us = []
  | _, .nil => rfl
theorem Vals.dropLast {xs : List V} {us : List Value} (h : Vals xs us) : Vals xs.dropLast us.dropLast := by
  induction h with
  | nil => exact .nil
  | cons r t ih =>
    cases t with
    | nil => exact .nil
    | cons q t' => exact .cons r ih
theorem Vals.reverse {xs : List V} {us : List Value} (h : Vals xs us) : Vals xs.reverse us.reverse := by
  induction h with
  | nil => exact .nil
  | cons r t ih => rw [List.reverse_cons, List.reverse_cons]; exact Vals.append ih (.cons r .nil)
section
variable {X : Cx} {pins : List (Addr × Obj)} {σ : St} {H : Hp} {s : Shared} {l b : Addr} {xs ys zs : List V}

/-! ### the two steps: a tracked list is rewritten, a new list is laid -/
theorem Inv.lnew {its : List Value} {t' : Nat} (I : Inv X pins σ H s) (hv : Vals ys its) (hz : ys.length ≤ sizeLine) :
    Inv X pins σ (upd H s.heap.objs.size (.lst ys)) { s with heap := s.heap.push { cls := .type "list", data := .seq its.toArray }, toks := t' } :=
  I.laid (fun _ _ q => Heap.get?_push_of_some _ q) (Nat.le_refl _) ⟨hz, its, 0, hv, Heap.get?_push_size _ rfl⟩
theorem Inv.fresh (I : Inv X pins σ H s) : H s.heap.objs.size = none := I.hok.fresh (Nat.le_refl _)
end

section
variable {X : Cx}

/-! ### methods -/
/-! ### list + list, list += list, list * int -/
/-! ### del xs[i] -/
end

/-! ### xs[a:b] = ys -/
section
variable {prog : Program} {w : World} {A : Around} {E : Value → Shared → Prop} {s : Shared}
end

section
variable {X : Cx}
end
end L2

namespace L2
open PySem PySem.Spec PyProof.Rows

theorem Vals.ints : ∀ {ns : List Int} {us : List Value}, Vals (ns.map V.int) us → IntsAre us ns
  | [], us, h => by
    rw [List.map_nil] at h
    cases h
    exact IntsAre.nil
  | n :: ns, us, h => by
    rw [List.map_cons] at h
    cases h with
    | cons r t =>
      obtain ⟨k, rfl⟩ := r
      exact IntsAre.cons n k (Vals.ints t)
theorem Vals.strs : ∀ {xs : List Str} {us : List Value}, Vals (xs.map V.str) us → StrsAre us xs
  | [], us, h => by
    rw [List.map_nil] at h
    cases h
    exact StrsAre.nil
  | x :: xs, us, h => by
    rw [List.map_cons] at h
    cases h with
    | cons r t =>
      obtain ⟨k, rfl⟩ := r
      exact StrsAre.cons x k (Vals.strs t)
/-! ### the library's walks over a list of ints, kept objects alone -/
section
variable {prog : Program} {w : World} {A : Around} {E : Value → Shared → Prop} {s : Shared} {l : Addr} {its : List Value} {ns : List Int} {Q : Value → Shared → Prop}
end

/-! ### the calls, by values (CallR of 03t; MtR of 06l) -/
section
variable {X : Cx}
/-! sorted, sort (fewer than 64 items: the library's own bound) -/
end

/-! ### list.index, flat items -/
section
variable {X : Cx}
end

/-! ### type(x) of an own instance; is, is not of a module's class -/
section
variable {X : Cx}
end

/-! ### any(xs), all(xs) of a list of bools -/
section
variable {X : Cx}
end

/-! ### == and != of data at any depth: none, bools, ints, texts, lists, tuples -/
mutual
inductive Dp (K : PySem.W.Frag) (H : Hp) : V → PyData → Prop
  | non : Dp K H .non .none
  | bl (b : Bool) : Dp K H (.bl b) (.bool b)
  | int (i : Int) : Dp K H (.int i) (.int i)
  | str (x : Str) : Dp K H (.str x) (.str x)
  | lst {a : Addr} {xs : List V} {ds : List PyData} : SqL K H a xs → DpAll K H xs ds → Dp K H (.ref a) (.list ds)
  | tup {a : Addr} {xs : List V} {ds : List PyData} : SqT K H a xs → DpAll K H xs ds → Dp K H (.ref a) (.tuple ds)
inductive DpAll (K : PySem.W.Frag) (H : Hp) : List V → List PyData → Prop
  | nil : DpAll K H [] []
  | cons {v : V} {vs : List V} {d : PyData} {ds : List PyData} : Dp K H v d → DpAll K H vs ds → DpAll K H (v :: vs) (d :: ds)
end
section
variable {X : Cx} {pins : List (Addr × Obj)} {σ : St} {H : Hp} {s : Shared}
mutual
theorem Dp.reads (I : Inv X pins σ H s) : ∀ (d : PyData) (v : V) (u : Value), Dp X.K H v d → RelV v u → ∃ as, Reads s.heap u d as
  | .none, _, _, h, r => by
    cases h
    cases r
    exact ⟨_, Reads.none⟩
  | .bool b, _, _, h, r => by
    cases h
    cases r
    exact ⟨_, Reads.bool b⟩
  | .int i, _, _, h, r => by
    cases h
    obtain ⟨t, rfl⟩ := r
    exact ⟨_, Reads.int i t⟩
  | .str x, _, _, h, r => by
    cases h
    obtain ⟨t, rfl⟩ := r
    exact ⟨_, Reads.str x t⟩
  | .list ds, _, _, h, r => by
    cases h with
    | lst hs ha =>
      cases r
      obtain ⟨its, rv, ⟨o, n, ho, hc, _, hd⟩, _⟩ := I.list hs
      obtain ⟨as, hr⟩ := Dp.readsAll I ds _ its ha rv
      exact ⟨_, Reads.list ho hc hd hr⟩
  | .tuple ds, _, _, h, r => by
    cases h with
    | tup hs ha =>
      cases r
      obtain ⟨its, rv, ⟨o, ho, hc, n, hd⟩, _⟩ := I.tuple hs
      obtain ⟨as, hr⟩ := Dp.readsAll I ds _ its ha rv
      exact ⟨_, Reads.tuple ho hc hd hr⟩
  | .dict _, _, _, h, _ => by cases h
theorem Dp.readsAll (I : Inv X pins σ H s) : ∀ (ds : List PyData) (vs : List V) (us : List Value), DpAll X.K H vs ds → Vals vs us → ∃ as, ReadsAll s.heap us ds as
  | [], _, _, h, r => by
    cases h
    cases r
    exact ⟨_, ReadsAll.nil⟩
  | d :: ds, _, _, h, r => by
    cases h with
    | cons h1 h2 =>
      cases r with
      | cons r1 r2 =>
        obtain ⟨as, q1⟩ := Dp.reads I d _ _ h1 r1
        obtain ⟨bs, q2⟩ := Dp.readsAll I ds _ _ h2 r2
        exact ⟨_, ReadsAll.cons q1 q2⟩
end
end
section
variable {X : Cx}
end
end L2

namespace L2
open PySem PySem.Spec PyProof.Rows
abbrev CellAt (h : Heap) (c : Addr) (v : Option Value) : Prop := h.IsCell c v
def relS (scope sc : Scope) : Scope :=
  { scope with names := scope.names.map fun (n, k) => if (k == .free && sc.kind == .function && sc.names.lookup n == some .cell) then (n, .cell) else (n, k) }

def cloFrom (cells : List (Str × Addr)) : List (Str × NameKind) → List (Str × Addr) → List (Str × Addr)
  | [], acc => acc
  | (n, k) :: r, acc => if k == .free then cloFrom cells r ((n, (cells.lookup n).getD 0) :: acc) else cloFrom cells r acc

theorem closure_loop (env : Env) (f : Str × NameKind → List (Str × Addr) → Sem (ForInStep (List (Str × Addr))))
    (hf : ∀ n k c, f (n, k) c = if k == .free then (do let a ← cellOf env n; pure (.yield ((n, a) :: c))) else pure (.yield c)) :
    ∀ (names : List (Str × NameKind)) (acc : List (Str × Addr)), (∀ y ∈ names, y.2 = .free → ∃ c, env.cells.lookup y.1 = some c) → forIn names acc f = pure (cloFrom env.cells names acc)
  | [], acc, _ => by rw [List.forIn_nil]; rfl
  | (n, k) :: r, acc, h => by
    rw [List.forIn_cons, hf]
    have ih := fun acc => closure_loop env f hf r acc fun y hy => h y (List.mem_cons_of_mem _ hy)
    unfold cloFrom
    by_cases hk : (k == NameKind.free) = true
    · rw [if_pos hk, if_pos hk]
      obtain ⟨c, hc⟩ := h (n, k) List.mem_cons_self (by simpa using hk)
      have e : cellOf env n = pure c := by unfold cellOf; rw [hc]
      rw [e]
      have e2 : (env.cells.lookup n).getD 0 = c := by rw [hc]; rfl
      rw [e2]
      exact ih _
    · rw [if_neg hk, if_neg hk]
      exact ih _
theorem closure_ok {scope : Scope} {env : Env} (h : ∀ y ∈ scope.names, y.2 = .free → ∃ c, env.cells.lookup y.1 = some c) : closureFor scope env = pure (cloFrom env.cells scope.names []) := by
  simp only [closureFor]
  rw [closure_loop env _ (fun n k c => rfl) scope.names [] h]
  rfl

theorem mem_lookup {α : Type} : ∀ {l : List (Str × α)} {n : Str} {c : α}, (n, c) ∈ l → ∃ c', l.lookup n = some c'
  | (k, v) :: r, n, c, h => by
    rw [List.lookup_cons]
    cases hb : n == k with
    | true => exact ⟨_, rfl⟩
    | false =>
      rcases List.mem_cons.mp h with e | h
      · cases e; simp at hb
      · exact mem_lookup h

theorem cloFrom_mem {cells : List (Str × Addr)} : ∀ {names : List (Str × NameKind)} {acc : List (Str × Addr)} {n : Str} {c : Addr}, (n, c) ∈ cloFrom cells names acc → (n, c) ∈ acc ∨ ((n, .free) ∈ names ∧ c = (cells.lookup n).getD 0)
  | [], _, _, _, h => .inl h
  | (m, k) :: r, acc, n, c, h => by
    unfold cloFrom at h
    split at h
    · rename_i hk
      have hk : k = .free := by simpa using hk
      rcases cloFrom_mem h with h | ⟨h1, h2⟩
      · rcases List.mem_cons.mp h with e | h
        · cases e; exact .inr ⟨hk ▸ List.mem_cons_self, rfl⟩
        · exact .inl h
      · exact .inr ⟨List.mem_cons_of_mem _ h1, h2⟩
    · rcases cloFrom_mem h with h | ⟨h1, h2⟩
      · exact .inl h
      · exact .inr ⟨List.mem_cons_of_mem _ h1, h2⟩
theorem cloFrom_acc {cells : List (Str × Addr)} : ∀ {names : List (Str × NameKind)} {acc : List (Str × Addr)} {p : Str × Addr}, p ∈ acc → p ∈ cloFrom cells names acc
  | [], _, _, h => h
  | (m, k) :: r, acc, p, h => by
    unfold cloFrom
    split
    · exact cloFrom_acc (List.mem_cons_of_mem _ h)
    · exact cloFrom_acc h
theorem cloFrom_has {cells : List (Str × Addr)} : ∀ {names : List (Str × NameKind)} {acc : List (Str × Addr)} {n : Str}, (n, .free) ∈ names → (n, (cells.lookup n).getD 0) ∈ cloFrom cells names acc
  | (m, k) :: r, acc, n, h => by
    unfold cloFrom
    rcases List.mem_cons.mp h with e | h
    · cases e
      exact cloFrom_acc List.mem_cons_self
    · split
      · exact cloFrom_has h
      · exact cloFrom_has h

theorem cells_mem : ∀ {names : List (Str × NameKind)} {h : Heap} {acc : List (Str × Addr)} {x : Str} {c : Addr}, (x, c) ∈ cellsFrom h.objs.size names acc →
    (x, c) ∈ acc ∨ ((x, .cell) ∈ names ∧ h.objs.size ≤ c ∧ CellAt (pushCells h names) c none)
  | [], _, _, _, _, h => .inl h
  | (n, k) :: r, h, acc, x, c, hm => by
    unfold cellsFrom at hm
    unfold pushCells
    split at hm
    · rename_i hk
      rw [if_pos hk]
      have hk : k = .cell := by simpa using hk
      rw [← Heap.size_push h { cls := .type "cell", data := .cell none }] at hm
      rcases cells_mem hm with hm | ⟨h1, h2, h3⟩
      · rcases List.mem_cons.mp hm with e | hm
        · cases e
          exact .inr ⟨hk ▸ List.mem_cons_self, Nat.le_refl _, _, pushCells_keeps r _ _ _ (Heap.get?_push_size _ rfl), rfl⟩
        · exact .inl hm
      · rw [Heap.size_push] at h2
        exact .inr ⟨List.mem_cons_of_mem _ h1, Nat.le_of_succ_le h2, h3⟩
    · rename_i hk
      rw [if_neg hk]
      rcases cells_mem hm with hm | ⟨h1, h2, h3⟩
      · exact .inl hm
      · exact .inr ⟨List.mem_cons_of_mem _ h1, h2, h3⟩
theorem cells_acc : ∀ {names : List (Str × NameKind)} {n : Nat} {acc : List (Str × Addr)} {p : Str × Addr}, p ∈ acc → p ∈ cellsFrom n names acc
  | [], _, _, _, h => h
  | (m, k) :: r, n, acc, p, h => by
    unfold cellsFrom
    split
    · exact cells_acc (List.mem_cons_of_mem _ h)
    · exact cells_acc h
theorem cells_has : ∀ {names : List (Str × NameKind)} {n : Nat} {acc : List (Str × Addr)} {x : Str}, (x, .cell) ∈ names → ∃ c, (x, c) ∈ cellsFrom n names acc
  | (m, k) :: r, n, acc, x, h => by
    unfold cellsFrom
    rcases List.mem_cons.mp h with e | h
    · cases e
      exact ⟨n, cells_acc List.mem_cons_self⟩
    · split
      · exact cells_has h
      · exact cells_has h
theorem cells_inj : ∀ {names : List (Str × NameKind)} {h : Heap} {acc : List (Str × Addr)} {x y : Str} {c : Addr}, (∀ p ∈ acc, p.2 < h.objs.size) → (∀ x y c, (x, c) ∈ acc → (y, c) ∈ acc → x = y) →
    (x, c) ∈ cellsFrom h.objs.size names acc → (y, c) ∈ cellsFrom h.objs.size names acc → x = y
  | [], _, _, _, _, _, _, hi, h1, h2 => hi _ _ _ h1 h2
  | (n, k) :: r, h, acc, x, y, c, hl, hi, h1, h2 => by
    unfold cellsFrom at h1 h2
    split at h1
    · rename_i hk
      rw [if_pos hk] at h2
      rw [← Heap.size_push h { cls := .type "cell", data := .cell none }] at h1 h2
      refine cells_inj (h := h.push _) (fun p hp => ?_) (fun x y c a b => ?_) h1 h2
      · rw [Heap.size_push]
        rcases List.mem_cons.mp hp with rfl | hp
        · exact Nat.lt_succ_self _
        · exact Nat.lt_succ_of_lt (hl p hp)
      · rcases List.mem_cons.mp a with e | a <;> rcases List.mem_cons.mp b with e' | b
        · cases e; cases e'; rfl
        · cases e; exact absurd (hl _ b) (Nat.lt_irrefl _)
        · cases e'; exact absurd (hl _ a) (Nat.lt_irrefl _)
        · exact hi _ _ _ a b
    · rename_i hk
      rw [if_neg hk] at h2
      exact cells_inj hl hi h1 h2

theorem newEnv_comp {M : Model} {A : Around} {E : Value → Shared → Prop} {s : Shared} {scope : Scope} {globals : Addr} {closure : List (Str × Addr)} {qual : Str} {func : Option Addr} {code : Value} {around : Env} {builtins : Addr} {Q : Env → Shared → Prop}
    (h : Q (newEnv scope s.heap.objs.size globals (cellsFrom (s.heap.objs.size + 1) scope.names closure) qual func code (some around) builtins)
      { s with heap := pushCells (s.heap.push { cls := .type "dict", data := .dict #[] }) scope.names }) :
    wpAny M A (newFunctionEnv scope globals closure [] qual func code (some around) builtins) Q E s := by
  simp only [newFunctionEnv, Option.isSome_some, if_true]
  refine wpAny_bind (wpAny_alloc ?_)
  refine wpAny_bind (wpAny_layCells _ (fun n k c => rfl) scope.names closure _ _ ?_)
  rw [show ({ s with heap := s.heap.push { cls := .type "dict", data := .dict #[] } } : Shared).heap.objs.size = s.heap.objs.size + 1 from Heap.size_push ..]
  rw [List.forIn_nil]
  exact wpAny_bind (wpAny_pure (wpAny_pure h))

/-- every name of the written scope, in the scope that runs -/
theorem lookup_relS {sc : Scope} : ∀ {names : List (Str × NameKind)} {x : Str} {k : NameKind},
    (names.map fun (n, k) => if (k == NameKind.free && sc.kind == .function && sc.names.lookup n == some .cell) then (n, NameKind.cell) else (n, k)).lookup x = some k →
    ∃ k', names.lookup x = some k' ∧ (k = k' ∨ (k' = .free ∧ k = .cell))
  | [], _, _, h => by simp at h
  | (n, k₀) :: r, x, k, h => by
    have ih := @lookup_relS sc r x k
    have h' : List.lookup x ((if (k₀ == NameKind.free && sc.kind == .function && sc.names.lookup n == some .cell) = true then (n, NameKind.cell) else (n, k₀)) :: (r.map _)) = some k := h
    cases hx : x == n with
    | true =>
      simp only [List.lookup_cons, hx]
      by_cases hc : (k₀ == NameKind.free && sc.kind == .function && sc.names.lookup n == some .cell) = true
      · rw [if_pos hc] at h'
        simp only [List.lookup_cons, hx] at h'
        cases h'
        simp only [Bool.and_eq_true, beq_iff_eq] at hc
        exact ⟨k₀, rfl, .inr ⟨hc.1.1, rfl⟩⟩
      · rw [if_neg hc] at h'
        simp only [List.lookup_cons, hx] at h'
        cases h'
        exact ⟨_, rfl, .inl rfl⟩
    | false =>
      simp only [List.lookup_cons, hx]
      by_cases hc : (k₀ == NameKind.free && sc.kind == .function && sc.names.lookup n == some .cell) = true
      · rw [if_pos hc] at h'
        simp only [List.lookup_cons, hx] at h'
        exact ih h'
      · rw [if_neg hc] at h'
        simp only [List.lookup_cons, hx] at h'
        exact ih h'
/-- the names of a comprehension's block: its own (with their places in N), or captured -/
structure BlkOk (N : List Str) (sc scope : Scope) (own : List (Str × Nat)) : Prop where
  kind : scope.kind = .function
  uniq : ∀ y ∈ scope.names, scope.names.lookup y.1 = some y.2
  ix : ∀ p ∈ own, N[p.2]? = some p.1
  free : ∀ y ∈ scope.names, y.2 = .free → sc.names.lookup y.1 = some .cell ∨ sc.names.lookup y.1 = some .free
  own : ∀ y ∈ scope.names, y.2 = .local ∨ y.2 = .cell → y.1 ∈ own.map (·.1) ∨ y.1 ∉ N
/-- the slots of the block's own names forgotten -/
def wipe (σ : St) : List Nat → St
  | [] => σ
  | v :: vs => (wipe σ vs).set v none
theorem wipe_length (σ : St) : ∀ vs : List Nat, (wipe σ vs).length = σ.length
  | [] => rfl
  | v :: vs => by unfold wipe; rw [List.length_set, wipe_length σ vs]
theorem wipe_some {σ : St} {i : Nat} {x : V} : ∀ {vs : List Nat}, (wipe σ vs)[i]? = some (some x) → σ[i]? = some (some x) ∧ i ∉ vs
  | [], h => ⟨h, by simp⟩
  | v :: vs, h => by
    unfold wipe at h
    by_cases hi : v = i
    · subst hi
      by_cases hv : v < (wipe σ vs).length
      · rw [List.getElem?_set_self hv] at h; cases h
      · rw [List.getElem?_eq_none (by simpa using hv)] at h; cases h
    · rw [List.getElem?_set_ne hi] at h
      obtain ⟨h1, h2⟩ := wipe_some h
      exact ⟨h1, by simp only [List.mem_cons, not_or]; exact ⟨fun e => hi e.symm, h2⟩⟩

/-- the context of a block that starts at s, its iterator's objects at fp -/
abbrev Cx.blk (X : Cx) (s : Shared) (H : Hp) (scope : Scope) (cenv : Env) (fp : List Addr) : Cx := { X with s_0 := s, H_0 := H, env := cenv, outer := X.stack, ex := fp, fn := fun x => scope.names.lookup x == some .cell, pn := [], xe := fun _ _ => False }
section
variable {X : Cx} {pins : List (Addr × Obj)} {σ : St} {H : Hp} {s : Shared}
theorem block_start {scope : Scope} {own : List (Str × Nat)} {fp : List Addr} (I : Inv X pins σ H s) (ok : BlkOk X.N X.env.scope scope own) (hN : X.N.Nodup) (hfp : ∀ b ∈ fp, FpOk X pins H b ∧ b < s.heap.objs.size) :
    Inv (X.blk s H scope (compEnvC scope (cellsFrom (s.heap.objs.size + 1) scope.names (cloFrom X.env.cells scope.names [])) s.heap.objs.size X.env) fp) [] (wipe σ (own.map (·.2))) H { s with heap := pushCells (s.heap.push { cls := .type "dict", data := .dict #[] }) scope.names } := by
  have hfree : ∀ y ∈ scope.names, y.2 = .free → ∃ c, X.env.cells.lookup y.1 = some c := fun y hy e => by
    rcases ok.free y hy e with k | k
    · exact I.ok.has _ (.inl k)
    · exact I.ok.has _ (.inr k)
  generalize hcenv : compEnvC scope (cellsFrom (s.heap.objs.size + 1) scope.names (cloFrom X.env.cells scope.names [])) s.heap.objs.size X.env = cenv
  have kp : ∀ b o, s.heap.get? b = some o → (pushCells (s.heap.push { cls := .type "dict", data := .dict #[] }) scope.names).get? b = some o := fun b o e => pushCells_keeps _ _ _ _ (Heap.get?_push_of_some _ e)
  have hL : cenv.locals = s.heap.objs.size := by rw [← hcenv]; rfl
  have hcl : cenv.cells = cellsFrom (s.heap.objs.size + 1) scope.names (cloFrom X.env.cells scope.names []) := by rw [← hcenv]; rfl
  have hsc : cenv.scope = relS scope X.env.scope := by rw [← hcenv]; rfl
  rw [← Heap.size_push s.heap { cls := .type "dict", data := .dict #[] }] at hcl
  have cm : ∀ {y c}, (y, c) ∈ cloFrom X.env.cells scope.names [] → X.env.cells.lookup y = some c ∧ c < s.heap.objs.size := fun {y c} hm => by
    rcases cloFrom_mem hm with hm | ⟨h1, rfl⟩
    · cases hm
    · obtain ⟨c, hc⟩ := hfree _ h1 rfl
      rw [hc]
      obtain ⟨w, z⟩ := I.cell _ _ hc
      exact ⟨rfl, z.lt⟩
  have mem : ∀ {y c}, cenv.cells.lookup y = some c → (X.env.cells.lookup y = some c ∧ c < s.heap.objs.size) ∨ (s.heap.objs.size + 1 ≤ c ∧ CellAt (pushCells (s.heap.push { cls := .type "dict", data := .dict #[] }) scope.names) c none) := fun {y c} e => by
    rw [hcl] at e
    rcases cells_mem (PySem.mem_of_lookup e) with hm | ⟨_, h2, h3⟩
    · exact .inl (cm hm)
    · rw [Heap.size_push] at h2; exact .inr ⟨h2, h3⟩
  have look : ∀ {y}, scope.names.lookup y = some .free → ∃ c, cenv.cells.lookup y = some c ∧ X.env.cells.lookup y = some c := fun {y} hl => by
    have hy : (y, NameKind.free) ∈ scope.names := PySem.mem_of_lookup hl
    obtain ⟨c', e'⟩ := mem_lookup (cells_acc (names := scope.names) (n := (s.heap.push { cls := .type "dict", data := .dict #[] }).objs.size) (cloFrom_has (cells := X.env.cells) (acc := []) hy))
    rw [← hcl] at e'
    refine ⟨c', e', ?_⟩
    rw [hcl] at e'
    rcases cells_mem (PySem.mem_of_lookup e') with hm | ⟨h1, _, _⟩
    · exact (cm hm).1
    · have := ok.uniq _ h1
      rw [hl] at this; cases this
  have okB : (X.blk s H scope cenv fp).Ok := by
    refine ⟨I.ok.mod, by show cenv.scope.kind = _; rw [hsc]; exact ok.kind, by show cenv.globals = _; rw [← hcenv]; exact I.ok.glob, by show cenv.builtins = _; rw [← hcenv]; exact I.ok.blt, by show s.heap.objs.size ≤ cenv.locals; rw [hL]; exact Nat.le_refl _,
      fun y z c e1 e2 => ?_, fun y hy => ?_, fun y c z e => ?_, I.ok.hd, I.ok.frames, .inl rfl, fun b hb => ⟨?_, fun y c e z => ?_⟩, I.bs, Nat.le_trans I.ok.bsz I.sz, fun b o e hb => ?_, fun b hb z => ?_, I.stack, I.stkFree⟩
    · have e1 : cenv.cells.lookup y = some c := e1
      have e2 : cenv.cells.lookup z = some c := e2
      rw [hcl] at e1 e2
      refine cells_inj (fun p hp => ?_) (fun y z c a b => I.ok.inj y z c (cm a).1 (cm b).1) (PySem.mem_of_lookup e1) (PySem.mem_of_lookup e2)
      rw [Heap.size_push]
      exact Nat.lt_succ_of_lt (cm (y := p.1) (c := p.2) hp).2
    · show ∃ c, cenv.cells.lookup y = some c
      have key : ∀ k, cenv.kindOf y = some k → (k = .cell ∨ k = .free) → ∃ c, cenv.cells.lookup y = some c := fun k hk hk' => by
        unfold Env.kindOf at hk
        rw [hsc] at hk
        obtain ⟨k', e, r⟩ := lookup_relS hk
        have : k' = .cell ∨ k' = .free := by
          rcases r with rfl | ⟨rfl, _⟩
          · exact hk'
          · exact .inr rfl
        rcases this with rfl | rfl
        · obtain ⟨c, hm⟩ := cells_has (n := (s.heap.push { cls := .type "dict", data := .dict #[] }).objs.size) (acc := cloFrom X.env.cells scope.names []) (PySem.mem_of_lookup e)
          obtain ⟨c', e'⟩ := mem_lookup hm
          exact ⟨c', by rw [hcl]; exact e'⟩
        · obtain ⟨c, h1, _⟩ := look e
          exact ⟨c, h1⟩
      rcases hy with hy | hy
      · exact key _ hy (.inl rfl)
      · exact key _ hy (.inr rfl)
    · have z : (scope.names.lookup y == some NameKind.cell) = true := z
      have z : scope.names.lookup y = some .cell := by simpa using z
      have e : cenv.cells.lookup y = some c := e
      rw [hcl] at e
      rcases cells_mem (PySem.mem_of_lookup e) with hm | ⟨_, h2, _⟩
      · rcases cloFrom_mem hm with hm | ⟨h1, _⟩
        · cases hm
        · have q := ok.uniq _ h1
          rw [z] at q; cases q
      · rw [Heap.size_push] at h2
        exact Nat.le_of_succ_le h2
    · show b ≠ cenv.locals
      rw [hL]; exact Nat.ne_of_lt (hfp b hb).2
    · have e : cenv.cells.lookup y = some c := e
      rcases mem e with ⟨h1, _⟩ | ⟨h1, _⟩
      · exact (hfp b hb).1.2.2.2.2.1 y c h1 z
      · have h2 : s.heap.objs.size + 1 ≤ b := by rw [← z]; exact h1
        exact absurd (Nat.lt_of_lt_of_le (hfp b hb).2 (Nat.le_of_succ_le h2)) (Nat.lt_irrefl _)
    · rcases (hfp b hb).1.2.2.2.1 with z | z
      · exact I.ok.noex b o e z
      · exact absurd (Nat.lt_of_lt_of_le (Heap.lt_size e) (Nat.le_trans I.ok.bsz z)) (Nat.lt_irrefl _)
    · rcases List.mem_cons.mp (I.stkSub b z) with z | z
      · exact (hfp b hb).1.2.1 z
      · exact (hfp b hb).1.2.2.1 z
  refine ⟨okB, rfl, I.bare, Un.kept kp, ⟨fun _ => none, ?_, fun i y av e1 e2 e3 => ?_⟩, fun y c e => ?_, ?_, fun y c e => ?_, fun p hp => ?_, I.hok.kept kp, by rw [wipe_length]; exact I.len⟩
  · show Heap.Ns _ cenv.locals _
    rw [hL]
    exact Heap.Ns.keeps (Heap.Ns.new ..) fun b o e => pushCells_keeps _ _ _ _ e
  · obtain ⟨e2, hne⟩ := wipe_some e2
    have hfr : scope.names.lookup y = some .free ∧ (cenv.kindOf y = some .cell ∨ cenv.kindOf y = some .free) := by
      have key : ∀ k, cenv.scope.names.lookup y = some k → k = .local ∨ k = .cell ∨ k = .free → scope.names.lookup y = some .free ∧ (cenv.kindOf y = some .cell ∨ cenv.kindOf y = some .free) := fun k hk hk' => by
        have hk0 := hk
        rw [hsc] at hk
        obtain ⟨k', e, r⟩ := lookup_relS hk
        have no : ¬ (k' = .local ∨ k' = .cell) := fun hh => by
          rcases ok.own _ (PySem.mem_of_lookup e) hh with e' | e'
          · obtain ⟨p, hp, hpy⟩ := List.mem_map.mp e'
            have e3 := ok.ix p hp
            have : p.1 = y := hpy
            rw [this] at e3
            exact hne (List.mem_map.mpr ⟨p, hp, nodup_ix hN e3 e1⟩)
          · exact e' (List.mem_of_getElem? e1)
        rcases r with rfl | ⟨rfl, rfl⟩
        · rcases hk' with rfl | rfl | rfl
          · exact absurd (.inl rfl) no
          · exact absurd (.inr rfl) no
          · exact ⟨e, .inr hk0⟩
        · exact ⟨e, .inl hk0⟩
      have e3 : Vis cenv.scope y := e3
      rcases e3 with e3 | e3 | e3
      · exact key _ e3 (.inl rfl)
      · exact key _ e3 (.inr (.inl rfl))
      · exact key _ e3 (.inr (.inr rfl))
    obtain ⟨m, hn, hl⟩ := I.loc
    have hvis : Vis X.env.scope y := (ok.free _ (PySem.mem_of_lookup hfr.1) rfl).elim (fun k => .inr (.inl k)) (fun k => .inr (.inr k))
    obtain ⟨w, r, q⟩ := hl i y av e1 e2 hvis
    refine ⟨w, r, .inr ⟨hfr.2, ?_⟩⟩
    obtain ⟨c, h1, h2⟩ := look hfr.1
    rcases q with ⟨k, _⟩ | ⟨_, c', e', z⟩
    · have k : X.env.scope.names.lookup y = some .local := k
      rcases ok.free _ (PySem.mem_of_lookup hfr.1) rfl with k' | k' <;> rw [show X.env.scope.names.lookup y = _ from k'] at k <;> cases k
    · rw [h2] at e'; cases e'
      exact ⟨c, h1, z.keeps kp⟩
  · have e : cenv.cells.lookup y = some c := e
    rcases mem e with ⟨h1, _⟩ | ⟨_, z⟩
    · obtain ⟨w, z⟩ := I.cell y c h1
      exact ⟨w, z.keeps kp⟩
    · exact ⟨_, z⟩
  · show H cenv.locals = none
    rw [hL]; exact I.hok.fresh (Nat.le_refl _)
  · have e : cenv.cells.lookup y = some c := e
    rcases mem e with ⟨h1, _⟩ | ⟨h1, _⟩
    · exact I.freeC y c h1
    · exact I.hok.fresh (Nat.le_of_succ_le h1)
  · exact absurd (show p ∈ ([] : List (Addr × Obj)) ++ [] from hp) (by simp)

/-- an item appended to a tracked list -/
theorem app_ok {E : Value → Shared → Prop} {D : Addr} {xs : List V} {y : V} {v : Value} {Q : Value → Shared → Prop} (I : Inv X pins σ H s) (hD : H D = some (.lst xs)) (hz : xs.length < sizeLine) (r : RelV y v)
    (h : ∀ s', Inv X pins σ (upd H D (.lst (xs ++ [y]))) s' → Q .none s') : wpAny (model X.prog X.w) X.A (call (.builtin "list.append") [.ref D, v]) Q E s := by
  obtain ⟨hz', its, n, ri, e⟩ := I.hok D _ hD
  have hl := ri.length
  refine append_at (hsz := by rw [List.size_toArray]; omega) e fun h' sb ho' => ?_
  refine h { s with heap := h' } (I.write (t' := s.toks) (by rw [hD]; trivial) (.inl rfl) (fun b u hb q => (sb.2 b hb).trans q) ⟨_, ho'⟩ ⟨by rw [List.length_append]; exact hz, its ++ [v], n + 1, ri.append (.cons r .nil), ?_⟩)
  rw [ho']
  simp

/-- a clause's tests -/
def PTs (X : Cx) (ifs : List Expr) (t : TT) : Prop :=
  ∀ (pins : List (Addr × Obj)) (s : Shared) (σ : St) (H : Hp) (Q : Bool → Hp → Prop), Inv X pins σ H s → t σ H Q →
    wpAny (model X.prog X.w) X.A (forIn ifs true fun c r => if r = true then do let ok ← isTrue c X.env (eval c X.env); pure (ForInStep.yield ok) else pure (ForInStep.yield r)) (TP X pins σ Q) X.xe s
def tYes : TT := fun _ H Q => Q true H
theorem pts_nil : PTs X [] tYes := fun _ _ _ H _ I h => wpAny_tests_nil ⟨H, I, h⟩
end

theorem thnF {α : Type} {t : Sem α} {Q Q' : α → Shared → Prop} {M : Model} {A : Around} {E : Value → Shared → Prop} {s : Shared} (h : wpAny M A t Q (fun _ _ => False) s) (hQ : ∀ a s, Q a s → Q' a s) : wpAny M A t Q' E s := wpAny_mono h hQ fun _ _ z => False.elim z

/-- the loop of a list comprehension's block, the target of any form (codeAny_compLoop_tests asks a target that no tuple goes to; statement and proof follow it, PyProof/CompMap.lean:41-61, with the step letOwnedTupleGo kept) -/
theorem compLoop_any {prog : Program} {w : World} {A : Around} {R : Result → Shared → Prop} {s : Shared} {elt target iter : Expr} {ifs : List Expr} {scope : Scope} {pos : Pos} {it acc : Value} {env : Env} (I : Nat → Shared → Prop)
    (turn : ∀ n s, I n s → wpAny (model prog w) A (pyNext it) (fun r s₁ => match r with
      | none => R (.ok .next) s₁
      | some v => wpAny (model prog w) A (letOwnedTupleGo target it v) (fun _ s₁' => wpAny (model prog w) A (assign target env v) (fun _ s₂ =>
          wpAny (model prog w) A (forIn ifs true fun c r => if r = true then do let ok ← isTrue c env (eval c env); pure (ForInStep.yield ok) else pure (ForInStep.yield r)) (fun ok s₃ =>
            if ok = true then wpAny (model prog w) A (eval elt env) (fun x s₄ =>
              wpAny (model prog w) A (call (.builtin "list.append") [acc, x]) (fun _ s₅ => ∃ m, m < n ∧ I m s₅) (notedBy (model prog w) A env fun e s' => R (.error e) s') s₄) (notedBy (model prog w) A env fun e s' => R (.error e) s') s₃
            else ∃ m, m < n ∧ I m s₃) (notedBy (model prog w) A env fun e s' => R (.error e) s') s₂) (notedBy (model prog w) A env fun e s' => R (.error e) s') s₁') (notedBy (model prog w) A env fun e s' => R (.error e) s') s₁) (notedBy (model prog w) A env fun e s' => R (.error e) s') s)
    (n : Nat) (h : I n s) :
    codeAny (model prog w) A (.compLoop (.ListComp elt [⟨target, iter, ifs, 0⟩] scope pos) 0 it acc env) R s := by
  refine codeAny_loop rfl I (fun n s hI => ?_) n h
  show wpAny _ A ((compTurn (.ListComp elt [⟨target, iter, ifs, 0⟩] scope pos) 0 it acc env).onRaise (fun x => do noteFrame x env; theTreesLotGoes x)) _ _ s
  refine wpAny_noted ?_
  rw [compTurn_list]
  refine wpAny_bind (wpAny_standAt (wpAny_bind (wpAny_mono (turn n s hI) (fun r s₁ h₁ => ?_) fun _ _ h' => h')))
  cases r with
  | none => exact wpAny_pure h₁
  | some v =>
    refine wpAny_bind (wpAny_mono h₁ (fun _ s₁' h₁' => ?_) fun _ _ h' => h')
    refine wpAny_bind (wpAny_mono h₁' (fun _ s₂ h₂ => wpAny_bind (wpAny_mono h₂ (fun ok s₃ h₃ => ?_) fun _ _ h' => h')) fun _ _ h' => h')
    cases ok with
    | false => exact wpAny_pure ⟨rfl, h₃⟩
    | true =>
      exact wpAny_bind (wpAny_bind (wpAny_mono h₃ (fun x s₄ h₄ => wpAny_bind (wpAny_mono h₄ (fun _ s₅ h₅ => wpAny_pure (wpAny_pure ⟨rfl, h₅⟩)) fun _ _ h' => h')) fun _ _ h' => h'))

section
variable {X : Cx}
/-- [elt for target in iter if ..]: D the new list; W by the turn and a measure, Nx what a turn is to reach -/
def tLc (wi : TI) (g : TG) (tt : TT) (te : TE) (vs : List Nat) : TE := fun σ H Q => wi σ H fun J H1 => ∀ D, H1 D = none → ∃ W : Nat → Nat → Hp → Prop, (∃ m, W 0 m (upd H1 D (.lst []))) ∧ ∀ i m H, W i m H →
  (J.stop i H ∧ Q (.ref D) H) ∨ (J.go i H ∧ ∃ Nx : Hp → Prop, (∀ H', Nx H' → ∃ m', m' < m ∧ W (i + 1) m' H') ∧ ∀ x H', J.yld i H x H' → g x (wipe σ vs) H' fun σ2 H2 => wipe σ2 vs = wipe σ vs ∧ tt σ2 H2 fun b H3 =>
    if b = true then te σ2 H3 fun y H4 => ∃ acc, H4 D = some (.lst acc) ∧ acc.length < sizeLine ∧ Nx (upd H4 D (.lst (acc ++ [y]))) else Nx H3)
theorem lc_core {pins : List (Addr × Obj)} {s : Shared} {σ : St} {H : Hp} {Q : VK} {elt tg iter : Expr} {ifs : List Expr} {scope : Scope} {own : List (Str × Nat)} {pos pos' : Pos} {wi : TI} {g : TG} {tt : TT} {te : TE} {use : Option (Value → Sem Unit)} {Qf : Value → Shared → Prop}
    (hc : X.calm = true) (hN : X.N.Nodup) (I : Inv X pins σ H s) (hi : PI X tg iter wi) (ok : BlkOk X.N X.env.scope scope own)
    (hg : ∀ (s : Shared) (H : Hp) (C : Addr) (cl : List (Str × Addr)) (fp : List Addr), PG (X.blk s H scope (compEnvC scope cl C X.env) fp) tg g) (ht : ∀ (s : Shared) (H : Hp) (C : Addr) (cl : List (Str × Addr)) (fp : List Addr), PTs (X.blk s H scope (compEnvC scope cl C X.env) fp) ifs tt)
    (he : ∀ (s : Shared) (H : Hp) (C : Addr) (cl : List (Str × Addr)) (fp : List Addr), PE (X.blk s H scope (compEnvC scope cl C X.env) fp) elt te) (hs : ∀ x, foldedSetIterable iter X.env x = pure x)
    (h : tLc wi g tt te (own.map (·.2)) σ H Q)
    (hRR : ∀ D C s' m H', Inv X pins σ H' s' → Q (.ref D) H' → s'.heap.Ns C m → FpOk X pins H' C → compPost (model X.prog X.w) X.A X.xe use Qf (.ref D) C (.ok .next) s') :
    wpAny (model X.prog X.w) X.A (comprehension (.ListComp elt [⟨tg, iter, ifs, 0⟩] scope pos) scope X.env pos' (newList []) false (eval iter X.env) use) Qf X.xe s := by
  have hfree : ∀ y ∈ scope.names, y.2 = .free → ∃ c, X.env.cells.lookup y.1 = some c := fun y hy e => by
    rcases ok.free y hy e with k | k
    · exact I.ok.has _ (.inl k)
    · exact I.ok.has _ (.inr k)
  refine wpAny_comprehension_free (use := use) rfl hs (closure_ok hfree) ok.kind (fun y hy e => by rw [ok.uniq y hy, e])
    (thn (hi pins s σ H _ I h) fun xv s1 hx => thn hx fun itv s2 h2 => ?_)
  obtain ⟨it, fp, tn, J, H2, e, I2, T, st2, f2, q⟩ := h2
  subst e
  refine wpAny_newObj_type (newEnv_comp ?_) (by show 0 ≤ sizeLine; decide)
  generalize hD : s2.heap.objs.size = D
  have hDn : H2 D = none := I2.hok.fresh (Nat.le_of_eq hD)
  obtain ⟨W, ⟨m0, w0⟩, turn⟩ := q D hDn
  -- the new list
  generalize hs3 : ({ s2 with heap := s2.heap.push { cls := .type "list", data := .seq ([] : List Value).toArray } } : Shared) = s3
  have I3 : Inv X pins σ (upd H2 D (.lst [])) s3 := by
    rw [← hs3]
    refine I2.laid (t' := s2.toks) (fun b o e => Heap.get?_push_of_some _ e) (Nat.le_of_eq hD) ⟨Nat.zero_le _, [], 0, .nil, ?_⟩
    rw [← hD]
    exact Heap.get?_push_size _ rfl
  have h3 : s3.heap = s2.heap.push { cls := .type "list", data := .seq ([] : List Value).toArray } := by rw [← hs3]
  have sz : ∀ b ∈ fp, b < s2.heap.objs.size := fun b hb => by
    obtain ⟨o, e, _⟩ := T.obj _ _ st2 b hb
    exact Heap.lt_size e
  have f3 : ∀ b ∈ fp, FpOk X pins (upd H2 D (.lst [])) b ∧ b < s3.heap.objs.size := fun b hb => by
    have hlt := sz b hb
    refine ⟨⟨?_, (f2 b hb).2⟩, by rw [h3, Heap.size_push]; exact Nat.lt_succ_of_lt hlt⟩
    rw [upd_ne (by rw [← hD]; exact Nat.ne_of_lt hlt)]
    exact (f2 b hb).1
  have st3 : tn 0 s3.heap := T.keep _ _ _ st2 fun b _ o e => by rw [h3]; exact Heap.get?_push_of_some _ e
  have I4 := block_start I3 ok hN f3
  have pg := hg s3 (upd H2 D (.lst [])) s3.heap.objs.size (cellsFrom (s3.heap.objs.size + 1) scope.names (cloFrom X.env.cells scope.names [])) fp
  have pt := ht s3 (upd H2 D (.lst [])) s3.heap.objs.size (cellsFrom (s3.heap.objs.size + 1) scope.names (cloFrom X.env.cells scope.names [])) fp
  have pe := he s3 (upd H2 D (.lst [])) s3.heap.objs.size (cellsFrom (s3.heap.objs.size + 1) scope.names (cloFrom X.env.cells scope.names [])) fp
  show codeAny _ _ (.compStart (.ListComp elt [⟨tg, iter, ifs, 0⟩] scope pos) 0 (.ref it) (.ref D) (compEnvC scope (cellsFrom (s3.heap.objs.size + 1) scope.names (cloFrom X.env.cells scope.names [])) s3.heap.objs.size X.env)) (compPost (model X.prog X.w) X.A X.xe use Qf (.ref D) s3.heap.objs.size) { s3 with heap := pushCells (s3.heap.push { cls := .type "dict", data := .dict #[] }) scope.names }
  have nfp : ∀ b ∈ fp, (upd H2 D (.lst [])) b = none := fun b hb => (f3 b hb).1.1
  generalize hce : compEnvC scope (cellsFrom (s3.heap.objs.size + 1) scope.names (cloFrom X.env.cells scope.names [])) s3.heap.objs.size X.env = ce at I4 pg pt pe ⊢
  have cL : ce.locals = s3.heap.objs.size := by subst hce; rfl
  generalize hH3 : upd H2 D (.lst []) = H3 at I3 I4 pg pt pe w0 nfp f3
  generalize hs4 : ({ s3 with heap := pushCells (s3.heap.push { cls := .type "dict", data := .dict #[] }) scope.names } : Shared) = s4 at I4 ⊢
  have st4 : tn 0 s4.heap := T.keep _ _ _ st3 fun b _ o e => by rw [← hs4]; exact pushCells_keeps _ _ _ _ (Heap.get?_push_of_some _ e)
  have stat : ∀ {σ' : St} {H' : Hp} {s' : Shared}, Inv (X.blk s3 H3 scope ce fp) [] σ' H' s' → (∀ b ∈ fp, H' b = none) → ∀ b ∈ fp, FpOk (X.blk s3 H3 scope ce fp) [] H' b := fun {σ' H' s'} I' hn b hb =>
    ⟨hn b hb, (I'.ok.exf b hb).1, I'.ok.exfs b hb, .inl hb, fun x c e => (I'.ok.exf b hb).2 x c e, fun p hp => absurd (show p ∈ ([] : List (Addr × Obj)) ++ [] from hp) (by simp)⟩
  have loop : codeAny (model X.prog X.w) X.A (.compLoop (.ListComp elt [⟨tg, iter, ifs, 0⟩] scope pos) 0 (.ref it) (.ref D) ce) (compPost (model X.prog X.w) X.A X.xe use Qf (.ref D) s3.heap.objs.size) s4 := by
    refine compLoop_any (fun n s' => ∃ i H', Inv (X.blk s3 H3 scope ce fp) [] (wipe σ (own.map (·.2))) H' s' ∧ tn i s'.heap ∧ (∀ b ∈ fp, H' b = none) ∧ W i n H') ?_ m0 ⟨0, H3, I4, st4, nfp, w0⟩
    rintro n s5 ⟨i, H5, I5, st5, n5, w5⟩
    rcases turn i n H5 w5 with ⟨stop, qq⟩ | ⟨go, Nx, hNx, step⟩
    · have td := T.done (X.blk s3 H3 scope ce fp) rfl rfl rfl hc i [] s5 _ H5 (fun _ _ => False) I5 (stat I5 n5) st5 stop
      refine thnF td fun r s6 ⟨hr, I6⟩ => ?_
      subst hr
      -- back in the def's context
      have I7 : Inv X pins σ H5 s6 := I3.call' (ch := fp) I6.os I6.base I6.hok I6.bare fun b hb => ⟨(f3 b hb).1.2.2.2.1, (f3 b hb).1.2.1, (f3 b hb).1.2.2.2.2.1, (f3 b hb).1.2.2.2.2.2⟩
      have nC : H5 s3.heap.objs.size = none := by
        have z : H5 ce.locals = none := I6.free
        rw [cL] at z
        exact z
      obtain ⟨m, hn, _⟩ := I6.loc
      have hn : s6.heap.Ns ce.locals m := hn
      rw [cL] at hn
      exact hRR D s3.heap.objs.size s6 m H5 I7 qq hn (I3.fpOk (Nat.le_refl _) nC)
    · have ti := T.item (X.blk s3 H3 scope ce fp) rfl rfl rfl hc i [] s5 _ H5 (fun _ _ => False) I5 (stat I5 n5) st5 go
      refine thnF ti fun r s6 ⟨u, hr, h6⟩ => ?_
      subst hr
      refine thnF h6 fun _ s7 ⟨x, H7, I7, r7, y7, st7, n7⟩ => ?_
      have I7' := I7.pinned (stat I7 n7) (T.obj _ _ st7)
      refine thnF (pg _ s7 _ H7 x u _ I7' r7 (step x H7 y7)) fun _ s8 ⟨σ8, H8, I8, hw8, q8⟩ => ?_
      refine thnF (pt _ s8 σ8 H8 _ I8 q8) fun b s9 ⟨H9, I9, q9⟩ => ?_
      -- the turn's end
      have fin : ∀ {s' : Shared} {H' : Hp}, Inv (X.blk s3 H3 scope ce fp) ([] ++ pinsAt fp s7.heap) σ8 H' s' → Nx H' → ∃ m, m < n ∧ ∃ i H', Inv (X.blk s3 H3 scope ce fp) [] (wipe σ (own.map (·.2))) H' s' ∧ tn i s'.heap ∧ (∀ b ∈ fp, H' b = none) ∧ W i m H' := fun {s' H'} I' nx => by
        obtain ⟨m', hm, w'⟩ := hNx H' nx
        have pin' : ∀ b ∈ fp, ∀ o, s7.heap.get? b = some o → s'.heap.get? b = some o ∧ H' b = none := fun b hb o e =>
          let z := I'.pin (b, o) (List.mem_append_right _ (List.mem_append_right _ (mem_pinsAt hb e)))
          ⟨z.1, z.2.1⟩
        have hl : (wipe σ (own.map (·.2))).length = σ8.length := by rw [← hw8, wipe_length]
        refine ⟨m', hm, i + 1, H', (I'.unpinned (pins := [])).weak hl (fun j v e => ?_), T.keep _ _ _ st7 fun b hb o e => (pin' b hb o e).1, fun b hb => ?_, w'⟩
        · rw [← hw8] at e
          exact (wipe_some e).1
        · obtain ⟨o, e, _⟩ := T.obj _ _ st7 b hb
          exact (pin' b hb o e).2
      cases b with
      | false =>
        simp only [Bool.false_eq_true, if_false] at q9 ⊢
        exact fin I9 q9
      | true =>
        simp only [if_true] at q9 ⊢
        refine thnF (pe _ s9 σ8 H9 _ I9 q9) fun z s10 ⟨yv, H10, I10, r10, acc, hD10, hz10, nx⟩ => ?_
        exact app_ok (X := X.blk s3 H3 scope ce fp) I10 hD10 hz10 r10 fun s11 I11 => fin I11 nx
  exact codeAny_compStart_list loop (T.self X.A 0 _ _ _ st4 loop)
/-- as a value -/
theorem pe_lc {elt tg iter : Expr} {ifs : List Expr} {scope : Scope} {own : List (Str × Nat)} {pos : Pos} {wi : TI} {g : TG} {tt : TT} {te : TE} (hc : X.calm = true) (hN : X.N.Nodup) (hi : PI X tg iter wi) (ok : BlkOk X.N X.env.scope scope own)
    (hg : ∀ (s : Shared) (H : Hp) (C : Addr) (cl : List (Str × Addr)) (fp : List Addr), PG (X.blk s H scope (compEnvC scope cl C X.env) fp) tg g) (ht : ∀ (s : Shared) (H : Hp) (C : Addr) (cl : List (Str × Addr)) (fp : List Addr), PTs (X.blk s H scope (compEnvC scope cl C X.env) fp) ifs tt)
    (he : ∀ (s : Shared) (H : Hp) (C : Addr) (cl : List (Str × Addr)) (fp : List Addr), PE (X.blk s H scope (compEnvC scope cl C X.env) fp) elt te) (hs : ∀ x, foldedSetIterable iter X.env x = pure x := by intro _; rfl) :
    PE X (.ListComp elt [⟨tg, iter, ifs, 0⟩] scope pos) (tLc wi g tt te (own.map (·.2))) := by
  intro pins s σ H Q I h
  rw [eval_ListComp]
  refine lc_core hc hN I hi ok hg ht he hs h fun D C s' m H' I' q hn f => ⟨m, hn, fun h'' sb => ?_⟩
  obtain ⟨f0, f1, f2, f3, f4, f5⟩ := f
  exact ⟨.ref D, H', I'.turned (t' := s'.toks) (fun b o hb e => (sb.2 b hb).trans e) f0 f1 f3 f4 f5, rfl, q⟩
end

/-! ### the forms one uses -/
def blkC (N : List Str) (sc scope : Scope) (own : List (Str × Nat)) : Bool :=
  (match scope.kind with | .function => true | _ => false) && (scope.names.all fun y => decide (scope.names.lookup y.1 = some y.2)) && (own.all fun p => decide (N[p.2]? = some p.1)) &&
    (scope.names.all fun y => match y.2 with
      | .free => (match sc.names.lookup y.1 with | some .cell => true | some .free => true | _ => false)
      | .local => decide (y.1 ∈ own.map (·.1)) || decide (y.1 ∉ N)
      | .cell => decide (y.1 ∈ own.map (·.1)) || decide (y.1 ∉ N)
      | _ => true)
theorem blkOk_by {N : List Str} {sc scope : Scope} {own : List (Str × Nat)} (h : blkC N sc scope own = true) : BlkOk N sc scope own := by
  unfold blkC at h
  simp only [Bool.and_eq_true, List.all_eq_true, decide_eq_true_eq] at h
  obtain ⟨⟨⟨h1, h2⟩, h3⟩, h4⟩ := h
  refine ⟨?_, h2, h3, fun y hy e => ?_, fun y hy e => ?_⟩
  · split at h1
    · assumption
    · cases h1
  · have q := h4 y hy
    simp only [e] at q
    split at q <;> first | exact .inl (by assumption) | exact .inr (by assumption) | cases q
  · have q := h4 y hy
    rcases e with e | e <;> (simp only [e, Bool.or_eq_true, decide_eq_true_eq] at q; exact q)
end L2

namespace L2
open PySem PySem.Spec PyProof.Rows

section
variable {prog : Program} {w : World} {A : Around} {R : Result → Shared → Prop} {s : Shared} {elt t0 i0 t1 i1 : Expr} {ifs0 ifs1 : List Expr} {scope : Scope} {pos : Pos} {it acc : Value} {env : Env}
end

section
variable {X : Cx}
end
end L2

namespace L2
open PySem PySem.Spec PyProof.Rows

/-! ### lists of pairs as tables -/
section
variable {κ : Type} [DecidableEq κ]
def valV (kvs : List (κ × V)) (k : κ) : Option V := (kvs.find? fun kv => decide (kv.1 = k)).map (·.2)
/-- in its place, or at the end -/
def putK (kvs : List (κ × V)) (k : κ) (v : V) : List (κ × V) :=
  if (kvs.any fun kv => decide (kv.1 = k)) = true then kvs.map (fun kv => if kv.1 = k then (kv.1, v) else kv) else kvs ++ [(k, v)]
def dropK (kvs : List (κ × V)) (k : κ) : List (κ × V) := kvs.filter fun kv => decide (kv.1 ≠ k)

theorem valV_pos {p : κ × V} {r : List (κ × V)} {k : κ} (e : p.1 = k) : valV (p :: r) k = some p.2 := by simp [valV, List.find?_cons, e]
theorem valV_neg {p : κ × V} {r : List (κ × V)} {k : κ} (e : ¬ p.1 = k) : valV (p :: r) k = valV r k := by simp [valV, List.find?_cons, e]
theorem valV_any (k : κ) : ∀ kvs : List (κ × V), (kvs.any fun kv => decide (kv.1 = k)) = (valV kvs k).isSome
  | [] => rfl
  | p :: r => by
    rw [List.any_cons]
    by_cases e : p.1 = k
    · simp only [valV_pos e, decide_eq_true e, Bool.true_or, Option.isSome_some]
    · rw [valV_neg e, decide_eq_false e, Bool.false_or]; exact valV_any k r
theorem RelO.isSome_eq {o : Option V} {u : Option Value} (r : RelO o u) : o.isSome = u.isSome := by
  cases o with
  | none => cases u with
    | none => rfl
    | some _ => exact (show False from r).elim
  | some _ => cases u with
    | none => exact (show False from r).elim
    | some _ => rfl
theorem RelO.getD {o : Option V} {u : Option Value} {d : V} {d' : Value} (r : RelO o u) (rd : RelV d d') : RelV (o.getD d) (u.getD d') := by
  cases o with
  | none => cases u with
    | none => exact rd
    | some _ => exact (show False from r).elim
  | some _ => cases u with
    | none => exact (show False from r).elim
    | some _ => exact r

/-- raw tables of the same keys -/
theorem KV.val {kvs : List (κ × V)} {vs : List (κ × Value)} (r : KV kvs vs) (k : κ) : RelO (valV kvs k) (valueAt vs k) := by
  unfold KV at r
  induction r with
  | nil => exact True.intro
  | @cons p q ps qs h t ih =>
    obtain ⟨h1, h2⟩ := h
    by_cases e : p.1 = k
    · have e' : q.1 = k := h1.symm.trans e
      have b : valueAt (q :: qs) k = some q.2 := by simp [valueAt, List.find?_cons, e']
      rw [valV_pos e, b]; exact h2
    · have e' : ¬ q.1 = k := fun z => e (h1.trans z)
      have b : valueAt (q :: qs) k = valueAt qs k := by simp [valueAt, List.find?_cons, e']
      rw [valV_neg e, b]; exact ih
theorem KV.any {kvs : List (κ × V)} {vs : List (κ × Value)} (r : KV kvs vs) (k : κ) : (kvs.any fun kv => decide (kv.1 = k)) = vs.any fun kv => decide (kv.1 = k) := by
  unfold KV at r
  induction r with
  | nil => rfl
  | cons h t ih => rw [List.any_cons, List.any_cons, ih, h.1]
theorem KV.repl {kvs : List (κ × V)} {vs : List (κ × Value)} (r : KV kvs vs) (k : κ) {y : V} {u : Value} (ry : RelV y u) :
    KV (kvs.map fun kv => if kv.1 = k then (kv.1, y) else kv) (vs.map fun kv => if kv.1 = k then (kv.1, u) else kv) := by
  unfold KV at r ⊢
  induction r with
  | nil => exact .nil
  | @cons p q ps qs h t ih =>
    rw [List.map_cons, List.map_cons]
    refine .cons ?_ ih
    obtain ⟨h1, h2⟩ := h
    by_cases e : p.1 = k
    · rw [if_pos e, if_pos (h1.symm.trans e)]; exact ⟨h1, ry⟩
    · rw [if_neg e, if_neg (fun z => e (h1.trans z))]; exact ⟨h1, h2⟩
theorem KV.put {kvs : List (κ × V)} {vs : List (κ × Value)} (r : KV kvs vs) (k : κ) {y : V} {u : Value} (ry : RelV y u) : KV (putK kvs k y) (stored vs k u) := by
  unfold putK stored
  rw [r.any k]
  by_cases e : (vs.any fun kv => decide (kv.1 = k)) = true
  · rw [if_pos e, if_pos e]; exact r.repl k ry
  · rw [if_neg e, if_neg e]; exact Paired.snoc r ⟨rfl, ry⟩
theorem KV.drop {kvs : List (κ × V)} {vs : List (κ × Value)} (r : KV kvs vs) (k : κ) : KV (dropK kvs k) (without vs k) := by
  unfold KV at r ⊢
  unfold dropK without
  induction r with
  | nil => exact .nil
  | @cons p q ps qs h t ih =>
    obtain ⟨h1, h2⟩ := h
    rw [List.filter_cons, List.filter_cons]
    by_cases e : p.1 = k
    · have a : ¬ decide (p.1 ≠ k) = true := by simp [e]
      have b : ¬ decide (q.1 ≠ k) = true := by simp [h1.symm.trans e]
      rw [if_neg a, if_neg b]; exact ih
    · have e' : ¬ q.1 = k := fun z => e (h1.trans z)
      have a : decide (p.1 ≠ k) = true := by simp [e]
      have b : decide (q.1 ≠ k) = true := by simp [e']
      rw [if_pos a, if_pos b]; exact .cons ⟨h1, h2⟩ ih
theorem KV.keys {kvs : List (κ × V)} {vs : List (κ × Value)} (r : KV kvs vs) : kvs.map (·.1) = vs.map (·.1) := by
  unfold KV at r
  induction r with
  | nil => rfl
  | cons h t ih => rw [List.map_cons, List.map_cons, ih, h.1]
theorem KV.length {kvs : List (κ × V)} {vs : List (κ × Value)} (r : KV kvs vs) : kvs.length = vs.length := Paired.length r
end


/-! ### a tracked dict, its keys ints and texts or tuples of these -/
/-- raw entries of a dict with tuple keys -/
abbrev KT (H : Hp) : List (List Key × V) → List (List Key × Addr × Value) → Prop := Paired fun p q => p.1 = q.1 ∧ H q.2.1 = some (.tup (p.1.map kV)) ∧ RelV p.2 q.2.2
theorem KT.val {H : Hp} {kvs : List (List Key × V)} {xs : List (List Key × Addr × Value)} (r : KT H kvs xs) (k : List Key) : RelO (valV kvs k) ((atKey xs k).map (·.2)) := by
  induction r with
  | nil => exact True.intro
  | @cons p q ps qs h t ih =>
    obtain ⟨h1, _, h2⟩ := h
    by_cases e : p.1 = k
    · have e' : q.1 = k := h1.symm.trans e
      have b : atKey (q :: qs) k = some q.2 := by simp [atKey, List.find?_cons, e']
      rw [valV_pos e, b]; exact h2
    · have e' : ¬ q.1 = k := fun z => e (h1.trans z)
      have b : atKey (q :: qs) k = atKey qs k := by simp [atKey, List.find?_cons, e']
      rw [valV_neg e, b]; exact ih
theorem KT.repl {H : Hp} {kvs : List (List Key × V)} {xs : List (List Key × Addr × Value)} (r : KT H kvs xs) (k : List Key) {y : V} {u : Value} (ry : RelV y u) :
    KT H (kvs.map fun kv => if kv.1 = k then (kv.1, y) else kv) (xs.map (putAt k u)) := by
  induction r with
  | nil => exact .nil
  | @cons p q ps qs h t ih =>
    rw [List.map_cons, List.map_cons]
    refine .cons ?_ ih
    obtain ⟨h1, h2, h3⟩ := h
    unfold putAt
    by_cases e : p.1 = k
    · rw [if_pos e, if_pos (h1.symm.trans e)]; exact ⟨h1, h2, ry⟩
    · rw [if_neg e, if_neg (fun z => e (h1.trans z))]; exact ⟨h1, h2, h3⟩
theorem KT.put {H : Hp} {kvs : List (List Key × V)} {xs : List (List Key × Addr × Value)} (r : KT H kvs xs) (k : List Key) {b : Addr} {y : V} {u : Value} (hb : H b = some (.tup (k.map kV))) (ry : RelV y u) :
    KT H (putK kvs k y) (storedH xs k b u) := by
  have e : (kvs.any fun kv => decide (kv.1 = k)) = (atKey xs k).isSome := by
    rw [valV_any, (r.val k).isSome_eq, Option.isSome_map]
  unfold putK storedH
  rw [e]
  by_cases q : (atKey xs k).isSome = true
  · rw [if_pos q, if_pos q]; exact r.repl k ry
  · rw [if_neg q, if_neg q]; exact Paired.snoc r ⟨rfl, hb, ry⟩
theorem KT.keeps {H H' : Hp} {kvs : List (List Key × V)} {xs : List (List Key × Addr × Value)} (r : KT H kvs xs) (ht : ∀ b ys, H b = some (.tup ys) → H' b = some (.tup ys)) : KT H' kvs xs :=
  Paired.mapP r fun _ _ z => ⟨z.1, ht _ _ z.2.1, z.2.2⟩

section
variable {P : Program} {w : World} {H : Hp} {h : Heap} {a : Addr}
end

/-- what the dict at a holds at the key y -/
def DGet (H : Hp) (a : Addr) (y : V) (r : Option V) : Prop :=
  (∃ kvs k, Rd H a (.dK kvs) ∧ y = kV k ∧ r = valV kvs k) ∨ ∃ kvs k b, Rd H a (.dT kvs) ∧ y = .ref b ∧ H b = some (.tup (k.map kV)) ∧ r = valV kvs k
/-- the heap behind a[y] = v -/
def DPut (H : Hp) (a : Addr) (y v : V) (H' : Hp) : Prop :=
  (∃ kvs k, H a = some (.dK kvs) ∧ y = kV k ∧ kvs.length < sizeLine ∧ H' = upd H a (.dK (putK kvs k v))) ∨
  ∃ kvs k b, H a = some (.dT kvs) ∧ y = .ref b ∧ H b = some (.tup (k.map kV)) ∧ kvs.length < sizeLine ∧ H' = upd H a (.dT (putK kvs k v))
theorem DGet.k {H : Hp} {a : Addr} {kvs : List (Key × V)} {k : Key} (e : H a = some (.dK kvs)) : DGet H a (kV k) (valV kvs k) := .inl ⟨kvs, k, .inl e, rfl, rfl⟩
theorem DGet.t {H : Hp} {a b : Addr} {kvs : List (List Key × V)} {k : List Key} (e : H a = some (.dT kvs)) (eb : H b = some (.tup (k.map kV))) : DGet H a (.ref b) (valV kvs k) := .inr ⟨kvs, k, b, .inl e, rfl, eb, rfl⟩
theorem DPut.k {H : Hp} {a : Addr} {kvs : List (Key × V)} {k : Key} {v : V} (e : H a = some (.dK kvs)) (hl : kvs.length < sizeLine) : DPut H a (kV k) v (upd H a (.dK (putK kvs k v))) := .inl ⟨kvs, k, e, rfl, hl, rfl⟩
theorem DPut.t {H : Hp} {a b : Addr} {kvs : List (List Key × V)} {k : List Key} {v : V} (e : H a = some (.dT kvs)) (eb : H b = some (.tup (k.map kV))) (hl : kvs.length < sizeLine) :
    DPut H a (.ref b) v (upd H a (.dT (putK kvs k v))) := .inr ⟨kvs, k, b, e, rfl, eb, hl, rfl⟩


section
variable {X : Cx} {pins : List (Addr × Obj)} {σ : St} {H : Hp} {s : Shared} {a : Addr} {y v : V} {u r : Value} {o : Option V} {A : Around} {E : Value → Shared → Prop}

end

section
variable {X : Cx} {pins : List (Addr × Obj)} {σ : St} {H : Hp} {s : Shared} {a : Addr} {kvs : List (Key × V)} {k : Key} {u : Value} {A : Around} {E : Value → Shared → Prop}
end


/-! ### readings and rules -/
section
variable {X : Cx} {o i e value : Expr} {pos pos' tpos : Pos} {td ty tv : TE}
end


/-! ### displays -/
section
variable {X : Cx} {pos : Pos}
end

/-! ### methods -/
/-- a method call o.m(e) of a built-in, with one argument: what must be seen of the text -/
structure M1 (X : Cx) (o : Expr) (m : Str) (apos : Pos) (e : Expr) (cpos : Pos) : Prop where
  base : attributeBase o m X.env (eval o X.env) = eval o X.env
  few : ((backTo cpos (starEach [e] X.env)).all (fun x => !x.1) && (backToKw cpos (keywordEach [] X.env)).all (fun x => x.1.isSome)
    && decide (([e] : List Expr).length + ([] : List Keyword).length + (if ([] : List Keyword).isEmpty then 0 else 1) < 30)) = true
  line : (apos.endLine == cpos.line) = true
  trees : backTo cpos (starEach [e] X.env) = [(false, eval e X.env)]
structure M2 (X : Cx) (o : Expr) (m : Str) (apos : Pos) (e f : Expr) (cpos : Pos) : Prop where
  base : attributeBase o m X.env (eval o X.env) = eval o X.env
  few : ((backTo cpos (starEach [e, f] X.env)).all (fun x => !x.1) && (backToKw cpos (keywordEach [] X.env)).all (fun x => x.1.isSome)
    && decide (([e, f] : List Expr).length + ([] : List Keyword).length + (if ([] : List Keyword).isEmpty then 0 else 1) < 30)) = true
  line : (apos.endLine == cpos.line) = true
  trees : backTo cpos (starEach [e, f] X.env) = [(false, eval e X.env), (false, eval f X.env)]

section
variable {X : Cx} {pins : List (Addr × Obj)} {σ : St} {H : Hp} {s : Shared} {a : Addr} {y d : V} {u r : Value} {o : Option V} {A : Around} {E : Value → Shared → Prop}
end

section
variable {X : Cx} {o e f : Expr} {apos cpos : Pos} {td ty tx : TE}
end

/-! ### dict(d): a copy -/
section
variable {X : Cx} {pins : List (Addr × Obj)} {σ : St} {H : Hp} {s : Shared} {a : Addr} {kvs : List (Key × V)} {A : Around} {E : Value → Shared → Prop}
end


section
variable {X : Cx} {pins : List (Addr × Obj)} {σ : St} {H : Hp} {s : Shared} {a : Addr} {y : V} {u : Value} {A : Around} {E : Value → Shared → Prop}
end
end L2

namespace L2
open PySem PySem.Spec PyProof.Rows

section
variable {prog : Program} {w : World} {A : Around} {E : Value → Shared → Prop}
end

section
variable {X : Cx}
end
end L2

namespace L2
open PySem PySem.Spec PyProof.Rows

section
variable {X : Cx} {pins : List (Addr × Obj)} {σ : St} {H : Hp} {s : Shared} {h' : Heap}
/-- several records of ours have turned -/
theorem Inv.turnedL {t' : Nat} {ch : List Addr} (I : Inv X pins σ H s) (k : ∀ b o, b ∉ ch → s.heap.get? b = some o → h'.get? b = some o) (hf : ∀ b ∈ ch, FpOk X pins H b) : Inv X pins σ H { s with heap := h', toks := t' } := by
  have nit : ∀ b u, H b = some u → b ∉ ch := fun b u e z => by
    have q := (hf b z).1
    rw [q] at e; cases e
  refine I.step (g' := s.gens) (d' := s.drawn) (ch := ch) (fun b hb => ⟨(hf b hb).2.2.2.1, (hf b hb).2.1, (hf b hb).2.2.2.2.1, (hf b hb).2.2.2.2.2⟩) (fun b o _ _ hc e _ => k b o hc e) (fun b o _ _ hc e _ => ⟨o.slots, k b o hc e⟩)
    (fun _ _ _ _ n => n) (fun b o hc e => ⟨o, k b o hc e⟩) (fun _ _ e => e) (fun _ _ _ e => e) (fun b ps e => ⟨#[], by rw [e]; simp⟩) (fun m hm => ?_) (fun b u e => ?_) I.bare
  · obtain ⟨o, es, ep, ho, r⟩ := hm
    exact ⟨o, es, ep, k _ o (fun z => (hf _ z).2.1 rfl) ho, r⟩
  · refine (I.hok b u e).stay (fun c v hc q => k c v ?_ q) (fun _ q => q) fun _ _ q => q
    rcases hc with z | z
    · rw [z]; exact nit b u e
    · exact nit c _ z
/-! ### locking a thing while a statement runs -/
theorem Inv.lock {d : Addr} {u : HO} (I : Inv X pins σ H s) (h : H d = some u) (mu : Mut (some u)) : ∃ od, Inv X pins σ (upd H d (.frz od u)) s := by
  have x := I.hok d u h
  have ex : ∃ od, s.heap.get? d = some od := by
    cases u with
    | lst xs => obtain ⟨_, _, _, _, e⟩ := x; exact ⟨_, e⟩
    | dK kvs => obtain ⟨_, _, _, _, o, _, _, e, _⟩ := x; exact ⟨o, e⟩
    | dT kvs => obtain ⟨_, _, _, _, o, _, _, e, _⟩ := x; exact ⟨o, e⟩
    | set S n => obtain ⟨o, _, _, _, e, _⟩ := x; exact ⟨o, e⟩
    | ins C dx fs => obtain ⟨_, _, _, e, _⟩ := x; exact ⟨_, e⟩
    | ext φ => obtain ⟨_, ⟨_, e⟩, _⟩ := x; exact ⟨_, e⟩
    | _ => exact False.elim mu
  obtain ⟨od, e⟩ := ex
  have new : ObjOk X.prog X.w (upd H d (.frz od u)) s.heap d (.frz od u) := by
    refine ⟨e, x.stay (fun b v _ q => q) (fun b q => ?_) fun b xs q => ?_⟩
    · rw [upd_ne (fun z => by rw [z, h] at q; cases q; exact mu)]; exact q
    · rw [upd_ne (fun z => by rw [z, h] at q; cases q; exact mu)]; exact q
  exact ⟨od, I.write (x := d) (e := d) (t' := s.toks) (h' := s.heap) (by rw [h]; exact mu) (.inl rfl) (fun b v _ q => q) ⟨od, e⟩ new⟩
end
section
variable {X : Cx}
/-! ### one iterator just laid -/
end

/-! ### range with a step -/
section
variable {X : Cx} {tg : Expr}
end
/-! ### reversed(list) -/
section
variable {X : Cx} {tg : Expr}
end

/-! ### a str -/
/-! ### a dict's keys: any dict's entries -/
section
variable {prog : Program} {w : World} {A : Around} {E : Value → Shared → Prop} {s : Shared}
end

/-! ### a locked dict -/
section
variable {X : Cx} {pins : List (Addr × Obj)} {σ : St} {H : Hp} {s : Shared} {d : Addr} {o : Obj}
end

section
variable {P : Program} {w : World} {K : PySem.W.Frag} {tg : Expr} {d : Addr} {o : Obj} {es : Array DictEntry} {ep : Nat}
end

/-! ### for k in d, d.keys(), d.values(), d.items() -/
section
variable {X : Cx} {tg e : Expr} {td : TE} {apos cpos : Pos}
end

/-! ### enumerate(list) -/
/-! ### zip(list, list) -/
end L2

section 
namespace Bits
open PySem PyProof.Rows

end Bits
end 

section 
namespace TL
open PySem PySem.Builtin PySem.Builtin.Str PySem.StrLaws

abbrev tl (x : Str) : List Nat := x.cps.toList
theorem tl_append (x y : Str) : tl (x ++ y) = tl x ++ tl y := by
  show (x ++ y).cps.toList = _
  rw [Str.cps_append, Array.toList_append]
/-! ### the list functions -/
/-- S stands at the head of l -/
def pre (S l : List Nat) : Bool := l.take S.length == S
/-- l cut at each S from the left; k signs are still to be passed over -/
def spl (S : List Nat) : Nat → List Nat → List Nat → List (List Nat)
  | _, acc, [] => [acc]
  | 0, acc, c :: r => if pre S (c :: r) = true then acc :: spl S (S.length - 1) [] r else spl S 0 (acc ++ [c]) r
  | k + 1, acc, _ :: r => spl S k acc r
/-- what stands before the first S, and behind it -/
def par (S : List Nat) : List Nat → List Nat → Option (List Nat × List Nat)
  | _, [] => none
  | acc, c :: r => if pre S (c :: r) = true then some (acc, (c :: r).drop S.length) else par S (acc ++ [c]) r

/-! ### the model's split and partition are these -/
/-! ### computing spl and par -/
theorem join_eq (y : Str) (parts : List Str) : Txt.join y parts = Str.join y parts := glued_eq_join y parts
/-! ### digits -/
/-! ### words: x.split() -/
end TL
end 

namespace L2
open PySem PySem.Spec PyProof.Rows

theorem strs_of_vals : ∀ {ys : List Str} {us : List Value}, Vals (ys.map V.str) us → StrsAre us ys
  | [], _, .nil => .nil
  | y :: ys, _, .cons r t => by
    obtain ⟨k, rfl⟩ := r
    exact .cons y k (strs_of_vals t)

section
variable {X : Cx} {pins : List (Addr × Obj)} {σ : St} {H : Hp} {s : Shared} {Q : VK}
end

section
variable {X : Cx}

/-- sep.join(a list | a tuple of texts) -/
theorem mt_join : MtR X "str.join" (fun x xs H Q => ∃ a p, ∃ ys : List Str, x = .str a ∧ xs = [.ref p] ∧ (SqL X.K H p (ys.map V.str) ∨ SqT X.K H p (ys.map V.str)) ∧
    (ys.map (·.length)).sum + ys.length * a.length ≤ 16777216 ∧ Q (.str (Txt.join a ys)) H) := by
  intro pins s σ H x xs v us Q I rx rs h
  obtain ⟨a, p, ys, rfl, rfl, hp, hz, h⟩ := h
  obtain ⟨t, rfl⟩ := rx
  cases rs with
  | cons r1 rs =>
    cases rs
    cases r1
    rcases hp with hp | hp
    · obtain ⟨its, r, ⟨o, n, ho, hc, _, hd⟩, _⟩ := I.list hp
      exact PyProof.Rows.join_list (items := its.toArray) ⟨o, ho, hc, n, hd⟩ (by rw [List.toList_toArray]; exact strs_of_vals r) hz fun t' k => ⟨.str _, H, I.tok k, ⟨t', rfl⟩, h⟩
    · obtain ⟨its, r, ht, _⟩ := I.tuple hp
      exact PyProof.Rows.join_tuple (items := its.toArray) ht (by rw [List.toList_toArray]; exact strs_of_vals r) hz fun t' k => ⟨.str _, H, I.tok k, ⟨t', rfl⟩, h⟩

/-! ### of a text alone -/
/-! ### of a text and a text -/
end

section
variable {X : Cx} {o e : Expr} {to te : TE}
def tM1 (r : V → List V → Hp → VK → Prop) (to te : TE) : TE := fun σ H Q => to σ H fun x H1 => (∃ a, x = .str a) ∧ te σ H1 fun y H2 => r x [y] H2 Q
theorem pe_m1 {id : String} {name : Str} {apos pos : Pos} {r : V → List V → Hp → VK → Prop} (slot : Slot "str" name id) (ty : typeOf (.builtin id) = pure (.type "method_descriptor")) (rule : MtR X id r) (ho : PE X o to) (he : PE X e te)
    (hs : starEach [e] X.env = [(false, eval e X.env)] := by rfl) (hbase : attributeBase o name X.env (eval o X.env) = eval o X.env := by rfl) (hline : (apos.endLine == pos.line) = true := by rfl) :
    PE X (.Call (.Attribute o name apos) [e] [] pos) (tM1 r to te) := by
  intro pins s σ H Q I h
  refine PySem.Call_method1 hbase hs hline (thn (ho pins s σ H _ I h) fun v s1 ⟨x, H1, I1, r1, q1⟩ => ?_)
  obtain ⟨⟨a, rfl⟩, q1⟩ := q1
  obtain ⟨t, rfl⟩ := _root_.id r1
  refine ⟨"str", _, F.plainAttrs_str, slot, ty, typeIs_str _ _ _, (fun _ e => nomatch e), Calls.callWith_builtin rfl (Calls.evalArgs_plain (Calls.spliced_cons ?_))⟩
  exact thn (he pins s1 σ H1 _ I1 q1) fun u s2 ⟨y, H2, I2, r2, q2⟩ => Calls.spliced_nil (rule pins s2 σ H2 _ [y] _ [u] Q I2 r1 (.cons r2 .nil) q2)

theorem pe_join {apos pos : Pos} (ho : PE X o to) (he : PE X e te) (hs : starEach [e] X.env = [(false, eval e X.env)] := by rfl) (hbase : attributeBase o "join" X.env (eval o X.env) = eval o X.env := by rfl) (hline : (apos.endLine == pos.line) = true := by rfl) :
    PE X (.Call (.Attribute o "join" apos) [e] [] pos) (tM1 (fun x xs H Q => ∃ a p, ∃ ys : List Str, x = .str a ∧ xs = [.ref p] ∧ (SqL X.K H p (ys.map V.str) ∨ SqT X.K H p (ys.map V.str)) ∧
      (ys.map (·.length)).sum + ys.length * a.length ≤ 16777216 ∧ Q (.str (Txt.join a ys)) H) to te) :=
  pe_m1 F.slot_str_join F.type_str_join mt_join ho he hs hbase hline
end
end L2

namespace L2
open PySem PySem.Spec PyProof.Rows

section
variable {X : Cx}
end

/-! ### slices of a text -/
theorem IsPart.raw {v : Value} {o : Option Int} (p : IsPart v o) : ∃ l : Option (Int × Tok), v = partValue l ∧ l.map (·.1) = o := by
  cases p with
  | none => exact ⟨none, rfl, rfl⟩
  | int i t => exact ⟨some (i, t), rfl, rfl⟩

end L2

namespace Att
open PySem PySem.W PySem.Calls PyProof.Rows

/-! ### the script -/
theorem ints_of_wellAll {P : Params} {h : Heap} : ∀ (ns : List Int) (vs : List Value), WellAll P h vs (ns.map WData.int) → IntsAre vs ns := by
  intro ns
  induction ns with
  | nil =>
    intro vs w
    rw [List.map_nil] at w
    cases w
    exact .nil
  | cons n ns ih =>
    intro vs w
    rw [List.map_cons] at w
    cases w with
    | cons a b =>
      cases a
      exact .cons _ _ (ih _ b)

theorem script_of {l : OpenLaw} {n : Nat} (hn : l.most = some n) {P : Params} {h : Heap} {args : List WData} {vals : List Value}
    (hpre : l.row.toRowW.claim.pre args = true) (hwl : WellAll P h vals args) :
    ∃ a vs ns, vals = [Value.ref a] ∧ args = [WData.list (ns.map WData.int)] ∧ h.get? a = some { cls := .type "list", data := .seq vs.toArray } ∧ IntsAre vs ns ∧ ns.length ≤ n := by
  have hsh : WShape.hasAll [] args [.list .int] = true := (pre_splitW hpre).1
  have hc : l.pre.holds [] { args := args } = true := (pre_splitW hpre).2
  obtain ⟨d, r, rfl, h1, h2⟩ := hasAllW_cons hsh
  obtain rfl := hasAllW_nil h2
  obtain ⟨xs, rfl, h3⟩ := hasW_list h1
  obtain ⟨ns, rfl⟩ := items_int h3
  have hlen : ns.length ≤ n := by
    unfold OpenLaw.pre at hc
    have h4 : (WTm.not (.lt (.lit (.int (n : Int))) (.len (.arg 0)))).holds [] { args := [.list (ns.map .int)] } = true := by
      have h4 := (holds_andW hc).1
      rw [hn] at h4
      exact h4
    have h5 := condW_of h4 (w_not (w_lt w_lit (w_len_list (w_arg rfl))))
    rw [List.length_map] at h5
    refine Nat.le_of_not_lt fun q => ?_
    have q' : (n : Int) < ((ns.length : Nat) : Int) := by omega
    first
      | (rw [decide_eq_true q'] at h5; exact absurd h5 (by decide))
      | (simp at h5; omega)
  cases hwl with
  | cons w1 w2 =>
    cases w2
    cases w1 with
    | list ho hall => exact ⟨_, _, ns, rfl, rfl, ho, ints_of_wellAll ns _ hall, hlen⟩

theorem post_true (l : OpenLaw) (args : List WData) : l.row.toRowW.claim.post args (.bool true) args = true :=
  postW_of (r := l.row.toRowW) (X := (true == true))
    (show WShape.has [] (.bool true) .bool = true by first | rfl | decide | simp [WShape.has, WShape.arms, WShape.armsAll])
    (show (WTm.eq .res (.lit (.bool true))).value [] { args := args, res := some (.bool true), after := args } = some (.bool (true == true)) from w_eq_bool (w_res rfl) w_lit) rfl

/-! ### the attachment: holds_open's last premise (the goal 'hc' behind k_head) from a wpAny of the law's body -/
/-- the same from a codeAny of the CALL (for a layer whose function contracts speak of calls) -/
theorem attach_call {l : OpenLaw} {n : Nat} {q : Program} {loose : List Str} {XP : (Str → Option Value) → Heap → Prop} {YP : World → Heap → Prop} {d : DefRec}
    (hn : l.most = some n) (hdf : d.params.defaults = [])
    (call : ∀ (w : World) (s₀ s₁ : Shared) (mg mb : Str → Option Value) (fa : Addr) (o : Obj) (pm cd doc : Value) (a : Addr) (vs : List Value) (ns : List Int),
      Ground q loose [] XP w s₀ mg mb s₁.heap → YP w s₁.heap →
      s₁.heap.get? fa = some o → o.data = .func (docDef d.name d.params d.body d.scope pm cd doc) → s₁.heap.CodeRec cd d.name → mg d.name = some (.ref fa) →
      s₁.heap.get? a = some { cls := .type "list", data := .seq vs.toArray } → IntsAre vs ns → ns.length ≤ n → s₁.gens = #[] →
      codeAny (model l.prog w) callerA (.call (.ref fa) ⟨[.ref a], []⟩) (fun r s' => r = .ok (.ret (.bool true)) ∧ OldK s₁.heap s'.heap ∧ s'.os = s₁.os ∧ AllBare s'.gens) s₁) :
    WalkO q loose XP YP l.row.toRowW d [] (fun f vs => PySem.call f vs) := by
  intro w s₀ s₁ mg mb G Y fa o pm cd doc dV kV ho hd hcd hD hmg hg args vals as hpre hlay hrd hwl hlo
  obtain rfl : dV = .none := Dflts.none hD hdf
  obtain rfl : kV = .none := Dflts.noKw hD
  obtain ⟨a, vs, ns, rfl, rfl, hobj, hints, hlen⟩ := script_of hn hpre hwl
  refine enter_call (codeAny_mono (call w s₀ s₁ mg mb fa o pm cd doc a vs ns G Y ho (fd_plain hd) hcd hmg hobj hints hlen hg) fun r s' hq => ?_)
  obtain ⟨rfl, h2, h3, h4⟩ := hq
  exact ⟨.inl ⟨.bool true, .bool true, [], rfl, fun _ => rfl, .bool true, post_true l _, fun _ => ⟨List.Pairwise.nil, fun _ hm => (nomatch hm)⟩⟩, h2, h3, h4⟩

/-! ### rules over ANY heap (no ledger) from facts about the written part K: the library's own take a ledger (News) for what they write -/
section
variable {prog : Program} {w : World} {A : Around} {E : Value → Shared → Prop} {s : Shared} {K : Frag}

/-- x.name where the instance's dict holds the name and the class does not -/
theorem get_field {x C : Addr} {ox : Obj} {es : List DictEntry} {n : Nat} {name : Str} {expr : Bool} {v : Value} {Q : Value → Shared → Prop}
    (X : K.In s.heap) (I : PySem.W.InstAt s.heap x ox C (some (dictOf es n))) (hg : plainGet K C name = true) (hh : hasDictIn K C = true) (ha : findIn K (.ref C) name = some none)
    (hl : getL name es = some (some v)) (hv : handedIn v = true) (h : Q v { s with toks := s.toks + 1 }) : wpAny (model prog w) A (getAttr (.ref x) name expr) Q E s :=
  get_value X I (plainGet_of hg).1 (findObj_own hh ha rfl hl) hv h

/-! the whole heap as the ledger: makes every rule that writes through a ledger a rule over any heap -/
def ledger (h : Heap) (L d : Addr) : List (Addr × Obj) := (List.range h.objs.size).filterMap fun a => if a = L ∨ a = d then none else (h.get? a).map fun o => (a, o)
end
end Att

namespace L2
open PySem PySem.Spec PyProof.Rows

theorem vals_ints : ∀ {vs : List Value} {ns : List Int}, IntsAre vs ns → Vals (ns.map V.int) vs
  | _, _, .nil => .nil
  | _, _, .cons n t h => .cons ⟨t, rfl⟩ (vals_ints h)

end L2

namespace L2
open PySem PySem.Spec PyProof.Rows

end L2

/-! SHORT WORDS over the layer: a def of the text, its body, what a loop and a test want. -/
namespace L2
open PySem PySem.Spec PyProof.Rows

/-! ### the text by places -/
/-- the j-th statement of a class's body -/
def inClass (s : Stmt) (j : Nat) : Stmt := match s with
  | .ClassDef _ _ _ body _ _ _ _ _ _ _ => body.getD j (.Pass ⟨0, 0, 0, 0⟩)
  | _ => .Pass ⟨0, 0, 0, 0⟩
def defArgs (s : Stmt) : Arguments := match s with
  | .FunctionDef _ a _ _ _ _ _ _ _ _ => a
  | _ => { posonlyargs := [], args := [], vararg := none, kwonlyargs := [], kw_defaults := [], kwarg := none, defaults := [] }
def defBody (s : Stmt) : List Stmt := match s with
  | .FunctionDef _ _ b _ _ _ _ _ _ _ => b
  | _ => []
def defScope (s : Stmt) : Scope := match s with
  | .FunctionDef _ _ _ _ _ _ sc _ _ _ => sc
  | _ => { kind := .function, names := [], isGenerator := false, isCoroutine := false }

/-! ### no exception leaves a def -/
abbrev CX0 : CXT := fun _ _ _ _ _ _ => False
abbrev E0 : XK := fun _ _ _ => False
theorem pass0 {X : Cx} : Passes CX0 X E0 := fun _ _ _ _ _ _ _ h => h.elim

/-! ### a def (or method) of the text as it stands behind the top -/
structure Fun (K : PySem.W.Frag) (x qual : Str) (st : Stmt) (f : Addr) (fd : FuncData) : Prop where
  ex : ∃ (oc : Value) (od : Option Addr) (kV doc pm : Value) (an : Option Addr) (cdv ct : Value) (osl : Array (Option Value)),
    fd = PySem.W.fnOf x qual (defArgs st) (defBody st) (defScope st) .none kV doc pm an cdv ct ∧ K.lookup f = some ⟨oc, od, .func fd, osl⟩ ∧ PySem.W.codeIn K cdv qual = true
  kp : PySem.W.keepIn K (.ref f) = true
section
variable {P : Program} {w : World} {K : PySem.W.Frag} {mg : Str → Option Value} {base : Heap}
/-- THE RULE for a def: its body as a term of rules, and the reading of that term -/
theorem Fun.ok {x qual : Str} {st : Stmt} {f : Addr} {fd : FuncData} {N ps : List Str} {k : Nat} {sp : Sp} (F : Fun K x qual st f fd) (S : FnScope N ps (defScope st)) (len : ∀ vs H Q E, sp vs H Q E → vs.length = ps.length)
    (hbody : ∀ (cdv : Value) (A : Around) (outer : List Env) (s : Shared) (H : Hp) (vs : List V) (Q : VK) (E : XK), Room k (A.deeper (envOfC qual (defScope st) s.heap.objs.size f cdv)) → sp vs H Q E →
      ∃ t, PSs (cxOf CX0 P w K mg base N qual (defScope st) f cdv A outer s H E).nox (defBody st) t ∧ t { nx := fun _ H' => Q .non H', rt := Q } (start N vs) H) : FnOk P w K mg base CX0 (k + 1) f fd ps sp := by
  obtain ⟨oc, od, kV, doc, pm, an, cdv, ct, osl, rfl, lk, hcd⟩ := F.ex
  refine fn_of lk hcd S len fun A outer s H vs Q E hr hsp => ?_
  obtain ⟨t, h, q⟩ := hbody cdv A outer s H vs Q E hr hsp
  exact ⟨t, h.nox, q⟩
/-- how its arguments bind (no defaults): h is «fun _ _ _ _ _ _ us hl => match us, hl with | [_, _], _ => rfl», one _ a parameter -/
theorem Fun.binds {x qual : Str} {st : Stmt} {f : Addr} {fd : FuncData} {ps : List Str} (F : Fun K x qual st f fd)
    (h : ∀ (kV doc pm : Value) (an : Option Addr) (cdv ct : Value) (us : List Value), us.length = ps.length → bindArgs (PySem.W.fnOf x qual (defArgs st) (defBody st) (defScope st) .none kV doc pm an cdv ct) ⟨us, []⟩ = pure (ps.zip us)) : Binds K fd ps [] := by
  obtain ⟨oc, od, kV, doc, pm, an, cdv, ct, osl, rfl, lk, hcd⟩ := F.ex
  exact .all (h kV doc pm an cdv ct)
theorem fun_mk {x qual : Str} {st : Stmt} {f : Addr} {oc : Value} {od an : Option Addr} {osl : Array (Option Value)} {kV doc pm cdv ct : Value} (l : K.lookup f = some ⟨oc, od, .func (PySem.W.fnOf x qual (defArgs st) (defBody st) (defScope st) .none kV doc pm an cdv ct), osl⟩)
    (c : PySem.W.codeIn K cdv qual = true) (k : PySem.W.keepIn K (.ref f) = true) : Fun K x qual st f (PySem.W.fnOf x qual (defArgs st) (defBody st) (defScope st) .none kV doc pm an cdv ct) := ⟨⟨oc, od, kV, doc, pm, an, cdv, ct, osl, rfl, l, c⟩, k⟩
end
/-! ### expressions in short: the name that stands in the i-th slot -/
section
variable {X : Cx}
end

/-! ### tests -/
theorem iteF {A B : Prop} (h : B) : if false = true then A else B := by
  rw [if_neg Bool.false_ne_true]
  exact h
theorem iteT {A B : Prop} (h : A) : if true = true then A else B := by
  rw [if_pos rfl]
  exact h
/-! ### heaps -/
/-- all that was tracked is as it was -/
def Same (H H' : Hp) : Prop := ∀ b o, H b = some o → H' b = some o
theorem Same.refl (H : Hp) : Same H H := fun _ _ h => h
theorem Same.trans {H H1 H2 : Hp} (a : Same H H1) (b : Same H1 H2) : Same H H2 := fun c o h => b c o (a c o h)
theorem Same.free {H H' : Hp} (e : Same H H') {l : Addr} (h : H' l = Option.none) : H l = Option.none := by
  cases q : H l with
  | none => rfl
  | some o =>
    rw [e l o q] at h
    cases h
theorem Same.seq {K : PySem.W.Frag} {H H' : Hp} {a : Addr} {xs : List V} (e : Same H H') (h : SqL K H a xs) : SqL K H' a xs := by
  rcases h with (h | ⟨o, h⟩) | h
  · exact .inl (.inl (e _ _ h))
  · exact .inl (.inr ⟨o, e _ _ h⟩)
  · exact .inr h

/-! ### a dict's pairs: keys that differ -/
section
variable {κ : Type} [DecidableEq κ]
end
/-! ### lists -/
/-- a new instance and its __init__ leave all that was tracked as it was -/
theorem Same.made {H H1 : Hp} {x dx C : Addr} (nx : H x = Option.none) (nd : H dx = Option.none) (k : ∀ b o, (upd (upd H dx (.own x)) x (.ins C dx [])) b = some o → b ≠ x → H1 b = some o) : Same H H1 := fun b o e =>
  k b o (by rw [upd_ne (ne_of_none e nx), upd_ne (ne_of_none e nd)]; exact e) (ne_of_none e nx)
end L2

namespace Ex
open PySem PySem.Spec PyProof.Rows

abbrev bV : List Value := [.type "ValueError", .type "Exception", .type "BaseException", .type "object"]
abbrev FV := PySem.F.excBase_ValueError
section
variable {prog : Program} {w : World} {A : Around} {E : Value → Shared → Prop} {h : Heap} {g : Array GenState} {d : Drawn} {t : Nat} {os : OsState}
variable {nm q : Str} {C N : Addr} {bs bm : List Value} {hdct : Bool} {sn : List Str} {sub : List Value} {ab : Bool} {col : Option Bool} {dd : Option Addr} {k0 k1 k2 k3 k5 : Option Value}
/-- an own error class that has an own __init__ is called: the entry -/
theorem type_init (T : OwnTail h bV bm) {mN : Str → Option Value} {rest : List Value} {fI : Addr} {oI : Obj} {Q : Fin → Shared → Prop}
    (kC : h.get? C = some (excClassObj nm q C N bs bm hdct sn sub ab col dd k0 k1 k2 k3 k5 "ValueError.__new__")) (kN : h.Ns N mN) (kI : mN "__init__" = some (.ref fI)) (kF : h.get? fI = some oI) (kT : oI.cls = .type "function") (kL : rest.length ≤ sizeLine)
    (hq : ∀ h' e, Heap.MadeExcOf h h' e (.ref C) rest → h.objs.size ≤ e → wpAny (model prog w) A (call (.ref fI) (.ref e :: rest)) (fun r s' => r = .none ∧ Q (.done (.ret (.ref e))) s') E ⟨h', g, d, t, os⟩) :
    wpAny (model prog w) A (Builtin.«type.__call__» ⟨.ref C :: rest, []⟩) Q E ⟨h, g, d, t, os⟩ := by
  repeat (first | wp_step | with_reducible refine wpAny_madeBy_exc kC ?_ | with_reducible refine wpAny_loadPart_at kC ?_)
  refine codeAny_call_builtin_code (Code.quiet_builtin _ FV.quiet) (wpAny_check_new_subT FV T kC ?_)
  refine codeAny_exc_new_subT FV T kC ?_ kL
  show wpAny _ _ _ _ _ _
  have up : ∀ b o, h.get? b = some o → ((h.push { cls := .type "tuple", data := .seq rest.toArray }).push { cls := .ref C, data := .fields #[.ref h.objs.size, .none, .none, .none, .bool false, .none] }).get? b = some o := fun b o e => Heap.get?_push_of_some _ (Heap.get?_push_of_some _ e)
  have kC₁ := up _ _ kC
  have kF₁ := up _ _ kF
  have kN₁ := kN.keeps up
  have kE : ((h.push { cls := .type "tuple", data := .seq rest.toArray }).push { cls := .ref C, data := .fields #[.ref h.objs.size, .none, .none, .none, .bool false, .none] }).get? (h.objs.size + 1) =
    some { cls := .ref C, data := .fields #[.ref h.objs.size, .none, .none, .none, .bool false, .none] } := by heap_get
  have kS : (Value.ref C :: bm).contains (.ref C) = true := by simp
  unfold isInstance
  repeat (first | wp_step | with_reducible refine wpAny_loadPart_at kE ?_ | (with_reducible refine wpAny_isSubtype_exc kC₁ ?_; rw [kS]))
  show wpAny _ _ (typeLookup (.ref C) _) _ _ _
  refine wpAny_typeLookup_tail kC₁ kN₁ (T.keeps up) FV.mroIs FV.init.lookup ?_
  rw [kI]
  refine wpAny_holding (wpAny_bind ?_)
  unfold bindSpecial
  refine wpAny_bind (wpAny_typeOf (T := "function") ⟨_, kF₁, kT⟩ ?_)
  rw [if_pos (by decide)]
  refine wpAny_pure (wpAny_bind (wpAny_mono (hq _ (h.objs.size + 1) ⟨up, Heap.get?_none_of_le (Nat.le_succ _), h.objs.size, kE, Heap.get?_none_of_le (Nat.le_refl _), ?_⟩ (Nat.le_succ _)) (fun r s' hr => ?_) fun _ _ x => x))
  · exact Heap.get?_push_of_some _ (Heap.get?_push_at rfl rfl)
  · obtain ⟨rfl, hQ⟩ := hr
    wp_walk
    exact hQ
theorem call_init (T : OwnTail h bV bm) {mN : Str → Option Value} {rest : List Value} {fI : Addr} {oI : Obj} {Q : Value → Shared → Prop}
    (kC : h.get? C = some (excClassObj nm q C N bs bm hdct sn sub ab col dd k0 k1 k2 k3 k5 "ValueError.__new__")) (kN : h.Ns N mN) (kI : mN "__init__" = some (.ref fI)) (kF : h.get? fI = some oI) (kT : oI.cls = .type "function") (kL : rest.length ≤ sizeLine)
    (hq : ∀ h' e, Heap.MadeExcOf h h' e (.ref C) rest → h.objs.size ≤ e → wpAny (model prog w) (A.under (.builtin "type.__call__" ⟨.ref C :: rest, []⟩)) (call (.ref fI) (.ref e :: rest)) (fun r s' => r = .none ∧ Q (.ref e) s') E ⟨h', g, d, t, os⟩) :
    wpAny (model prog w) A (call (.ref C) rest) Q E ⟨h, g, d, t, os⟩ := by
  have g1 := tc_lookup
  have g2 := tc_bind (.ref C)
  have g3 : (⟨h, g, d, t, os⟩ : Shared).TypeIs (.ref C) "type" := ⟨_, kC, rfl⟩
  refine wpAny_call (codeAny_of_tree ?_)
  show wpAny _ _ (callAny (.ref C) _) _ _ _
  repeat (any_goals (first | assumption | wp_step | with_reducible refine wpAny_loadPart_at kC ?_))
  refine ⟨rfl, ?_⟩
  exact codeAny_call_builtin_at (Code.quiet_builtin _ (by decide +kernel)) entry_typeCall (wpAny_check_type_call_sub kC (type_init T kC kN kI kF kT kL fun h' e hm he => hq h' e hm he))
end
end Ex

namespace Ex
open PySem PySem.Spec PyProof.Rows
namespace F
theorem slot_wget : Slot "wrapper_descriptor" "__get__" "wrapper_descriptor.__get__" := .of (owner := "wrapper_descriptor") (n := "__get__") (by rw [typeLookup_type, builtinLookup_eq_fast]; kernel_rfl) (by decide +kernel) (by decide +kernel) (by decide +kernel)
  (by first | exact .inl (by decide +kernel) | exact .inr (by decide +kernel)) (by rw [isSubtype_type]; kernel_rfl)
theorem entry_wget : entryFor table "wrapper_descriptor.__get__" = some Builtin.«wrapper_descriptor.__get__» := entryFor_of_tree (by kernel_rfl)
theorem wget_args (a b c : Value) : argsOk "wrapper_descriptor.__get__" ⟨[a, b, c], []⟩ := by unfold argsOk; kernel_rfl
theorem type_vinit : typeOf (.builtin "ValueError.__init__") = pure (.type "wrapper_descriptor") := by unfold typeOf; kernel_rfl
end F
section
variable {prog : Program} {w : World} {A : Around} {E : Value → Shared → Prop} {h : Heap} {g : Array GenState} {d : Drawn} {t : Nat} {os : OsState}
variable {nm q : Str} {C N : Addr} {bs bm : List Value} {hdct : Bool} {sn : List Str} {sub : List Value} {ab : Bool} {col : Option Bool} {dd : Option Addr} {k0 k1 k2 k3 k5 : Option Value}
abbrev wrapObj (e : Addr) : Obj := { cls := .type "method-wrapper", data := .fields #[.builtin "ValueError.__init__", .ref e] }
theorem wget_run {e : Addr} {oe : Obj} (T : OwnTail h bV bm) (kC : h.get? C = some (excClassObj nm q C N bs bm hdct sn sub ab col dd k0 k1 k2 k3 k5 "ValueError.__new__")) (kE : h.get? e = some oe) (kc : oe.cls = .ref C) {Q : Fin → Shared → Prop}
    (hq : Q (.done (.ret (.ref h.objs.size))) ⟨h.push (wrapObj e), g, d, t, os⟩) :
    wpAny (model prog w) A (Builtin.«wrapper_descriptor.__get__» ⟨[.builtin "ValueError.__init__", .ref e, .ref C], []⟩) Q E ⟨h, g, d, t, os⟩ := by
  have kB : (Value.ref C :: bm).contains (.type "ValueError") = true := by rw [List.contains_cons, T.hasType FV.hasB, Bool.or_true]
  unfold Builtin.«wrapper_descriptor.__get__»
  wp_walk
  have ew : (".".intercalate ("ValueError.__init__".cutAt '.').dropLast) = "ValueError" := by decide +kernel
  rw [ew, kc]
  refine wpAny_isSubtype_exc kC ?_
  rw [kB]
  unfold newFields
  repeat (first | wp_step | (with_reducible refine wpAny_newObj_type ?_ (by size_fits)))
  exact hq
theorem sga_run {so e : Addr} {oe : Obj} {K : PySem.W.Frag} {tk : Tok} (T : OwnTail h bV bm) (kC : h.get? C = some (excClassObj nm q C N bs bm hdct sn sub ab col dd k0 k1 k2 k3 k5 "ValueError.__new__")) (kE : h.get? e = some oe) (kc : oe.cls = .ref C)
    (kS : h.get? so = some { cls := .type "super", dict := none, data := .fields #[.ref C, .ref e, .ref C], slots := #[] }) (kO : PySem.W.Looks (model prog w) h (opaqueClassAbove (.ref C)) none) (X : K.In h) (hf : PySem.W.alongIn K "__init__" bm = some (some (.builtin "ValueError.__init__"))) (kne : e ≠ C) {Q : Fin → Shared → Prop}
    (hq : Q (.done (.ret (.ref h.objs.size))) ⟨h.push (wrapObj e), g, d, t, os⟩) :
    wpAny (model prog w) A (Builtin.«super.__getattribute__» ⟨[.ref so, .str "__init__" tk], []⟩) Q E ⟨h, g, d, t, os⟩ := by
  have hlk := F.slot_wget.lookup
  have hty := F.type_vinit
  have hnE : (Value.ref e == Value.ref C) = false := by simp [kne]
  have hdrop : ((Value.ref C :: bm).dropWhile (· != .ref C)).drop 1 = bm := by simp
  have dt : ({ cls := .type "super", dict := none, data := .fields #[.ref C, .ref e, .ref C], slots := #[] } : Obj).data = .fields #[.ref C, .ref e, .ref C] := rfl
  have d0 : (#[.ref C, .ref e, .ref C] : Array Value)[0]? = some (.ref C) := rfl
  have d1 : (#[.ref C, .ref e, .ref C] : Array Value)[1]? = some (.ref e) := rfl
  have d2 : (#[.ref C, .ref e, .ref C] : Array Value)[2]? = some (.ref C) := rfl
  have tW : (⟨h, g, d, t, os⟩ : Shared).TypeIs (.builtin "ValueError.__init__") "wrapper_descriptor" := hty
  unfold Builtin.«super.__getattribute__»
  repeat (first
    | (with_reducible refine wpAny_field kS dt d0 ?_) | (with_reducible refine wpAny_field kS dt d1 ?_) | (with_reducible refine wpAny_field kS dt d2 ?_)
    | (with_reducible refine ks_wpAny_notOpaque kO ?_)
    | (with_reducible refine wpAny_mroOf_exc kC ?_; rw [hdrop])
    | (refine ks_forIn_along X (fun _ _ => rfl) rfl ?_ hf)
    | (with_reducible refine wpAny_typeOf tW ?_)
    | (with_reducible refine wpAny_call_entry F.slot_wget tW F.entry_wget ?_ (F.wget_args _ _ _))
    | (with_reducible refine wget_run T kC kE kc ?_)
    | (with_reducible refine ⟨_, rfl, ?_⟩)
    | (simp only [hnE, Bool.or_false, Bool.false_eq_true, if_false])
    | wp_step
    | dsimp only)
  all_goals exact hq
/-- super().__init__ of an error object: the method-wrapper -/
theorem super_init {so e : Addr} {oe : Obj} {K : PySem.W.Frag} {pl : Sem Bool} (T : OwnTail h bV bm) (kC : h.get? C = some (excClassObj nm q C N bs bm hdct sn sub ab col dd k0 k1 k2 k3 k5 "ValueError.__new__")) (kE : h.get? e = some oe) (kc : oe.cls = .ref C)
    (kS : h.get? so = some { cls := .type "super", dict := none, data := .fields #[.ref C, .ref e, .ref C], slots := #[] }) (kO : PySem.W.Looks (model prog w) h (opaqueClassAbove (.ref C)) none) (X : K.In h) (hf : PySem.W.alongIn K "__init__" bm = some (some (.builtin "ValueError.__init__"))) (kne : e ≠ C) {Q : Value × List Value → Shared → Prop}
    (hq : Q (.ref h.objs.size, []) ⟨h.push (wrapObj e), g, d, t + 1, os⟩) :
    wpAny (model prog w) A (getMethod (.ref so) "__init__" pl) Q E ⟨h, g, d, t, os⟩ := by
  have hl2 := PySem.F.ks_slot_super_ga.lookup
  have tS : ∀ t', (⟨h, g, d, t', os⟩ : Shared).TypeIs (.ref so) "super" := fun _ => ⟨_, kS, rfl⟩
  unfold getMethod
  refine wpAny_bind (wpAny_specialOf (tS _) hl2 ?_)
  show wpAny _ _ (if (Manifest.canonical "super.__getattribute__" != "object.__getattribute__") = true then _ else _) _ _ _
  rw [if_pos PySem.F.ks_canon_super_ga]
  unfold getAttr getAttrBy
  refine wpAny_bind (wpAny_bind (wpAny_mkText (wpAny_holding (wpAny_bind (wpAny_typeOf (tS _) (wpAny_bind (wpAny_of_eq hl2 ?_)))))))
  show wpAny _ _ (getAttrByItsOwn (.ref so) (.str "__init__" t) (.type "super") (.builtin "super.__getattribute__") true false) _ _ _
  unfold getAttrByItsOwn hookBefore callGetattribute boundAndCalled
  refine wpAny_bind (wpAny_of_eq (show (if onTheHeap (.type "super") then typeLookup (.type "super") "__getattr__" else pure none) = pure none from rfl) ?_)
  refine wpAny_bind (wpAny_attempt (wpAny_holding ?_))
  show wpAny _ _ (bindSpecial (.builtin "super.__getattribute__") (.ref so) >>= _) _ _ _
  refine wpAny_bind (wpAny_of_eq (PySem.F.ks_slot_super_ga.bind _) ?_)
  refine wpAny_mono (Q := fun v s' => v = .ref h.objs.size ∧ s' = ⟨h.push (wrapObj e), g, d, t + 1, os⟩) (E := fun _ _ => False)
    (wpAny_call_entry PySem.F.ks_slot_super_ga (tS _) PySem.F.ks_entry_super_ga (sga_run T kC kE kc kS kO X hf kne ⟨_, rfl, rfl, rfl⟩) (PySem.F.ks_gaArgs_super _ _)) (fun v s' hv => ?_) fun _ _ z => z.elim
  obtain ⟨rfl, rfl⟩ := hv
  exact wpAny_pure (wpAny_pure hq)
theorem bound_check {e : Addr} {rest : List Value} {oe : Obj} {M : Model} (T : OwnTail h bV bm) (kC : h.get? C = some (excClassObj nm q C N bs bm hdct sn sub ab col dd k0 k1 k2 k3 k5 "ValueError.__new__")) (kE : h.get? e = some oe) (kc : oe.cls = .ref C) {Q : Unit → Shared → Prop}
    (hq : Q () ⟨h, g, d, t, os⟩) : wpAny M A (checkBoundCall "ValueError.__init__" ⟨.ref e :: rest, []⟩) Q E ⟨h, g, d, t, os⟩ := by
  have kshort := FV.noStar
  simp only [checkBoundCall, FV.initRow, FV.initKind]
  repeat (first | (with_reducible refine wpAny_loadPart_at kE ?_; rw [kc]) | with_reducible refine wpAny_loadPart_at kC ?_ | wp_step)
  refine wpAny_onRaise ?_
  rw [show ∀ (a b : String) (n : Nat), Bind.check ⟨.positional, "*", "ValueError", .self, [⟨"args", .varPos, false⟩]⟩ a b n (List.map (fun x => x.1) ({ pos := Value.ref e :: rest } : Args).kw) = pure () from fun a b n => check_star_args _ _ _ _ _ _]
  exact wpAny_pure hq
/-- the method-wrapper called: the error's arguments are laid anew -/
theorem wrap_call {b e : Addr} {rest : List Value} {oe : Obj} {t0 : Addr} (T : OwnTail h bV bm) (kC : h.get? C = some (excClassObj nm q C N bs bm hdct sn sub ab col dd k0 k1 k2 k3 k5 "ValueError.__new__")) (kE : h.get? e = some oe) (kc : oe.cls = .ref C)
    (kd : oe.data = .fields #[.ref t0, .none, .none, .none, .bool false, .none]) (kB : h.get? b = some (wrapObj e)) (kL : rest.length ≤ sizeLine) {Q : Value → Shared → Prop}
    (hq : Q .none ⟨(h.push { cls := .type "tuple", data := .seq rest.toArray }).update e (Obj.mapFields (·.setIfInBounds 0 (Value.ref h.objs.size))), g, d, t, os⟩) :
    wpAny (model prog w) A (call (.ref b) rest) Q E ⟨h, g, d, t, os⟩ := by
  refine wpAny_call (codeAny_of_tree ?_)
  show wpAny _ _ (callAny (.ref b) _) _ _ _
  unfold callAny
  refine wpAny_bind (wpAny_load kB ?_)
  dsimp only
  rw [if_pos (by decide)]
  show wpAny _ _ (checkBoundCall "ValueError.__init__" ⟨.ref e :: rest, []⟩ >>= fun _ => again (.builtin "ValueError.__init__" ⟨.ref e :: rest, []⟩)) _ _ _
  refine wpAny_bind (bound_check T kC kE kc ?_)
  refine wpAny_pure ⟨Code.quiet_builtin _ (by decide +kernel), codeAny_builtin FV.initEntry ?_⟩
  unfold Builtin.«BaseException.__init__»
  wp_walk
  rw [kd]
  have kE' := Heap.get?_push_of_some { cls := .type "tuple", data := .seq rest.toArray } kE
  repeat (first | (with_reducible refine wpAny_setField kE' kd (by simp) ?_) | wp_step)
  exact hq
end
end Ex

namespace Ex
open PySem PySem.Spec PyProof.Rows
open Builtin Builtin.ObjectAttr
section
variable {prog : Program} {w : World} {A : Around} {E : Value → Shared → Prop} {h : Heap} {g : Array GenState} {d : Drawn} {t : Nat} {os : OsState}
variable {nm q : Str} {C G N e : Addr} {bs : List Value} {sn : List Str} {sub : List Value} {ab : Bool} {col : Option Bool} {dd : Option Addr} {k0 k1 k2 k3 k5 : Option Value}
  {mA : Str → Option Value} {name : Str} {v : Value}
abbrev SV := PySem.F.store_ValueError
/-- x.name = v of an error object: what the built-in does -/
theorem set_entry {tk : Tok} {Q : Fin → Shared → Prop} {ns : List Str}
    (kC : h.get? C = some (excClassObj nm q C N bs (.ref G :: bV) true sn sub ab col dd k0 k1 k2 k3 k5 "ValueError.__new__")) (kN : PySem.W.Looks (model prog w) h (typeLookup (.ref C) name) none) (keC : e ≠ C) (I : h.Inst e C mA)
    (hq : ∀ h' tk', h'.Inst e C (fun y => if y = name then some v else mA y) →
      (∀ b o, b ≠ e → (∀ o₀ dx, h.get? e = some o₀ → o₀.dict = some dx → b ≠ dx) → h.get? b = some o → h'.get? b = some o) →
      (∀ o₀, h.get? e = some o₀ → ∃ o₁, h'.get? e = some o₁ ∧ o₁.cls = o₀.cls ∧ o₁.data = o₀.data ∧ o₁.slots = o₀.slots ∧ (∀ dx, o₀.dict = some dx → o₁.dict = some dx) ∧ (o₀.dict = none → o₁.dict = some h.objs.size)) → Q (.done (.ret .none)) ⟨h', g, d, tk', os⟩)
    (hw : Within mA ns) (hsz : ns.length ≤ 1000) :
    wpAny (model prog w) A (Builtin.«object.__setattr__» ⟨[.ref e, .str name tk, v], []⟩) Q E ⟨h, g, d, t, os⟩ := by
  have kz := sizeLine_eq
  obtain ⟨o, kE, kc, kx, kd⟩ := I
  have kp := SV.passes (.ref e)
  unfold Builtin.«object.__setattr__»
  repeat (first | rw [refuse_eq] | (rw [refuseLoop_ref, refuseLoop_ref, kp]) | (with_reducible refine wpAny_mroOf_exc kC ?_) | (with_reducible refine wpAny_loadPart_at kE ?_; rw [kc]) | (with_reducible refine PySem.W.Looks.at kN ?_) | wp_step)
  rcases kd with ⟨kdn, kmA⟩ | ⟨dx, kdx, kne, kns⟩
  · rw [kdn, if_neg (by simp [typeHasDict])]
    split
    · rename_i c1
      cases c1
    split
    · rename_i c1 c2
      exact absurd c2 (kx c1)
    · have kE1 : (h.push { cls := .type "dict", data := .dict #[] }).get? e = some o := Heap.get?_push_of_some _ kE
      have kEs : e ≠ h.objs.size := Nat.ne_of_lt (Heap.lt_size kE)
      refine wpAny_bind (wpAny_alloc' (wpAny_bind (wpAny_update' kE1 (wpAny_pure ?_))))
      have kD : ((h.push { cls := .type "dict", data := .dict #[] }).update e fun o => { cls := o.cls, dict := some h.objs.size, data := o.data, slots := o.slots }).get? h.objs.size = some { cls := .type "dict", data := .dict #[] } :=
        (Heap.get?_update_ne _ _ _ _ kEs.symm).trans (Heap.get?_push_at rfl rfl)
      have kNs : ((h.push { cls := .type "dict", data := .dict #[] }).update e fun o => { cls := o.cls, dict := some h.objs.size, data := o.data, slots := o.slots }).Ns h.objs.size (fun _ => none) := ⟨_, #[], _, kD, rfl, fun z hz => absurd hz (by simp), fun _ => rfl⟩
      show wpAny _ _ (storeInDict h.objs.size (.str name tk) name v) _ _ _
      unfold storeInDict newKeyGuard
      refine wpAny_bind (wpAny_pure (wpAny_bind (wpAny_nsSet1 (Heap.Ns1.of_empty kNs) fun h' hn' hs => ?_)))
      obtain ⟨oD, esD, epD, f1, f2, f3⟩ := hn'.count (Within.cons name v Within.nil)
      refine wpAny_bind (wpAny_lookBehind f1 (by rw [f2]; exact pastItsLine_dict (Nat.le_trans f3 (by rw [List.length_cons, List.length_nil, kz]; omega))) ?_)
      wp_walk
      have kE2 : h'.get? e = some { cls := o.cls, dict := some h.objs.size, data := o.data, slots := o.slots } := by
        refine (hs.2 e kEs).trans (Heap.get?_update_self _ kE1 ?_)
        have fr := (Heap.get?_some_iff.mp kE).2
        obtain ⟨oc, od, odt, osl⟩ := o
        cases odt <;> first | rfl | exact fr
      refine hq h' _ ⟨_, kE2, kc, kx, .inr ⟨h.objs.size, rfl, kEs.symm, ?_⟩⟩ (fun b ob b1 _ b2 => ?_) (fun o₀ h₀ => by
        obtain rfl : o = o₀ := Option.some.inj (kE.symm.trans h₀)
        exact ⟨_, kE2, rfl, rfl, rfl, fun dx z => (by rw [kdn] at z; cases z), fun _ => rfl⟩)
      · obtain ⟨o', es, ep, e1, e2, e3, eu, e4⟩ := hn'
        exact ⟨o', es, ep, e1, e2, e3, eu, fun y => by rw [e4 y]; by_cases hy : y = name <;> simp [hy, kmA]⟩
      · exact (hs.2 b (Nat.ne_of_lt (Heap.lt_size b2))).trans ((Heap.get?_update_ne _ _ _ _ b1).trans (Heap.get?_push_of_some _ b2))
  · rw [kdx]
    refine wpAny_pure ?_
    show wpAny _ _ (storeInDict dx (.str name tk) name v) _ _ _
    unfold storeInDict newKeyGuard
    refine wpAny_bind (wpAny_pure (wpAny_bind (wpAny_nsSet1 kns fun h' hn' hs => ?_)))
    obtain ⟨oD, esD, epD, f1, f2, f3⟩ := hn'.count (Within.cons name v hw)
    refine wpAny_bind (wpAny_lookBehind f1 (by rw [f2]; exact pastItsLine_dict (Nat.le_trans f3 (by rw [List.length_cons, kz]; omega))) ?_)
    wp_walk
    exact hq h' _ ⟨o, (hs.2 e kne.symm).trans kE, kc, kx, .inr ⟨dx, kdx, kne, hn'⟩⟩ (fun b ob _ b1 b2 => (hs.2 b (b1 o dx kE kdx)).trans b2)
      (fun o₀ h₀ => ⟨o₀, (hs.2 e kne.symm).trans h₀, rfl, rfl, rfl, fun _ z => z, fun z => (by rw [Option.some.inj (h₀.symm.trans kE), kdx] at z; cases z)⟩)
theorem set_check {o : Obj} {M : Model} {nameV : Value} {Q : Unit → Shared → Prop} (kC : h.get? C = some (excClassObj nm q C N bs (.ref G :: bV) true sn sub ab col dd k0 k1 k2 k3 k5 "ValueError.__new__")) (kE : h.get? e = some o) (kc : o.cls = .ref C) (hq : Q () ⟨h, g, d, t, os⟩) :
    wpAny M A (checkBuiltinCall "object.__setattr__" ⟨[.ref e, nameV, v], []⟩) Q E ⟨h, g, d, t, os⟩ := by
  have kB : (Value.ref C :: .ref G :: bV).contains (.type "object") = true := by simp [bV]
  have ha := SV.args (.ref e) nameV v
  simp only [checkBuiltinCall, SV.kind, SV.split]
  refine wpAny_bind ?_
  unfold isInstance
  repeat (first | (with_reducible refine wpAny_loadPart_at kE ?_; rw [kc]) | (with_reducible refine wpAny_isSubtype_exc kC ?_; rw [kB]) | wp_step)
  exact hq
theorem set_attr {Q : Unit → Shared → Prop} {ns : List Str}
    (kC : h.get? C = some (excClassObj nm q C N bs (.ref G :: bV) true sn sub ab col dd k0 k1 k2 k3 k5 "ValueError.__new__")) (kN : PySem.W.Looks (model prog w) h (typeLookup (.ref C) name) none) (kS : PySem.W.Looks (model prog w) h (typeLookup (.ref C) "__setattr__") (some (.builtin "object.__setattr__"))) (keC : e ≠ C) (I : h.Inst e C mA)
    (hq : ∀ h' tk', h'.Inst e C (fun y => if y = name then some v else mA y) →
      (∀ b o, b ≠ e → (∀ o₀ dx, h.get? e = some o₀ → o₀.dict = some dx → b ≠ dx) → h.get? b = some o → h'.get? b = some o) →
      (∀ o₀, h.get? e = some o₀ → ∃ o₁, h'.get? e = some o₁ ∧ o₁.cls = o₀.cls ∧ o₁.data = o₀.data ∧ o₁.slots = o₀.slots ∧ (∀ dx, o₀.dict = some dx → o₁.dict = some dx) ∧ (o₀.dict = none → o₁.dict = some h.objs.size)) → Q () ⟨h', g, d, tk', os⟩)
    (hw : Within mA ns) (hsz : ns.length ≤ 1000) :
    wpAny (model prog w) A (setAttr (.ref e) name v) Q E ⟨h, g, d, t, os⟩ := by
  obtain ⟨o, kE, kc, _⟩ := id I
  have f3 := SV.slot.bind (.ref e)
  unfold setAttr callSpecial? specialOf
  repeat (any_goals (first | assumption | (with_reducible refine PySem.W.Looks.at kS ?_) | (with_reducible refine wpAny_loadPart_at kE ?_; rw [kc]) | wp_step))
  refine codeAny_call_builtin SV.slot.plain SV.entry (set_check kC kE kc (set_entry kC kN keC I (fun h' tk' I' hk hs => ?_) hw hsz))
  repeat (any_goals (first | assumption | wp_step))
  exact hq h' tk' I' hk hs
end
end Ex

namespace Ex
open PySem PySem.Spec PyProof.Rows L2

/-- the frame of an own __init__ that speaks of super() -/
abbrev ieEnv (qual : Str) (scope : Scope) (L fI cda cc : Addr) : Env := PySem.W.ksEnv qual scope L fI (.ref cda) cc
/-- its context: s the state ahead of the new object -/
def cxI (X : Cx) (A' : Around) (N : List Str) (env : Env) (s : Shared) (H : Hp) : Cx where
  prog := X.prog
  w := X.w
  K := X.K
  mg := X.mg
  base := X.base
  A := A'.deeper env
  N := N
  s_0 := s
  H_0 := H
  env := env
  outer := X.stack
  stack := env :: X.stack
  ex := []
  fn := fun _ => false
  calm := false
  pn := []
  xe := fun _ _ => False
/-- what its scope must be -/
structure IScope (N : List Str) (sc : Scope) : Prop where
  kind : sc.kind = .function
  nd : N.Nodup
  loc : ∀ x ∈ N, sc.names.lookup x = some .local
  only : ∀ x, (sc.names.lookup x = some .cell ∨ sc.names.lookup x = some .free) → x = "__class__"
  sup : sc.names.lookup ("super" : Str) = some .globalImplicit
  cls : sc.names.lookup ("__class__" : Str) = some .free
theorem zip_sub : ∀ (N : List Str) (us : List Value), ((N.zip us).map (·.1)).Sublist N
  | [], _ => by simp
  | _ :: _, [] => by simp
  | _ :: N, _ :: us => by
    rw [List.zip_cons_cons, List.map_cons]
    exact (zip_sub N us).cons_cons _
theorem zip_lookup {N : List Str} {us : List Value} {i : Nat} {x : Str} {u : Value} (nd : N.Nodup) (hx : N[i]? = some x) (hu : us[i]? = some u) : (N.zip us).reverse.lookup x = some u := by
  have nd2 : ((N.zip us).reverse.map (·.1)).Nodup := by
    rw [List.map_reverse]
    have q : ((N.zip us).map (·.1)).Nodup := nd.sublist (zip_sub N us)
    unfold List.Nodup at q ⊢
    rw [List.pairwise_reverse]
    exact q.imp fun h z => h z.symm
  have hm : (x, u) ∈ (N.zip us).reverse := by
    rw [List.mem_reverse]
    exact List.mem_of_getElem? (i := i) (by rw [List.getElem?_zip_eq_some]; exact ⟨hx, hu⟩)
  generalize (N.zip us).reverse = l at nd2 hm
  induction l with
  | nil => cases hm
  | cons p l ih =>
    obtain ⟨a, b⟩ := p
    rw [List.map_cons, List.nodup_cons] at nd2
    rcases List.mem_cons.mp hm with e | e
    · cases e
      rw [List.lookup_cons, beq_self_eq_true]
    · have ne : (x == a) = false := by
        rw [beq_eq_false_iff_ne]
        intro z
        exact nd2.1 (by rw [← z]; exact List.mem_map.mpr ⟨_, e, rfl⟩)
      rw [List.lookup_cons, ne]
      exact ih nd2.2 e
section
variable {X : Cx} {pins : List (Addr × Obj)} {σ : L2.St} {H : Hp} {s : Shared}
theorem inv_init {A' : Around} {N : List Str} {qual : Str} {scope : Scope} {L fI cda cc C : Addr} {cl : Value} {cld : Option Addr} {csl : Array (Option Value)} {vs : List V} {us : List Value} {h1 : Heap} {t' : Nat}
    (I : Inv X pins σ H s) (hA : A'.frames = some X.stack) (S : IScope N scope) (hc : X.K.lookup cc = some ⟨cl, cld, .cell (some (.ref C)), csl⟩) (hL : s.heap.objs.size ≤ L)
    (hn : h1.Ns L fun x => (N.zip us).reverse.lookup x) (k : ∀ b o, s.heap.get? b = some o → h1.get? b = some o) (r : Vals vs us) (hl : us.length = N.length) :
    Inv (cxI X A' N (ieEnv qual scope L fI cda cc) s H) [] (vs.map some) H { s with heap := h1, toks := t' } := by
  have cells : ∀ x c, (ieEnv qual scope L fI cda cc).cells.lookup x = some c → x = "__class__" ∧ c = cc := fun x c h => by
    have h : List.lookup x [(("__class__" : Str), cc)] = some c := h
    rw [List.lookup_cons] at h
    split at h
    · rename_i e
      exact ⟨eq_of_beq e, (Option.some.inj h).symm⟩
    · cases h
  have kc : X.base.get? cc = some ⟨cl, cld, .cell (some (.ref C)), csl⟩ := I.ok.mod.kin _ _ hc
  have kc2 := I.bs cc _ kc
  have noA : ∀ b : Addr, b ∉ (cxI X A' N (ieEnv qual scope L fI cda cc) s H).ex := fun b z => absurd (show b ∈ ([] : List Addr) from z) (by simp)
  refine ⟨⟨I.ok.mod, S.kind, rfl, rfl, hL, fun x y c h1 h2 => (cells x c h1).1.trans (cells y c h2).1.symm, fun x h => ⟨cc, ?_⟩, fun x c h => (by cases h), fun z => (by cases z), Around.frames_deeper hA, .inr ⟨rfl, rfl⟩, fun b z => absurd z (noA b), I.bs, Nat.le_trans I.ok.bsz I.sz, fun b _ _ => noA b, fun b z => absurd z (noA b), I.stack, I.stkFree⟩,
    rfl, I.bare, Un.kept k, ⟨_, hn, fun i x v a1 a2 a3 => ?_⟩, fun x c h => ?_, I.hok.fresh hL, fun x c h => ?_, fun p hp => absurd (show p ∈ ([] : List (Addr × Obj)) from hp) (by simp), I.hok.kept k, ?_⟩
  · rw [S.only x h]
    show List.lookup _ [(("__class__" : Str), cc)] = _
    rw [List.lookup_cons, beq_self_eq_true]
  · have ha : vs[i]? = some v := by
      rw [List.getElem?_map] at a2
      cases e : vs[i]? with
      | none => rw [e] at a2; cases a2
      | some a => rw [e] at a2; cases a2; rfl
    obtain ⟨u, hu, rv⟩ := r.get ha
    exact ⟨u, rv, .inl ⟨S.loc x (List.mem_of_getElem? a1), zip_lookup S.nd a1 hu⟩⟩
  · rw [(cells x c h).2]
    exact ⟨_, _, k _ _ kc2.1, rfl⟩
  · rw [(cells x c h).2]
    exact kc2.2
  · rw [List.length_map, r.length]
    exact hl
end
end Ex

namespace Ex
open PySem PySem.Spec PyProof.Rows L2

/-- what the text must have of an own error class C, a child of G, itself a child of ValueError; fI its __init__ -/
def ClsNm (K : PySem.W.Frag) (nm : Str) (C : Addr) : Prop := PySem.W.nsIn K mainGlobals nm = some (some (.ref C)) ∧ ∃ (c0 : Value) (dd : Option Addr) (cd : ClassData) (sl : Array (Option Value)), K.lookup C = some ⟨c0, dd, .cls cd, sl⟩ ∧ cd.name = nm
/-- the fields that own errors have -/
def errFs : List Str := ["at", "place", "number", "key", "word", "row", "most", "text"]
/-- C is the own error class of this name, a child of GraftError, itself a child of ValueError -/
structure ExK (K : PySem.W.Frag) (C : Addr) (cls : Str) : Prop where
  obj : ∃ (G N : Addr) (q : Str) (bs : List Value) (sn : List Str) (sub : List Value) (ab : Bool) (col : Option Bool) (dd : Option Addr) (k0 k1 k2 k3 k5 : Option Value), K.lookup C = some (excClassObj cls q C N bs (.ref G :: bV) true sn sub ab col dd k0 k1 k2 k3 k5 "ValueError.__new__") ∧ ClsNm K "GraftError" G
  gl : PySem.W.nsIn K mainGlobals cls = some (some (.ref C))
  ga : PySem.W.findIn K (.ref C) "__getattribute__" = some (some (.builtin "BaseException.__getattribute__"))
  gt : PySem.W.findIn K (.ref C) "__getattr__" = some none
  kc : PySem.W.findIn K (.ref C) "__class__" = some (some (.builtin "object.__class__"))
  fs : ∀ f ∈ errFs, PySem.W.findIn K (.ref C) f = some none
structure ErrK (Pm : Program) (K : PySem.W.Frag) (mg : Str → Option Value) (C G N NG fI cc cda : Addr) (fd : FuncData) (qual : Str) (scope : Scope) (slf nm : Str) : Prop where
  cls : ∃ (q : Str) (bs : List Value) (sn : List Str) (sub : List Value) (ab : Bool) (col : Option Bool) (dd : Option Addr) (k0 k1 k2 k3 k5 : Option Value), K.lookup C = some (excClassObj nm q C N bs (.ref G :: bV) true sn sub ab col dd k0 k1 k2 k3 k5 "ValueError.__new__")
  par : ∃ (c0 : Value) (dd : Option Addr) (cd : ClassData) (sl : Array (Option Value)), K.lookup G = some ⟨c0, dd, .cls cd, sl⟩ ∧ cd.ns = NG ∧ PySem.W.nsIn K NG "__init__" = some none ∧ PySem.W.nsOkIn K NG = true
  gn : ClsNm K "GraftError" G
  nsOk : PySem.W.nsOkIn K N = true
  ini : PySem.W.nsIn K N "__init__" = some (some (.ref fI))
  fn : ∃ (oc : Value) (od : Option Addr) (osl : Array (Option Value)), K.lookup fI = some ⟨oc, od, .func fd, osl⟩ ∧ oc = .type "function"
  hd : ∃ ar : Arg, (fd.params.posonlyargs ++ fd.params.args).head? = some ar ∧ ar.arg = slf
  code : ∃ (ccl : Value) (cdd : Option Addr) (cvs : Array Value) (ccs : Array (Option Value)) (file : Str) (tf : Tok), K.lookup cda = some ⟨ccl, cdd, .fields cvs, ccs⟩ ∧ cvs[2]? = some (.str file tf) ∧ ((Pm.main.file : Str) == file) = true
  top : (Pm.main.scope.names.lookup ("super" : Str)).isSome = false
  cell : ∃ (cl : Value) (cld : Option Addr) (csl : Array (Option Value)), K.lookup cc = some ⟨cl, cld, .cell (some (.ref C)), csl⟩
  sup : mg "super" = none
  opq : PySem.W.nsIn K cStatics "thirdparty.any" = some none
theorem ErrK.tail {Pm : Program} {K : PySem.W.Frag} {mg : Str → Option Value} {C G N NG fI cc cda : Addr} {fd : FuncData} {qual slf nm : Str} {scope : Scope} {h : Heap} (Z : ErrK Pm K mg C G N NG fI cc cda fd qual scope slf nm) (X : K.In h) : OwnTail h bV (.ref G :: bV) := by
  obtain ⟨c0, dd, cd, sl, h1, h2, h3, h4⟩ := Z.par
  subst h2
  exact .own (X _ _ h1) (.of_isNs (PySem.W.isNs_of_in X h4)) (PySem.W.nsMap_none_of_in X h4 h3) .base
theorem ErrK.along {Pm : Program} {K : PySem.W.Frag} {mg : Str → Option Value} {C G N NG fI cc cda : Addr} {fd : FuncData} {qual slf nm : Str} {scope : Scope} (Z : ErrK Pm K mg C G N NG fI cc cda fd qual scope slf nm) :
    PySem.W.alongIn K "__init__" (.ref G :: bV) = some (some (.builtin "ValueError.__init__")) := by
  obtain ⟨c0, dd, cd, sl, h1, h2, h3, h4⟩ := Z.par
  subst h2
  have e1 : PySem.W.ownIn K "__init__" (.ref G) = some none := by
    simp only [PySem.W.ownIn]
    rw [h1]
    exact h3
  have e2 : PySem.W.ownIn K "__init__" (.type "ValueError") = some (some (.builtin "ValueError.__init__")) := by
    unfold PySem.W.ownIn
    kernel_rfl
  simp only [PySem.W.alongIn, e1, e2]
section
variable {X : Cx} {σ : L2.St} {H H1 : Hp} {s s1 : Shared} {A' : Around} {N : List Str} {qual slf nm : Str} {scope : Scope} {L fI cda cc C G NC NG e t0 : Addr} {fd : FuncData} {oe : Obj} {body : List Stmt} {p0 p1 apos cpos pos : Pos} {tx : Expr} {tt : TE} {R : Hp → Prop}
/-- super().__init__(text) -/
theorem super_stmt (Z : ErrK X.prog X.K X.mg C G NC NG fI cc cda fd qual scope slf nm) (S : IScope N scope) (I : Inv (cxI X A' N (ieEnv qual scope L fI cda cc) s H) [] σ H1 s1) (h0 : N[0]? = some slf) (v0 : σ[0]? = some (some (.ref e)))
    (kE : s1.heap.get? e = some oe) (kc : oe.cls = .ref C) (kd : oe.data = .fields #[.ref t0, .none, .none, .none, .bool false, .none]) (ke : H1 e = none) (keL : e ≠ L) (kef : e ∉ frs X.stack) (kes : s.heap.objs.size ≤ e) (kcc : e ≠ cc)
    (hT : PE (cxI X A' N (ieEnv qual scope L fI cda cc) s H) tx tt) (hq : tt σ H1 fun v H' => (∃ x, v = .str x) ∧ R H')
    (hst : starEach [tx] (ieEnv qual scope L fI cda cc) = [(false, eval tx (ieEnv qual scope L fI cda cc))])
    (hev : eval (.Call (.Attribute (.Call (.Name "super" p0) [] [] p1) "__init__" apos) [tx] [] cpos) (ieEnv qual scope L fI cda cc) = (do
      let ov ← attributeBase (.Call (.Name "super" p0) [] [] p1) "__init__" (ieEnv qual scope L fI cda cc) (eval (.Call (.Name "super" p0) [] [] p1) (ieEnv qual scope L fI cda cc))
      standAt apos.atName
      let (f, first) ← holding [ov] (getMethod ov "__init__" (pure false))
      callWith cpos f first (backTo cpos (starEach [tx] (ieEnv qual scope L fI cda cc))) []) := by rfl)
    (hsw : swapsWith (.Call (.Attribute (.Call (.Name "super" p0) [] [] p1) "__init__" apos) [tx] [] cpos) none pos.line (ieEnv qual scope L fI cda cc) = pure false := by rfl) :
    PySem.wpAt (model X.prog X.w) (A'.deeper (ieEnv qual scope L fI cda cc)) (.func body (ieEnv qual scope L fI cda cc)) (exec (.Expr (.Call (.Attribute (.Call (.Name "super" p0) [] [] p1) "__init__" apos) [tx] [] cpos) pos) (ieEnv qual scope L fI cda cc))
      (fun f s' => f = .next ∧ ∃ H' t1, R H' ∧ Inv (cxI X A' N (ieEnv qual scope L fI cda cc) s H) [] σ H' s' ∧ H' e = none ∧ s'.heap.get? e = some { oe with data := .fields #[.ref t1, .none, .none, .none, .bool false, .none] }) (fun _ _ => False) s1 := by
  obtain ⟨q, bs, sn, sub, ab, col, dd, k0, k1, k2, k3, k5, lC⟩ := Z.cls
  obtain ⟨oc, od, osl, lF, _⟩ := Z.fn
  obtain ⟨ar, hp, har⟩ := Z.hd
  obtain ⟨ccl, cdd, cvs, ccs, file, tf, lD, hvs, hfile⟩ := Z.code
  obtain ⟨cl, cld, csl, lc⟩ := Z.cell
  have KX := I.kIn
  have KC : s1.heap.get? C = _ := KX _ _ lC
  have kne : e ≠ C := by
    rintro rfl
    have b1 : X.base.get? e = some _ := I.ok.mod.kin _ _ lC
    have b2 := I.ok.bs _ _ b1
    exact absurd (Heap.lt_size b2.1) (Nat.not_lt.mpr kes)
  obtain ⟨m, hn, hlk⟩ := I.loc
  obtain ⟨u0, ru, lk⟩ := hlk 0 slf (.ref e) h0 v0 (.inl (S.loc slf (List.mem_of_getElem? h0)))
  obtain rfl : u0 = Value.ref e := ru
  have mself : m slf = some (.ref e) := by
    rcases lk with lk | ⟨lk, _⟩
    · exact lk.2
    · have : (ieEnv qual scope L fI cda cc).kindOf slf = some .local := S.loc slf (List.mem_of_getElem? h0)
      rcases lk with lk | lk
      · rw [show (cxI X A' N (ieEnv qual scope L fI cda cc) s H).env.kindOf slf = some .local from this] at lk; cases lk
      · rw [show (cxI X A' N (ieEnv qual scope L fI cda cc) s H).env.kindOf slf = some .local from this] at lk; cases lk
  refine PySem.ks_wpAt_Expr_any (PySem.ks_wpAt_MethodCall (pl := pure false) (PySem.ks_wpAt_super_base (env := ieEnv qual scope L fI cda cc) S.sup S.cls (by decide) rfl (KX _ _ lF) rfl hp rfl (KX _ _ lD) rfl hvs hfile Z.top ?_) hev) (I.quiet) hsw
  refine PySem.W.ks_loadName_global S.kind S.sup ?_
  obtain ⟨mb, hb1, hb2⟩ := I.mod.blt
  refine Calls.loadGlobal_builtin (env := ieEnv qual scope L fI cda cc) (I.mod.glob.keeps I.bk) Z.sup (hb1.keeps I.bk) ((hb2 _ (by decide)).trans (by decide +kernel : bootBuiltins "super" = some (.type "super"))) ⟨rfl, ?_⟩
  refine wpAny_loadName_free S.kind S.cls rfl ⟨_, KX _ _ lc, rfl⟩ ?_
  rw [har]
  refine wpAny_loadName_local S.kind (S.loc slf (List.mem_of_getElem? h0)) hn mself ?_
  obtain ⟨hp1, g, d, tk, os⟩ := s1
  refine ks_wpAny_isType_cls KC rfl ⟨rfl, ?_⟩
  refine ks_wpAny_call_super KC rfl kE kc (fun c z => by rw [kd] at z; cases z) ?_ fun h' e1 up => ?_
  · exact fun A Q E s k q => by
      have z := k _ _ KC
      obtain ⟨hs, gs, ds, ts, oss⟩ := s
      refine wpAny_isSubtype_exc z ?_
      have c1 : (Value.ref C :: .ref G :: bV).contains (.ref C) = true := by simp
      rw [c1]
      exact q
  have KX1 : X.K.In h' := fun b o z => up _ _ (KX _ _ z)
  refine super_init (Z.tail KX1) (up _ _ KC) (up _ _ kE) kc e1 (PySem.W.looks_opaque KX1 Z.opq) KX1 Z.along kne ?_
  have up2 : ∀ b o, hp1.get? b = some o → (h'.push (wrapObj e)).get? b = some o := fun b o z => Heap.get?_push_of_some _ (up _ _ z)
  have kW : (h'.push (wrapObj e)).get? h'.objs.size = some (wrapObj e) := Heap.get?_push_size _ rfl
  have sz : hp1.objs.size ≤ h'.objs.size := Nat.le_of_lt (Heap.lt_size e1)
  have I2 : Inv (cxI X A' N (ieEnv qual scope L fI cda cc) s H) [] σ H1 ⟨h'.push (wrapObj e), g, d, tk + 1, os⟩ := I.kept (t' := tk + 1) up2
  have I3 := I2.pins_of (pins' := [(e, oe), (h'.objs.size, wrapObj e)]) fun p hp => by
    rcases List.mem_cons.mp hp with rfl | hp
    · exact ⟨up2 _ _ kE, ke, keL, kef, fun v z => by rw [kd] at z; cases z⟩
    · obtain rfl := List.mem_singleton.mp hp
      exact ⟨kW, I.hok.fresh sz, Nat.ne_of_gt (Nat.lt_of_lt_of_le I.lt sz), I.nofs sz, fun v z => by cases z⟩
  unfold callWith
  refine wpAny_bind (wpAny_holding ?_)
  have hb : backTo cpos (starEach [tx] (ieEnv qual scope L fI cda cc)) = [(false, eval tx (ieEnv qual scope L fI cda cc))] := by rw [hst]; rfl
  rw [hb]
  refine Calls.evalArgs_plain (Calls.spliced_cons (wpAny_mono (hT _ _ σ H1 _ I3 hq) (fun u s2 h2 => Calls.spliced_nil ?_) fun _ _ z => z.elim))
  obtain ⟨v, H2, I4, ru2, ⟨x, rfl⟩, hR⟩ := h2
  obtain ⟨tx2, rfl⟩ := ru2
  have kE2 := (I4.pin (e, oe) (by simp)).1
  have kE3 := (I4.pin (e, oe) (by simp)).2.1
  have kW2 := (I4.pin (h'.objs.size, wrapObj e) (by simp)).1
  have KX2 := I4.kIn
  obtain ⟨hp2, g2, d2, tk2, os2⟩ := s2
  refine wpAny_bind (wpAny_standAt ?_)
  dsimp only [List.append_nil]
  have kq : ∀ (Q : Keeper → Shared → Prop), Q .machine ⟨hp2, g2, d2, tk2, os2⟩ → wpAny (model X.prog X.w) (A'.deeper (ieEnv qual scope L fI cda cc)) (keeperOf (.ref h'.objs.size)) Q (fun _ _ => False) ⟨hp2, g2, d2, tk2, os2⟩ := fun Q hQ => by
    unfold keeperOf
    refine wpAny_bind (wpAny_load kW2 ?_)
    dsimp only
    rw [if_pos (by decide)]
    exact wpAny_pure hQ
  refine wpAny_bind (kq _ ?_)
  show wpAny _ _ (call (Value.ref h'.objs.size) [Value.str x tx2] >>= fun r => holding [r] point >>= fun _ => pure r) _ _ _
  refine wpAny_bind (wrap_call (Z.tail KX2) (KX2 _ _ lC) kE2 kc kd kW2 (rest := [Value.str x tx2]) (show 1 ≤ sizeLine by decide) ?_)
  refine wpAny_bind (wpAny_holding (wpAny_point (wpAny_pure ⟨rfl, H2, hp2.objs.size, hR, ?_, kE3, ?_⟩)))
  · refine (I4.pins_of (pins' := []) (fun p hp => nomatch hp)).turnedL (t' := tk2) (ch := [e]) (fun b o hb z => ?_) (fun b hb => ?_)
    · have nb : b ≠ e := fun z => hb (by simp [z])
      exact (Heap.get?_update_other _ _ (Ne.symm nb)).trans (Heap.get?_push_of_some _ z)
    · obtain rfl : b = e := by simpa using hb
      refine ⟨kE3, keL, kef, .inr kes, fun y c hc => ?_, fun p hp => absurd (show p ∈ ([] : List (Addr × Obj)) from hp) (by simp)⟩
      have hc : List.lookup y [(("__class__" : Str), cc)] = some c := hc
      rw [List.lookup_cons] at hc
      split at hc
      · cases hc; exact Ne.symm kcc
      · cases hc
  · have kE4 := Heap.get?_push_of_some { cls := .type "tuple", data := .seq #[Value.str x tx2] } kE2
    obtain ⟨oc1, od1, odt, osl1⟩ := oe
    have kd : odt = .fields #[.ref t0, .none, .none, .none, .bool false, .none] := kd
    subst kd
    exact Heap.get?_update_self _ kE4 rfl
end
end Ex

namespace Ex
open PySem PySem.Spec PyProof.Rows L2

/-- the new error object: its fields so far -/
structure EObj (C e : Addr) (fs : List (Str × V)) (P : Addr → Prop) (h : Heap) : Prop where
  mk ::
  ex : ∃ (oe : Obj) (t1 : Addr) (mA : Str → Option Value), h.get? e = some oe ∧ oe.cls = .ref C ∧ oe.data = .fields #[.ref t1, .none, .none, .none, .bool false, .none] ∧ (∀ f, RelO (fs.lookup f) (mA f)) ∧ PySem.Within mA (fs.map (·.1)) ∧
    ((oe.dict = none ∧ ∀ n, mA n = none) ∨ ∃ dx, oe.dict = some dx ∧ dx ≠ e ∧ h.Ns1 dx mA ∧ P dx)
section
variable {X : Cx} {σ : L2.St} {H H1 : Hp} {s s1 : Shared} {A' : Around} {N : List Str} {qual slf nm : Str} {scope : Scope} {L fI cda cc C G NC NG e : Addr} {fd : FuncData} {fs : List (Str × V)} {f p : Str} {v : V} {i : Nat} {q0 q1 q2 pos : Pos}
/-- what of the address of its dict holds -/
def DxP (X : Cx) (s : Shared) (L cc : Addr) (H : Hp) (dx : Addr) : Prop := H dx = none ∧ dx ≠ L ∧ dx ∉ frs X.stack ∧ s.heap.objs.size ≤ dx ∧ dx ≠ cc
theorem store_stmt (Z : ErrK X.prog X.K X.mg C G NC NG fI cc cda fd qual scope slf nm) (S : IScope N scope) (I : Inv (cxI X A' N (ieEnv qual scope L fI cda cc) s H) [] σ H1 s1) (h0 : N[0]? = some slf) (v0 : σ[0]? = some (some (.ref e))) (hi : N[i]? = some p) (vi : σ[i]? = some (some v))
    (ke : H1 e = none) (keL : e ≠ L) (kef : e ∉ frs X.stack) (kes : s.heap.objs.size ≤ e) (kcc : e ≠ cc) (O : EObj C e fs (DxP X s L cc H1) s1.heap) (hf : PySem.W.findIn X.K (.ref C) f = some none) (hset : PySem.W.findIn X.K (.ref C) "__setattr__" = some (some (.builtin "object.__setattr__"))) (hz : fs.length ≤ 100)
    (d1 : (slf == ("__debug__" : Str)) = false) (d2 : (slf == ("__classdict__" : Str)) = false) (d3 : (p == ("__debug__" : Str)) = false) (d4 : (p == ("__classdict__" : Str)) = false)
    (hs : swapsWith (.Name p q2) (some (.Attribute (.Name slf q0) f q1)) pos.line (ieEnv qual scope L fI cda cc) = pure false := by rfl) :
    wpAny (model X.prog X.w) (A'.deeper (ieEnv qual scope L fI cda cc)) (exec (.Assign [.Attribute (.Name slf q0) f q1] (.Name p q2) pos) (ieEnv qual scope L fI cda cc))
      (fun fl s' => fl = .next ∧ Inv (cxI X A' N (ieEnv qual scope L fI cda cc) s H) [] σ H1 s' ∧ EObj C e ((f, v) :: fs) (DxP X s L cc H1) s'.heap) (fun _ _ => False) s1 := by
  obtain ⟨q, bs, sn, sub, ab, col, dd, k0, k1, k2, k3, k5, lC⟩ := Z.cls
  have KX := I.kIn
  have KC : s1.heap.get? C = _ := KX _ _ lC
  have kne : e ≠ C := by
    rintro rfl
    have b1 : X.base.get? e = some _ := I.ok.mod.kin _ _ lC
    exact absurd (Heap.lt_size (I.ok.bs _ _ b1).1) (Nat.not_lt.mpr kes)
  obtain ⟨m, hn, hlk⟩ := I.loc
  have loc : ∀ (j : Nat) (y : Str) (w : V), N[j]? = some y → σ[j]? = some (some w) → ∃ u, L2.RelV w u ∧ m y = some u := fun j y w hy hw => by
    have ly : (ieEnv qual scope L fI cda cc).kindOf y = some .local := S.loc y (List.mem_of_getElem? hy)
    obtain ⟨u, r, lk⟩ := hlk j y w hy hw (.inl ly)
    rcases lk with lk | ⟨lk, _⟩
    · exact ⟨u, r, lk.2⟩
    · rw [show (cxI X A' N (ieEnv qual scope L fI cda cc) s H).env.kindOf y = some .local from ly] at lk
      rcases lk with lk | lk <;> cases lk
  obtain ⟨u0, r0, m0⟩ := loc 0 slf _ h0 v0
  obtain rfl : u0 = Value.ref e := r0
  obtain ⟨u, ru, mu⟩ := loc i p v hi vi
  refine plainObj_wpAny_Assign_Attribute ?_ hs
  refine wpAny_Name (wpAny_loadName_local S.kind (S.loc p (List.mem_of_getElem? hi)) hn mu ?_) d3
  refine wpAny_Name (wpAny_loadName_local S.kind (S.loc slf (List.mem_of_getElem? h0)) hn m0 ?_) d1
  obtain ⟨oe, t1, mA, kE, kc, kd, kr, kw, kx⟩ := O.ex
  obtain ⟨hp, g, d, tk, os⟩ := s1
  refine set_attr KC (PySem.W.looks_findIn KX hf) (PySem.W.looks_findIn KX hset) kne ⟨oe, kE, kc, fun c z => (by rw [kd] at z; cases z), ?_⟩ (fun h' tk' I' hk hob => ⟨rfl, ?_, ?_⟩) kw (by rw [List.length_map]; omega)
  · rcases kx with kx | ⟨dx, a1, a2, a3, _⟩
    · exact .inl kx
    · exact .inr ⟨dx, a1, a2, a3⟩
  · have fp : ∀ b, H1 b = none → b ≠ L → b ∉ frs X.stack → s.heap.objs.size ≤ b → b ≠ cc → FpOk (cxI X A' N (ieEnv qual scope L fI cda cc) s H) [] H1 b := fun b b1 b2 b3 b4 b5 => by
      refine ⟨b1, b2, b3, .inr b4, fun y c hc => ?_, fun p hp => absurd (show p ∈ ([] : List (Addr × Obj)) from hp) (by simp)⟩
      have hc : List.lookup y [(("__class__" : Str), cc)] = some c := hc
      rw [List.lookup_cons] at hc
      split at hc
      · cases hc; exact Ne.symm b5
      · cases hc
    rcases kx with ⟨kx, _⟩ | ⟨dx, a1, a2, a3, a4⟩
    · refine I.turnedL (t' := tk') (ch := [e]) (fun b o hb z => hk b o (fun z => hb (by simp [z])) (fun o₀ dx h₀ hd => ?_) z) (fun b hb => ?_)
      · rw [kE] at h₀; cases h₀; rw [kx] at hd; cases hd
      · obtain rfl : b = e := by simpa using hb
        exact fp _ ke keL kef kes kcc
    · refine I.turnedL (t' := tk') (ch := [e, dx]) (fun b o hb z => hk b o (fun z => hb (by simp [z])) (fun o₀ dx' h₀ hd => ?_) z) (fun b hb => ?_)
      · rw [kE] at h₀; cases h₀; rw [a1] at hd; cases hd; exact fun z => hb (by simp [z])
      · rcases List.mem_cons.mp hb with rfl | hb
        · exact fp _ ke keL kef kes kcc
        · obtain rfl := List.mem_singleton.mp hb
          obtain ⟨b1, b2, b3, b4, b5⟩ := a4
          exact fp _ b1 b2 b3 b4 b5
  · obtain ⟨o1, c1, c2, c3, c4, c5, c6⟩ := hob _ kE
    obtain ⟨o2, g1, g2, g3, g4⟩ := I'
    rw [c1] at g1
    cases g1
    refine ⟨o1, t1, _, c1, g2, c3.trans kd, fun y => ?_, by rw [List.map_cons]; exact PySem.Within.cons f u kw, ?_⟩
    · rw [List.lookup_cons]
      by_cases hy : y = f
      · subst hy
        rw [beq_self_eq_true, if_pos rfl]
        exact ru
      · rw [beq_eq_false_iff_ne.mpr hy, if_neg hy]
        exact kr y
    · rcases g4 with ⟨g4, _⟩ | ⟨dx, g4, g5, g6⟩
      · rcases kx with ⟨kx, _⟩ | ⟨dx, a1, _⟩
        · rw [c6 kx] at g4; cases g4
        · rw [c5 _ a1] at g4; cases g4
      · refine .inr ⟨dx, g4, g5, g6, ?_⟩
        rcases kx with ⟨kx, _⟩ | ⟨dx', a1, a2, a3, a4⟩
        · rw [c6 kx] at g4
          cases g4
          obtain ⟨cl, cld, csl, lc⟩ := Z.cell
          exact ⟨I.hok.fresh (Nat.le_refl _), Nat.ne_of_gt I.lt, I.nofs (Nat.le_refl _), I.sz, Nat.ne_of_gt (Heap.lt_size (KX _ _ lc))⟩
        · rw [c5 _ a1] at g4
          cases g4
          exact a4
/-- the stores behind it -/
inductive Stores (N : List Str) (slf : Str) (env : Env) : List Stmt → List (Str × Nat) → Prop
  | nil : Stores N slf env [] []
  | cons {f p : Str} {i : Nat} {q0 q1 q2 pos : Pos} {r : List Stmt} {l : List (Str × Nat)} : N[i]? = some p → (p == ("__debug__" : Str)) = false → (p == ("__classdict__" : Str)) = false → swapsWith (.Name p q2) (some (.Attribute (.Name slf q0) f q1)) pos.line env = pure false →
      Stores N slf env r l → Stores N slf env (.Assign [.Attribute (.Name slf q0) f q1] (.Name p q2) pos :: r) ((f, i) :: l)
def addFs (vs : List V) : List (Str × Nat) → List (Str × V) → List (Str × V)
  | [], fs => fs
  | (f, i) :: l, fs => addFs vs l ((f, vs.getD i .non) :: fs)
theorem addFs_len (vs : List V) : ∀ (l : List (Str × Nat)) (fs : List (Str × V)), (addFs vs l fs).length = l.length + fs.length
  | [], fs => by simp [addFs]
  | (f, i) :: l, fs => by rw [addFs, addFs_len vs l, List.length_cons, List.length_cons]; omega
theorem stores_run {body : List Stmt} {l : List (Str × Nat)} (St : Stores N slf (ieEnv qual scope L fI cda cc) body l) {vs : List V} (Z : ErrK X.prog X.K X.mg C G NC NG fI cc cda fd qual scope slf nm) (S : IScope N scope) (h0 : N[0]? = some slf) (v0 : vs[0]? = some (.ref e)) (hl : vs.length = N.length)
    (ke : H1 e = none) (keL : e ≠ L) (kef : e ∉ frs X.stack) (kes : s.heap.objs.size ≤ e) (kcc : e ≠ cc) (hf : ∀ p ∈ l, PySem.W.findIn X.K (.ref C) p.1 = some none) (hset : PySem.W.findIn X.K (.ref C) "__setattr__" = some (some (.builtin "object.__setattr__")))
    (d1 : (slf == ("__debug__" : Str)) = false) (d2 : (slf == ("__classdict__" : Str)) = false) : ∀ (fs : List (Str × V)) (s1 : Shared), fs.length + l.length ≤ 100 → Inv (cxI X A' N (ieEnv qual scope L fI cda cc) s H) [] (vs.map some) H1 s1 → EObj C e fs (DxP X s L cc H1) s1.heap →
    wpAny (model X.prog X.w) (A'.deeper (ieEnv qual scope L fI cda cc)) (execs body (ieEnv qual scope L fI cda cc))
      (fun fl s' => fl = .next ∧ Inv (cxI X A' N (ieEnv qual scope L fI cda cc) s H) [] (vs.map some) H1 s' ∧ EObj C e (addFs vs l fs) (DxP X s L cc H1) s'.heap) (fun _ _ => False) s1 := by
  induction St with
  | nil => exact fun fs s1 _ I O => wpAny_execs_nil ⟨rfl, I, O⟩
  | cons hi g1 g2 g3 _ ih =>
    rename_i f p i q0 q1 q2 pos r l _
    intro fs s1 hz I O
    rw [List.length_cons] at hz
    have hv : vs[i]? = some (vs.getD i .non) := by
      have : i < vs.length := by rw [hl]; exact (List.getElem?_eq_some_iff.mp hi).1
      rw [List.getD_eq_getElem?_getD, List.getElem?_eq_getElem this]
      rfl
    refine wpAny_execs_cons (wpAny_mono (store_stmt (i := i) (p := p) (v := vs.getD i .non) Z S I h0 (by rw [List.getElem?_map, v0]; rfl) hi (by rw [List.getElem?_map, hv]; rfl) ke keL kef kes kcc O (hf _ (List.mem_cons_self)) hset (by omega) d1 d2 g1 g2 g3) (fun fl s2 ⟨e1, I2, O2⟩ => ?_) fun _ _ z => z)
    subst e1
    exact ih (fun p hp => hf p (List.mem_cons_of_mem _ hp)) _ s2 (by rw [List.length_cons]; omega) I2 O2
end
end Ex

namespace Ex
open PySem PySem.Spec PyProof.Rows L2

theorem ns_at {K : PySem.W.Frag} {h : Heap} {A : Addr} {m : Str → Option Value} {x : Str} {v : Value} (X : K.In h) (G : h.Ns A m) (z : PySem.W.nsIn K A x = some (some v)) : m x = some v := by
  obtain ⟨o, es, ep, a1, a2, _, a3⟩ := G
  unfold PySem.W.nsIn at z
  split at z
  · rename_i c d es' n' sl' q
    have y := X _ _ q
    rw [a1] at y
    cases y
    cases a2
    split at z
    · rename_i en hen
      cases z
      rw [← a3]
      unfold nsFind findBy
      rw [← Array.find?_toList, hen]
      rfl
    · split at z <;> cases z
  · cases z
/-- an error object of the class at C, its dict at dx -/
def exAt (e C dx : Addr) (h : Heap) : Prop := ∃ oe vs, h.get? e = some oe ∧ oe.cls = .ref C ∧ oe.dict = some dx ∧ oe.data = .fields vs ∧ vs.size = 6
theorem exAt_ok {P : Program} {w : World} {H : Hp} {e C dx : Addr} {h : Heap} (x : exAt e C dx h) : ObjOk P w H h e (.ext (exAt e C dx)) := by
  refine ⟨x, ?_, ?_⟩
  · obtain ⟨oe, vs, a, _⟩ := x
    exact ⟨oe, a⟩
  · rintro h1 h2 ⟨oe, vs, a, b⟩ k
    exact ⟨oe, vs, k _ a, b⟩
/-- its dict -/
def xdAt (dx : Addr) (fs : List (Str × V)) (h : Heap) : Prop := ∃ mA, h.Ns1 dx mA ∧ ∀ f, RelO (fs.lookup f) (mA f)
theorem xdAt_ok {P : Program} {w : World} {H : Hp} {dx : Addr} {fs : List (Str × V)} {h : Heap} (x : xdAt dx fs h) : ObjOk P w H h dx (.ext (xdAt dx fs)) := by
  refine ⟨x, ?_, ?_⟩
  · obtain ⟨mA, ⟨o, es, ep, a, _⟩, _⟩ := x
    exact ⟨o, a⟩
  · rintro h1 h2 ⟨mA, a, b⟩ k
    exact ⟨mA, a.at fun o z => k o z, b⟩
theorem HOk.add {P : Program} {w : World} {H : Hp} {h : Heap} {a : Addr} {o : HO} (x : HOk P w H h) (hn : H a = none) (new : ObjOk P w (upd H a o) h a o) : HOk P w (upd H a o) h := fun b u q => by
  by_cases hb : b = a
  · subst hb; rw [upd_same] at q; cases q; exact new
  · rw [upd_ne hb] at q
    exact (x b u q).stay (fun _ _ _ z => z) (fun c z => by rw [upd_ne (ne_of_none z hn)]; exact z) fun c xs z => by rw [upd_ne (ne_of_none z hn)]; exact z
theorem Un.add {fs ex : List Addr} {H H1 : Hp} {h h1 : Heap} {a : Addr} {o : HO} (u : Un fs ex H H1 h h1) (hn : H1 a = none) (hz : h.objs.size ≤ a) : Un fs ex H (upd H1 a o) h h1 where
  keep := u.keep
  slot := u.slot
  free := fun b ob q n hx => by rw [upd_ne (Nat.ne_of_lt (Nat.lt_of_lt_of_le (Heap.lt_size q) hz))]; exact u.free b ob q n hx
  there := u.there
  tups := fun b xs q => by
    have z := u.tups b xs q
    rw [upd_ne (ne_of_none z hn)]; exact z
  frzs := fun b ob v q => by
    have z := u.frzs b ob v q
    rw [upd_ne (ne_of_none z hn)]; exact z
  tbls := fun b ps q => by
    obtain ⟨more, z⟩ := u.tbls b ps q
    exact ⟨more, by rw [upd_ne (ne_of_none z hn)]; exact z⟩
/-- the new error object as it lies -/
abbrev newE (C dx t1 : Addr) (sl : Array (Option Value)) : Obj := { cls := .ref C, dict := some dx, data := .fields #[.ref t1, .none, .none, .none, .bool false, .none], slots := sl }
section
variable {X : Cx} {pins : List (Addr × Obj)} {σ : L2.St} {H : Hp} {s : Shared} {N : List Str} {qual slf nm : Str} {params : Arguments} {scope : Scope} {fI cda cc C G NC NG : Addr} {l : List (Str × Nat)} {body : List Stmt} {p0 p1 apos cpos pos : Pos} {tx : Expr} {k : Nat}
  {kV doc pm ct : Value} {an : Option Addr} {vs : List V} {us : List Value} {RR : Hp → Prop}
theorem exc_call {tt : TE} (Z : ErrK X.prog X.K X.mg C G NC NG fI cc cda (PySem.W.ksFn "__init__" qual params (.Expr (.Call (.Attribute (.Call (.Name "super" p0) [] [] p1) "__init__" apos) [tx] [] cpos) pos :: body) scope .none kV doc pm an (.ref cda) ct cc) qual scope slf nm)
    (S : IScope N scope) (hcode : PySem.W.codeIn X.K (.ref cda) qual = true) (hb : Binds X.K (PySem.W.ksFn "__init__" qual params (.Expr (.Call (.Attribute (.Call (.Name "super" p0) [] [] p1) "__init__" apos) [tx] [] cpos) pos :: body) scope .none kV doc pm an (.ref cda) ct cc) N []) (hcel : ∀ x ∈ scope.names, x.2 ≠ .cell) (hco : scope.isCoroutine = false) (hgen : scope.isGenerator = false)
    (h0 : N[0]? = some slf) (hl : vs.length + 1 = N.length) (d1 : (slf == ("__debug__" : Str)) = false) (d2 : (slf == ("__classdict__" : Str)) = false) (hr : Room (k + 2) X.A) (St : ∀ L, Stores N slf (ieEnv qual scope L fI cda cc) body l) (hne : l ≠ []) (hz : l.length ≤ 100) (hN : N.length ≤ 100)
    (hf : ∀ p ∈ l, PySem.W.findIn X.K (.ref C) p.1 = some none) (hset : PySem.W.findIn X.K (.ref C) "__setattr__" = some (some (.builtin "object.__setattr__")))
    (hT : ∀ (A' : Around) (L : Addr), Room k (A'.deeper (ieEnv qual scope L fI cda cc)) → PE (cxI X A' N (ieEnv qual scope L fI cda cc) s H) tx tt) (hst : ∀ L, starEach [tx] (ieEnv qual scope L fI cda cc) = [(false, eval tx (ieEnv qual scope L fI cda cc))])
    (hev : ∀ L, eval (.Call (.Attribute (.Call (.Name "super" p0) [] [] p1) "__init__" apos) [tx] [] cpos) (ieEnv qual scope L fI cda cc) = (do
      let ov ← attributeBase (.Call (.Name "super" p0) [] [] p1) "__init__" (ieEnv qual scope L fI cda cc) (eval (.Call (.Name "super" p0) [] [] p1) (ieEnv qual scope L fI cda cc))
      standAt apos.atName
      let (f, first) ← holding [ov] (getMethod ov "__init__" (pure false))
      callWith cpos f first (backTo cpos (starEach [tx] (ieEnv qual scope L fI cda cc))) []))
    (hsw : ∀ L, swapsWith (.Call (.Attribute (.Call (.Name "super" p0) [] [] p1) "__init__" apos) [tx] [] cpos) none pos.line (ieEnv qual scope L fI cda cc) = pure false)
    (I : Inv X pins σ H s) (r : Vals vs us) (hq : ∀ e, tt ((V.ref e :: vs).map some) H fun v H' => (∃ x, v = .str x) ∧ Same H H' ∧ RR H') :
    wpAny (model X.prog X.w) X.A (call (.ref C) us) (fun u s' => ∃ e dx t1 sl H0 H2, u = .ref e ∧ Inv X pins σ H2 s' ∧ Same H H0 ∧ RR H0 ∧ H0 e = none ∧ H0 dx = none ∧ H e = none ∧ H dx = none ∧ dx ≠ e ∧ s.heap.objs.size ≤ e ∧ s.heap.objs.size ≤ dx ∧ H2 = upd (upd H0 dx (.ext (xdAt dx (addFs (.ref e :: vs) l [])))) e (.ext (exAt e C dx)) ∧ s'.heap.get? e = some (newE C dx t1 sl)) X.xe s := by
  obtain ⟨q, bs, sn, sub, ab, col, dd, k0, k1, k2, k3, k5, lC⟩ := id Z.cls
  obtain ⟨oc, od, osl, lF, rfl⟩ := id Z.fn
  obtain ⟨cl, cld, csl, lc⟩ := id Z.cell
  have KX := I.kIn
  have hlen : us.length + 1 = N.length := by rw [← r.length]; exact hl
  obtain ⟨hp, g, d, tk, os⟩ := s
  refine call_init (Z.tail KX) (KX _ _ lC) (.of_isNs (PySem.W.isNs_of_in KX Z.nsOk)) (ns_at KX (.of_isNs (PySem.W.isNs_of_in KX Z.nsOk)) Z.ini) (KX _ _ lF) rfl ?_ fun h' e hm hez => ?_
  · have := sizeLine_eq
    omega
  have up : ∀ b o, hp.get? b = some o → h'.get? b = some o := hm.keeps
  have KX' : X.K.In h' := fun b o z => up _ _ (KX _ _ z)
  obtain ⟨t0, kE, _, _⟩ := hm.there
  refine wpAny_call ?_
  have hfr : (X.A.under (.builtin "type.__call__" ⟨.ref C :: us, []⟩)).frames = some X.stack := by
    simpa [Around.under, Code.envs, Code.isFrame, pushEnvs] using I.ok.frames
  have hr2 := hr.make C us []
  refine ks_codeAny_call_defAt (s := ⟨h', g, d, tk, os⟩) (fd := PySem.W.ksFn "__init__" qual params (.Expr (.Call (.Attribute (.Call (.Name "super" p0) [] [] p1) "__init__" apos) [tx] [] cpos) pos :: body) scope .none kV doc pm an (.ref cda) ct cc)
    (body := .Expr (.Call (.Attribute (.Call (.Name "super" p0) [] [] p1) "__init__" apos) [tx] [] cpos) pos :: body) (binds := N.zip (.ref e :: us)) hr2.depth (KX' _ _ lF) rfl (I.nolimit.keeps up) (PySem.W.codeRec_of KX' hcode) rfl ?_ hcel ?_ (fun h1 hns hk1 => ?_) hco hgen S.kind
  · have z := hb ⟨h', g, d, tk, os⟩ (.ref e :: us) KX' (by rw [List.append_nil, List.length_cons]; exact hlen)
    rw [List.append_nil] at z
    exact z
  · intro y hy
    exact S.loc y.1 (List.of_mem_zip hy).1
  have szh : hp.objs.size ≤ h'.objs.size := by
    have := Heap.lt_size kE
    exact Nat.le_of_lt (Nat.lt_of_le_of_lt hez this)
  have I1 := inv_init (A' := X.A.under (.builtin "type.__call__" ⟨.ref C :: us, []⟩)) (qual := qual) (fI := fI) (cda := cda) (t' := tk + (N.zip (Value.ref e :: us)).length) I hfr S lc szh hns (fun b o z => hk1 _ _ (up _ _ z)) (Paired.cons (show RelV (.ref e) (.ref e) from rfl) r : Vals (.ref e :: vs) (.ref e :: us)) (by rw [List.length_cons]; exact hlen)
  have keL : e ≠ h'.objs.size := Nat.ne_of_lt (Heap.lt_size kE)
  have keX : ∀ b, hp.objs.size ≤ b → b ∉ frs X.stack := fun b hb z => by
    rcases List.mem_cons.mp (I.stkSub b z) with z | z
    · exact absurd (Nat.lt_of_lt_of_le I.lt hb) (by rw [← z]; exact Nat.lt_irrefl _)
    · exact I.nofs hb z
  have kcc : e ≠ cc := fun z => absurd (Heap.lt_size (KX _ _ lc)) (by rw [← z]; exact Nat.not_lt.mpr hez)
  have keH : H e = none := I.hok.fresh hez
  refine PySem.ks_wpAt_execs_cons (PySem.ks_wpAt_mono (super_stmt (R := fun H' => Same H H' ∧ RR H') Z S I1 h0 rfl (hk1 _ _ kE) rfl rfl keH keL (keX e hez) hez kcc (hT _ _ (hr2.deeper _)) (hq e) (hst _) (hev _) (hsw _)) (fun fl s2 h2 => ?_) fun _ _ z => z.elim)
  obtain ⟨rfl, H0, t1, ⟨sm, hRR⟩, I2, k2, kE2⟩ := h2
  refine wpAt_of_wpAny (wpAny_mono (stores_run (St _) (vs := .ref e :: vs) Z S h0 rfl (by rw [List.length_cons]; exact hl) k2 keL (keX e hez) hez kcc hf hset d1 d2 [] s2 (by simpa using hz) I2 ⟨⟨_, _, fun _ => none, kE2, rfl, rfl, fun f => trivial, fun y hy => absurd rfl hy, .inl ⟨rfl, fun _ => rfl⟩⟩⟩) (fun fl s3 h3 => ?_) fun _ _ z => z.elim)
  obtain ⟨rfl, I3, O3⟩ := h3
  show Value.none = Value.none ∧ _
  refine ⟨rfl, ?_⟩
  obtain ⟨oe, t2, mA, c1, c2, c3, c4, c5, c6⟩ := O3.ex
  rcases c6 with ⟨_, c6⟩ | ⟨dx, c6, c7, c8, c9, c10, c11, c12, c13⟩
  · exfalso
    have hlen2 := addFs_len (.ref e :: vs) l []
    cases hA : addFs (.ref e :: vs) l [] with
    | nil =>
      rw [hA] at hlen2
      cases l with
      | nil => exact hne rfl
      | cons a b => rw [List.length_cons, List.length_nil] at hlen2; omega
    | cons a b =>
      obtain ⟨f, v⟩ := a
      have z := c4 f
      rw [hA, List.lookup_cons, beq_self_eq_true, c6 f] at z
      exact z
  · have hx : exAt e C dx s3.heap := ⟨oe, _, c1, c2, c6, c3, rfl⟩
    have n1 : (upd H0 dx (.ext (xdAt dx (addFs (.ref e :: vs) l [])))) e = none := by rw [upd_ne (Ne.symm c7)]; exact k2
    have hok1 := HOk.add (o := .ext (xdAt dx (addFs (.ref e :: vs) l []))) I3.hok c9 (xdAt_ok ⟨mA, c8, c4⟩)
    have hok2 := HOk.add (o := .ext (exAt e C dx)) hok1 n1 (exAt_ok hx)
    have u2 := Un.add (o := .ext (exAt e C dx)) (Un.add (o := .ext (xdAt dx (addFs (.ref e :: vs) l []))) I3.base c9 c12) n1 hez
    refine ⟨e, dx, t2, oe.slots, H0, _, rfl, I.call' (ch := []) I3.os u2 hok2 I3.bare (fun b z => nomatch z), sm, hRR, k2, c9, keH, ?_, c7, hez, c12, rfl, ?_⟩
    · exact I.hok.fresh c12
    · rw [c1]
      obtain ⟨o1, o2, o3, o4⟩ := oe
      cases c2; cases c3; cases c6
      rfl
end
end Ex

namespace Ex
open PySem PySem.Spec PyProof.Rows L2

/-- an error in flight: its record of frames. z: what stood ahead; fl: none without a record, else where it flies -/
def TbOk (z : Nat) (H : Hp) (h : Heap) (e : Addr) (fl : Option Value) : Prop := ∃ oe vs, h.get? e = some oe ∧ oe.data = .fields vs ∧ vs.size = 6 ∧ match fl with
  | none => vs[1]? = some .none
  | some f => ∃ T oT ts, vs[1]? = some (.ref T) ∧ T ≠ e ∧ z ≤ T ∧ H T = none ∧ h.get? T = some oT ∧ oT.data = .fields ts ∧ ts[3]? = some f
/-- what such a step may change: the error, its record, the frames' slots -/
structure Chg (S : List Addr) (z : Nat) (H : Hp) (e : Addr) (h h' : Heap) : Prop where
  keep : ∀ b o, b ≠ e → b ∉ S → (b < z ∨ H b ≠ none) → h.get? b = some o → h'.get? b = some o
  slot : ∀ b o, b ≠ e → (b < z ∨ H b ≠ none) → h.get? b = some o → ∃ sl, h'.get? b = some { o with slots := sl }
  frm : ∀ b o, b ∈ S → h.get? b = some o → (∀ vs, o.data ≠ .fields vs) → ∃ sl, h'.get? b = some { o with slots := sl }
  obj : ∀ oe vs, h.get? e = some oe → oe.data = .fields vs → ∃ vs', h'.get? e = some { oe with data := .fields vs' } ∧ vs'.size = vs.size
theorem Chg.trans {S : List Addr} {z : Nat} {H : Hp} {e : Addr} {h h1 h2 : Heap} (a : Chg S z H e h h1) (b : Chg S z H e h1 h2) : Chg S z H e h h2 where
  keep := fun c o ne ns q x => b.keep c o ne ns q (a.keep c o ne ns q x)
  slot := fun c o ne q x => by
    obtain ⟨_, y⟩ := a.slot c o ne q x
    obtain ⟨sl, y2⟩ := b.slot c _ ne q y
    exact ⟨sl, y2⟩
  frm := fun c o hc x nf => by
    obtain ⟨_, y⟩ := a.frm c o hc x nf
    obtain ⟨sl, y2⟩ := b.frm c _ hc y nf
    exact ⟨sl, y2⟩
  obj := fun oe vs x y => by
    obtain ⟨vs1, y1, z1⟩ := a.obj oe vs x y
    obtain ⟨vs2, y2, z2⟩ := b.obj _ vs1 y1 rfl
    exact ⟨vs2, y2, z2.trans z1⟩
section
variable {M : Model} {A : Around} {E : Value → Shared → Prop} {s : Shared} {base : Heap} {env : Env} {outer : List Env} {L e : Addr} {z : Nat} {H : Hp}
theorem rec_new {oe : Obj} {vs : Array Value} {head : Value} {had : Bool} {Q : Unit → Shared → Prop} (hfr : A.frames = some (env :: outer)) (hl : s.heap.FunFrames base (env :: outer)) (hf : env.frame = some L)
    (he : s.heap.get? e = some oe) (hd : oe.data = .fields vs) (h6 : vs.size = 6) (hz : z ≤ s.heap.objs.size) (hH : ∀ b, s.heap.objs.size ≤ b → H b = none)
    (hQ : ∀ h', Chg ((env :: outer).filterMap (·.frame)) z H e s.heap h' → TbOk z H h' e (some (rawInt L)) → Q () { s with heap := h' }) :
    wpAny M A (do let a ← frameOf env; let pl ← entryPlaceOf L had; let b ← EntryCells.newEntry head a .none (rawInt L) .none pl; setField (.ref e) 1 b) Q E s := by
  have heS : e ∉ (env :: outer).filterMap (·.frame) := fun hm => by
    obtain ⟨_, o, ho, nf⟩ := hl.mem hm
    rw [he] at ho
    cases ho
    exact nf vs hd
  refine wpAny_bind (wpAny_frameOf_fun hfr hl hf fun g1 ⟨gz, gk, gs⟩ => ?_)
  refine wpAny_bind (wpAny_entryPlaceOf fun pl hpl => ?_)
  unfold EntryCells.newEntry newFields
  have x1 : g1.get? e = some oe := (gk e heS).trans he
  refine wpAny_bind (wpAny_newObj_type (wpAny_setField (Heap.get?_push_of_some _ x1) hd (by omega) (hQ _ ?_ ?_)) (hpl.sizeOk5 _ _ _ _ _))
  · have up : ∀ b o, b ≠ e → g1.get? b = some o → _ = some o := fun b o hb q => (Heap.get?_update_other (g1.push { cls := .type "traceback", dict := none, data := .fields ([head, .ref L, .none, rawInt L, .none] ++ (if pl.isEmpty then List.replicate 6 Value.none else pl)).toArray }) (Obj.mapFields (·.setIfInBounds 1 (Value.ref g1.objs.size))) (Ne.symm hb)).trans (Heap.get?_push_of_some _ q)
    refine ⟨fun b o nb ns _ q => up b o nb ((gk b ns).trans q), fun b o nb _ q => ?_, fun b o hb q nf => ?_, fun oe' vs' q q2 => ?_⟩
    · obtain ⟨sl, y⟩ := gs b o q
      exact ⟨sl, up b _ nb y⟩
    · obtain ⟨sl, y⟩ := gs b o q
      exact ⟨sl, up b _ (fun w => heS (w ▸ hb)) y⟩
    · rw [he] at q
      cases q
      rw [hd] at q2
      cases q2
      refine ⟨vs.setIfInBounds 1 (Value.ref g1.objs.size), (Heap.get?_update_self _ (Heap.get?_push_of_some _ x1) (Obj.isFreed_of_fields (Obj.data_mapFields hd _))).trans ?_, by rw [Array.size_setIfInBounds]⟩
      obtain ⟨o1, o2, o3, o4⟩ := oe
      have hd : o3 = .fields vs := hd
      subst hd
      rfl
  · have hTe : g1.objs.size ≠ e := Nat.ne_of_gt (Heap.lt_size x1)
    refine ⟨_, _, Heap.get?_update_self _ (Heap.get?_push_of_some _ x1) (Obj.isFreed_of_fields (Obj.data_mapFields hd _)), Obj.data_mapFields hd _, by rw [Array.size_setIfInBounds]; exact h6, g1.objs.size, _, _, by simp [h6], hTe, by rw [gz]; exact hz, hH _ (by rw [gz]; exact Nat.le_refl _), (Heap.get?_update_other _ _ (Ne.symm hTe)).trans (Heap.get?_push_size g1 rfl), rfl, ?_⟩
    rcases hpl with rfl | ⟨_, _, _, _, _, _, _, rfl⟩ <;> simp
/-- where it flies is written -/
theorem fly_set {S : List Addr} {g : Option Addr} {Q : Unit → Shared → Prop} {f : Value} (t : TbOk z H s.heap e (some f)) (hQ : ∀ h', Chg S z H e s.heap h' → TbOk z H h' e (some (g.elim .none fun f => rawInt f)) → Q () { s with heap := h' }) : wpAny M A (setFlight (.ref e) g) Q E s := by
  obtain ⟨oe, vs, he, hd, h6, T, oT, ts, h1, hTe, hzT, hHT, hT, hdT, h3⟩ := t
  unfold setFlight
  refine wpAny_bind (wpAny_field he hd h1 ?_)
  rw [if_pos (show (Value.ref T != Value.none) = true from by simp)]
  have h3z : 3 < ts.size := (Array.getElem?_eq_some_iff.mp h3).1
  refine wpAny_setField hT hdT h3z (hQ _ ?_ ?_)
  · have up : ∀ b, b ≠ T → (s.heap.update T (Obj.mapFields (·.setIfInBounds 3 (g.elim .none fun f => rawInt f)))).get? b = s.heap.get? b := fun b hb => Heap.get?_update_other _ _ (Ne.symm hb)
    have nT : ∀ b, (b < z ∨ H b ≠ none) → b ≠ T := fun b q w => by
      subst w
      rcases q with q | q
      · omega
      · exact q hHT
    refine ⟨fun b o nb _ q x => (up b (nT b q)).trans x, fun b o nb q x => ⟨o.slots, (up b (nT b q)).trans x⟩, fun b o _ x nf => ⟨o.slots, (up b (fun w => by rw [w, hT] at x; cases x; exact nf ts hdT)).trans x⟩, fun oe' vs' x y => ⟨vs', ?_, rfl⟩⟩
    rw [up e (Ne.symm hTe), x]
    obtain ⟨o1, o2, o3, o4⟩ := oe'
    have y : o3 = .fields vs' := y
    subst y
    rfl
  · exact ⟨oe, vs, (Heap.get?_update_other _ _ hTe).trans he, hd, h6, T, _, _, h1, hTe, hzT, hHT, Heap.get?_update_self _ hT (Obj.isFreed_of_fields (Obj.data_mapFields hdT _)), Obj.data_mapFields hdT _, by simp [h3z]⟩
/-- the frame is noted -/
theorem note_fr {fl : Option Value} {Q : Unit → Shared → Prop} (hfl : fl = none ∨ fl = some .none) (t : TbOk z H s.heap e fl) (hfr : A.frames = some (env :: outer)) (hl : s.heap.FunFrames base (env :: outer)) (hf : env.frame = some L) (hz : z ≤ s.heap.objs.size) (hH : ∀ b, s.heap.objs.size ≤ b → H b = none) (hHe : ∀ b ∈ (env :: outer).filterMap (·.frame), H b = none)
    (hQ : ∀ h', Chg ((env :: outer).filterMap (·.frame)) z H e s.heap h' → TbOk z H h' e (some (rawInt L)) → Q () { s with heap := h' }) : wpAny M A (noteFrame (.ref e) env) Q E s := by
  rcases hfl with rfl | rfl
  · obtain ⟨oe, vs, he, hd, h6, h1⟩ := t
    have h1 : vs[1]? = some .none := h1
    unfold noteFrame
    simp only [hf]
    refine wpAny_bind (wpAny_field he hd h1 ?_)
    rw [if_neg (by decide)]
    exact rec_new hfr hl hf he hd h6 hz hH hQ
  · obtain ⟨oe, vs, he, hd, h6, T, oT, ts, h1, hTe, hzT, hHT, hT, hdT, h3⟩ := t
    unfold noteFrame
    simp only [hf]
    refine wpAny_bind (wpAny_field he hd h1 ?_)
    rw [if_pos (show (Value.ref T != Value.none) = true from by simp)]
    refine wpAny_bind (wpAny_field hT hdT h3 ?_)
    rw [if_neg (show ¬ ((Value.none == rawInt L) = true) from by simp [rawInt])]
    have h3z : 3 < ts.size := (Array.getElem?_eq_some_iff.mp h3).1
    refine wpAny_bind (wpAny_setField hT hdT h3z ?_)
    have up : ∀ b, b ≠ T → (s.heap.update T (Obj.mapFields (·.setIfInBounds 3 Value.none))).get? b = s.heap.get? b := fun b hb => Heap.get?_update_other _ _ (Ne.symm hb)
    have nT : ∀ b, (b < z ∨ H b ≠ none) → b ≠ T := fun b q w => by
      subst w
      rcases q with q | q
      · omega
      · exact q hHT
    have nS : ∀ b o, s.heap.get? b = some o → (∀ vs, o.data ≠ .fields vs) → b ≠ T := fun b o q nf w => by
      subst w
      rw [hT] at q
      cases q
      exact nf ts hdT
    refine rec_new (s := { s with heap := s.heap.update T (Obj.mapFields (·.setIfInBounds 3 Value.none)) }) hfr (hl.of_keeps fun b o q nf => ⟨o, (up b (nS b o q nf)).trans q, rfl⟩) hf ((up e (Ne.symm hTe)).trans he) hd h6 (by rw [Heap.size_after_update]; exact hz) (fun b hb => hH b (by rw [Heap.size_after_update] at hb; exact hb)) fun h' c t' => ?_
    refine hQ h' ⟨fun b o nb ns q x => c.keep b o nb ns q ((up b (nT b q)).trans x), fun b o nb q x => c.slot b o nb q ((up b (nT b q)).trans x), fun b o hb x nf => c.frm b o hb ((up b (nS b o x nf)).trans x) nf, fun oe' vs' x y => c.obj oe' vs' ((up e (Ne.symm hTe)).trans x) y⟩ t'
end
end Ex

namespace Ex
open PySem PySem.Spec PyProof.Rows L2

/-- a def's own body runs -/
structure Own (X : Cx) : Prop where
  stk : X.stack = X.env :: X.outer
  fr : X.env.frame = some X.env.locals
  ex : X.ex = []
section
variable {X : Cx} {pins : List (Addr × Obj)} {σ : L2.St} {H : Hp} {s : Shared} {e C dx : Addr} {fl : Option Value} {E : Value → Shared → Prop} {z : Nat}
theorem Own.frs (W : Own X) : (X.env :: X.outer).filterMap (·.frame) = X.env.locals :: L2.frs X.outer := by
  rw [List.filterMap_cons, W.fr]
  rfl
/-- the abstract heap is held still -/
theorem chg_hok (W : Own X) (I : Inv X pins σ H s) (he : H e = some (.ext (exAt e C dx))) {h' : Heap} (c : Chg ((X.env :: X.outer).filterMap (·.frame)) z H e s.heap h') : HOk X.prog X.w H h' := fun b u q => by
  have fS : ∀ b ∈ (X.env :: X.outer).filterMap (·.frame), H b = none := fun b hb => by
    rw [← W.stk] at hb
    exact I.stkFree b hb
  by_cases hb : b = e
  · subst hb
    rw [he] at q
    cases q
    obtain ⟨oe, vs, a1, a2, a3, a4, a5⟩ := (I.hok b _ he).1
    obtain ⟨vs', b1, b2⟩ := c.obj oe vs a1 a4
    exact exAt_ok ⟨_, vs', b1, a2, a3, rfl, b2.trans a5⟩
  · refine (I.hok b u q).stay (fun y v hy w => ?_) (fun _ w => w) fun _ _ w => w
    rcases hy with rfl | hy
    · exact c.keep y v hb (fun w => by rw [fS y w] at q; cases q) (.inr (by rw [q]; intro w; cases w)) w
    · refine c.keep y v (fun w => ?_) (fun w => by rw [fS y w] at hy; cases hy) (.inr (by rw [hy]; intro w; cases w)) w
      rw [w, he] at hy
      cases hy
theorem chg_un (W : Own X) (I : Inv X pins σ H s) (hz : X.s_0.heap.objs.size ≤ z) (hez : z ≤ e) {h' : Heap} (c : Chg ((X.env :: X.outer).filterMap (·.frame)) z H e s.heap h') : Un (frs X.outer) [] X.H_0 H X.s_0.heap h' := by
  have B := I.base
  have lt : ∀ b o, X.s_0.heap.get? b = some o → b < z ∧ b ≠ e := fun b o q => ⟨Nat.lt_of_lt_of_le (Heap.lt_size q) hz, fun w => absurd (Heap.lt_size q) (by rw [w]; exact Nat.not_lt.mpr (Nat.le_trans hz hez))⟩
  have hx : ∀ b : Addr, b ∉ X.ex := fun b q => by rw [W.ex] at q; cases q
  refine ⟨fun b o q n hb _ => ?_, fun b o q n hb _ => ?_, fun b o q n _ => B.free b o q n (hx b), fun b o q _ => ?_, B.tups, B.frzs, B.tbls⟩
  · refine c.keep b o (lt b o q).2 (fun w => ?_) (.inl (lt b o q).1) (B.keep b o q n hb (hx b))
    rw [W.frs] at w
    rcases List.mem_cons.mp w with w | w
    · exact absurd (Heap.lt_size q) (by rw [w]; exact Nat.not_lt.mpr I.ok.above)
    · exact hb w
  · obtain ⟨_, y⟩ := B.slot b o q n hb (hx b)
    obtain ⟨sl, y2⟩ := c.slot b _ (lt b o q).2 (.inl (lt b o q).1) y
    exact ⟨sl, y2⟩
  · obtain ⟨o', y⟩ := B.there b o q (hx b)
    obtain ⟨sl, y2⟩ := c.slot b _ (lt b o q).2 (.inl (lt b o q).1) y
    exact ⟨_, y2⟩
/-- what stands below z -/
structure Below (X : Cx) (pins : List (Addr × Obj)) (z : Nat) : Prop where
  sz : X.s_0.heap.objs.size ≤ z
  loc : X.env.locals < z
  cel : ∀ x c, X.env.cells.lookup x = some c → c < z
  pin : ∀ p ∈ X.pn ++ pins, p.1 < z
theorem Below.now (I : Inv X pins σ H s) : Below X pins s.heap.objs.size := ⟨I.sz, I.lt, fun x c q => by
  obtain ⟨v, y⟩ := I.cell x c q
  exact y.lt, fun p hp => Heap.lt_size (I.pin p hp).1⟩
/-- an exception is noted in a def's frame -/
theorem noted (W : Own X) (I : Inv X pins σ H s) (hz : z ≤ s.heap.objs.size) (hfl : fl = none ∨ fl = some .none) (t : TbOk z H s.heap e fl) {Q : Unit → Shared → Prop}
    (hQ : ∀ h', Chg ((X.env :: X.outer).filterMap (·.frame)) z H e s.heap h' → TbOk z H h' e (some (rawInt X.env.locals)) → Q () { s with heap := h' }) : wpAny (model X.prog X.w) X.A (noteFrame (.ref e) X.env) Q E s := by
  have hst := I.stack
  rw [W.stk] at hst
  have hfr := I.ok.frames
  rw [W.stk] at hfr
  exact note_fr hfl t hfr hst W.fr hz (fun b hb => I.hok.fresh hb) (fun b hb => I.stkFree b (by rw [W.stk]; exact hb)) hQ
/-- an exception leaves a def's body -/
theorem leaves (W : Own X) (I : Inv X pins σ H s) (he : H e = some (.ext (exAt e C dx))) (hz0 : X.s_0.heap.objs.size ≤ z) (hz : z ≤ s.heap.objs.size) (hez : z ≤ e) (hfl : fl = none ∨ fl = some .none) (t : TbOk z H s.heap e fl) {Q : Unit → Shared → Prop}
    (hQ : ∀ h', Un (frs X.outer) [] X.H_0 H X.s_0.heap h' → HOk X.prog X.w H h' → TbOk z H h' e (some .none) → Q () { s with heap := h' }) : wpAny (model X.prog X.w) X.A (leaving X.env (.ref e)) Q E s := by
  unfold leaving
  refine wpAny_bind (noted W I hz hfl t fun h1 c1 t1 => ?_)
  refine fly_set (S := (X.env :: X.outer).filterMap (·.frame)) (s := { s with heap := h1 }) t1 fun h2 c2 t2 => ?_
  exact hQ h2 (chg_un W I hz0 hez (c1.trans c2)) (chg_hok W I he (c1.trans c2)) t2
end
end Ex

namespace Ex
open PySem PySem.Spec PyProof.Rows L2
open PySem.W (InstAt findObj Looks)
section
variable {prog : Program} {w : World} {A : Around} {E : Value → Shared → Prop} {h : Heap} {g : Array GenState} {d : Drawn} {t : Nat} {os : OsState} {K : PySem.W.Frag} {e C : Addr} {oe : Obj} {od : Option Obj} {name cls : Str} {odd : Obj}
theorem spec_class {K : PySem.W.Frag} : PySem.W.specialIn K (.builtin "object.__class__") "__get__" = some (some (.builtin "getset_descriptor.__get__")) := by kernel_rfl
theorem takes_class {K : PySem.W.Frag} : PySem.W.takesIn K (.builtin "object.__class__") = some true := by kernel_rfl
/-- the built-in that reads attributes of errors -/
theorem ga_check {M : Model} {nameV : Value} {Q : Unit → Shared → Prop} (Z : ExK K C cls) (X : K.In h) (he : h.get? e = some oe) (hc : oe.cls = .ref C) (hq : Q () ⟨h, g, d, t, os⟩) :
    wpAny M A (checkBuiltinCall "BaseException.__getattribute__" ⟨[.ref e, nameV], []⟩) Q E ⟨h, g, d, t, os⟩ := by
  obtain ⟨G, N, q, bs, sn, sub, ab, col, dd, k0, k1, k2, k3, k5, lC, _⟩ := Z.obj
  have KC := X _ _ lC
  have b1 : builtinKind "BaseException.__getattribute__" = some .slot := by decide +kernel
  have b2 : splitId "BaseException.__getattribute__" = some ("BaseException", "__getattribute__") := by decide +kernel
  have b3 : (Value.ref C :: .ref G :: bV).contains (.type "BaseException") = true := by simp [bV]
  have ha := PySem.F.args_bexc_ga (.ref e) nameV
  simp only [checkBuiltinCall, b1, b2]
  refine wpAny_bind ?_
  unfold isInstance
  repeat (first | (with_reducible refine wpAny_loadPart_at he ?_; rw [hc]) | (with_reducible refine wpAny_isSubtype_exc KC ?_; rw [b3]) | wp_step)
  exact hq
theorem ga_slot : Slot "ValueError" "__getattribute__" "BaseException.__getattribute__" := PySem.F.attr_ValueError.ga
theorem ga_value {v : Value} {tk : Tok} {R : Result → Shared → Prop} (Z : ExK K C cls) (X : K.In h) (I : InstAt h e oe C od) (hf : findObj K C od name = some (.value v)) (hq : R (.ok (.ret v)) ⟨h, g, d, t, os⟩) :
    codeAny (model prog w) A (.call (.builtin "BaseException.__getattribute__") ⟨[.ref e, .str name tk], []⟩) R ⟨h, g, d, t, os⟩ := by
  have L0 := I.type (M := model prog w)
  have L1 := PySem.W.looks_find (M := model prog w) X I hf
  refine codeAny_call_builtin ga_slot.plain PySem.F.entry_bexc_ga (ga_check Z X I.at_ I.cls ?_)
  unfold Builtin.«object.__getattribute__»
  repeat (any_goals (first | assumption | (with_reducible refine Looks.at L0 ?_) | (with_reducible refine Looks.at L1 ?_) | wp_step))
theorem by_value {v : Value} {tk : Tok} {fill expr : Bool} {Q : Value → Shared → Prop} (Z : ExK K C cls) (X : K.In h) (I : InstAt h e oe C od) (hf : findObj K C od name = some (.value v)) (hh : PySem.W.handedIn v = true) (hq : Q v ⟨h, g, d, t, os⟩) :
    wpAny (model prog w) A (getAttrBy (.ref e) (.str name tk) fill expr) Q E ⟨h, g, d, t, os⟩ := by
  have L0 := I.type (M := model prog w)
  have L1 := PySem.W.looks_findIn (M := model prog w) X Z.ga
  have L2 := PySem.W.looks_findIn (M := model prog w) X Z.gt
  have g3 := ga_slot.bind (.ref e)
  have x0 : (expr && onTheHeap (Value.builtin "BaseException.__getattribute__")) = false := by cases expr <;> rfl
  have x2 : (Value.builtin "BaseException.__getattribute__" == Value.builtin "object.__getattribute__") = false := by decide +kernel
  have x1 : (onTheHeap (Value.ref C) && Value.builtin "BaseException.__getattribute__" == Value.builtin "object.__getattribute__") = false := by rw [x2]; rfl
  have y := PySem.W.handedOut_of hh
  repeat (any_goals (first | assumption | (with_reducible refine Looks.at L0 ?_) | (with_reducible refine Looks.at L1 ?_) | (with_reducible refine Looks.at L2 ?_) | wp_step))
  refine ga_value Z X I hf ?_
  repeat (any_goals (first | assumption | wp_step))
theorem get_field {v : Value} {expr : Bool} {Q : Value → Shared → Prop} (Z : ExK K C cls) (X : K.In h) (I : InstAt h e oe C od) (hf : findObj K C od name = some (.value v)) (hh : PySem.W.handedIn v = true) (hq : Q v ⟨h, g, d, t + 1, os⟩) :
    wpAny (model prog w) A (getAttr (.ref e) name expr) Q E ⟨h, g, d, t, os⟩ := by
  unfold getAttr
  repeat (any_goals (first | assumption | (with_reducible apply by_value Z X I hf hh) | wp_step))
theorem ExK.cd (Z : ExK K C cls) : ∃ (cd : ClassData) (G : Addr), PySem.W.clsIn K C = some cd ∧ cd.mro = .ref C :: .ref G :: bV ∧ cd.hasDict = true ∧ cd.name = cls ∧ ClsNm K "GraftError" G := by
  obtain ⟨G, N, q, bs, sn, sub, ab, col, dd, k0, k1, k2, k3, k5, lC, hG⟩ := Z.obj
  exact ⟨_, G, (show PySem.W.clsIn K C = _ by unfold PySem.W.clsIn; rw [lC]), rfl, rfl, rfl, hG⟩
/-- e.__class__ -/
theorem ga_class {tk : Tok} {R : Result → Shared → Prop} (Z : ExK K C cls) (X : K.In h) (I : InstAt h e oe C (some odd)) (hq : R (.ok (.ret (.ref C))) ⟨h, g, d, t, os⟩) :
    codeAny (model prog w) A (.call (.builtin "BaseException.__getattribute__") ⟨[.ref e, .str "__class__" tk], []⟩) R ⟨h, g, d, t, os⟩ := by
  obtain ⟨cd, G, cI, cm, _⟩ := Z.cd
  have hf := PySem.W.findObj_data (od := odd) (K := K) (C := C) (by rw [cI]; rfl) Z.kc spec_class takes_class
  have hm : PySem.W.mroIn K C (.type "object") = some true := by
    unfold PySem.W.mroIn
    rw [cI]
    simp [cm, bV]
  have L0 := I.type (M := model prog w)
  have L1 := PySem.W.looks_find (M := model prog w) X I hf
  refine codeAny_call_builtin ga_slot.plain PySem.F.entry_bexc_ga (ga_check Z X I.at_ I.cls ?_)
  unfold Builtin.«object.__getattribute__»
  repeat (any_goals (first | assumption | (with_reducible refine Looks.at L0 ?_) | (with_reducible refine Looks.at L1 ?_) | wp_step))
  exact PySem.W.class_get (s := ⟨h, g, d, t, os⟩) X I hm (wpAny_pure hq)
theorem class_attr {Q : Option Value → Shared → Prop} (Z : ExK K C cls) (X : K.In h) (I : InstAt h e oe C (some odd)) (hq : Q (some (.ref C)) ⟨h, g, d, t + 1, os⟩) :
    wpAny (model prog w) A (getAttr? (.ref e) "__class__") Q E ⟨h, g, d, t, os⟩ := by
  have L0 := I.type (M := model prog w)
  have L1 := PySem.W.looks_findIn (M := model prog w) X Z.ga
  have L2 := PySem.W.looks_findIn (M := model prog w) X Z.gt
  have g3 := ga_slot.bind (.ref e)
  have x2 : (Value.builtin "BaseException.__getattribute__" == Value.builtin "object.__getattribute__") = false := by decide +kernel
  have x1 : (onTheHeap (Value.ref C) && Value.builtin "BaseException.__getattribute__" == Value.builtin "object.__getattribute__") = false := by rw [x2]; rfl
  have y : handedOut (.ref C) = pure (.ref C) := PySem.W.handedOut_of rfl
  unfold getAttr? getAttrBy? getAttrBy
  repeat (any_goals (first | assumption | (with_reducible refine Looks.at L0 ?_) | (with_reducible refine Looks.at L1 ?_) | (with_reducible refine Looks.at L2 ?_) | wp_step))
  all_goals (try (refine ga_class Z X I ?_))
  repeat (any_goals (first | assumption | wp_step))
/-- for isinstance -/
theorem kitx_err (Z : ExK K C cls) : PySem.W.KitX K (.ref e) (.ref C) (fun h => ∃ oe odd, InstAt h e oe C (some odd)) where
  ty := fun M h X ⟨oe, odd, I⟩ => I.type
  it := fun M h X _ => by
    obtain ⟨G, N, q, bs, sn, sub, ab, col, dd, k0, k1, k2, k3, k5, lC, hG⟩ := Z.obj
    intro A' Q' E' s' k q
    unfold isType loadHead
    exact wpAny_bind (wpAny_loadPart (k _ _ (X _ _ lC)) (wpAny_pure q))
  ne := fun h tp dd its n sl X htp => by
    obtain ⟨G, N, q, bs, sn, sub, ab, col, dd, k0, k1, k2, k3, k5, lC, hG⟩ := Z.obj
    refine Bool.eq_false_iff.mpr fun q => ?_
    have z : C = tp := Value.ref.inj (beq_iff_eq.mp q)
    subst z
    rw [X _ _ lC] at htp
    have z := congrArg Obj.cls (Option.some.inj htp)
    simp at z
  ca := fun {prog w A E Q s} X ⟨oe, odd, I⟩ hq => by
    obtain ⟨h, g, d, t, os⟩ := s
    exact class_attr Z X I hq
end
end Ex

namespace Pu
open PySem PySem.Spec PyProof.Rows L2

abbrev D := PyData
abbrev Fg := PySem.W.Frag

/-! ### reading that nothing can disturb: tuples, frozen lists, the module's own -/
def FzL (K : Fg) (H : Hp) (a : Addr) (xs : List V) : Prop := (∃ o, H a = some (.frz o (.lst xs))) ∨
    ∃ (o : Obj) (its : Array Value) (n : Nat), K.lookup a = some o ∧ o.cls = .type "list" ∧ o.dict = none ∧ o.data = .seq its n ∧ its.size ≤ sizeLine ∧ Vals xs its.toList
theorem FzL.sq {K : Fg} {H : Hp} {a : Addr} {xs : List V} (h : FzL K H a xs) : SqL K H a xs := by
  rcases h with ⟨o, h⟩ | h
  · exact .inl (.inr ⟨o, h⟩)
  · exact .inr h
/-- an own error, as data: its class, its fields -/
structure XD where
  cls : Str
  fs : List (Str × D)
def excD (c : XD) : D := .dict ((.none, .str c.cls) :: c.fs.map fun p => (.str p.1, p.2))
mutual
inductive Df (K : Fg) (H : Hp) : V → D → Prop
  | non : Df K H .non .none
  | bl (b : Bool) : Df K H (.bl b) (.bool b)
  | int (i : Int) : Df K H (.int i) (.int i)
  | str (x : Str) : Df K H (.str x) (.str x)
  | lst {a : Addr} {xs : List V} {ds : List D} : FzL K H a xs → DfA K H xs ds → Df K H (.ref a) (.list ds)
  | tup {a : Addr} {xs : List V} {ds : List D} (h : SqT K H a xs) (d : DfA K H xs ds) (t : H a = some (.tup xs) := by first | assumption | exact upd_same) : Df K H (.ref a) (.tuple ds)
  | exc {e C dx : Addr} {oe od : Obj} {cls : Str} {fs : List (Str × V)} {ds : List (Str × D)} : H e = some (.frz oe (.ext (Ex.exAt e C dx))) → H dx = some (.frz od (.ext (Ex.xdAt dx fs))) → Ex.ExK K C cls → DfF K H fs ds → Df K H (.ref e) (excD ⟨cls, ds⟩)
inductive DfA (K : Fg) (H : Hp) : List V → List D → Prop
  | nil : DfA K H [] []
  | cons {v : V} {vs : List V} {d : D} {ds : List D} : Df K H v d → DfA K H vs ds → DfA K H (v :: vs) (d :: ds)
inductive DfF (K : Fg) (H : Hp) : List (Str × V) → List (Str × D) → Prop
  | nil : DfF K H [] []
  | cons {f : Str} {v : V} {vs : List (Str × V)} {d : D} {ds : List (Str × D)} : Df K H v d → DfF K H vs ds → DfF K H ((f, v) :: vs) ((f, d) :: ds)
end
/-- what every step keeps -/
structure Stb (H H' : Hp) : Prop where
  tups : ∀ b xs, H b = some (.tup xs) → H' b = some (.tup xs)
  frzs : ∀ b o u, H b = some (.frz o u) → H' b = some (.frz o u)
theorem Stb.refl (H : Hp) : Stb H H := ⟨fun _ _ h => h, fun _ _ _ h => h⟩
theorem Stb.trans {H H1 H2 : Hp} (a : Stb H H1) (b : Stb H1 H2) : Stb H H2 := ⟨fun c xs h => b.tups c xs (a.tups c xs h), fun c o u h => b.frzs c o u (a.frzs c o u h)⟩
theorem Stb.same {H H' : Hp} (s : Same H H') : Stb H H' := ⟨fun _ _ h => s _ _ h, fun _ _ _ h => s _ _ h⟩
theorem FzL.mono {K : Fg} {H H' : Hp} {a : Addr} {xs : List V} (s : Stb H H') (h : FzL K H a xs) : FzL K H' a xs := by
  rcases h with ⟨o, h⟩ | h
  · exact .inl ⟨o, s.frzs _ _ _ h⟩
  · exact .inr h
theorem SqT.monoS {K : Fg} {H H' : Hp} {a : Addr} {xs : List V} (s : Stb H H') (h : SqT K H a xs) : SqT K H' a xs := by
  rcases h with (h | ⟨o, h⟩) | h
  · exact .inl (.inl (s.tups _ _ h))
  · exact .inl (.inr ⟨o, s.frzs _ _ _ h⟩)
  · exact .inr h
mutual
theorem Df.mono {K : Fg} {H H' : Hp} (s : Stb H H') : ∀ {v : V} {d : D}, Df K H v d → Df K H' v d
  | _, _, .non => .non
  | _, _, .bl b => .bl b
  | _, _, .int i => .int i
  | _, _, .str x => .str x
  | _, _, .lst h a => .lst (h.mono s) (DfA.mono s a)
  | _, _, .tup h a t => .tup (SqT.monoS s h) (DfA.mono s a) (s.tups _ _ t)
  | _, _, .exc h1 h2 k f => .exc (s.frzs _ _ _ h1) (s.frzs _ _ _ h2) k (DfF.mono s f)
theorem DfA.mono {K : Fg} {H H' : Hp} (s : Stb H H') : ∀ {vs : List V} {ds : List D}, DfA K H vs ds → DfA K H' vs ds
  | _, _, .nil => .nil
  | _, _, .cons h r => .cons (Df.mono s h) (DfA.mono s r)
theorem DfF.mono {K : Fg} {H H' : Hp} (s : Stb H H') : ∀ {vs : List (Str × V)} {ds : List (Str × D)}, DfF K H vs ds → DfF K H' vs ds
  | _, _, .nil => .nil
  | _, _, .cons h r => .cons (Df.mono s h) (DfF.mono s r)
end
mutual
def noX : D → Bool
  | .none => true
  | .bool _ => true
  | .int _ => true
  | .str _ => true
  | .list xs => noXs xs
  | .tuple xs => noXs xs
  | .dict _ => false
def noXs : List D → Bool
  | [] => true
  | x :: xs => noX x && noXs xs
end
mutual
theorem noX_lay : ∀ d : D, d.canLay0 = true → noX d = true
  | .none, _ => rfl
  | .bool _, _ => rfl
  | .int _, _ => rfl
  | .str _, _ => rfl
  | .list xs, h => noXs_lay xs h
  | .tuple xs, h => noXs_lay xs h
  | .dict _, h => by cases h
theorem noXs_lay : ∀ ds : List D, PyData.canLayAll0 ds = true → noXs ds = true
  | [], _ => rfl
  | x :: xs, h => by
    have h := Bool.and_eq_true_iff.mp h
    unfold noXs
    rw [noX_lay x h.1, noXs_lay xs h.2]
    rfl
end
mutual
theorem Df.dpX {K : Fg} {H : Hp} : ∀ {v : V} {d : D}, Df K H v d → noX d = true → Dp K H v d
  | _, _, .non, _ => .non
  | _, _, .bl b, _ => .bl b
  | _, _, .int i, _ => .int i
  | _, _, .str x, _ => .str x
  | _, _, .lst h a, z => .lst h.sq (DfA.dpX a (by unfold noX at z; exact z))
  | _, _, .tup h a _, z => .tup h (DfA.dpX a (by unfold noX at z; exact z))
  | _, _, .exc _ _ _ _, z => by unfold excD noX at z; cases z
theorem DfA.dpX {K : Fg} {H : Hp} : ∀ {vs : List V} {ds : List D}, DfA K H vs ds → noXs ds = true → DpAll K H vs ds
  | _, _, .nil, _ => .nil
  | _, _, .cons h r, z => by
    unfold noXs at z
    exact .cons (Df.dpX h (Bool.and_eq_true_iff.mp z).1) (DfA.dpX r (Bool.and_eq_true_iff.mp z).2)
end
theorem Df.dp {K : Fg} {H : Hp} {v : V} {d : D} (h : Df K H v d) (z : d.canLay0 = true) : Dp K H v d := h.dpX (noX_lay d z)
theorem DfA.dp {K : Fg} {H : Hp} {vs : List V} {ds : List D} (h : DfA K H vs ds) (z : PyData.canLayAll0 ds = true) : DpAll K H vs ds := h.dpX (noXs_lay ds z)
theorem DfA.length {K : Fg} {H : Hp} : ∀ {vs : List V} {ds : List D}, DfA K H vs ds → vs.length = ds.length
  | _, _, .nil => rfl
  | _, _, .cons _ r => congrArg (· + 1) (DfA.length r)
theorem DfA.append {K : Fg} {H : Hp} : ∀ {vs vs' : List V} {ds ds' : List D}, DfA K H vs ds → DfA K H vs' ds' → DfA K H (vs ++ vs') (ds ++ ds')
  | _, _, _, _, .nil, h => h
  | _, _, _, _, .cons h r, q => .cons h (DfA.append r q)
theorem DfA.get {K : Fg} {H : Hp} : ∀ {vs : List V} {ds : List D} {i : Nat} {d : D}, DfA K H vs ds → ds[i]? = some d → ∃ v, vs[i]? = some v ∧ Df K H v d
  | _, _, _, _, .nil, e => by simp at e
  | _, _, 0, _, .cons h _, e => by simp at e; subst e; exact ⟨_, rfl, h⟩
  | _, _, i + 1, d, .cons _ r, e => by
    obtain ⟨v, h1, h2⟩ := DfA.get (i := i) (d := d) r (by simpa using e)
    exact ⟨v, by simpa using h1, h2⟩
theorem DfA.get' {K : Fg} {H : Hp} : ∀ {vs : List V} {ds : List D} {i : Nat} {v : V}, DfA K H vs ds → vs[i]? = some v → ∃ d, ds[i]? = some d ∧ Df K H v d
  | _, _, _, _, .nil, e => by simp at e
  | _, _, 0, _, .cons h _, e => by simp at e; subst e; exact ⟨_, rfl, h⟩
  | _, _, i + 1, d, .cons _ r, e => by
    obtain ⟨v, h1, h2⟩ := DfA.get' (i := i) (v := d) r (by simpa using e)
    exact ⟨v, by simpa using h1, h2⟩
theorem DfA.take {K : Fg} {H : Hp} : ∀ {vs : List V} {ds : List D} (n : Nat), DfA K H vs ds → DfA K H (vs.take n) (ds.take n)
  | _, _, 0, _ => .nil
  | _, _, _ + 1, .nil => .nil
  | _, _, n + 1, .cons h r => .cons h (DfA.take n r)
theorem DfA.drop {K : Fg} {H : Hp} : ∀ {vs : List V} {ds : List D} (n : Nat), DfA K H vs ds → DfA K H (vs.drop n) (ds.drop n)
  | _, _, 0, h => h
  | _, _, _ + 1, .nil => .nil
  | _, _, n + 1, .cons _ r => DfA.drop n r
theorem DfA.dropLast {K : Fg} {H : Hp} {vs : List V} {ds : List D} (h : DfA K H vs ds) : DfA K H vs.dropLast ds.dropLast := by
  rw [List.dropLast_eq_take, List.dropLast_eq_take, ← h.length]
  exact h.take _
theorem DfA.reverse {K : Fg} {H : Hp} : ∀ {vs : List V} {ds : List D}, DfA K H vs ds → DfA K H vs.reverse ds.reverse
  | _, _, .nil => .nil
  | _, _, .cons h r => by
    rw [List.reverse_cons, List.reverse_cons]
    exact DfA.append (DfA.reverse r) (.cons h .nil)

/-! ### what a name holds -/
inductive S1 where
  | imm (d : D) | lst (ds : List D) | dct (kvs : List (Str × D)) | set (ks : List Str) | fd (kvs : List (List Key × D)) | box (ds : List D)
def inK (ks : List Str) : Key → Bool
  | .inr k => decide (k ∈ ks)
  | .inl _ => false
abbrev En := List (Option S1)
inductive DfK (K : Fg) (H : Hp) : List (Key × V) → List (Str × D) → Prop
  | nil : DfK K H [] []
  | cons {k : Str} {v : V} {vs : List (Key × V)} {d : D} {ds : List (Str × D)} : Df K H v d → DfK K H vs ds → DfK K H ((Sum.inr k, v) :: vs) ((k, d) :: ds)
theorem DfK.mono {K : Fg} {H H' : Hp} (s : Stb H H') : ∀ {vs : List (Key × V)} {ds : List (Str × D)}, DfK K H vs ds → DfK K H' vs ds
  | _, _, .nil => .nil
  | _, _, .cons h r => .cons (h.mono s) (DfK.mono s r)
/-- a dict whose keys are tuples, never changed any more -/
inductive DfT (K : Fg) (H : Hp) : List (List Key × V) → List (List Key × D) → Prop
  | nil : DfT K H [] []
  | cons {k : List Key} {v : V} {vs : List (List Key × V)} {d : D} {ds : List (List Key × D)} : Df K H v d → DfT K H vs ds → DfT K H ((k, v) :: vs) ((k, d) :: ds)
theorem DfT.mono {K : Fg} {H H' : Hp} (s : Stb H H') : ∀ {vs : List (List Key × V)} {ds : List (List Key × D)}, DfT K H vs ds → DfT K H' vs ds
  | _, _, .nil => .nil
  | _, _, .cons h r => .cons (h.mono s) (DfT.mono s r)
def Sl (K : Fg) (H0 : Hp) (P : List Addr) (H : Hp) : S1 → V → Prop
  | .imm d, v => Df K H v d
  | .lst ds, v => ∃ a vs, v = .ref a ∧ H a = some (.lst vs) ∧ DfA K H vs ds ∧ H0 a = none
  | .dct kvs, v => ∃ a vs, v = .ref a ∧ H a = some (.dK vs) ∧ DfK K H vs kvs ∧ (H0 a = none ∨ a ∈ P)
  | .box ds, v => ∃ a vs, v = .ref a ∧ H a = some (.lst vs) ∧ DfA K H vs ds ∧ (H0 a = none ∨ a ∈ P)
  | .set ks, v => ∃ a m, v = .ref a ∧ H a = some (.set (inK ks) m) ∧ m ≤ ks.length ∧ H0 a = none
  | .fd kvs, v => ∃ a o vs, v = .ref a ∧ H a = some (.frz o (.dT vs)) ∧ DfT K H vs kvs
theorem Sl.fdm {K : Fg} {H0 H H' : Hp} {P : List Addr} {kvs : List (List Key × D)} {v : V} (s : Stb H H') (h : Sl K H0 P H (.fd kvs) v) : Sl K H0 P H' (.fd kvs) v := by
  obtain ⟨a, o, vs, e, h1, h2⟩ := h
  exact ⟨a, o, vs, e, s.frzs _ _ _ h1, h2.mono s⟩
def S1.own : S1 → Bool
  | .imm _ => false
  | .fd _ => false
  | _ => true
/-- what a def may change for its caller -/
def S1.mut : S1 → Bool
  | .dct _ => true
  | .box _ => true
  | _ => false
/-- the world of a def: the module, the heap at its entry, the address of the dict that it may change -/
structure Wd where
  K : Fg
  H0 : Hp
  P : List Addr
structure Rel (W : Wd) (ρ : En) (σ : L2.St) (H : Hp) : Prop where
  len : ρ.length = σ.length
  sl : ∀ (i : Nat) (s : S1), ρ[i]? = some (some s) → ∃ v, σ[i]? = some (some v) ∧ Sl W.K W.H0 W.P H s v
  stb : Stb W.H0 H
  kp : ∀ b o, W.H0 b = some o → b ∉ W.P → H b = some o
  dis : ∀ (i j : Nat) (s s' : S1) (a : Addr), i ≠ j → ρ[i]? = some (some s) → ρ[j]? = some (some s') → s.own = true → s'.own = true → σ[i]? = some (some (.ref a)) → σ[j]? ≠ some (some (.ref a))
  par : ∀ (k : Nat) (p : Addr), W.P[k]? = some p → ∀ s : S1, s.mut = true → ρ[k]? = some (some s) → σ[k]? = some (some (.ref p))
  pdk : ∀ p, p ∈ W.P → W.H0 p ≠ none ∧ H p ≠ none

theorem same_none {H H' : Hp} {p : Addr} (q : Same H H') (z : H' p = none) : H p = none := by
  cases h : H p with
  | none => rfl
  | some o => rw [q _ _ h] at z; cases z
theorem upd_some {H : Hp} {a p : Addr} {o : HO} (h : H p ≠ none) : upd H a o p ≠ none := by
  by_cases e : p = a
  · subst e; rw [upd_same]; intro z; cases z
  · rw [upd_ne e]; exact h
theorem Sl.imm_mono {K : Fg} {H0 H H' : Hp} {P : List Addr} {s : S1} {v : V} (q : Same H H') (h : Sl K H0 P H s v) : Sl K H0 P H' s v := by
  cases s with
  | imm d => exact Df.mono (.same q) h
  | fd d => exact Sl.fdm (.same q) h
  | lst ds => obtain ⟨a, vs, e, h1, h2, h3⟩ := h; exact ⟨a, vs, e, q _ _ h1, h2.mono (.same q), h3⟩
  | set ds => obtain ⟨a, vs, e, h1, h2, h3⟩ := h; exact ⟨a, vs, e, q _ _ h1, h2, h3⟩
  | box ds => obtain ⟨a, vs, e, h1, h2, h3⟩ := h; exact ⟨a, vs, e, q _ _ h1, h2.mono (.same q), h3⟩
  | dct kvs => obtain ⟨a, vs, e, h1, h2, h3⟩ := h; exact ⟨a, vs, e, q _ _ h1, h2.mono (.same q), h3⟩
section
variable {W : Wd} {ρ : En} {σ : L2.St} {H H' : Hp}
/-- nothing is changed, something may be laid -/
theorem Rel.same (R : Rel W ρ σ H) (q : Same H H') : Rel W ρ σ H' where
  len := R.len
  sl := fun i s e => by
    obtain ⟨v, h1, h2⟩ := R.sl i s e
    exact ⟨v, h1, h2.imm_mono q⟩
  stb := R.stb.trans (.same q)
  kp := fun b o e n => q _ _ (R.kp b o e n)
  dis := R.dis
  par := R.par
  pdk := fun p e => ⟨(R.pdk p e).1, fun z => (R.pdk p e).2 (same_none q z)⟩
theorem Rel.get (R : Rel W ρ σ H) {i : Nat} {d : D} (e : ρ[i]? = some (some (.imm d))) : ∃ v, σ[i]? = some (some v) ∧ Df W.K H v d := R.sl i _ e
theorem getElem?_set_some {α : Type} {l : List α} {i j : Nat} {x y : α} (h : (l.set i x)[j]? = some y) : (j = i ∧ y = x) ∨ (j ≠ i ∧ l[j]? = some y) := by
  rw [List.getElem?_set] at h
  split at h
  · rename_i e
    split at h
    · exact .inl ⟨e.symm, (Option.some.inj h).symm⟩
    · cases h
  · rename_i e
    exact .inr ⟨fun z => e z.symm, h⟩
theorem set_self {α : Type} {l : List α} {i : Nat} {x : α} (h : i < l.length) : (l.set i x)[i]? = some x := by rw [List.getElem?_set_self h]
theorem set_other {α : Type} {l : List α} {i j : Nat} {x : α} (h : j ≠ i) : (l.set i x)[j]? = l[j]? := by rw [List.getElem?_set_ne (Ne.symm h)]
/-- a name gets data -/
theorem Rel.setI (R : Rel W ρ σ H) {i : Nat} {v : V} {d : D} (hi : i < ρ.length) (h : Df W.K H v d) : Rel W (ρ.set i (some (.imm d))) (σ.set i (some v)) H where
  len := by rw [List.length_set, List.length_set]; exact R.len
  sl := fun j s e => by
    replace e := getElem?_set_some e; rcases e with ⟨rfl, e⟩ | ⟨n, e⟩
    · cases e
      exact ⟨v, set_self (by rw [← R.len]; exact hi), h⟩
    · obtain ⟨u, h1, h2⟩ := R.sl j s e
      exact ⟨u, by rw [set_other n]; exact h1, h2⟩
  stb := R.stb
  kp := R.kp
  dis := fun j k s s' a n e1 e2 o1 o2 => by
    replace e1 := getElem?_set_some e1; rcases e1 with ⟨rfl, e1⟩ | ⟨n1, e1⟩
    · cases e1; cases o1
    · replace e2 := getElem?_set_some e2; rcases e2 with ⟨rfl, e2⟩ | ⟨n2, e2⟩
      · cases e2; cases o2
      · rw [set_other n1, set_other n2]
        exact R.dis j k s s' a n e1 e2 o1 o2
  par := fun k p e s hm z => by
    replace z := getElem?_set_some z; rcases z with ⟨_, z⟩ | ⟨n, z⟩
    · cases z; cases hm
    · rw [set_other n]; exact R.par k p e s hm z
  pdk := R.pdk
/-- an address that no name owns -/
def Free (W : Wd) (ρ : En) (σ : L2.St) (a : Addr) : Prop := W.H0 a = none ∧ ∀ (j : Nat) (s : S1), ρ[j]? = some (some s) → s.own = true → σ[j]? ≠ some (some (.ref a))
/-- a name gets a list of its own -/
theorem Rel.setL (R : Rel W ρ σ H) {i : Nat} {a : Addr} {vs : List V} {ds : List D} (hi : i < ρ.length) (ha : H a = some (.lst vs)) (hv : DfA W.K H vs ds) (fr : Free W ρ σ a) :
    Rel W (ρ.set i (some (.lst ds))) (σ.set i (some (.ref a))) H where
  len := by rw [List.length_set, List.length_set]; exact R.len
  sl := fun j s e => by
    replace e := getElem?_set_some e; rcases e with ⟨rfl, e⟩ | ⟨n, e⟩
    · cases e
      exact ⟨.ref a, set_self (by rw [← R.len]; exact hi), a, vs, rfl, ha, hv, fr.1⟩
    · obtain ⟨u, h1, h2⟩ := R.sl j s e
      exact ⟨u, by rw [set_other n]; exact h1, h2⟩
  stb := R.stb
  kp := R.kp
  dis := fun j k s s' b n e1 e2 o1 o2 z => by
    replace e1 := getElem?_set_some e1; rcases e1 with ⟨rfl, e1⟩ | ⟨n1, e1⟩
    · cases e1
      rw [set_self (by rw [← R.len]; exact hi)] at z
      cases z
      replace e2 := getElem?_set_some e2; rcases e2 with ⟨rfl, e2⟩ | ⟨n2, e2⟩
      · exact absurd rfl n
      · rw [set_other n2]
        exact fr.2 k s' e2 o2
    · rw [set_other n1] at z
      replace e2 := getElem?_set_some e2; rcases e2 with ⟨rfl, e2⟩ | ⟨n2, e2⟩
      · cases e2
        rw [set_self (by rw [← R.len]; exact hi)]
        intro q
        cases q
        exact fr.2 j s e1 o1 z
      · rw [set_other n2]
        exact R.dis j k s s' b n e1 e2 o1 o2 z
  par := fun k p e s hm z => by
    replace z := getElem?_set_some z; rcases z with ⟨_, z⟩ | ⟨n, z⟩
    · cases z; cases hm
    · rw [set_other n]; exact R.par k p e s hm z
  pdk := R.pdk
/-- a list that is nobody's is frozen -/
theorem Rel.frzF (R : Rel W ρ σ H) {a : Addr} {vs : List V} {o : Obj} (ha : H a = some (.lst vs)) (fr : Free W ρ σ a) : Rel W ρ σ (upd H a (.frz o (.lst vs))) := by
  have hst : Stb H (upd H a (.frz o (.lst vs))) := ⟨fun b xs h => by rw [upd_ne (ne_of h ha (by intro z; cases z))]; exact h, fun b o u h => by rw [upd_ne (ne_of h ha (by intro z; cases z))]; exact h⟩
  refine ⟨R.len, fun j s z => ?_, R.stb.trans hst, fun b o z n => ?_, R.dis, R.par, fun p q => ?_⟩
  · obtain ⟨u, h1, h2⟩ := R.sl j s z
    refine ⟨u, h1, ?_⟩
    cases s with
    | imm d => exact Df.mono hst h2
    | fd d => exact Sl.fdm hst h2
    | lst es =>
      obtain ⟨b, ws, rfl, g1, g2, g3⟩ := h2
      have nb : b ≠ a := fun q => fr.2 j _ z rfl (by rw [h1, q])
      exact ⟨b, ws, rfl, by rw [upd_ne nb]; exact g1, g2.mono hst, g3⟩
    | set es =>
      obtain ⟨b, m, rfl, g1, g2, g3⟩ := h2
      have nb : b ≠ a := fun q => fr.2 j _ z rfl (by rw [h1, q])
      exact ⟨b, m, rfl, by rw [upd_ne nb]; exact g1, g2, g3⟩
    | box es =>
      obtain ⟨b, m, rfl, g1, g2, g3⟩ := h2
      have nb : b ≠ a := fun q => fr.2 j _ z rfl (by rw [h1, q])
      exact ⟨b, m, rfl, by rw [upd_ne nb]; exact g1, g2.mono hst, g3⟩
    | dct kvs =>
      obtain ⟨b, ws, rfl, g1, g2, g3⟩ := h2
      exact ⟨b, ws, rfl, by rw [upd_ne (ne_of g1 ha (by intro z; cases z))]; exact g1, g2.mono hst, g3⟩
  · rw [upd_ne (ne_of_none z fr.1)]
    exact R.kp b _ z n
  · exact ⟨(R.pdk p q).1, upd_some (R.pdk p q).2⟩
theorem frz_stb {a : Addr} {vs : List V} {o : Obj} (ha : H a = some (.lst vs)) : Stb H (upd H a (.frz o (.lst vs))) := ⟨fun b xs h => by rw [upd_ne (ne_of h ha (by intro z; cases z))]; exact h, fun b o u h => by rw [upd_ne (ne_of h ha (by intro z; cases z))]; exact h⟩
/-- a name lets its list go: it is nobody's then -/
theorem Rel.drop (R : Rel W ρ σ H) {i : Nat} : Rel W (ρ.set i none) σ H where
  len := by rw [List.length_set]; exact R.len
  sl := fun j s e => by
    replace e := getElem?_set_some e; rcases e with ⟨_, e⟩ | ⟨n, e⟩
    · cases e
    · exact R.sl j s e
  stb := R.stb
  kp := R.kp
  dis := fun j k s s' a n e1 e2 o1 o2 => by
    replace e1 := getElem?_set_some e1; rcases e1 with ⟨_, e1⟩ | ⟨n1, e1⟩
    · cases e1
    · replace e2 := getElem?_set_some e2; rcases e2 with ⟨_, e2⟩ | ⟨n2, e2⟩
      · cases e2
      · exact R.dis j k s s' a n e1 e2 o1 o2
  par := fun k p e s hm z => by
    replace z := getElem?_set_some z; rcases z with ⟨_, z⟩ | ⟨n, z⟩
    · cases z
    · exact R.par k p e s hm z
  pdk := R.pdk
theorem Rel.dropFree (R : Rel W ρ σ H) {i : Nat} {a : Addr} {ds : List D} (e : ρ[i]? = some (some (.lst ds))) (ev : σ[i]? = some (some (.ref a))) : Free W (ρ.set i none) σ a := by
  obtain ⟨v, h1, a', vs, rfl, h2, h3, h4⟩ := R.sl i _ e
  rw [ev] at h1
  cases h1
  refine ⟨h4, fun j s z o q => ?_⟩
  replace z := getElem?_set_some z; rcases z with ⟨_, z⟩ | ⟨n, z⟩
  · cases z
  · exact R.dis i j _ s a (Ne.symm n) e z rfl o ev q
/-- the name takes up what it held, as data -/
theorem Rel.putI (R : Rel W ρ σ H) {i : Nat} {v : V} {d : D} (hi : i < ρ.length) (ev : σ[i]? = some (some v)) (h : Df W.K H v d) : Rel W (ρ.set i (some (.imm d))) σ H := by
  have q := R.setI hi h
  have e : σ.set i (some v) = σ := by
    apply List.ext_getElem?
    intro j
    by_cases n : j = i
    · subst n
      rw [set_self (by rw [← R.len]; exact hi), ev]
    · rw [set_other n]
  rw [e] at q
  exact q
theorem Rel.fresh (R : Rel W ρ σ H) {a : Addr} (h : H a = none) : Free W ρ σ a := by
  have h0 : W.H0 a = none := by
    cases q : W.H0 a with
    | none => rfl
    | some o =>
      by_cases e : a ∈ W.P
      · exact absurd h (R.pdk a e).2
      · have := R.kp a o q e
        rw [h] at this; cases this
  refine ⟨h0, fun j s e o q => ?_⟩
  obtain ⟨v, h1, h2⟩ := R.sl j s e
  rw [q] at h1
  cases h1
  cases s with
  | imm d => cases o
  | fd d => cases o
  | lst ds => obtain ⟨b, vs, e1, h2, _⟩ := h2; cases e1; rw [h] at h2; cases h2
  | set ds => obtain ⟨b, vs, e1, h2, _⟩ := h2; cases e1; rw [h] at h2; cases h2
  | dct ds => obtain ⟨b, vs, e1, h2, _⟩ := h2; cases e1; rw [h] at h2; cases h2
  | box ds => obtain ⟨b, vs, e1, h2, _⟩ := h2; cases e1; rw [h] at h2; cases h2
end
end Pu

namespace Pu
open PySem PySem.Spec PyProof.Rows L2

/-! ### the mirror's monad -/
/-- what is wanted of an exception that leaves the def -/
class Wish where
  x : XD → En → Prop
instance (priority := 10) noWish : Wish := ⟨fun _ _ => False⟩
variable [Wish]
inductive Ou (α : Type) where
  | ok (a : α) (ρ : En) | ex (c : XD) (ρ : En) | no
abbrev MM (α : Type) := En → Ou α
def pu {α : Type} (a : α) : MM α := fun ρ => .ok a ρ
def bd {α β : Type} (m : MM α) (f : α → MM β) : MM β := fun ρ => match m ρ with
  | .ok a ρ' => f a ρ'
  | .ex c ρ' => .ex c ρ'
  | .no => .no
def lift {α : Type} (o : Option α) : MM α := fun ρ => match o with
  | some a => .ok a ρ
  | none => .no
def Got {α : Type} (o : Ou α) (k : α → En → Prop) : Prop := match o with
  | .ok a ρ => k a ρ
  | .ex c ρ => Wish.x c ρ
  | .no => False
theorem got_bd {α β : Type} {m : MM α} {f : α → MM β} {ρ : En} {k : β → En → Prop} (h : Got (bd m f ρ) k) : Got (m ρ) fun a ρ' => Got (f a ρ') k := by
  unfold bd at h
  cases e : m ρ with
  | ok a ρ' => rw [e] at h; exact h
  | ex c ρ' => rw [e] at h; exact h
  | no => rw [e] at h; exact h
theorem got_imp {α : Type} {o : Ou α} {k k' : α → En → Prop} (h : Got o k) (f : ∀ a ρ, k a ρ → k' a ρ) : Got o k' := by
  cases o with
  | ok a ρ => exact f a ρ h
  | ex c ρ => exact h
  | no => exact h
theorem got_lift {α : Type} {o : Option α} {ρ : En} {k : α → En → Prop} (h : Got (lift o ρ) k) : ∃ a, o = some a ∧ k a ρ := by
  cases o with
  | some a => exact ⟨a, rfl, h⟩
  | none => exact h.elim

/-- the second part must not raise: the first one alone may make the whole fail -/
def bdN {α β : Type} (m : MM α) (f : α → MM β) : MM β := fun ρ => match m ρ with
  | .ok a ρ' => f a ρ'
  | _ => .no
theorem got_unN {α β : Type} {m : MM α} {f : α → MM β} {ρ : En} {k : β → En → Prop} (h : Got (bdN m f ρ) k) : Got (bd m f ρ) k := by
  unfold bdN at h
  unfold bd
  cases e : m ρ with
  | ok a ρ' => rw [e] at h; exact h
  | ex c ρ' => rw [e] at h; exact h.elim
  | no => rw [e] at h; exact h
theorem got_bdN {α β : Type} {m : MM α} {f : α → MM β} {ρ : En} {k : β → En → Prop} (h : Got (bdN m f ρ) k) : ∃ a ρ', m ρ = .ok a ρ' ∧ Got (f a ρ') k := by
  unfold bdN at h
  cases e : m ρ with
  | ok a ρ' => rw [e] at h; exact ⟨a, ρ', rfl, h⟩
  | ex c ρ' => rw [e] at h; exact h.elim
  | no => rw [e] at h; exact h.elim
/-! ### a step of an expression -/
def NotOwn (ρ : En) (σ : L2.St) (b : Addr) : Prop := ∀ (j : Nat) (s : S1), ρ[j]? = some (some s) → s.own = true → σ[j]? ≠ some (some (.ref b))
structure Go (ρ ρ' : En) (σ : L2.St) (H H' : Hp) : Prop where
  stb : Stb H H'
  fr : ∀ b o, H b = some o → NotOwn ρ σ b → H' b = some o
  shr : ∀ (j : Nat) (s : S1), ρ'[j]? = some (some s) → s.own = true → ∃ s', ρ[j]? = some (some s') ∧ s'.own = true
theorem Go.refl {ρ : En} {σ : L2.St} {H : Hp} : Go ρ ρ σ H H := ⟨.refl H, fun _ _ h _ => h, fun _ s h o => ⟨s, h, o⟩⟩
theorem Go.same {ρ : En} {σ : L2.St} {H H' : Hp} (q : Same H H') : Go ρ ρ σ H H' := ⟨.same q, fun _ _ h _ => q _ _ h, fun _ s h o => ⟨s, h, o⟩⟩
theorem Go.notOwn {ρ ρ' : En} {σ : L2.St} {H H' : Hp} (g : Go ρ ρ' σ H H') {b : Addr} (n : NotOwn ρ σ b) : NotOwn ρ' σ b := fun j s e o => by
  obtain ⟨s', e', o'⟩ := g.shr j s e o
  exact n j s' e' o'
theorem Go.trans {ρ ρ1 ρ2 : En} {σ : L2.St} {H H1 H2 : Hp} (a : Go ρ ρ1 σ H H1) (b : Go ρ1 ρ2 σ H1 H2) : Go ρ ρ2 σ H H2 :=
  ⟨a.stb.trans b.stb, fun c o h n => b.fr c o (a.fr c o h n) (a.notOwn n), fun j s e o => by
    obtain ⟨s', e', o'⟩ := b.shr j s e o
    exact a.shr j s' e' o'⟩

/-! ### readings by mirrors -/
def tR (W : Wd) (m : MM D) : TE := fun σ H Q => ∃ ρ, Rel W ρ σ H ∧ Got (m ρ) fun d ρ' => ∀ v H', Go ρ ρ' σ H H' → Rel W ρ' σ H' → Df W.K H' v d → Q v H'
/-- it was not there, or a name's own -/
def Nw (ρ : En) (σ : L2.St) (H : Hp) (a : Addr) : Prop := H a = none ∨ ∃ (j : Nat) (s : S1), ρ[j]? = some (some s) ∧ s.own = true ∧ σ[j]? = some (some (.ref a))
theorem Nw.ne {ρ : En} {σ : L2.St} {H : Hp} {a b : Addr} {o : HO} (n : Nw ρ σ H a) (h : H b = some o) (q : NotOwn ρ σ b) : b ≠ a := by
  rintro rfl
  rcases n with n | ⟨j, s, e, ow, ev⟩
  · rw [h] at n; cases n
  · exact q j s e ow ev
def tL (W : Wd) (m : MM (List D)) : TE := fun σ H Q => ∃ ρ, Rel W ρ σ H ∧ Got (m ρ) fun ds ρ' => ∀ a vs H', Go ρ ρ' σ H H' → Rel W ρ' σ H' → H' a = some (.lst vs) → DfA W.K H' vs ds → Free W ρ' σ a → Nw ρ σ H a → Q (.ref a) H'
def tT (W : Wd) (m : MM Bool) : TT := fun σ H Q => ∃ ρ, Rel W ρ σ H ∧ Got (m ρ) fun b ρ' => ∀ H', Go ρ ρ' σ H H' → Rel W ρ' σ H' → Q b H'
def tA (W : Wd) (m : MM (List D)) : TA := fun σ H Q => ∃ ρ, Rel W ρ σ H ∧ Got (m ρ) fun ds ρ' => ∀ vs H', Go ρ ρ' σ H H' → Rel W ρ' σ H' → DfA W.K H' vs ds → Q vs H'
theorem weak {X : Cx} {e : Expr} {t t' : TE} (h : PE X e t) (w : ∀ σ H Q, t' σ H Q → t σ H Q) : PE X e t' := fun pins s σ H Q I q => h pins s σ H Q I (w σ H Q q)
theorem weakT {X : Cx} {e : Expr} {t t' : TT} (h : PT X e t) (w : ∀ σ H Q, t' σ H Q → t σ H Q) : PT X e t' := fun pins s σ H Q I q => h pins s σ H Q I (w σ H Q q)
theorem weakW {X : Cx} {e : Expr} {t t' : TT} (h : PW X e t) (w : ∀ σ H Q, t' σ H Q → t σ H Q) : PW X e t' := fun wh pins s σ H Q I q => h wh pins s σ H Q I (w σ H Q q)
theorem weakA {X : Cx} {e : List Expr} {t t' : TA} (h : PA X e t) (w : ∀ σ H Q, t' σ H Q → t σ H Q) : PA X e t' := fun pos pins s σ H Q I q => h pos pins s σ H Q I (w σ H Q q)
theorem weakS {X : Cx} {e : Stmt} {t t' : TS} (h : PS X e t) (w : ∀ D σ H, t' D σ H → t D σ H) : PS X e t' := fun pins s σ H D I q => h pins s σ H D I (w D σ H q)
theorem weakSs {X : Cx} {e : List Stmt} {t t' : TS} (h : PSs X e t) (w : ∀ D σ H, t' D σ H → t D σ H) : PSs X e t' := fun pins s σ H D I q => h pins s σ H D I (w D σ H q)
section
variable {W : Wd} {ρ : En} {σ : L2.St} {H : Hp}
theorem tR_bd {α : Type} {m : MM D} {f : D → MM α} {k : α → En → Prop} {Q : VK} (R : Rel W ρ σ H) (g : Got (bd m f ρ) k)
    (q : ∀ v H' d ρ', Go ρ ρ' σ H H' → Rel W ρ' σ H' → Df W.K H' v d → Got (f d ρ') k → Q v H') : tR W m σ H Q :=
  ⟨ρ, R, got_imp (got_bd g) fun d ρ' g' v H' go R' df => q v H' d ρ' go R' df g'⟩
theorem tL_bd {α : Type} {m : MM (List D)} {f : List D → MM α} {k : α → En → Prop} {Q : VK} (R : Rel W ρ σ H) (g : Got (bd m f ρ) k)
    (q : ∀ a vs H' d ρ', Go ρ ρ' σ H H' → Rel W ρ' σ H' → H' a = some (.lst vs) → DfA W.K H' vs d → Free W ρ' σ a → Nw ρ σ H a → Got (f d ρ') k → Q (.ref a) H') : tL W m σ H Q :=
  ⟨ρ, R, got_imp (got_bd g) fun d ρ' g' a vs H' go R' h1 h2 h3 h4 => q a vs H' d ρ' go R' h1 h2 h3 h4 g'⟩
theorem tT_bd {α : Type} {m : MM Bool} {f : Bool → MM α} {k : α → En → Prop} {Q : Bool → Hp → Prop} (R : Rel W ρ σ H) (g : Got (bd m f ρ) k)
    (q : ∀ H' d ρ', Go ρ ρ' σ H H' → Rel W ρ' σ H' → Got (f d ρ') k → Q d H') : tT W m σ H Q :=
  ⟨ρ, R, got_imp (got_bd g) fun d ρ' g' H' go R' => q H' d ρ' go R' g'⟩
theorem tA_bd {α : Type} {m : MM (List D)} {f : List D → MM α} {k : α → En → Prop} {Q : List V → Hp → Prop} (R : Rel W ρ σ H) (g : Got (bd m f ρ) k)
    (q : ∀ vs H' ds ρ', Go ρ ρ' σ H H' → Rel W ρ' σ H' → DfA W.K H' vs ds → Got (f ds ρ') k → Q vs H') : tA W m σ H Q :=
  ⟨ρ, R, got_imp (got_bd g) fun d ρ' g' v H' go R' df => q v H' d ρ' go R' df g'⟩
end
abbrev wd (X : Cx) (H0 : Hp) (P : List Addr) : Wd := ⟨X.K, H0, P⟩

/-! ### the mirrors -/
def mC (d : D) : MM D := fun ρ => .ok d ρ
/-- a name read: a list of its own is data from now on -/
def mV (i : Nat) : MM D := fun ρ => match ρ[i]? with
  | some (some (.imm d)) => .ok d ρ
  | some (some (.lst ds)) => .ok (.list ds) (ρ.set i (some (.imm (.list ds))))
  | _ => .no
def mBin (f : D → D → Option D) (a b : MM D) : MM D := bd a fun x => bd b fun y => lift (f x y)
def mBinL (f : D → D → Option (List D)) (a b : MM D) : MM (List D) := bd a fun x => bd b fun y => lift (f x y)
def mUn (f : D → Option D) (a : MM D) : MM D := bd a fun x => lift (f x)
def mCmp (f : D → D → Option Bool) (a b : MM D) : MM Bool := bd a fun x => bd b fun y => lift (f x y)
def bl (m : MM Bool) : MM D := bd m fun b => pu (.bool b)
def mNil : MM (List D) := pu []
def mCons (a : MM D) (r : MM (List D)) : MM (List D) := bd a fun x => bd r fun xs => pu (x :: xs)
def fz (m : MM (List D)) : MM D := bd m fun ds => pu (.list ds)
def sized (n : Nat) : Bool := decide (n ≤ sizeLine)
def mLst (m : MM (List D)) : MM (List D) := bd m fun ds => lift (if sized ds.length then some ds else none)
def mOr (a b : MM Bool) : MM Bool := bd a fun c => if c then pu true else b
def mNot (a : MM Bool) : MM Bool := bd a fun c => pu (!c)
def mIf {α : Type} (c : MM Bool) (a b : MM α) : MM α := bd c fun b' => if b' then a else b
def truth : D → Option Bool
  | .none => some false
  | .bool b => some b
  | .int i => some (i != 0)
  | .str y => if sized y.length then some ((y.length : Int) != 0) else none
  | .list ds => some (!ds.isEmpty)
  | .tuple ds => some (!ds.isEmpty)
  | .dict _ => none
def mTru (a : MM D) : MM Bool := bd a fun x => lift (truth x)
section
variable {X : Cx} {H0 : Hp} {P : List Addr} {pos : Pos}
theorem re_bool {b j} : PE X (.Constant (.bool b) j pos) (tR (wd X H0 P) (mC (.bool b))) := weak pe_bl fun σ H Q ⟨ρ, R, g⟩ => g (.bl b) H .refl R (.bl b)
theorem re_int {i j} : PE X (.Constant (.int i) j pos) (tR (wd X H0 P) (mC (.int i))) := weak pe_int fun σ H Q ⟨ρ, R, g⟩ => g (.int i) H .refl R (.int i)
theorem re_str {x j} : PE X (.Constant (.str x) j pos) (tR (wd X H0 P) (mC (.str x))) := weak pe_str fun σ H Q ⟨ρ, R, g⟩ => g (.str x) H .refl R (.str x)
theorem notOwn_ne {ρ : En} {σ : L2.St} {i : Nat} {s : S1} {a b : Addr} (e : ρ[i]? = some (some s)) (o : s.own = true) (ev : σ[i]? = some (some (.ref a))) (n : NotOwn ρ σ b) : b ≠ a := fun z => n i s e o (by rw [ev, z])
/-- a name -/
theorem re_var (i : Nat) {x : Str} (hN : X.N[i]? = some x := by rfl) (hv : Vis X.env.scope x := by first | exact Or.inl rfl | exact Or.inr (Or.inl rfl) | exact Or.inr (Or.inr rfl)) (hd : (x == ("__debug__" : Str)) = false := by decide)
    (hcd : (x == ("__classdict__" : Str)) = false := by decide) : PE X (.Name x pos) (tR (wd X H0 P) (mV i)) := by
  intro pins s σ H Q I ⟨ρ, R, g⟩
  unfold mV at g
  split at g
  · rename_i d e
    obtain ⟨v, h1, h2⟩ := R.get e
    exact pe_var hN hv hd hcd pins s σ H Q I ⟨v, h1, g v H .refl R h2⟩
  · rename_i ds e
    obtain ⟨v, h1, a, vs, rfl, h2, h3, h4⟩ := R.sl i _ e
    refine thn (pe_var hN hv hd hcd pins s σ H (fun v' H' => v' = .ref a ∧ H' = H) I ⟨_, h1, rfl, rfl⟩) fun u s1 ⟨v', H1, I1, r1, e1, e2⟩ => ?_
    subst e1 e2
    obtain ⟨od, I2⟩ := I1.lock h2 trivial
    have hi : i < ρ.length := (List.getElem?_eq_some_iff.mp e).1
    have fr := R.dropFree e h1
    have R1 := (R.drop (i := i)).frzF (o := od) h2 fr
    have df : Df X.K (upd H1 a (.frz od (.lst vs))) (.ref a) (.list ds) := .lst (.inl ⟨od, upd_same⟩) (h3.mono (frz_stb h2))
    have R2 := R1.putI (i := i) (d := .list ds) (by rw [List.length_set]; exact hi) h1 df
    rw [List.set_set] at R2
    refine ⟨.ref a, _, I2, r1, g (.ref a) _ ⟨frz_stb h2, fun b o hb n => ?_, fun j s' e' o => ?_⟩ R2 df⟩
    · rw [upd_ne (notOwn_ne e rfl h1 n)]
      exact hb
    · rcases getElem?_set_some e' with ⟨_, e'⟩ | ⟨n, e'⟩
      · cases e'; cases o
      · exact ⟨s', e', o⟩
  · exact g.elim
/-- a list that was made is data from now on -/
theorem re_fz {e : Expr} {m : MM (List D)} (h : PE X e (tL (wd X H0 P) m)) : PE X e (tR (wd X H0 P) (fz m)) := by
  intro pins s σ H Q I ⟨ρ, R, g⟩
  refine thn (h pins s σ H (fun v H1 => ∃ a vs ds ρ1, v = .ref a ∧ Go ρ ρ1 σ H H1 ∧ Rel (wd X H0 P) ρ1 σ H1 ∧ H1 a = some (.lst vs) ∧ DfA X.K H1 vs ds ∧ Free (wd X H0 P) ρ1 σ a ∧ Nw ρ σ H a ∧
    ∀ v H', Go ρ ρ1 σ H H' → Rel (wd X H0 P) ρ1 σ H' → Df X.K H' v (.list ds) → Q v H') I (tL_bd R g fun a vs H1 ds ρ1 go R1 h1 h2 h3 h4 g1 => ⟨a, vs, ds, ρ1, rfl, go, R1, h1, h2, h3, h4, g1⟩)) fun u s1 ⟨v, H1, I1, r1, a, vs, ds, ρ1, e1, go, R1, h1, h2, h3, h4, g1⟩ => ?_
  subst e1
  obtain ⟨od, I2⟩ := I1.lock h1 trivial
  refine ⟨.ref a, _, I2, r1, g1 _ _ ⟨go.stb.trans (frz_stb h1), fun b o hb n => ?_, go.shr⟩ (R1.frzF h1 h3) (.lst (.inl ⟨od, upd_same⟩) (h2.mono (frz_stb h1)))⟩
  rw [upd_ne (h4.ne hb n)]
  exact go.fr b o hb n
end
end Pu

namespace Pu
open PySem PySem.Spec PyProof.Rows L2
variable [Wish]

/-! ### the model's own steps that the layer lacks -/
theorem tuple_addW0 (l b : Addr) (items items2 : Array Value) (n n2 : Nat) (dd dd2 : Option Addr) (sl sl2 : Array (Option Value)) (hc0 : items.isEmpty = true) :
    Meets (Builtin.«tuple.__add__» ⟨[.ref l, .ref b], []⟩) (fun _ R s => s.heap.get? l = some { cls := .type "tuple", dict := dd, data := .seq items n, slots := sl } ∧ s.heap.get? b = some { cls := .type "tuple", dict := dd2, data := .seq items2 n2, slots := sl2 } ∧ R (.ok (.ret (Value.ref b))) { s with heap := s.heap, toks := s.toks }) :=
  .of_wp fun prog w A R s h => by obtain ⟨hp, g, d, tk, os⟩ := s; obtain ⟨hl, hb, h⟩ := h; have f1 := AutoSeq1.idx_int; have f2 := AutoSeq1.sub_tuple_tuple; have f3 := AutoSeq1.sub_list_list; have f4 := AutoSeq1.sub_tuple_list; have f5 := AutoSeq1.sub_list_tuple; wp_walk using wpAny_loadPart' hl, wpAny_loadPart' hb; exact ⟨_, rfl, h⟩
theorem cat_tup0 {prog : Program} {w : World} {A : Around} {E : Value → Shared → Prop} {s : Shared} {t b : Addr} {ws : List Value} {Q : Value → Shared → Prop} (ht : IsTup s.heap t (([] : List Value)).toArray) (hb : IsTup s.heap b ws.toArray)
    (h1 : Q (.ref b) s) : wpAny (model prog w) A (binaryOp .Add (.ref t) (.ref b)) Q E s := by
  obtain ⟨⟨cls, dd, data, sl⟩, ho, hc, n, hd⟩ := id ht
  obtain ⟨⟨cls2, dd2, data2, sl2⟩, ho2, hc2, n2, hd2⟩ := id hb
  simp only at hc hd hc2 hd2
  subst hc hd hc2 hd2
  exact concat_meets ⟨_, ho, rfl⟩ ⟨_, ho2, rfl⟩ noFill_tuple_add seq_tuple_add PySem.F.slot_tuple_add PySem.F.entry_tuple_add (PySem.F.args_tuple_add_2 _ _)
      (tuple_addW0 t b _ ws.toArray n n2 dd dd2 sl sl2 (by simp)) ⟨ho, ho2, h1⟩

/-! ### operators on data -/
def rD (K : Fg) (f : D → D → Option D) : R2 := fun x y H Q => ∃ a b d, Df K H x a ∧ Df K H y b ∧ f a b = some d ∧ ∀ v H', Same H H' → Df K H' v d → Q v H'
def fAdd : D → D → Option D
  | .int i, .int j => some (.int (i + j))
  | .str a, .str b => if sized (a.length + b.length) then some (.str (a ++ b)) else none
  | .tuple a, .tuple b => if sized (a.length + b.length) then some (.tuple (a ++ b)) else none
  | _, _ => none
def fMod : D → D → Option D
  | .int i, .int j => if decide (0 < j) then some (.int (i % j)) else none
  | _, _ => none
theorem of_sized {n : Nat} (h : sized n = true) : n ≤ sizeLine := of_decide_eq_true h
theorem same_upd {H : Hp} {p : Addr} (h : H p = none) (o : HO) : Same H (upd H p o) := fun b u q => by rw [upd_ne (ne_of_none q h)]; exact q
section
variable {X : Cx}
theorem op_addD : OpR X (binaryOp .Add) (rD X.K fAdd) := by
  intro pins s σ H x y v u Q I rx ry ⟨a, b, d, ha, hb, hf, q⟩
  unfold fAdd at hf
  split at hf
  · cases ha; cases hb
    obtain rfl := Option.some.inj hf
    exact op_add pins s σ H _ _ v u Q I rx ry ⟨_, _, rfl, rfl, q _ _ (Same.refl _) (.int _)⟩
  · cases ha; cases hb
    split at hf
    · rename_i hz
      obtain rfl := Option.some.inj hf
      exact op_add_str pins s σ H _ _ v u Q I rx ry ⟨_, _, rfl, rfl, of_sized hz, q _ _ (Same.refl _) (.str _)⟩
    · cases hf
  · rename_i xs ys
    split at hf
    · rename_i hz
      obtain rfl := Option.some.inj hf
      obtain ⟨a1, h1⟩ : ∃ a1, x = .ref a1 := by cases ha; exact ⟨_, rfl⟩
      obtain ⟨b1, h2⟩ : ∃ b1, y = .ref b1 := by cases hb; exact ⟨_, rfl⟩
      subst h1 h2
      have hz := of_sized hz
      cases ha with
      | tup s1 da t_s1 =>
        rename_i vs1
        cases hb with
        | tup s2 db t_s2 =>
          rename_i vs2
          have l1 := da.length
          have l2 := db.length
          by_cases e1 : vs1 = []
          · subst e1
            cases da
            cases rx
            cases ry
            obtain ⟨its, r1, p1, _⟩ := I.tuple s1
            obtain ⟨its2, r2, p2, _⟩ := I.tuple s2
            cases r1
            exact cat_tup0 p1 p2 ⟨.ref b1, H, I, rfl, q _ _ (Same.refl _) (.tup s2 db)⟩
          · refine op_catT pins s σ H _ _ v u Q I rx ry ⟨a1, b1, vs1, vs2, rfl, rfl, s1, s2, e1, by omega, fun e2 => ?_, fun e2 p hp => ?_⟩
            · subst e2
              cases db
              rw [List.append_nil] at q
              exact q _ _ (Same.refl _) (.tup s1 da)
            · exact q _ _ (same_upd hp _) (.tup (.inl (.inl upd_same)) ((da.append db).mono (.same (same_upd hp _))))
    · cases hf
  · cases hf
theorem op_modD : OpR X (binaryOp .Mod) (rD X.K fMod) := by
  intro pins s σ H x y v u Q I rx ry ⟨a, b, d, ha, hb, hf, q⟩
  unfold fMod at hf
  split at hf
  · cases ha; cases hb
    split at hf
    · rename_i h
      obtain rfl := Option.some.inj hf
      exact op_mod pins s σ H _ _ v u Q I rx ry ⟨_, _, rfl, rfl, of_decide_eq_true h, q _ _ (Same.refl _) (.int _)⟩
    · cases hf
  · cases hf
variable {H0 : Hp} {P : List Addr} {pos : Pos} {a b : Expr} {ma mb : MM D}
theorem re_op {op : Operator} {f : D → D → Option D} (ho : OpR X (binaryOp op) (rD X.K f)) (ha : PE X a (tR (wd X H0 P) ma)) (hb : PE X b (tR (wd X H0 P) mb)) : PE X (.BinOp a op b pos) (tR (wd X H0 P) (mBin f ma mb)) :=
  weak (pe_op ho ha hb) fun σ H Q ⟨ρ, R, g⟩ => tR_bd R g fun v H1 d ρ1 go1 R1 d1 g1 => tR_bd R1 g1 fun u H2 e ρ2 go2 R2 d2 g2 => by
    obtain ⟨z, hz, k⟩ := got_lift g2
    exact ⟨d, e, z, d1.mono go2.stb, d2, hz, fun w H' sm dw => k w H' ((go1.trans go2).trans (.same sm)) (R2.same sm) dw⟩

/-! ### comparisons -/
def rB (K : Fg) (f : D → D → Option Bool) : R2 := fun x y H Q => ∃ a b c, Df K H x a ∧ Df K H y b ∧ f a b = some c ∧ Q (.bl c) H
def fI (p : Int → Int → Bool) : D → D → Option Bool
  | .int i, .int j => some (p i j)
  | _, _ => none
abbrev fGt := fI fun i j => decide (j < i)
theorem op_intR {op : CmpOp} {p : Int → Int → Bool} (h : OpR X (compareOp op) (rI0 fun i j => .bl (p i j))) : OpR X (compareOp op) (rB X.K (fI p)) := by
  intro pins s σ H x y v u Q I rx ry ⟨a, b, d, ha, hb, hf, q⟩
  unfold fI at hf
  split at hf
  · cases ha; cases hb
    obtain rfl := Option.some.inj hf
    exact h pins s σ H _ _ v u Q I rx ry ⟨_, _, rfl, rfl, q⟩
  · cases hf
theorem op_gtR : OpR X (compareOp .Gt) (rB X.K fGt) := op_intR op_gt
theorem rt_cmp {op : CmpOp} {f : D → D → Option Bool} (ho : OpR X (compareOp op) (rB X.K f)) (ha : PE X a (tR (wd X H0 P) ma)) (hb : PE X b (tR (wd X H0 P) mb)) (hm : behindInMarks op b = false := by first | exact nobehind _ (by decide) (by decide) | rfl) :
    PT X (.Compare a [op] [b] pos) (tT (wd X H0 P) (mCmp f ma mb)) :=
  weakT (pt_cmpR ho ha hb hm) fun σ H Q ⟨ρ, R, g⟩ => tR_bd R g fun v H1 d ρ1 go1 R1 d1 g1 => tR_bd R1 g1 fun u H2 e ρ2 go2 R2 d2 g2 => by
    obtain ⟨z, hz, k⟩ := got_lift g2
    exact ⟨d, e, z, d1.mono go2.stb, d2, hz, z, rfl, k H2 (go1.trans go2) R2⟩
theorem re_cmp {op : CmpOp} {f : D → D → Option Bool} (ho : OpR X (compareOp op) (rB X.K f)) (ha : PE X a (tR (wd X H0 P) ma)) (hb : PE X b (tR (wd X H0 P) mb)) (hm : behindInMarks op b = false := by first | exact nobehind _ (by decide) (by decide) | rfl) :
    PE X (.Compare a [op] [b] pos) (tR (wd X H0 P) (bl (mCmp f ma mb))) :=
  weak (pe_cmpR ho ha hb hm) fun σ H Q ⟨ρ, R, g⟩ => tR_bd R (got_bd g) fun v H1 d ρ1 go1 R1 d1 g1 => tR_bd R1 g1 fun u H2 e ρ2 go2 R2 d2 g2 => by
    obtain ⟨z, hz, k⟩ := got_lift g2
    exact ⟨d, e, z, d1.mono go2.stb, d2, hz, k (.bl z) H2 (go1.trans go2) R2 (.bl z)⟩
/-! ### tests -/
variable {ta tb' : MM Bool} {rest : List Expr} {e : Expr} {m : MM D}
theorem tru_df {K : Fg} {H : Hp} {x : V} {d : D} {k : Bool} (h : Df K H x d) (e : truth d = some k) : TruV K x H k := by
  cases h with
  | non => exact (Option.some.inj e).symm
  | bl b => exact (Option.some.inj e).symm
  | int i => exact (Option.some.inj e).symm
  | str y =>
    have e : (if sized y.length then some ((y.length : Int) != 0) else none) = some k := e
    split at e
    · rename_i hz
      exact ⟨of_sized hz, (Option.some.inj e).symm⟩
    · cases e
  | lst h a => exact .inl ⟨_, h.sq, by rw [← Option.some.inj e]; cases a <;> rfl⟩
  | tup h a t_h => exact .inr (.inl ⟨_, h, by rw [← Option.some.inj e]; cases a <;> rfl⟩)
  | exc _ _ _ _ => cases e
theorem rt_tru (he : PE X e (tR (wd X H0 P) m)) (hp : ∀ whole, isTrue e X.env whole = (do let v ← whole; standAt e.pos; holding [v] (truthy v)) := by intro _; rfl) : PT X e (tT (wd X H0 P) (mTru m)) :=
  weakT (pt_truth he hp) fun σ H Q ⟨ρ, R, g⟩ => tR_bd R g fun v H1 d ρ1 go1 R1 d1 g1 => by
    obtain ⟨k, hk, g2⟩ := got_lift g1
    exact ⟨k, tru_df d1 hk, g2 H1 go1 R1⟩
theorem rt_not (ha : PT X a (tT (wd X H0 P) ta)) : PT X (.UnaryOp .Not a pos) (tT (wd X H0 P) (mNot ta)) :=
  weakT (pt_not ha) fun σ H Q ⟨ρ, R, g⟩ => tT_bd R g fun H1 c ρ1 go1 R1 g1 => g1 H1 go1 R1
theorem rw_or1 (ha : PT X a (tT (wd X H0 P) ta)) : PW X (.BoolOp .Or [a] pos) (tT (wd X H0 P) ta) := pw_or1 ha
theorem rw_or (ha : PT X a (tT (wd X H0 P) ta)) (hb : PW X (.BoolOp .Or (b :: rest) pos) (tT (wd X H0 P) tb')) : PW X (.BoolOp .Or (a :: b :: rest) pos) (tT (wd X H0 P) (mOr ta tb')) :=
  weakW (pw_or ha hb) fun σ H Q ⟨ρ, R, g⟩ => tT_bd R g fun H1 c ρ1 go1 R1 g1 => by
    cases c with
    | false => exact iteF ⟨ρ1, R1, got_imp g1 fun b ρ2 k H2 go2 R2 => k H2 (go1.trans go2) R2⟩
    | true => exact iteT (g1 H1 go1 R1)
theorem re_if {c : Expr} (hc : PT X c (tT (wd X H0 P) ta)) (ha : PE X a (tR (wd X H0 P) ma)) (hb : PE X b (tR (wd X H0 P) mb)) : PE X (.IfExp c a b pos) (tR (wd X H0 P) (mIf ta ma mb)) :=
  weak (pe_ifExp hc ha hb) fun σ H Q ⟨ρ, R, g⟩ => tT_bd R g fun H1 c ρ1 go1 R1 g1 => by
    cases c with
    | true => exact iteT ⟨ρ1, R1, got_imp g1 fun z ρ2 k v H2 go2 R2 dz => k v H2 (go1.trans go2) R2 dz⟩
    | false => exact iteF ⟨ρ1, R1, got_imp g1 fun z ρ2 k v H2 go2 R2 dz => k v H2 (go1.trans go2) R2 dz⟩

/-! ### argument lists, displays -/
variable {es : List Expr} {mr : MM (List D)}
theorem ra_nil : PA X [] (tA (wd X H0 P) mNil) := weakA pa_nil fun σ H Q ⟨ρ, R, g⟩ => g [] H .refl R .nil
theorem ra_cons (ha : PE X e (tR (wd X H0 P) m)) (hr : PA X es (tA (wd X H0 P) mr)) (hs : starEach (e :: es) X.env = (false, eval e X.env) :: starEach es X.env := by rfl) : PA X (e :: es) (tA (wd X H0 P) (mCons m mr)) :=
  weakA (pa_cons ha hr hs) fun σ H Q ⟨ρ, R, g⟩ => tR_bd R g fun v H1 d ρ1 go1 R1 d1 g1 => tA_bd R1 g1 fun vs H2 ds ρ2 go2 R2 d2 g2 => g2 (v :: vs) H2 (go1.trans go2) R2 (.cons (d1.mono go2.stb) d2)
theorem rl_lst (h : PA X es (tA (wd X H0 P) mr)) : PE X (.List es pos) (tL (wd X H0 P) (mLst mr)) :=
  weak (pe_lst h) fun σ H Q ⟨ρ, R, g⟩ => tA_bd R g fun vs H1 ds ρ1 go1 R1 d1 g1 => by
    obtain ⟨z, hz, k⟩ := got_lift g1
    split at hz
    · rename_i hs
      obtain rfl := Option.some.inj hz
      refine ⟨by rw [d1.length]; exact of_sized hs, fun p hp => k p vs _ (go1.trans (.same (same_upd hp _))) (R1.same (same_upd hp _)) upd_same (d1.mono (.same (same_upd hp _))) (R1.fresh hp) ?_⟩
      cases q : H p with
      | none => exact .inl q
      | some o =>
        by_cases n : NotOwn ρ σ p
        · have := go1.fr p o q n
          rw [hp] at this
          cases this
        · refine .inr (Classical.byContradiction fun z => n fun j s e o' ev => z ⟨j, s, e, o', ev⟩)
    · cases hz
end
end Pu

namespace Pu
open PySem PySem.Spec PyProof.Rows L2
variable [Wish]

/-! ### x[i] -/
def fIx : D → D → Option D
  | .list ds, .int i => atI ds i
  | .tuple ds, .int i => atI ds i
  | .str z, .int i => if sized z.length then (atI z.cps.toList i).map fun c => .str ⟨#[c]⟩ else none
  | _, _ => none
theorem DfA.at {K : Fg} {H : Hp} {vs : List V} {ds : List D} {i : Int} {d : D} (h : DfA K H vs ds) (e : atI ds i = some d) : ∃ v, atI vs i = some v ∧ Df K H v d := by
  unfold atI at e ⊢
  rw [h.length]
  cases q : ixN ds.length i with
  | none => rw [q] at e; cases e
  | some j =>
    rw [q] at e
    obtain ⟨v, h1, h2⟩ := h.get (i := j) (d := d) e
    exact ⟨v, h1, h2⟩
section
variable {X : Cx} {H0 : Hp} {P : List Addr} {pos : Pos} {a b e : Expr} {ma mb m : MM D}
theorem ix_D : IxR X (rD X.K fIx) := by
  intro value slice pins s σ H x y v u Q I rx ry ⟨a, b, d, ha, hb, hf, q⟩ hs
  unfold fIx at hf
  split at hf
  · cases hb
    cases ha with
    | lst h1 h2 =>
      obtain ⟨w, e1, e2⟩ := h2.at hf
      exact ix_list value slice pins s σ H _ _ v u Q I rx ry ⟨_, _, _, w, rfl, rfl, h1.sq, e1, q _ _ (Same.refl _) e2⟩ hs
  · cases hb
    cases ha with
    | tup h1 h2 t_h1 =>
      obtain ⟨w, e1, e2⟩ := h2.at hf
      exact ix_tup value slice pins s σ H _ _ v u Q I rx ry ⟨_, _, _, w, rfl, rfl, h1, e1, q _ _ (Same.refl _) e2⟩ hs
  · cases hb
    cases ha
    split at hf
    · rename_i hz
      obtain ⟨c, e1, e2⟩ := Option.map_eq_some_iff.mp hf
      subst e2
      exact ix_str value slice pins s σ H _ _ v u Q I rx ry ⟨_, _, c, rfl, rfl, of_sized hz, e1, q _ _ (Same.refl _) (.str _)⟩ hs
    · cases hf
  · cases hf
theorem re_ix (ha : PE X a (tR (wd X H0 P) ma)) (hb : PE X b (tR (wd X H0 P) mb)) (hs : PlainIx b := by intro _ _; rfl) : PE X (.Subscript a b pos) (tR (wd X H0 P) (mBin fIx ma mb)) :=
  weak (pe_ix ix_D ha hb hs) fun σ H Q ⟨ρ, R, g⟩ => tR_bd R g fun v H1 d ρ1 go1 R1 d1 g1 => tR_bd R1 g1 fun u H2 e ρ2 go2 R2 d2 g2 => by
    obtain ⟨z, hz, k⟩ := got_lift g2
    exact ⟨d, e, z, d1.mono go2.stb, d2, hz, fun w H' sm dw => k w H' ((go1.trans go2).trans (.same sm)) (R2.same sm) dw⟩
/-- an item of a name's own list: the list stays the name's -/
def mIxL (i : Nat) (mb : MM D) : MM D := fun ρ => match ρ[i]? with
  | some (some (.lst _)) => bd mb (fun y ρ' => match ρ'[i]? with
      | some (some (.lst ds)) => lift (fIx (.list ds) y) ρ'
      | _ => .no) ρ
  | _ => .no
theorem re_ixL (i : Nat) {x : Str} {p1 : Pos} (hb : PE X b (tR (wd X H0 P) mb)) (hs : PlainIx b := by intro _ _; rfl) (hN : X.N[i]? = some x := by rfl) (hv : Vis X.env.scope x := by first | exact Or.inl rfl | exact Or.inr (Or.inl rfl) | exact Or.inr (Or.inr rfl)) (hd : (x == ("__debug__" : Str)) = false := by decide)
    (hcd : (x == ("__classdict__" : Str)) = false := by decide) : PE X (.Subscript (.Name x p1) b pos) (tR (wd X H0 P) (mIxL i mb)) :=
  weak (pe_ix ix_list (pe_var hN hv hd hcd) hb hs) fun σ H Q ⟨ρ, R, g⟩ => by
    unfold mIxL at g
    split at g
    · rename_i ds0 e0
      obtain ⟨v, h1, a, vs0, rfl, _⟩ := R.sl i _ e0
      refine ⟨.ref a, h1, tR_bd R g fun u H2 y ρ2 go2 R2 d2 g2 => ?_⟩
      dsimp only at g2
      split at g2
      · rename_i ds e
        obtain ⟨z, hz, k⟩ := got_lift g2
        obtain ⟨v', h1', a', vs, rfl, h2, h3, h4⟩ := R2.sl i _ e
        rw [h1] at h1'
        cases h1'
        unfold fIx at hz
        split at hz
        · rename_i heq
          cases heq
          cases d2
          obtain ⟨w, e1, e2⟩ := h3.at hz
          exact ⟨a, vs, _, w, rfl, rfl, .of h2, e1, k w H2 go2 R2 e2⟩
        all_goals (first | cases hz | (rename_i heq; cases heq) | (rename_i heq _; cases heq))
      · exact g2.elim
    · exact g.elim

/-! ### x[lo:hi] -/
def pI : D → Option (Option Int)
  | .int i => some (some i)
  | _ => none
def mNoP : MM (Option Int) := pu none
def mPt (m : MM D) : MM (Option Int) := bd m fun d => lift (pI d)
def tO (W : Wd) (m : MM (Option Int)) : TO := fun σ H Q => ∃ ρ, Rel W ρ σ H ∧ Got (m ρ) fun o ρ' => ∀ H', Go ρ ρ' σ H H' → Rel W ρ' σ H' → Q o H'
theorem tO_bd {W : Wd} {ρ : En} {σ : L2.St} {H : Hp} {α : Type} {m : MM (Option Int)} {f : Option Int → MM α} {k : α → En → Prop} {Q : Option Int → Hp → Prop} (R : Rel W ρ σ H) (g : Got (bd m f ρ) k)
    (q : ∀ H' d ρ', Go ρ ρ' σ H H' → Rel W ρ' σ H' → Got (f d ρ') k → Q d H') : tO W m σ H Q :=
  ⟨ρ, R, got_imp (got_bd g) fun d ρ' g' H' go R' => q H' d ρ' go R' g'⟩
theorem weakO {eo : Option Expr} {t t' : TO} (h : PO X eo t) (w : ∀ σ H Q, t' σ H Q → t σ H Q) : PO X eo t' := fun pins s σ H Q I q => h pins s σ H Q I (w σ H Q q)
theorem ro_none : PO X none (tO (wd X H0 P) mNoP) := weakO po_none fun σ H Q ⟨ρ, R, g⟩ => g H .refl R
theorem ro_some (h : PE X e (tR (wd X H0 P) m)) : PO X (some e) (tO (wd X H0 P) (mPt m)) := weakO (po_some h) fun σ H Q ⟨ρ, R, g⟩ => tR_bd R g fun v H1 d ρ1 go1 R1 d1 g1 => by
  obtain ⟨o, ho, k⟩ := got_lift g1
  unfold pI at ho
  split at ho
  · cases d1
    obtain rfl := Option.some.inj ho
    exact ⟨_, rfl, k H1 go1 R1⟩
  · cases ho
def cutD {α : Type} (xs : List α) (lo hi : Option Int) : List α := (xs.drop (HT.sIx xs.length 0 lo)).take (HT.sIx xs.length xs.length hi - HT.sIx xs.length 0 lo)
theorem DfA.cut {K : Fg} {H : Hp} {vs : List V} {ds : List D} (lo hi : Option Int) (h : DfA K H vs ds) : DfA K H (cutV vs lo hi) (cutD ds lo hi) := by
  unfold cutV cutD
  rw [h.length]
  exact (h.drop _).take _
end
end Pu

namespace Pu
open PySem PySem.Spec PyProof.Rows L2
variable [Wish]
section
variable {X : Cx} {H0 : Hp} {P : List Addr} {pos : Pos} {a b e : Expr} {ma mb m : MM D}
def fSlL : D → Option Int → Option Int → Option (List D)
  | .list ds, lo, hi => some (cutD ds lo hi)
  | _, _, _ => none
def mSlL (m : MM D) (l u : MM (Option Int)) : MM (List D) := bd m fun x => bd l fun lo => bd u fun hi => lift (fSlL x lo hi)
variable {lo hi : Option Expr} {ml mu : MM (Option Int)} {p2 : Pos}
theorem Nw.of_fresh {ρ ρ1 : En} {σ : L2.St} {H H1 : Hp} {p : Addr} (go : Go ρ ρ1 σ H H1) (hp : H1 p = none) : Nw ρ σ H p := by
  cases q : H p with
  | none => exact .inl q
  | some o =>
    by_cases n : NotOwn ρ σ p
    · have := go.fr p o q n
      rw [hp] at this
      cases this
    · exact .inr (Classical.byContradiction fun z => n fun j s e o' ev => z ⟨j, s, e, o', ev⟩)
theorem rl_sl (he : PE X e (tR (wd X H0 P) m)) (hl : PO X lo (tO (wd X H0 P) ml)) (hu : PO X hi (tO (wd X H0 P) mu)) : PE X (.Subscript e (.Slice lo hi none p2) pos) (tL (wd X H0 P) (mSlL m ml mu)) :=
  weak (pe_slice sl_list he hl hu) fun σ H Q ⟨ρ, R, g⟩ => tR_bd R g fun v H1 d ρ1 go1 R1 d1 g1 => tO_bd R1 g1 fun H2 l ρ2 go2 R2 g2 => tO_bd R2 g2 fun H3 u ρ3 go3 R3 g3 => by
    obtain ⟨z, hz, k⟩ := got_lift g3
    unfold fSlL at hz
    split at hz
    · obtain rfl := Option.some.inj hz
      have d3 := d1.mono (go2.stb.trans go3.stb)
      cases d3 with
      | lst h1 h2 =>
        exact ⟨_, _, rfl, h1.sq, fun p hp => k p _ _ (((go1.trans go2).trans go3).trans (.same (same_upd hp _))) (R3.same (same_upd hp _)) upd_same ((h2.cut l u).mono (.same (same_upd hp _))) (R3.fresh hp) (.of_fresh ((go1.trans go2).trans go3) hp)⟩
    · cases hz

/-! ### calls of built-ins -/
def rC (K : Fg) (g : List D → Option D) : List V → Hp → VK → Prop := fun xs H Q => ∃ ds d, DfA K H xs ds ∧ g ds = some d ∧ ∀ v H', Same H H' → Df K H' v d → Q v H'
def mCall (g : List D → Option D) (m : MM (List D)) : MM D := bd m fun ds => lift (g ds)
variable {es : List Expr} {mr : MM (List D)} {x : Str} {p : Pos} {id T : String}
theorem re_callB {g : List D → Option D} (hc : CallR X (.builtin id) (rC X.K g)) (hg : Gl X x) (hm : X.mg x = none) (hv : bootBuiltins x = some (.builtin id)) (ha : PA X (e :: es) (tA (wd X H0 P) mr)) (hn : x ≠ "__name__" := by decide) (hdb : (x == ("__debug__" : Str)) = false := by decide)
    (he : starEach (e :: es) X.env = (false, eval e X.env) :: starEach es X.env := by rfl) (hpl : (backTo pos (starEach es X.env)).any (·.1) = false := by rfl) : PE X (.Call (.Name x p) (e :: es) [] pos) (tR (wd X H0 P) (mCall g mr)) :=
  weak (pe_callB hc hg hm hv ha hn hdb he hpl) fun σ H Q ⟨ρ, R, g⟩ => tA_bd R g fun vs H1 ds ρ1 go1 R1 d1 g1 => by
    obtain ⟨z, hz, k⟩ := got_lift g1
    exact ⟨ds, z, d1, hz, fun v H' sm dv => k v H' (go1.trans (.same sm)) (R1.same sm) dv⟩
theorem re_callT {g : List D → Option D} (hc : CallR X (.type T) (rC X.K g)) (hg : Gl X x) (hm : X.mg x = none) (hv : bootBuiltins x = some (.type T)) (ha : PA X (e :: es) (tA (wd X H0 P) mr)) (hn : x ≠ "__name__" := by decide) (hdb : (x == ("__debug__" : Str)) = false := by decide)
    (he : starEach (e :: es) X.env = (false, eval e X.env) :: starEach es X.env := by rfl) (hpl : (backTo pos (starEach es X.env)).any (·.1) = false := by rfl) : PE X (.Call (.Name x p) (e :: es) [] pos) (tR (wd X H0 P) (mCall g mr)) :=
  weak (pe_callTy hc hg hm hv ha hn hdb he hpl) fun σ H Q ⟨ρ, R, g⟩ => tA_bd R g fun vs H1 ds ρ1 go1 R1 d1 g1 => by
    obtain ⟨z, hz, k⟩ := got_lift g1
    exact ⟨ds, z, d1, hz, fun v H' sm dv => k v H' (go1.trans (.same sm)) (R1.same sm) dv⟩
def gLen : List D → Option D
  | [.list ds] => some (.int ds.length)
  | [.tuple ds] => some (.int ds.length)
  | [.str z] => if sized z.length then some (.int z.length) else none
  | _ => none
theorem cr_len : CallR X (.builtin "len") (rC X.K gLen) := by
  intro pins s σ H xs us Q I r ⟨ds, d, hd, hg, q⟩
  unfold gLen at hg
  split at hg
  · obtain rfl := Option.some.inj hg
    cases hd with
    | cons h t =>
      cases t
      cases h with
      | lst h1 h2 =>
        have l := h2.length
        exact call_len pins s σ H _ us Q I r ⟨_, _, rfl, .inl ⟨_, h1.sq, rfl⟩, q _ _ (Same.refl _) (by rw [l]; exact .int _)⟩
  · obtain rfl := Option.some.inj hg
    cases hd with
    | cons h t =>
      cases t
      cases h with
      | tup h1 h2 t_h1 =>
        have l := h2.length
        exact call_len pins s σ H _ us Q I r ⟨_, _, rfl, .inr ⟨_, h1, rfl⟩, q _ _ (Same.refl _) (by rw [l]; exact .int _)⟩
  · split at hg
    · rename_i hz
      obtain rfl := Option.some.inj hg
      cases hd with
      | cons h t =>
        cases t
        cases h
        exact call_len pins s σ H _ us Q I r ⟨_, _, rfl, ⟨of_sized hz, rfl⟩, q _ _ (Same.refl _) (.int _)⟩
    · cases hg
  · cases hg
def gTuple : List D → Option D
  | [.list ds] => some (.tuple ds)
  | [.tuple ds] => some (.tuple ds)
  | _ => none
theorem cr_tuple : CallR X (.type "tuple") (rC X.K gTuple) := by
  intro pins s σ H xs us Q I r ⟨ds, d, hd, hg, q⟩
  unfold gTuple at hg
  split at hg
  · obtain rfl := Option.some.inj hg
    cases hd with
    | cons h t =>
      cases t
      cases h with
      | lst h1 h2 => exact call_tuple_of pins s σ H _ us Q I r ⟨_, _, rfl, .inl ⟨h1.sq, fun l hl => q _ _ (same_upd hl _) (.tup (.inl (.inl upd_same)) (h2.mono (.same (same_upd hl _))))⟩⟩
  · obtain rfl := Option.some.inj hg
    cases hd with
    | cons h t =>
      cases t
      cases h with
      | tup h1 h2 t_h1 => exact call_tuple_of pins s σ H _ us Q I r ⟨_, _, rfl, .inr ⟨h1, q _ _ (Same.refl _) (.tup h1 h2)⟩⟩
  · cases hg
/-! ### isinstance -/
def tyD : D → String
  | .none => "NoneType"
  | .bool _ => "bool"
  | .int _ => "int"
  | .str _ => "str"
  | .list _ => "list"
  | .tuple _ => "tuple"
  | .dict _ => "ValueError"
def isT (T : String) (d : D) : Bool := (tyD d == T) || (tyD d == "bool" && T == "int")
def mIsi (T : String) (m : MM D) : MM D := bd m fun d => pu (.bool (isT T d))
theorem exc_inst {pins : List (Addr × Obj)} {σ : L2.St} {H : Hp} {s : Shared} {e C dx : Addr} {oe od : Obj} {fs : List (Str × V)} (I : Inv X pins σ H s) (h1 : H e = some (.frz oe (.ext (Ex.exAt e C dx)))) (h2 : H dx = some (.frz od (.ext (Ex.xdAt dx fs)))) :
    ∃ oe odd, PySem.W.InstAt s.heap e oe C (some odd) := by
  obtain ⟨g1, ⟨oe', vs, a1, a2, a3, a4, a5⟩, _⟩ := I.hok _ _ h1
  obtain ⟨g2, ⟨mA, ⟨o, es, ep, b1, b2, b3⟩, _⟩, _⟩ := I.hok _ _ h2
  refine ⟨oe', o, a1, a2, ?_, ?_⟩
  · unfold PySem.W.notCls
    rw [a4]
  · rw [a3]
    exact b1
theorem kit_err {K : Fg} {C : Addr} {cls : Str} {T : String} {bb : Bool} (Z : Ex.ExK K C cls) (hk : PySem.W.kitOne K (.type "ValueError") (.type T) = some bb) : PySem.W.kitOne K (.ref C) (.type T) = some bb := by
  obtain ⟨cd, G, c1, c2, _⟩ := Z.cd
  have m1 : PySem.W.subIn K (.ref C) (.type T) = some (Ex.bV.contains (.type T)) := by
    show PySem.W.mroIn K C (.type T) = _
    unfold PySem.W.mroIn
    rw [c1]
    simp [c2, Ex.bV]
  have m2 : PySem.W.subIn K (.type "ValueError") (.type T) = some (Ex.bV.contains (.type T)) := by
    unfold PySem.W.subIn
    have e : fastBuiltinMro "ValueError" = some Ex.bV := by kernel_rfl
    simp only [e]
    rfl
  unfold PySem.W.kitOne at hk ⊢
  rw [if_neg (by simp)]
  split at hk
  · rename_i q
    have q : Value.type "ValueError" = Value.type T := eq_of_beq q
    cases q
    cases hk
    unfold PySem.W.kitCls
    show (if PySem.W.kitMeta "ValueError" = true then PySem.W.subIn K (.ref C) (.type "ValueError") else none) = some true
    rw [if_pos (by kernel_rfl), m1]
    rfl
  · unfold PySem.W.kitCls at hk ⊢
    dsimp only at hk ⊢
    rw [m2] at hk
    rw [m1]
    exact hk
theorem isi_df {pins : List (Addr × Obj)} {σ : L2.St} {H : Hp} {s : Shared} {A : Around} {E : Value → Shared → Prop} {Q : Value → Shared → Prop} {T : String} {bb : Bool} {x : V} {u : Value} {d : D} (I : Inv X pins σ H s) (rx : RelV x u) (h : Df X.K H x d) (hk : PySem.W.kitOne X.K (.type (tyD d)) (.type T) = some bb) (q : ∀ tk, Q (.bool bb) { s with toks := tk }) :
    wpAny (model X.prog X.w) A (call (.builtin "isinstance") [u, .type T]) Q E s := by
  cases h with
  | non => exact isinst_ok I rx .non hk q
  | bl b => exact isinst_ok I rx (.bl b) hk q
  | int i => exact isinst_ok I rx (.int i) hk q
  | str i => exact isinst_ok I rx (.str i) hk q
  | lst h1 h2 =>
    cases rx
    obtain ⟨its, _, ⟨o, n, e1, e2, e3, e4⟩, _⟩ := I.list h1.sq
    exact PySem.W.kia_one PySem.W.kitx_list I.kIn ⟨o, e1, e2⟩ hk (fun z => nomatch z) q
  | tup h1 h2 t_h1 =>
    cases rx
    obtain ⟨its, _, ⟨o, e1, e2, e3⟩, _⟩ := I.tuple h1
    exact PySem.W.kia_one PySem.W.kitx_tuple I.kIn ⟨o, e1, e2⟩ hk (fun z => nomatch z) q
  | exc h1 h2 Z f =>
    cases rx
    exact PySem.W.kia_one (Ex.kitx_err Z) I.kIn (exc_inst I h1 h2) (kit_err Z hk) (fun z => nomatch z) q
theorem re_isi {y : Str} {p' : Pos} (T : String) (hT : ∀ d : D, PySem.W.kitOne X.K (.type (tyD d)) (.type T) = some (isT T d)) (hg : Gl X "isinstance") (hm : X.mg "isinstance" = none) (hg2 : Gl X y) (hm2 : X.mg y = none) (hv2 : bootBuiltins y = some (.type T))
    (ha : PE X e (tR (wd X H0 P) m)) (hn : y ≠ "__name__" := by decide) (hdb : (y == ("__debug__" : Str)) = false := by decide)
    (he : starEach (e :: [Expr.Name y p']) X.env = (false, eval e X.env) :: starEach [Expr.Name y p'] X.env := by rfl) (hpl : (backTo pos (starEach [Expr.Name y p'] X.env)).any (·.1) = false := by rfl) :
    PE X (.Call (.Name "isinstance" p) (e :: [Expr.Name y p']) [] pos) (tR (wd X H0 P) (mIsi T m)) := by
  have hc : CallR X (.builtin "isinstance") (fun xs H Q => ∃ z d, xs = [z, .ty T] ∧ Df X.K H z d ∧ Q (.bl (isT T d)) H) := by
    intro pins s σ H xs us Q I r ⟨z, d, e1, hd, q⟩
    subst e1
    obtain ⟨u, v, rfl, ru, rv⟩ := r.two
    cases rv
    exact isi_df I ru hd (hT d) fun tk => ⟨.bl _, H, I.tok tk, rfl, q⟩
  refine weak (pe_callB (t := tCons (tR (wd X H0 P) m) (tCons (tC (.ty T)) tNil)) hc hg hm (by decide +kernel) (pa_cons ha (pa_cons (pe_bltn hg2 hm2 hv2 rfl hn hdb) pa_nil) he) (by decide) (by decide) he hpl) fun σ H Q ⟨ρ, R, g⟩ => ?_
  exact tR_bd R g fun v H1 d ρ1 go1 R1 d1 g1 => ⟨v, d, rfl, d1, g1 _ H1 go1 R1 (.bl _)⟩
end
end Pu

namespace Pu
open PySem PySem.Spec PyProof.Rows L2
variable [Wish]

/-! ### a name's own list changed by its methods -/
section
variable {X : Cx}
variable {H0 : Hp} {P : List Addr} {apos cpos : Pos} {e : Expr} {es : List Expr} {mr : MM (List D)} {x : Str} {p1 : Pos} {name : Str} {id : String}
def rBp (K : Fg) (f : D → D → Option Bool) : R2 := fun x y H Q => ∃ a b c, (a.canLay0 = true → Dp K H x a) ∧ (b.canLay0 = true → Dp K H y b) ∧ f a b = some c ∧ Q (.bl c) H
end
end Pu

namespace Pu
open PySem PySem.Spec PyProof.Rows L2
variable [Wish]

/-! ### statements -/
inductive RV where
  | imm (d : D) | own (ds : List D)
inductive Fl where
  | nx (ρ : En) | rt (r : RV) (ρ : En) | bk (ρ : En) | ct (ρ : En) | ex (c : XD) (ρ : En) | no
abbrev MS := En → Fl
def Rv (W : Wd) (H : Hp) : RV → V → Prop
  | .imm d, v => Df W.K H v d
  | .own ds, v => ∃ a vs, v = .ref a ∧ H a = some (.lst vs) ∧ DfA W.K H vs ds ∧ W.H0 a = none
def GotS (W : Wd) (G : Hp) (E : Ends) : Fl → Prop
  | .nx ρ => ∀ σ H, Stb G H → Rel W ρ σ H → E.nx σ H
  | .rt r ρ => ∀ v σ H, Stb G H → Rel W ρ σ H → Rv W H r v → E.rt v H
  | .bk ρ => ∀ σ H, Stb G H → Rel W ρ σ H → E.bk σ H
  | .ct ρ => ∀ σ H, Stb G H → Rel W ρ σ H → E.ct σ H
  | .ex c ρ => Wish.x c ρ
  | .no => False
theorem GotS.mono {W : Wd} {G G' : Hp} {E : Ends} {fl : Fl} (s : Stb G G') (h : GotS W G E fl) : GotS W G' E fl := by
  cases fl with
  | nx ρ => exact fun σ H st R => h σ H (s.trans st) R
  | rt r ρ => exact fun v σ H st R => h v σ H (s.trans st) R
  | bk ρ => exact fun σ H st R => h σ H (s.trans st) R
  | ct ρ => exact fun σ H st R => h σ H (s.trans st) R
  | ex c ρ => exact h
  | no => exact h
def tS (W : Wd) (m : MS) : TS := fun E σ H => ∃ ρ, Rel W ρ σ H ∧ GotS W H E (m ρ)
/-- an expression, then a statement -/
def bs {α : Type} (m : MM α) (f : α → MS) : MS := fun ρ => match m ρ with
  | .ok a ρ' => f a ρ'
  | .ex c ρ' => .ex c ρ'
  | .no => .no
theorem got_bs {α : Type} {W : Wd} {G : Hp} {E : Ends} {m : MM α} {f : α → MS} {ρ : En} (h : GotS W G E (bs m f ρ)) : Got (m ρ) fun a ρ' => GotS W G E (f a ρ') := by
  unfold bs at h
  cases e : m ρ with
  | ok a ρ' => rw [e] at h; exact h
  | ex c ρ' => rw [e] at h; exact h
  | no => rw [e] at h; exact h
def sNx : MS := fun ρ => .nx ρ
def sSeq (a b : MS) : MS := fun ρ => match a ρ with
  | .nx ρ' => b ρ'
  | r => r
def sRet (m : MM D) : MS := bs m fun d ρ => .rt (.imm d) ρ
def sRetL (m : MM (List D)) : MS := bs m fun d ρ => .rt (.own d) ρ
def sIf (c : MM Bool) (a b : MS) : MS := bs c fun k => if k then a else b
/-- a name gets data, a list of its own -/
def sSet (i : Nat) (m : MM D) : MS := bs m fun d ρ => if i < ρ.length then .nx (ρ.set i (some (.imm d))) else .no
def sSetL (i : Nat) (m : MM (List D)) : MS := bs m fun d ρ => if i < ρ.length then .nx (ρ.set i (some (.lst d))) else .no
section
variable {X : Cx} {H0 : Hp} {P : List Addr} {pos : Pos} {e : Expr} {m : MM D} {ml : MM (List D)} {st : Stmt} {rest a b : List Stmt} {m1 m2 : MS}
theorem rss_nil : PSs X [] (tS (wd X H0 P) sNx) := weakSs pss_nil fun E σ H ⟨ρ, R, g⟩ => g σ H (.refl _) R
theorem rss_one (h : PS X st (tS (wd X H0 P) m1)) : PSs X [st] (tS (wd X H0 P) m1) := pss_one h
theorem rss_cons (h1 : PS X st (tS (wd X H0 P) m1)) (h2 : PSs X rest (tS (wd X H0 P) m2)) : PSs X (st :: rest) (tS (wd X H0 P) (sSeq m1 m2)) :=
  weakSs (pss_cons h1 h2) fun E σ H ⟨ρ, R, g⟩ => ⟨ρ, R, by
    unfold sSeq at g
    cases q : m1 ρ with
    | nx ρ' => rw [q] at g; exact fun σ' H' st R' => ⟨ρ', R', GotS.mono st g⟩
    | rt r ρ' => rw [q] at g; exact g
    | bk ρ' => rw [q] at g; exact g
    | ct ρ' => rw [q] at g; exact g
    | ex c ρ' => rw [q] at g; exact g
    | no => rw [q] at g; exact g.elim⟩
theorem rs_ret (he : PE X e (tR (wd X H0 P) m)) : PS X (.Return (some e) pos) (tS (wd X H0 P) (sRet m)) :=
  weakS (ps_ret he) fun E σ H ⟨ρ, R, g⟩ => ⟨ρ, R, got_imp (got_bs g) fun d ρ' k v H' go R' dv => k v σ H' go.stb R' dv⟩
theorem rs_retL (he : PE X e (tL (wd X H0 P) ml)) : PS X (.Return (some e) pos) (tS (wd X H0 P) (sRetL ml)) :=
  weakS (ps_ret he) fun E σ H ⟨ρ, R, g⟩ => ⟨ρ, R, got_imp (got_bs g) fun d ρ' k a vs H' go R' h1 h2 h3 h4 => k _ σ H' go.stb R' ⟨a, vs, rfl, h1, h2, h3.1⟩⟩
theorem rs_if {c : Expr} {mc : MM Bool} (hc : PT X c (tT (wd X H0 P) mc)) (ha : PSs X a (tS (wd X H0 P) m1)) (hb : PSs X b (tS (wd X H0 P) m2)) : PS X (.If c a b pos) (tS (wd X H0 P) (sIf mc m1 m2)) :=
  weakS (ps_if hc ha hb) fun E σ H ⟨ρ, R, g⟩ => ⟨ρ, R, got_imp (got_bs g) fun c ρ' k H' go R' => by
    cases c with
    | true => exact iteT ⟨ρ', R', GotS.mono go.stb k⟩
    | false => exact iteF ⟨ρ', R', GotS.mono go.stb k⟩⟩
theorem set_imm {W : Wd} {G : Hp} {E : Ends} {ρ : En} {σ : L2.St} {H : Hp} {i : Nat} {v : V} {d : D} (st : Stb G H) (R : Rel W ρ σ H) (dv : Df W.K H v d) (k : GotS W G E (if i < ρ.length then Fl.nx (ρ.set i (some (.imm d))) else .no)) : E.nx (σ.set i (some v)) H := by
  split at k
  · rename_i hi
    exact k _ _ st (R.setI hi dv)
  · exact k.elim
theorem rs_set {i : Nat} {x : Str} {pos' : Pos} (hN : X.N.Nodup) (he : PE X e (tR (wd X H0 P) m)) (hi : X.N[i]? = some x := by rfl) (hx : Loc X.env.scope x := by first | exact Or.inl rfl | exact Or.inr rfl) (hs : swapsWith e (some (.Name x pos')) pos.line X.env = pure false := by rfl) (hf : X.fn x = true ∨ X.env.scope.names.lookup x = some .local := by first | exact .inl rfl | exact .inr rfl) :
    PS X (.Assign [.Name x pos'] e pos) (tS (wd X H0 P) (sSet i m)) :=
  weakS (ps_set hN hi hx he hs hf) fun E σ H ⟨ρ, R, g⟩ => ⟨ρ, R, got_imp (got_bs g) fun d ρ' k v H' go R' dv => set_imm go.stb R' dv k⟩
theorem rs_setL {i : Nat} {x : Str} {pos' : Pos} (hN : X.N.Nodup) (he : PE X e (tL (wd X H0 P) ml)) (hi : X.N[i]? = some x := by rfl) (hx : Loc X.env.scope x := by first | exact Or.inl rfl | exact Or.inr rfl) (hs : swapsWith e (some (.Name x pos')) pos.line X.env = pure false := by rfl) (hf : X.fn x = true ∨ X.env.scope.names.lookup x = some .local := by first | exact .inl rfl | exact .inr rfl) :
    PS X (.Assign [.Name x pos'] e pos) (tS (wd X H0 P) (sSetL i ml)) :=
  weakS (ps_set hN hi hx he hs hf) fun E σ H ⟨ρ, R, g⟩ => ⟨ρ, R, got_imp (got_bs g) fun d ρ' k a vs H' go R' h1 h2 h3 h4 => by
    split at k
    · rename_i hi
      exact k _ _ go.stb (R'.setL hi h1 h2 h3)
    · exact k.elim⟩

/-! ### targets: a name, names in brackets -/
def gN (i : Nat) : D → En → Option En := fun d ρ => if i < ρ.length then some (ρ.set i (some (.imm d))) else none
def gs (is : List Nat) : List D → En → Option En := fun ds ρ => match is, ds with
  | [], [] => some ρ
  | i :: is, d :: ds => (gN i d ρ).bind (gs is ds)
  | _, _ => none
/-- a target keeps the mirror; of the names only those of is are stored -/
def PGm (X : Cx) (H0 : Hp) (P : List Addr) (tg : Expr) (g : TG) (is : List Nat) (f : D → En → Option En) : Prop :=
  PG X tg g ∧ ∀ v d ρ ρ' σ H Q, Rel (wd X H0 P) ρ σ H → Df X.K H v d → f d ρ = some ρ' → (∀ σ', Rel (wd X H0 P) ρ' σ' H → (∀ vs : List Nat, (∀ i ∈ is, i ∈ vs) → wipe σ' vs = wipe σ vs) → Q σ' H) → g v σ H Q
theorem wipe_get {σ : L2.St} {vs : List Nat} {j : Nat} : (wipe σ vs)[j]? = if j ∈ vs then (if j < σ.length then some none else none) else σ[j]? := by
  induction vs with
  | nil => simp [wipe]
  | cons v vs ih =>
    unfold wipe
    by_cases e : j = v
    · subst e
      rw [if_pos (List.mem_cons_self)]
      by_cases hl : j < σ.length
      · rw [if_pos hl, List.getElem?_set_self (by rw [wipe_length]; exact hl)]
      · rw [if_neg hl, List.getElem?_eq_none (by rw [List.length_set, wipe_length]; omega)]
    · rw [List.getElem?_set_ne (Ne.symm e), ih]
      by_cases hm : j ∈ vs
      · rw [if_pos hm, if_pos (List.mem_cons_of_mem _ hm)]
      · rw [if_neg hm, if_neg (fun z => (List.mem_cons.mp z).elim e hm)]
theorem wipe_set {σ : L2.St} {vs : List Nat} {i : Nat} {v : Option V} (h : i ∈ vs) : wipe (σ.set i v) vs = wipe σ vs := by
  apply List.ext_getElem?
  intro j
  rw [wipe_get, wipe_get]
  by_cases hm : j ∈ vs
  · rw [if_pos hm, if_pos hm, List.length_set]
  · rw [if_neg hm, if_neg hm, List.getElem?_set_ne (show i ≠ j from fun z => hm (z ▸ h))]
theorem gm_name {i : Nat} {x : Str} (hN : X.N.Nodup) (hi : X.N[i]? = some x := by rfl) (hx : Loc X.env.scope x := by first | exact Or.inl rfl | exact Or.inr rfl) (hf : X.fn x = true ∨ X.env.scope.names.lookup x = some .local := by first | exact .inl rfl | exact .inr rfl) : PGm X H0 P (.Name x pos) (gName i) [i] (gN i) :=
  ⟨pg_name hN hi hx hf, fun v d ρ ρ' σ H Q R dv hf k => by
    unfold gN at hf
    split at hf
    · rename_i h
      obtain rfl := Option.some.inj hf
      exact k _ (R.setI h dv) fun vs hv => wipe_set (hv i (List.mem_singleton.mpr rfl))
    · cases hf⟩
def PGms (X : Cx) (H0 : Hp) (P : List Addr) (ts : List Expr) (g : TGs) (is : List Nat) : Prop :=
  PGs X ts g ∧ ∀ vs ds ρ ρ' σ H Q, Rel (wd X H0 P) ρ σ H → DfA X.K H vs ds → gs is ds ρ = some ρ' → (∀ σ', Rel (wd X H0 P) ρ' σ' H → (∀ ws : List Nat, (∀ i ∈ is, i ∈ ws) → wipe σ' ws = wipe σ ws) → Q σ' H) → g vs σ H Q
/-! ### for -/
def forD (g : D → En → Option En) (b : MS) : List D → MS
  | [] => fun ρ => .nx ρ
  | d :: r => fun ρ => match g d ρ with
    | none => .no
    | some ρ1 => match b ρ1 with
      | .nx ρ2 => forD g b r ρ2
      | .ct ρ2 => forD g b r ρ2
      | .bk ρ2 => .nx ρ2
      | .rt v ρ2 => .rt v ρ2
      | .ex c ρ2 => .ex c ρ2
      | .no => .no
/-- one turn, by what is wanted of the rest -/
theorem for_turn {W : Wd} {G : Hp} {E : Ends} {f : D → En → Option En} {mb : MS} {d : D} {r : List D} {ρ : En} {Nx : L2.St → Hp → Prop} (h : GotS W G E (forD f mb (d :: r) ρ))
    (nx : ∀ ρ2 σ H, Stb G H → Rel W ρ2 σ H → GotS W G E (forD f mb r ρ2) → Nx σ H) : ∃ ρ1, f d ρ = some ρ1 ∧ GotS W G { E with nx := Nx, ct := Nx, bk := E.nx } (mb ρ1) := by
  unfold forD at h
  split at h
  · exact h.elim
  · rename_i ρ1 e1
    refine ⟨ρ1, e1, ?_⟩
    split at h
    · rename_i ρ2 e2
      rw [e2]
      exact fun σ H st R => nx ρ2 σ H st R h
    · rename_i ρ2 e2
      rw [e2]
      exact fun σ H st R => nx ρ2 σ H st R h
    · rename_i ρ2 e2
      rw [e2]
      exact h
    · rename_i v ρ2 e2
      rw [e2]
      exact h
    · rename_i x ρ2 e2
      rw [e2]
      exact h
    · exact h.elim
variable {tg iter : Expr} {g : TG} {f : D → En → Option En} {body : List Stmt} {mb : MS}
def seqD : D → Option (List D)
  | .list ds => some ds
  | .tuple ds => some ds
  | _ => none
theorem drop_get {α : Type} {l : List α} {i : Nat} {d : α} (h : l[i]? = some d) : l.drop i = d :: l.drop (i + 1) := by
  obtain ⟨h1, h2⟩ := List.getElem?_eq_some_iff.mp h
  rw [List.drop_eq_getElem_cons h1, h2]

/-! ### what is walked: it yields ds -/
structure Src (K : Fg) (J : It) (ds : List D) (H : Hp) : Prop where
  go : ∀ H1 i, Stb H H1 → i < ds.length → J.go i H1
  yld : ∀ H1 H2 i x, Stb H H1 → J.yld i H1 x H2 → i < ds.length → Same H1 H2 ∧ ∃ d, ds[i]? = some d ∧ Df K H2 x d
  stop : ∀ H1 i, Stb H H1 → ds.length ≤ i → J.stop i H1
def PIm (X : Cx) (H0 : Hp) (P : List Addr) (tg iter : Expr) (wi : TI) (ms : MM (List D)) : Prop :=
  PI X tg iter wi ∧ ∀ ρ σ H (k : List D → En → Prop) (R : It → Hp → Prop), Rel (wd X H0 P) ρ σ H → Got (ms ρ) k →
    (∀ J ds ρ' H', Go ρ ρ' σ H H' → Rel (wd X H0 P) ρ' σ H' → Src X.K J ds H' → k ds ρ' → R J H') → wi σ H R
def iSeq (K : Fg) (tl : TE) : TI := fun σ H R => tl σ H fun x H1 => ∃ a, x = .ref a ∧ (((∃ xs, SqL K H1 a xs) ∧ R (Itl K a) H1) ∨ ((∃ xs, SqT K H1 a xs) ∧ R (Itt K a) H1))
theorem pi_seq {l : Expr} {tl : TE} (hl : PE X l tl) : PI X tg l (iSeq X.K tl) := by
  intro pins s σ H R I h
  refine thn (hl pins s σ H _ I h) fun v s1 ⟨x, H1, I1, r1, q1⟩ => ?_
  obtain ⟨a, e, ⟨⟨xs, hq⟩, q⟩ | ⟨⟨xs, hq⟩, q⟩⟩ := q1
  · subst e
    cases r1
    obtain ⟨its, rv, p, hz⟩ := I1.list hq
    refine wpAny_pyIter_list p.isList ?_
    refine ⟨s1.heap.objs.size, [s1.heap.objs.size], _, _, H1, rfl, I1.kept (t' := s1.toks) fun b o e => Heap.get?_push_of_some _ e, turn_list a _, ⟨_, Heap.get?_push_size _ rfl, rfl, rfl⟩, fun b hb => ?_, q⟩
    have e : b = s1.heap.objs.size := by simpa using hb
    subst e
    exact I1.fpOk (Nat.le_refl _) (I1.hok.fresh (Nat.le_refl _))
  · subst e
    cases r1
    obtain ⟨its, rv, p, hz⟩ := I1.tuple hq
    refine wpAny_pyIter_tuple (show s1.heap.IsTuple a its.toArray from p) ?_
    refine ⟨s1.heap.objs.size, [s1.heap.objs.size], _, _, H1, rfl, I1.kept (t' := s1.toks) fun b o e => Heap.get?_push_of_some _ e, turn_tuple a _, ⟨_, Heap.get?_push_size _ rfl, rfl, rfl⟩, fun b hb => ?_, q⟩
    have e : b = s1.heap.objs.size := by simpa using hb
    subst e
    exact I1.fpOk (Nat.le_refl _) (I1.hok.fresh (Nat.le_refl _))
def msSeq (m : MM D) : MM (List D) := bd m fun x => lift (seqD x)
theorem src_list {K : Fg} {H : Hp} {a : Addr} {vs : List V} {ds : List D} (h1 : FzL K H a vs) (h2 : DfA K H vs ds) : Src K (Itl K a) ds H where
  go := fun H1 i st hi => by
    have hi' : i < vs.length := by rw [h2.length]; exact hi
    exact ⟨vs, vs[i], (h1.mono st).sq, by simp [hi']⟩
  yld := fun H1 H2 i x st y hi => by
    obtain ⟨e, y⟩ := y
    subst e
    obtain ⟨d, e1, e2⟩ := h2.get' (y vs (h1.mono st).sq)
    exact ⟨Same.refl _, d, e1, e2.mono st⟩
  stop := fun H1 i st hi => ⟨vs, (h1.mono st).sq, by rw [h2.length]; exact hi⟩
theorem src_tup {K : Fg} {H : Hp} {a : Addr} {vs : List V} {ds : List D} (h1 : SqT K H a vs) (h2 : DfA K H vs ds) : Src K (Itt K a) ds H where
  go := fun H1 i st hi => by
    have hi' : i < vs.length := by rw [h2.length]; exact hi
    exact ⟨vs, vs[i], SqT.monoS st h1, by simp [hi']⟩
  yld := fun H1 H2 i x st y hi => by
    obtain ⟨e, y⟩ := y
    subst e
    obtain ⟨d, e1, e2⟩ := h2.get' (y vs (SqT.monoS st h1))
    exact ⟨Same.refl _, d, e1, e2.mono st⟩
  stop := fun H1 i st hi => ⟨vs, SqT.monoS st h1, by rw [h2.length]; exact hi⟩
theorem im_seq (he : PE X iter (tR (wd X H0 P) m)) : PIm X H0 P tg iter (iSeq X.K (tR (wd X H0 P) m)) (msSeq m) :=
  ⟨pi_seq he, fun ρ σ H k R0 R g q => tR_bd R g fun v H1 d ρ1 go1 R1 d1 g1 => by
    obtain ⟨ds, hds, k1⟩ := got_lift g1
    unfold seqD at hds
    split at hds
    · obtain rfl := Option.some.inj hds
      cases d1 with
      | lst h1 h2 => exact ⟨_, rfl, .inl ⟨⟨_, h1.sq⟩, q _ _ _ _ go1 R1 (src_list h1 h2) k1⟩⟩
    · obtain rfl := Option.some.inj hds
      cases d1 with
      | tup h1 h2 t_h1 => exact ⟨_, rfl, .inr ⟨⟨_, h1⟩, q _ _ _ _ go1 R1 (src_tup h1 h2) k1⟩⟩
    · cases hds⟩
def rngD (n : Nat) : List D := (List.range n).map fun (k : Nat) => PyData.int (k : Int)
def rgD : List D → Option (List D)
  | [.int j] => if decide (-(2 ^ 62) ≤ j) && decide (j < 2 ^ 62) then some (rngD j.toNat) else none
  | _ => none
def msRng (m : MM (List D)) : MM (List D) := bd m fun as => lift (rgD as)
theorem src_rng {K : Fg} {H : Hp} {n : Nat} : Src K (Itr 0 n) (rngD n) H where
  go := fun H1 i st hi => by unfold rngD at hi; rw [List.length_map, List.length_range] at hi; exact hi
  yld := fun H1 H2 i x st y hi => by
    obtain ⟨e, y⟩ := y
    subst e y
    unfold rngD at hi ⊢
    rw [List.length_map, List.length_range] at hi
    refine ⟨Same.refl _, .int (i : Int), by rw [List.getElem?_map, List.getElem?_range hi]; rfl, ?_⟩
    rw [Int.zero_add]
    exact .int _
  stop := fun H1 i st hi => by unfold rngD at hi; rw [List.length_map, List.length_range] at hi; exact hi
theorem im_rng {ea : Expr} {mr : MM (List D)} {p1 p2 : Pos} (hgl : Gl X "range") (hm : X.mg "range" = none) (he : PA X [ea] (tA (wd X H0 P) mr)) (hse : starEach [ea] X.env = [(false, eval ea X.env)] := by rfl) :
    PIm X H0 P tg (.Call (.Name "range" p1) [ea] [] p2) (iRng1 (tA (wd X H0 P) mr)) (msRng mr) :=
  ⟨pi_range1 hgl hm he hse, fun ρ σ H k R0 R g q => tA_bd R g fun vs H1 as ρ1 go1 R1 d1 g1 => by
    obtain ⟨ds, hds, k1⟩ := got_lift g1
    unfold rgD at hds
    split at hds
    · split at hds
      · rename_i j hj
        rw [Bool.and_eq_true] at hj
        obtain rfl := Option.some.inj hds
        cases d1 with
        | cons h t =>
          cases t
          cases h
          exact ⟨j, rfl, of_decide_eq_true hj.1, of_decide_eq_true hj.2, q _ _ _ _ go1 R1 src_rng k1⟩
      · cases hds
    · cases hds⟩
def sFor (ms : MM (List D)) (f : D → En → Option En) (mb : MS) : MS := bs ms fun ds => forD f mb ds
theorem rs_for {wi : TI} {is : List Nat} {ms : MM (List D)} (hp : PassesOwn (model X.prog X.w) X.A X.env X.xe) (hc : X.calm = true) (hi : PIm X H0 P tg iter wi ms) (hg : PGm X H0 P tg g is f) (hb : PSs X body (tS (wd X H0 P) mb))
    (hsf : ∀ x, foldedSetIterable iter X.env x = pure x := by intro _; rfl) : PS X (.For tg iter body [] pos) (tS (wd X H0 P) (sFor ms f mb)) := by
  refine weakS (ps_for hp hc hi.1 hg.1 hb hsf) fun E σ H ⟨ρ, R, g0⟩ => ?_
  refine hi.2 ρ σ H _ _ R (got_bs g0) fun J ds ρ' H' go R' S k => ?_
  replace k := GotS.mono go.stb k
  refine ⟨fun i m σ H1 => m = ds.length - i ∧ i ≤ ds.length ∧ Stb H' H1 ∧ ∃ ρ1, Rel (wd X H0 P) ρ1 σ H1 ∧ GotS (wd X H0 P) H' E (forD f mb (ds.drop i) ρ1), ⟨ds.length, rfl, Nat.zero_le _, .refl _, ρ', R', k⟩, ?_⟩
  rintro i m σ1 H1 ⟨rfl, hi, st, ρ1, R1, k1⟩
  by_cases hlt : i < ds.length
  · refine .inr ⟨S.go H1 i st hlt, fun σ2 H2 => Stb H' H2 ∧ ∃ ρ3, Rel (wd X H0 P) ρ3 σ2 H2 ∧ GotS (wd X H0 P) H' E (forD f mb (ds.drop (i + 1)) ρ3), fun σ' H2 z => ⟨_, by omega, rfl, hlt, z⟩, fun x H2 y => ?_⟩
    obtain ⟨sm, d, hd, dx⟩ := S.yld H1 H2 i x st y hlt
    rw [drop_get hd] at k1
    obtain ⟨ρ2, e2, k2⟩ := for_turn k1 fun ρ3 σ3 H3 st3 R3 k3 => (⟨st3, ρ3, R3, k3⟩ : Stb H' H3 ∧ ∃ ρ3, Rel (wd X H0 P) ρ3 σ3 H3 ∧ GotS (wd X H0 P) H' E (forD f mb (ds.drop (i + 1)) ρ3))
    exact hg.2 x d ρ1 ρ2 σ1 H2 _ (R1.same sm) dx e2 fun σ' R2 _ => ⟨ρ2, R2, GotS.mono (st.trans (.same sm)) k2⟩
  · have e : i = ds.length := by omega
    subst e
    rw [List.drop_length] at k1
    exact .inl ⟨S.stop H1 _ st (Nat.le_refl _), k1 σ1 H1 st R1⟩

/-! ### while: at most n turns -/
end
end Pu

namespace Pu
open PySem PySem.Spec PyProof.Rows L2
variable [Wish]

/-! ### comprehensions -/
def wipeE (vs : List Nat) (ρ : En) : En := vs.foldr (fun i ρ => ρ.set i none) ρ
theorem wipeE_get {ρ : En} {vs : List Nat} {j : Nat} : (wipeE vs ρ)[j]? = if j ∈ vs then (if j < ρ.length then some none else none) else ρ[j]? := by
  induction vs with
  | nil => simp [wipeE]
  | cons v vs ih =>
    have hl : (wipeE vs ρ).length = ρ.length := by
      clear ih
      induction vs with
      | nil => rfl
      | cons a r ih => show ((wipeE r ρ).set a none).length = _; rw [List.length_set, ih]
    show ((wipeE vs ρ).set v none)[j]? = _
    by_cases e : j = v
    · subst e
      rw [if_pos (List.mem_cons_self)]
      by_cases h : j < ρ.length
      · rw [if_pos h, List.getElem?_set_self (by rw [hl]; exact h)]
      · rw [if_neg h, List.getElem?_eq_none (by rw [List.length_set, hl]; omega)]
    · rw [List.getElem?_set_ne (Ne.symm e), ih]
      by_cases hm : j ∈ vs
      · rw [if_pos hm, if_pos (List.mem_cons_of_mem _ hm)]
      · rw [if_neg hm, if_neg (fun z => (List.mem_cons.mp z).elim e hm)]
theorem wipeE_length {ρ : En} : ∀ {vs : List Nat}, (wipeE vs ρ).length = ρ.length
  | [] => rfl
  | v :: vs => by show ((wipeE vs ρ).set v none).length = _; rw [List.length_set, wipeE_length]
theorem wipeE_some {ρ : En} {vs : List Nat} {j : Nat} {s : S1} (h : (wipeE vs ρ)[j]? = some (some s)) : j ∉ vs ∧ ρ[j]? = some (some s) := by
  rw [wipeE_get] at h
  split at h
  · split at h <;> cases h
  · rename_i n
    exact ⟨n, h⟩
theorem wipe_out' {σ : L2.St} {vs : List Nat} {j : Nat} (h : j ∉ vs) : (wipe σ vs)[j]? = σ[j]? := by rw [wipe_get, if_neg h]
section
variable {W : Wd} {ρ : En} {σ : L2.St} {H : Hp} {vs : List Nat}
theorem Rel.wipe (R : Rel W ρ σ H) : Rel W (wipeE vs ρ) (wipe σ vs) H where
  len := by rw [wipeE_length, wipe_length]; exact R.len
  sl := fun i s e => by
    obtain ⟨n, e⟩ := wipeE_some e
    obtain ⟨v, h1, h2⟩ := R.sl i s e
    exact ⟨v, by rw [wipe_out' n]; exact h1, h2⟩
  stb := R.stb
  kp := R.kp
  dis := fun i j s s' a n e1 e2 o1 o2 => by
    obtain ⟨n1, e1⟩ := wipeE_some e1
    obtain ⟨n2, e2⟩ := wipeE_some e2
    rw [wipe_out' n1, wipe_out' n2]
    exact R.dis i j s s' a n e1 e2 o1 o2
  par := fun k p e s hm z => by
    obtain ⟨n, z⟩ := wipeE_some z
    rw [wipe_out' n]
    exact R.par k p e s hm z
  pdk := R.pdk
theorem Rel.unwipe (R : Rel W (wipeE vs ρ) (L2.wipe σ vs) H) : Rel W (wipeE vs ρ) σ H where
  len := by have := R.len; rw [wipe_length] at this; exact this
  sl := fun i s e => by
    obtain ⟨n, _⟩ := wipeE_some e
    obtain ⟨v, h1, h2⟩ := R.sl i s e
    exact ⟨v, by rw [wipe_out' n] at h1; exact h1, h2⟩
  stb := R.stb
  kp := R.kp
  dis := fun i j s s' a n e1 e2 o1 o2 => by
    have q := R.dis i j s s' a n e1 e2 o1 o2
    rw [wipe_out' (wipeE_some e1).1, wipe_out' (wipeE_some e2).1] at q
    exact q
  par := fun k p e s hm z => by
    have q := R.par k p e s hm z
    rw [wipe_out' (wipeE_some z).1] at q
    exact q
  pdk := R.pdk
/-- a list that is nobody's changes -/
theorem Rel.updF (R : Rel W ρ σ H) {a : Addr} {xs : List V} {o : HO} (ha : H a = some (.lst xs)) (fr : Free W ρ σ a) : Rel W ρ σ (upd H a o) := by
  have hst : Stb H (upd H a o) := ⟨fun b xs h => by rw [upd_ne (ne_of h ha (by intro z; cases z))]; exact h, fun b o u h => by rw [upd_ne (ne_of h ha (by intro z; cases z))]; exact h⟩
  refine ⟨R.len, fun j s z => ?_, R.stb.trans hst, fun b o z n => ?_, R.dis, R.par, fun p q => ?_⟩
  · obtain ⟨u, h1, h2⟩ := R.sl j s z
    refine ⟨u, h1, ?_⟩
    cases s with
    | imm d => exact Df.mono hst h2
    | fd d => exact Sl.fdm hst h2
    | lst es =>
      obtain ⟨b, ws, rfl, g1, g2, g3⟩ := h2
      have nb : b ≠ a := fun q => fr.2 j _ z rfl (by rw [h1, q])
      exact ⟨b, ws, rfl, by rw [upd_ne nb]; exact g1, g2.mono hst, g3⟩
    | set es =>
      obtain ⟨b, m, rfl, g1, g2, g3⟩ := h2
      have nb : b ≠ a := fun q => fr.2 j _ z rfl (by rw [h1, q])
      exact ⟨b, m, rfl, by rw [upd_ne nb]; exact g1, g2, g3⟩
    | box es =>
      obtain ⟨b, m, rfl, g1, g2, g3⟩ := h2
      have nb : b ≠ a := fun q => fr.2 j _ z rfl (by rw [h1, q])
      exact ⟨b, m, rfl, by rw [upd_ne nb]; exact g1, g2.mono hst, g3⟩
    | dct kvs =>
      obtain ⟨b, ws, rfl, g1, g2, g3⟩ := h2
      exact ⟨b, ws, rfl, by rw [upd_ne (ne_of g1 ha (by intro z; cases z))]; exact g1, g2.mono hst, g3⟩
  · rw [upd_ne (ne_of_none z fr.1)]
    exact R.kp b _ z n
  · exact ⟨(R.pdk p q).1, upd_some (R.pdk p q).2⟩
theorem updF_stb {a : Addr} {xs : List V} {o : HO} (ha : H a = some (.lst xs)) : Stb H (upd H a o) := ⟨fun b xs h => by rw [upd_ne (ne_of h ha (by intro z; cases z))]; exact h, fun b o u h => by rw [upd_ne (ne_of h ha (by intro z; cases z))]; exact h⟩
end
def lcD (vs : List Nat) (f : D → En → Option En) (tt : MM Bool) (te : MM D) : List D → List D → MM (List D)
  | [], acc => pu acc
  | d :: r, acc => fun ρ => match f d ρ with
    | none => .no
    | some ρ1 => match tt ρ1 with
      | .ok true ρ2 => (match te ρ2 with
        | .ok y ρ3 => if acc.length < sizeLine then lcD vs f tt te r (acc ++ [y]) (wipeE vs ρ3) else .no
        | .ex c ρ3 => .ex c ρ3
        | .no => .no)
      | .ok false ρ2 => lcD vs f tt te r acc (wipeE vs ρ2)
      | .ex c ρ2 => .ex c ρ2
      | .no => .no
def mLc (vs : List Nat) (ms : MM (List D)) (f : D → En → Option En) (tt : MM Bool) (te : MM D) : MM (List D) := bd ms fun ds => fun ρ => lcD vs f tt te ds [] (wipeE vs ρ)
def mYes : MM Bool := pu true
theorem lc_turn {vs : List Nat} {f : D → En → Option En} {tt : MM Bool} {te : MM D} {d : D} {r acc : List D} {ρ : En} {k : List D → En → Prop} (h : Got (lcD vs f tt te (d :: r) acc ρ) k) :
    ∃ ρ1, f d ρ = some ρ1 ∧ Got (tt ρ1) fun b ρ2 => if b = true then Got (te ρ2) fun y ρ3 => acc.length < sizeLine ∧ Got (lcD vs f tt te r (acc ++ [y]) (wipeE vs ρ3)) k else Got (lcD vs f tt te r acc (wipeE vs ρ2)) k := by
  unfold lcD at h
  split at h
  · exact h.elim
  · rename_i ρ1 e1
    refine ⟨ρ1, e1, ?_⟩
    split at h
    · rename_i ρ2 e2
      rw [e2]
      change (if true = true then (Got (te ρ2) fun y ρ3 => acc.length < sizeLine ∧ Got (lcD vs f tt te r (acc ++ [y]) (wipeE vs ρ3)) k) else Got (lcD vs f tt te r acc (wipeE vs ρ2)) k)
      refine iteT ?_
      split at h
      · rename_i y ρ3 e3
        rw [e3]
        split at h
        · rename_i hz
          exact ⟨hz, h⟩
        · exact h.elim
      · rename_i x ρ3 e3
        rw [e3]
        exact h
      · exact h.elim
    · rename_i ρ2 e2
      rw [e2]
      change (if false = true then (Got (te ρ2) fun y ρ3 => acc.length < sizeLine ∧ Got (lcD vs f tt te r (acc ++ [y]) (wipeE vs ρ3)) k) else Got (lcD vs f tt te r acc (wipeE vs ρ2)) k)
      exact iteF h
    · rename_i x ρ2 e2
      rw [e2]
      exact h
    · exact h.elim
/-- where a block stands against its def -/
structure Blk (vs : List Nat) (ρ' ρ1 : En) (σ : L2.St) (H' H1 : Hp) : Prop where
  stb : Stb H' H1
  fr : ∀ b o, H' b = some o → NotOwn ρ' σ b → H1 b = some o
  shr : ∀ (j : Nat) (s : S1), ρ1[j]? = some (some s) → s.own = true → j ∉ vs ∧ ∃ s', ρ'[j]? = some (some s') ∧ s'.own = true
section
variable {X : Cx} {H0 : Hp} {P : List Addr} {pos : Pos} {tg iter elt : Expr} {ifs : List Expr} {scope : Scope} {own : List (Str × Nat)} {wi : TI} {g : TG} {is : List Nat} {f : D → En → Option En} {ms : MM (List D)} {mt : MM Bool} {me : MM D}
theorem rts_nil : PTs X [] (tT (wd X H0 P) mYes) := fun pins s σ H Q I ⟨ρ, R, g⟩ => pts_nil pins s σ H Q I (g H .refl R)
theorem gN_own {i : Nat} {d : D} {ρ ρ' : En} (h : gN i d ρ = some ρ') {j : Nat} {s : S1} (e : ρ'[j]? = some (some s)) (o : s.own = true) : ρ[j]? = some (some s) := by
  unfold gN at h
  split at h
  · obtain rfl := Option.some.inj h
    rcases getElem?_set_some e with ⟨_, e⟩ | ⟨_, e⟩
    · cases e; cases o
    · exact e
  · cases h
theorem lc_read {σ : L2.St} {H : Hp} {ρ : En} {Q : VK} (hsub : ∀ i ∈ is, i ∈ own.map (·.2)) (hown : ∀ d ρ ρ', f d ρ = some ρ' → ∀ (j : Nat) (s : S1), ρ'[j]? = some (some s) → s.own = true → ρ[j]? = some (some s))
    (hgm : ∀ v d ρ ρ' σ H Q, Rel (wd X H0 P) ρ σ H → Df X.K H v d → f d ρ = some ρ' → (∀ σ', Rel (wd X H0 P) ρ' σ' H → (∀ vs : List Nat, (∀ i ∈ is, i ∈ vs) → wipe σ' vs = wipe σ vs) → Q σ' H) → g v σ H Q)
    (him : ∀ ρ σ H (k : List D → En → Prop) (R : It → Hp → Prop), Rel (wd X H0 P) ρ σ H → Got (ms ρ) k →
    (∀ J ds ρ' H', Go ρ ρ' σ H H' → Rel (wd X H0 P) ρ' σ H' → Src X.K J ds H' → k ds ρ' → R J H') → wi σ H R)
    (R : Rel (wd X H0 P) ρ σ H) (g0 : Got (mLc (own.map (·.2)) ms f mt me ρ) fun ds ρ' => ∀ a vs H', Go ρ ρ' σ H H' → Rel (wd X H0 P) ρ' σ H' → H' a = some (.lst vs) → DfA X.K H' vs ds → Free (wd X H0 P) ρ' σ a → Nw ρ σ H a → Q (.ref a) H') :
    tLc wi g (tT (wd X H0 P) mt) (tR (wd X H0 P) me) (own.map (·.2)) σ H Q := by
  refine him ρ σ H _ _ R (got_bd g0) fun J ds ρ' H' go R' S k => fun Dd hD => ?_
  have frD := R'.fresh hD
  have key : ∀ {ρ1 : En}, (∀ (j : Nat) (s : S1), ρ1[j]? = some (some s) → s.own = true → j ∉ own.map (·.2) ∧ ∃ s', ρ'[j]? = some (some s') ∧ s'.own = true) → ∀ {σ2 : L2.St}, (∀ j, j ∉ own.map (·.2) → σ2[j]? = σ[j]?) → NotOwn ρ1 σ2 Dd ∧ ∀ b, NotOwn ρ' σ b → NotOwn ρ1 σ2 b := fun {ρ1} shr {σ2} hσ => by
    have : ∀ b, NotOwn ρ' σ b → NotOwn ρ1 σ2 b := fun b n j s e o q => by
      obtain ⟨nj, s', e', o'⟩ := shr j s e o
      rw [hσ j nj] at q
      exact n j s' e' o' q
    exact ⟨this Dd frD.2, this⟩
  refine ⟨fun i m H1 => m = ds.length - i ∧ i ≤ ds.length ∧ ∃ ρ1 vacc acc, Rel (wd X H0 P) (wipeE (own.map (·.2)) ρ1) (wipe σ (own.map (·.2))) H1 ∧ Blk (own.map (·.2)) ρ' (wipeE (own.map (·.2)) ρ1) σ H' H1 ∧ H1 Dd = some (.lst vacc) ∧ DfA X.K H1 vacc acc ∧
      Got (lcD (own.map (·.2)) f mt me (ds.drop i) acc (wipeE (own.map (·.2)) ρ1)) fun ds ρe => ∀ a vs H2, Go ρ ρe σ H H2 → Rel (wd X H0 P) ρe σ H2 → H2 a = some (.lst vs) → DfA X.K H2 vs ds → Free (wd X H0 P) ρe σ a → Nw ρ σ H a → Q (.ref a) H2,
    ⟨ds.length, rfl, Nat.zero_le _, ρ', [], [], (R'.same (same_upd hD _)).wipe, ⟨.same (same_upd hD _), fun b o h _ => same_upd hD _ b o h, fun j s e o => ⟨(wipeE_some e).1, s, (wipeE_some e).2, o⟩⟩, upd_same, .nil, k⟩, ?_⟩
  rintro i m H1 ⟨rfl, hi, ρ1, vacc, acc, R1, B1, hD1, dacc, k1⟩
  by_cases hlt : i < ds.length
  · refine .inr ⟨S.go H1 i B1.stb hlt, fun H2 => ∃ ρ1 vacc acc, Rel (wd X H0 P) (wipeE (own.map (·.2)) ρ1) (wipe σ (own.map (·.2))) H2 ∧ Blk (own.map (·.2)) ρ' (wipeE (own.map (·.2)) ρ1) σ H' H2 ∧ H2 Dd = some (.lst vacc) ∧ DfA X.K H2 vacc acc ∧
      Got (lcD (own.map (·.2)) f mt me (ds.drop (i + 1)) acc (wipeE (own.map (·.2)) ρ1)) fun ds ρe => ∀ a vs H2, Go ρ ρe σ H H2 → Rel (wd X H0 P) ρe σ H2 → H2 a = some (.lst vs) → DfA X.K H2 vs ds → Free (wd X H0 P) ρe σ a → Nw ρ σ H a → Q (.ref a) H2,
      fun H2 z => ⟨_, by omega, rfl, hlt, z⟩, fun x H2 y => ?_⟩
    obtain ⟨sm, d, hd, dx⟩ := S.yld H1 H2 i x B1.stb y hlt
    rw [drop_get hd] at k1
    obtain ⟨ρ2, e2, k2⟩ := lc_turn k1
    have ww : wipe (wipe σ (own.map (·.2))) (own.map (·.2)) = wipe σ (own.map (·.2)) := by
      apply List.ext_getElem?
      intro j
      rw [wipe_get, wipe_get]
      split
      · rw [wipe_length]
      · rfl
    refine hgm x d _ ρ2 _ H2 _ (R1.same sm) dx e2 fun σ2 R2 hw => ⟨(hw _ hsub).trans ww, ρ2, R2, ?_⟩
    have hσ2 : ∀ j, j ∉ own.map (·.2) → σ2[j]? = σ[j]? := fun j nj => by
      have q := congrArg (fun l => l[j]?) (hw (own.map (·.2)) hsub)
      simp only at q
      rw [wipe_out' nj, wipe_out' nj, wipe_out' nj] at q
      exact q
    have sh2 : ∀ (j : Nat) (s : S1), ρ2[j]? = some (some s) → s.own = true → j ∉ own.map (·.2) ∧ ∃ s', ρ'[j]? = some (some s') ∧ s'.own = true := fun j s e o => B1.shr j s (hown _ _ _ e2 j s e o) o
    refine got_imp k2 fun b ρ3 k3 H3 go3 R3 => ?_
    have sh3 : ∀ (j : Nat) (s : S1), ρ3[j]? = some (some s) → s.own = true → j ∉ own.map (·.2) ∧ ∃ s', ρ'[j]? = some (some s') ∧ s'.own = true := fun j s e o => by
      obtain ⟨s', e', o'⟩ := go3.shr j s e o
      exact sh2 j s' e' o'
    have hD2 := sm _ _ hD1
    have hD3 := go3.fr _ _ hD2 (key sh2 hσ2).1
    have hw2 := hw (own.map (·.2)) hsub
    cases b with
    | false =>
      have k3 : Got _ _ := (if_neg Bool.false_ne_true) ▸ k3
      refine iteF ⟨ρ3, vacc, acc, ?_, ⟨(B1.stb.trans (.same sm)).trans go3.stb, fun b o h n => go3.fr b o (sm _ _ (B1.fr b o h n)) ((key sh2 hσ2).2 b n), fun j s e o => sh3 j s (wipeE_some e).2 o⟩, hD3, (dacc.mono (.same sm)).mono go3.stb, k3⟩
      have q := R3.wipe (vs := own.map (·.2))
      rw [hw2, ww] at q
      exact q
    | true =>
      have k3 : Got _ _ := (if_pos rfl) ▸ k3
      refine iteT ⟨ρ3, R3, got_imp k3 fun y ρ4 k4 v H4 go4 R4 dv => ?_⟩
      have sh4 : ∀ (j : Nat) (s : S1), ρ4[j]? = some (some s) → s.own = true → j ∉ own.map (·.2) ∧ ∃ s', ρ'[j]? = some (some s') ∧ s'.own = true := fun j s e o => by
        obtain ⟨s', e', o'⟩ := go4.shr j s e o
        exact sh3 j s' e' o'
      have hD4 := go4.fr _ _ hD3 (key sh3 hσ2).1
      have dacc4 := ((dacc.mono (.same sm)).mono go3.stb).mono go4.stb
      refine ⟨vacc, hD4, by rw [dacc.length]; exact k4.1, ρ4, vacc ++ [v], acc ++ [y], ?_, ⟨(((B1.stb.trans (.same sm)).trans go3.stb).trans go4.stb).trans (updF_stb hD4), fun b o h n => ?_, fun j s e o => sh4 j s (wipeE_some e).2 o⟩, upd_same, (dacc4.append (.cons dv .nil)).mono (updF_stb hD4), k4.2⟩
      · have fr4 : Free (wd X H0 P) ρ4 σ2 Dd := ⟨frD.1, (key sh4 hσ2).1⟩
        have q := (R4.updF (o := .lst (vacc ++ [v])) hD4 fr4).wipe (vs := own.map (·.2))
        rw [hw2, ww] at q
        exact q
      · rw [upd_ne (ne_of_none h hD)]
        exact go4.fr b o (go3.fr b o (sm _ _ (B1.fr b o h n)) ((key sh2 hσ2).2 b n)) ((key sh3 hσ2).2 b n)
  · have e : i = ds.length := by omega
    subst e
    rw [List.drop_length] at k1
    have k1 : ∀ a vs H2, Go ρ (wipeE (own.map (·.2)) ρ1) σ H H2 → Rel (wd X H0 P) (wipeE (own.map (·.2)) ρ1) σ H2 → H2 a = some (.lst vs) → DfA X.K H2 vs acc → Free (wd X H0 P) (wipeE (own.map (·.2)) ρ1) σ a → Nw ρ σ H a → Q (.ref a) H2 := k1
    refine .inl ⟨S.stop H1 _ B1.stb (Nat.le_refl _), k1 Dd vacc H1 (go.trans ⟨B1.stb, B1.fr, fun j s e o => (B1.shr j s e o).2⟩) R1.unwipe hD1 dacc ⟨frD.1, (key B1.shr (σ2 := σ) fun _ _ => rfl).1⟩ (.of_fresh go hD)⟩
theorem rl_lc (hc : X.calm = true) (hN : X.N.Nodup) (hi : PIm X H0 P tg iter wi ms) (ok : BlkOk X.N X.env.scope scope own)
    (hg : ∀ (s : Shared) (H : Hp) (C : Addr) (cl : List (Str × Addr)) (fp : List Addr), PGm (X.blk s H scope (compEnvC scope cl C X.env) fp) H0 P tg g is f)
    (ht : ∀ (s : Shared) (H : Hp) (C : Addr) (cl : List (Str × Addr)) (fp : List Addr), PTs (X.blk s H scope (compEnvC scope cl C X.env) fp) ifs (tT (wd X H0 P) mt))
    (he : ∀ (s : Shared) (H : Hp) (C : Addr) (cl : List (Str × Addr)) (fp : List Addr), PE (X.blk s H scope (compEnvC scope cl C X.env) fp) elt (tR (wd X H0 P) me))
    (hsub : ∀ i ∈ is, i ∈ own.map (·.2)) (hown : ∀ d ρ ρ', f d ρ = some ρ' → ∀ (j : Nat) (s : S1), ρ'[j]? = some (some s) → s.own = true → ρ[j]? = some (some s)) (hs : ∀ x, foldedSetIterable iter X.env x = pure x := by intro _; rfl) :
    PE X (.ListComp elt [⟨tg, iter, ifs, 0⟩] scope pos) (tL (wd X H0 P) (mLc (own.map (·.2)) ms f mt me)) := by
  intro pins s σ H Q I ⟨ρ, R, g0⟩
  exact pe_lc hc hN hi.1 ok (fun s H C cl fp => (hg s H C cl fp).1) ht he hs pins s σ H Q I (lc_read hsub hown (hg s H 0 [] []).2 hi.2 R g0)
end
end Pu

namespace Pu
open PySem PySem.Spec PyProof.Rows L2
variable [Wish]

/-! ### code tables: they grow, and nobody sees it -/
def tabP (P : Addr) (h : Heap) : Prop := ∃ ps : Array Value, h.get? P = some { cls := .none, data := .fields ps } ∧ TriplesOk ps.toList
def Tab (P : Addr) : HO := .ext (tabP P)
theorem tabP.ok {Pr : Program} {w : World} {H : Hp} {P : Addr} {h : Heap} (t : tabP P h) : ObjOk Pr w H h P (Tab P) :=
  ⟨t, let ⟨ps, e, _⟩ := t; ⟨_, e⟩, fun h1 h2 ⟨ps, e, r⟩ k => ⟨ps, k _ e, r⟩⟩
section
variable {X : Cx} {pins : List (Addr × Obj)} {σ : L2.St} {H : Hp} {s s' : Shared} {P : Addr}
end
/-- a code object of the module, and its table -/
def CodeK (K : Fg) (c P : Addr) : Prop := ∃ o vs file tf flags tg inF text tt, K.lookup c = some o ∧ o.cls = .type "code" ∧ o.data = .fields vs ∧ vs.getD 11 .none = .ref P ∧ vs.getD 18 .none = .str file tf ∧ vs.getD 7 .none = .int flags tg ∧ vs.getD 9 .none = .bool inF ∧ vs.getD 10 .none = .int text tt ∧ vs[11]? = some (.ref P)
theorem CodeK.at {K : Fg} {c P : Addr} {h : Heap} (C : CodeK K c P) (X : K.In h) {ps : Array Value} (e : h.get? P = some { cls := .none, data := .fields ps }) (t : TriplesOk ps.toList) : h.IsCode c P ps ∧ h.TableAt c P ps := by
  obtain ⟨o, vs, file, tf, flags, tg, inF, text, tt, k, hc, hd, h11, h18, h7, h9, h10, h11'⟩ := C
  have ho := X c o k
  have ne : c ≠ P := by
    rintro rfl
    rw [ho] at e
    cases e
    cases hc
  exact ⟨⟨o, vs, file, tf, flags, tg, inF, text, tt, _, ho, hd, h11, h18, h7, h9, h10, e, rfl, t, ne⟩, ⟨o, vs, ho, hc, hd, h11'⟩, e⟩
/-! ### what a generator expression's own part says, of one item -/
end Pu

namespace Pu
open PySem PySem.Spec PyProof.Rows L2
variable [Wish]
/-! ### len(y) > G, G a written number of the module's top, y a tuple -/
end Pu

namespace Pu
open PySem PySem.Spec PyProof.Rows L2
variable [Wish]

section
variable {X : Cx} {pins : List (Addr × Obj)} {σ : L2.St} {H : Hp} {s : Shared}
end
/-! ### all(..), any(..) of a generator expression -/
def TbW (T : List Addr) (H0 : Hp) (P : List Addr) : Prop := ∀ p ∈ T, H0 p = some (Tab p) ∧ p ∉ P
def BM (base : Heap) (mg : Str → Option Value) : Prop := ∃ bm ob, BMod base mainGlobals mg bm ob
theorem TbW.now {T : List Addr} {H0 : Hp} {P : List Addr} {K : Fg} {ρ : En} {σ : L2.St} {H : Hp} (h : TbW T H0 P) (R : Rel ⟨K, H0, P⟩ ρ σ H) : ∀ p ∈ T, H p = some (Tab p) := fun p hp => R.kp p _ (h p hp).1 (h p hp).2
section
variable {X : Cx} {H0 : Hp} {P : List Addr} {pos p py gpos : Pos} {T : List Addr} {y : Str} {iter elt : Expr} {scope : Scope} {f : D → Option Bool} {m : MM D} {k : Nat}
end
end Pu

namespace Pu
open PySem PySem.Spec PyProof.Rows L2
variable [Wish]

/-! ### a dict with written keys that a name owns -/
def valD (kvs : List (Str × D)) (k : Str) : Option D := (kvs.find? fun kv => decide (kv.1 = k)).map (·.2)
def putD (kvs : List (Str × D)) (k : Str) (v : D) : List (Str × D) :=
  if (kvs.any fun kv => decide (kv.1 = k)) = true then kvs.map (fun kv => if kv.1 = k then (kv.1, v) else kv) else kvs ++ [(k, v)]
theorem inr_eq {a b : Str} : decide ((Sum.inr a : Key) = Sum.inr b) = decide (a = b) := key_rr a b
theorem DfK.val {K : Fg} {H : Hp} {k : Str} : ∀ {vs : List (Key × V)} {ds : List (Str × D)} {d : D}, DfK K H vs ds → valD ds k = some d → ∃ v, valV vs (Sum.inr k) = some v ∧ Df K H v d
  | _, _, _, .nil, e => by cases e
  | _, _, d, .cons (k := k') (v := v) (vs := vs) (ds := ds) h r, e => by
    unfold valD at e
    rw [List.find?_cons] at e
    by_cases q : k' = k
    · rw [decide_eq_true q] at e
      obtain rfl := Option.some.inj e
      exact ⟨v, valV_pos (by rw [q]), h⟩
    · rw [decide_eq_false q] at e
      obtain ⟨v', h1, h2⟩ := DfK.val (k := k) r e
      exact ⟨v', by rw [valV_neg fun z => q (Sum.inr.inj z)]; exact h1, h2⟩
theorem DfK.any {K : Fg} {H : Hp} {k : Str} : ∀ {vs : List (Key × V)} {ds : List (Str × D)}, DfK K H vs ds → (vs.any fun kv => decide (kv.1 = (Sum.inr k : Key))) = ds.any fun kv => decide (kv.1 = k)
  | _, _, .nil => rfl
  | _, _, .cons h r => by rw [List.any_cons, List.any_cons, DfK.any r, inr_eq]
theorem DfK.map {K : Fg} {H : Hp} {k : Str} {v : V} {d : D} (hv : Df K H v d) : ∀ {vs : List (Key × V)} {ds : List (Str × D)}, DfK K H vs ds → DfK K H (vs.map fun kv => if kv.1 = (Sum.inr k : Key) then (kv.1, v) else kv) (ds.map fun kv => if kv.1 = k then (kv.1, d) else kv)
  | _, _, .nil => .nil
  | _, _, .cons (k := k') h r => by
    rw [List.map_cons, List.map_cons]
    by_cases q : k' = k
    · rw [if_pos (by rw [q]), if_pos q]
      exact .cons hv (DfK.map hv r)
    · rw [if_neg (fun z => q (Sum.inr.inj z)), if_neg q]
      exact .cons h (DfK.map hv r)
theorem DfK.snoc {K : Fg} {H : Hp} {k : Str} {v : V} {d : D} (hv : Df K H v d) : ∀ {vs : List (Key × V)} {ds : List (Str × D)}, DfK K H vs ds → DfK K H (vs ++ [(Sum.inr k, v)]) (ds ++ [(k, d)])
  | _, _, .nil => .cons hv .nil
  | _, _, .cons h r => .cons h (DfK.snoc hv r)
theorem DfK.put {K : Fg} {H : Hp} {k : Str} {v : V} {d : D} (hv : Df K H v d) {vs : List (Key × V)} {ds : List (Str × D)} (h : DfK K H vs ds) : DfK K H (putK vs (Sum.inr k) v) (putD ds k d) := by
  unfold putK putD
  rw [h.any]
  split
  · exact h.map hv
  · exact h.snoc hv
theorem DfK.length {K : Fg} {H : Hp} : ∀ {vs : List (Key × V)} {ds : List (Str × D)}, DfK K H vs ds → vs.length = ds.length
  | _, _, .nil => rfl
  | _, _, .cons _ r => congrArg (· + 1) (DfK.length r)
section
variable {W : Wd} {ρ : En} {σ : L2.St} {H H' : Hp}
end
section
variable {X : Cx} {H0 : Hp} {P : List Addr} {pos : Pos} {e : Expr} {m : MM D} {x : Str} {p1 : Pos}
inductive PPm (X : Cx) (H0 : Hp) (P : List Addr) (pos : Pos) : List (Option Expr) → List Expr → List (Str × MM D) → Prop
  | nil : PPm X H0 P pos [] [] []
  | cons {k : Str} {j} {p2 : Pos} {e : Expr} {m : MM D} {ks : List (Option Expr)} {es : List Expr} {ms : List (Str × MM D)} : PE X e (tR (wd X H0 P) m) → PPm X H0 P pos ks es ms → PPm X H0 P pos (some (.Constant (.str k) j p2) :: ks) (e :: es) ((k, m) :: ms)
inductive DfP (K : Fg) (H : Hp) : List (V × V) → List (Str × D) → Prop
  | nil : DfP K H [] []
  | cons {k : Str} {v : V} {vs : List (V × V)} {d : D} {ds : List (Str × D)} : Df K H v d → DfP K H vs ds → DfP K H ((.str k, v) :: vs) ((k, d) :: ds)
theorem DfP.keys {K : Fg} {H : Hp} : ∀ {vs : List (V × V)} {ds : List (Str × D)}, DfP K H vs ds → ∃ kvs : List (Key × V), vs = kvs.map (fun kv => (kV kv.1, kv.2)) ∧ kvs.length = ds.length ∧ DfK K H kvs ds
  | _, _, .nil => ⟨[], rfl, rfl, .nil⟩
  | _, _, .cons (k := k) (v := v) h r => by
    obtain ⟨kvs, e1, e2, e3⟩ := DfP.keys r
    exact ⟨(Sum.inr k, v) :: kvs, by rw [e1]; rfl, by rw [List.length_cons, List.length_cons, e2], .cons h e3⟩
theorem DfP.mono {K : Fg} {H H' : Hp} (s : Stb H H') : ∀ {vs : List (V × V)} {ds : List (Str × D)}, DfP K H vs ds → DfP K H' vs ds
  | _, _, .nil => .nil
  | _, _, .cons h r => .cons (h.mono s) (DfP.mono s r)
/-! ### what a def promises -/
inductive Re where
  | ok (r : RV) | no
def Rv' (K : Fg) (H H' : Hp) : RV → V → Prop
  | .imm d, v => Df K H' v d
  | .own ds, v => ∃ a vs, v = .ref a ∧ H a = none ∧ H' a = some (.lst vs) ∧ DfA K H' vs ds
def TbH (T : List Addr) (H : Hp) : Prop := ∀ p ∈ T, H p = some (Tab p)
def spI (T : List Addr) (K : Fg) (n : Nat) (m : List D → Re) : Sp := fun vs H Q _ => vs.length = n ∧ TbH T H ∧ ∃ ds, DfA K H vs ds ∧ match m ds with
  | .ok r => ∀ v H', Same H H' → Rv' K H H' r v → Q v H'
  | .no => False
def enI (n : Nat) (ds : List D) : En := ds.map (fun d => some (.imm d)) ++ List.replicate (n - ds.length) none
def mfn (n : Nat) (mb : MS) (ds : List D) : Re := match mb (enI n ds) with
  | .rt r _ => .ok r
  | .nx _ => .ok (.imm .none)
  | _ => .no
theorem enI_get {n : Nat} {ds : List D} {i : Nat} {s : S1} (h : (enI n ds)[i]? = some (some s)) : ∃ d, s = .imm d ∧ ds[i]? = some d := by
  unfold enI at h
  by_cases hi : i < ds.length
  · rw [List.getElem?_append_left (by rw [List.length_map]; exact hi), List.getElem?_map] at h
    cases e : ds[i]? with
    | none => rw [e] at h; cases h
    | some d => rw [e] at h; cases h; exact ⟨d, rfl, rfl⟩
  · rw [List.getElem?_append_right (by rw [List.length_map]; omega), List.getElem?_replicate] at h
    split at h <;> cases h
theorem start_get {N : List Str} {vs : List V} {i : Nat} {v : V} (h : vs[i]? = some v) : (L2.start N vs)[i]? = some (some v) := by
  unfold L2.start
  have hi : i < vs.length := (List.getElem?_eq_some_iff.mp h).1
  rw [List.getElem?_append_left (by rw [List.length_map]; exact hi), List.getElem?_map, h]
  rfl
theorem rel_start {K : Fg} {H : Hp} {N : List Str} {vs : List V} {ds : List D} (h : DfA K H vs ds) : Rel ⟨K, H, []⟩ (enI N.length ds) (L2.start N vs) H where
  len := by unfold enI L2.start; rw [List.length_append, List.length_append, List.length_map, List.length_map, List.length_replicate, List.length_replicate, h.length]
  sl := fun i s e => by
    obtain ⟨d, rfl, e'⟩ := enI_get e
    obtain ⟨v, h1, h2⟩ := h.get e'
    exact ⟨v, start_get h1, h2⟩
  stb := .refl H
  kp := fun b o e _ => e
  dis := fun i j s s' a n e1 e2 o1 o2 => by
    obtain ⟨d, rfl, _⟩ := enI_get e1
    cases o1
  par := fun k p e => by simp at e
  pdk := fun p e => nomatch e
variable {Pr : Program} {w : World} {K : PySem.W.Frag} {mg : Str → Option Value} {base : Heap}
theorem Fun.ok' {x qual : Str} {st : Stmt} {f : Addr} {fd : FuncData} {N ps : List Str} {k : Nat} {sp : Sp} (F : Fun K x qual st f fd) (S : FnScope N ps (defScope st)) (len : ∀ vs H Q E, sp vs H Q E → vs.length = ps.length)
    (hbody : ∀ (cdv : Value) (A : Around) (outer : List Env) (s : Shared) (H : Hp) (vs : List V) (Q : VK) (E : XK), fd.code = cdv → Room k (A.deeper (envOfC qual (defScope st) s.heap.objs.size f cdv)) → sp vs H Q E →
      ∃ t, PSs (cxOf CX0 Pr w K mg base N qual (defScope st) f cdv A outer s H E).nox (defBody st) t ∧ t { nx := fun _ H' => Q .non H', rt := Q } (start N vs) H) : FnOk Pr w K mg base CX0 (k + 1) f fd ps sp := by
  obtain ⟨oc, od, kV, doc, pm, an, cdv, ct, osl, rfl, lk, hcd⟩ := F.ex
  refine fn_of lk hcd S len fun A outer s H vs Q E hr hsp => ?_
  obtain ⟨t, h, q⟩ := hbody cdv A outer s H vs Q E rfl hr hsp
  exact ⟨t, h.nox, q⟩
theorem fn_pure {T : List Addr} {x qual : Str} {st : Stmt} {f : Addr} {fd : FuncData} {N ps : List Str} {k : Nat} {mb : MS} (F : Fun K x qual st f fd) (S : FnScope N ps (defScope st))
    (hb : ∀ (cdv : Value) (A : Around) (outer : List Env) (s : Shared) (H : Hp) (E : XK), Room k (A.deeper (envOfC qual (defScope st) s.heap.objs.size f cdv)) → TbW T H [] → fd.code = cdv → PSs (cxOf CX0 Pr w K mg base N qual (defScope st) f cdv A outer s H E).nox (defBody st) (tS ⟨K, H, []⟩ mb)) :
    FnOk Pr w K mg base CX0 (k + 1) f fd ps (spI T K ps.length (mfn N.length mb)) := by
  refine Fun.ok' F S (fun vs H Q E h => h.1) (fun cdv A outer s H vs Q E hcd hr h => ?_)
  obtain ⟨hl, hT, ds, hd, hm⟩ := h
  refine ⟨_, hb cdv A outer s H E hr (fun p hp => ⟨hT p hp, fun z => nomatch z⟩) hcd, ?_⟩
  refine ⟨_, rel_start hd, ?_⟩
  unfold mfn at hm
  have sm : ∀ {ρ : En} {σ : L2.St} {H' : Hp}, Rel ⟨K, H, []⟩ ρ σ H' → Same H H' := fun R b o e => R.kp b o e (fun z => nomatch z)
  cases q : mb (enI N.length ds) with
  | nx ρ => rw [q] at hm; exact fun σ H' st' R => hm _ _ (sm R) .non
  | rt r ρ =>
    rw [q] at hm
    refine fun v σ H' st' R hv => hm v H' (sm R) ?_
    cases r with
    | imm d => exact hv
    | own es => obtain ⟨a, us, e1, e2, e3, e4⟩ := hv; exact ⟨a, us, e1, e4, e2, e3⟩
  | bk ρ => rw [q] at hm; exact hm.elim
  | ct ρ => rw [q] at hm; exact hm.elim
  | ex c ρ => rw [q] at hm; exact hm.elim
  | no => rw [q] at hm; exact hm.elim
def mCFL (m : List D → Re) (ma : MM (List D)) : MM (List D) := bd ma fun ds ρ => match m ds with
  | .ok (.own d) => .ok d ρ
  | _ => .no
variable {k n : Nat} {f : Addr} {fd : FuncData} {ps : List Str} {mf : List D → Re} {es : List Expr} {mr : MM (List D)} {p : Pos}
theorem rl_call {T : List Addr} (F : FnOk X.prog X.w X.K X.mg X.base CX0 k f fd ps (spI T X.K n mf)) (hr : Room k X.A) (hT : TbW T H0 P) (hg : Gl X x) (hm : X.mg x = some (.ref f)) (hk : PySem.W.keepIn X.K (.ref f) = true) (hb : Binds X.K fd ps []) (hn : (e :: es).length = n)
    (ha : PA X (e :: es) (tA (wd X H0 P) mr)) (hlen : ∀ ρ ds ρ', mr ρ = .ok ds ρ' → ds.length = (e :: es).length) (hdb : (x == ("__debug__" : Str)) = false := by decide) (he : starEach (e :: es) X.env = (false, eval e X.env) :: starEach es X.env := by rfl) (hpl : (backTo pos (starEach es X.env)).any (·.1) = false := by rfl) :
    PE X (.Call (.Name x p) (e :: es) [] pos) (tL (wd X H0 P) (mCFL mf mr)) :=
  weak (pe_call (dvs := []) (E := E0) F hr hg hm hk hb .nil pass0 ha hdb he hpl) fun σ H Q ⟨ρ, R, g⟩ => by
    have g' := got_bd g
    refine ⟨ρ, R, ?_⟩
    cases q : mr ρ with
    | ok ds ρ1 =>
      rw [q] at g'
      refine fun vs H1 go1 R1 d1 => ?_
      show spI T X.K n mf (vs ++ []) H1 Q E0
      rw [List.append_nil]
      refine ⟨by rw [d1.length, hlen _ _ _ q, hn], hT.now R1, ds, d1, ?_⟩
      have g' : Got (match mf ds with
        | .ok (.own d) => Ou.ok d ρ1
        | _ => .no) fun ds ρ' => ∀ a vs H', Go ρ ρ' σ H H' → Rel (wd X H0 P) ρ' σ H' → H' a = some (.lst vs) → DfA X.K H' vs ds → Free (wd X H0 P) ρ' σ a → Nw ρ σ H a → Q (.ref a) H' := g'
      split at g'
      · rename_i d hd
        rw [hd]
        intro v H' sm dv
        obtain ⟨a, us, rfl, e1, e2, e3⟩ := dv
        exact g' a us H' (go1.trans (.same sm)) (R1.same sm) e2 e3 (R1.fresh e1) (.of_fresh go1 e1)
      · exact g'.elim
    | ex c ρ1 => rw [q] at g'; exact g'
    | no => rw [q] at g'; exact g'
end
end Pu

namespace Pu
open PySem PySem.Spec PyProof.Rows L2
variable [Wish]

inductive ReS where
  | ok (r : RV) (kvs : List (Str × D)) | no
section
variable {Pr : Program} {w : World} {K : PySem.W.Frag} {mg : Str → Option Value} {base : Heap}
end
section
variable {X : Cx} {H0 : Hp} {P : List Addr} {pos : Pos} {e : Expr} {m : MM D} {x y : Str} {p1 p : Pos} {k n : Nat} {f : Addr} {fd : FuncData} {ps : List Str} {mf : List (Str × D) → List D → ReS} {es : List Expr} {mr : MM (List D)}
end
end Pu

namespace L2
open PySem PySem.Spec PyProof.Rows
section
variable {prog : Program} {w : World} {A : Around} {E : Value → Shared → Prop}
end
end L2

namespace L2
open PySem PySem.Spec PyProof.Rows
section
variable {X : Cx}
end
end L2
namespace Pu
open PySem PySem.Spec PyProof.Rows L2
variable [Wish]
theorem len_nil : ∀ (ρ : En) (ds : List D) (ρ' : En), mNil ρ = .ok ds ρ' → ds.length = 0 := fun ρ ds ρ' h => by
  cases h
  rfl
theorem len_cons {m : MM D} {mr : MM (List D)} {n : Nat} (h : ∀ (ρ : En) (ds : List D) (ρ' : En), mr ρ = .ok ds ρ' → ds.length = n) : ∀ (ρ : En) (ds : List D) (ρ' : En), mCons m mr ρ = .ok ds ρ' → ds.length = n + 1 := fun ρ ds ρ' e => by
  unfold mCons bd at e
  cases q : m ρ with
  | ok d ρ1 =>
    rw [q] at e
    dsimp only at e
    cases q2 : mr ρ1 with
    | ok ds2 ρ2 =>
      rw [q2] at e
      cases e
      rw [List.length_cons, h _ _ _ q2]
    | ex c ρ2 => rw [q2] at e; cases e
    | no => rw [q2] at e; cases e
  | ex c ρ1 => rw [q] at e; cases e
  | no => rw [q] at e; cases e
/-! ### dict(pairs)[k] -/
section
variable {X : Cx} {H0 : Hp} {P : List Addr} {pos : Pos} {a b e : Expr} {ma mb m : MM D}
/-! ### list + list -/
theorem list_addW (l b : Addr) (items items2 : Array Value) (n n2 : Nat) (dd dd2 : Option Addr) (sl sl2 : Array (Option Value)) (hc0 : items.size + items2.size ≤ sizeLine) :
    Meets (Builtin.«list.__add__» ⟨[.ref l, .ref b], []⟩) (fun _ R s => s.heap.get? l = some { cls := .type "list", dict := dd, data := .seq items n, slots := sl } ∧ s.heap.get? b = some { cls := .type "list", dict := dd2, data := .seq items2 n2, slots := sl2 } ∧ R (.ok (.ret (Value.ref s.heap.objs.size))) { s with heap := s.heap.push { cls := Value.type "list", data := Data.seq (items ++ items2) }, toks := s.toks }) :=
  .of_wp fun prog w A R s h => by obtain ⟨hp, g, d, tk, os⟩ := s; obtain ⟨hl, hb, h⟩ := h; have f1 := AutoSeq1.idx_int; have f2 := AutoSeq1.sub_tuple_tuple; have f3 := AutoSeq1.sub_list_list; have f4 := AutoSeq1.sub_tuple_list; have f5 := AutoSeq1.sub_list_tuple; wp_walk using wpAny_loadPart' hl, wpAny_loadPart' hb; exact ⟨_, rfl, h⟩
def fCat : D → D → Option (List D)
  | .list a, .list b => if sized (a.length + b.length) then some (a ++ b) else none
  | _, _ => none
def rDL (K : Fg) (f : D → D → Option (List D)) : R2 := fun x y H Q => ∃ a b ds, Df K H x a ∧ Df K H y b ∧ f a b = some ds ∧ ∀ p vs, H p = none → DfA K H vs ds → Q (.ref p) (upd H p (.lst vs))
theorem op_catL : OpR X (binaryOp .Add) (rDL X.K fCat) := by
  intro pins s σ H x y v u Q I rx ry ⟨a, b, ds, ha, hb, hf, q⟩
  unfold fCat at hf
  split at hf
  · split at hf
    · rename_i hz
      have hz := of_sized hz
      obtain rfl := Option.some.inj hf
      cases ha with
      | lst s1 da =>
        cases hb with
        | lst s2 db =>
          cases rx
          cases ry
          have l1 := da.length
          have l2 := db.length
          obtain ⟨its, r1, ⟨⟨cls, dd, data, sl⟩, n, o1, o2, o3, o4⟩, _⟩ := I.list s1.sq
          obtain ⟨its2, r2, ⟨⟨cls2, dd2, data2, sl2⟩, n2, p1, p2, p3, p4⟩, _⟩ := I.list s2.sq
          simp only at o2 o3 o4 p2 p3 p4
          subst o2 o3 o4 p2 p3 p4
          have r1l := r1.length
          have r2l := r2.length
          refine concat_meets ⟨_, o1, rfl⟩ ⟨_, p1, rfl⟩ noFill_list_add seq_list_add PySem.F.slot_list_add PySem.F.entry_list_add (PySem.F.args_list_add_2 _ _)
            (list_addW _ _ its.toArray its2.toArray n n2 none none sl sl2 (by rw [List.size_toArray, List.size_toArray]; omega)) ⟨o1, p1, ?_⟩
          have ea : its.toArray ++ its2.toArray = (its ++ its2).toArray := by simp
          rw [ea]
          exact ⟨.ref _, _, I.lnew (t' := s.toks) (r1.append r2) (by rw [List.length_append]; omega), rfl, q _ _ I.fresh (da.append db)⟩
    · cases hf
  · cases hf
theorem rl_cat (ha : PE X a (tR (wd X H0 P) ma)) (hb : PE X b (tR (wd X H0 P) mb)) : PE X (.BinOp a .Add b pos) (tL (wd X H0 P) (mBinL fCat ma mb)) :=
  weak (pe_op op_catL ha hb) fun σ H Q ⟨ρ, R, g⟩ => tR_bd R g fun v H1 d ρ1 go1 R1 d1 g1 => tR_bd R1 g1 fun u H2 e ρ2 go2 R2 d2 g2 => by
    obtain ⟨z, hz, k⟩ := got_lift g2
    exact ⟨d, e, z, d1.mono go2.stb, d2, hz, fun p vs hp dv => k p vs _ ((go1.trans go2).trans (.same (same_upd hp _))) (R2.same (same_upd hp _)) upd_same (dv.mono (.same (same_upd hp _))) (R2.fresh hp) (.of_fresh (go1.trans go2) hp)⟩
end
end Pu

namespace Pu
open PySem PySem.Spec PyProof.Rows L2
variable [Wish]

/-! ### the law itself -/
def spLaw (T : List Addr) (K : Fg) : Sp := fun vs H Q _ => ∃ (a : Addr) (ns : List Int), vs = [.ref a] ∧ TbH T H ∧ FzL K H a (ns.map V.int) ∧ ns.length ≤ 63 ∧ ∀ H', TbH T H' → Q (.bl true) H'
theorem ints_df {K : Fg} {H : Hp} : ∀ ns : List Int, DfA K H (ns.map V.int) (ns.map PyData.int)
  | [] => .nil
  | n :: r => .cons (.int n) (ints_df r)
theorem law_ok {T : List Addr} {P : Program} {w : World} {K : Fg} {mg : Str → Option Value} {base : Heap} {k : Nat} {f : Addr} {fd : FuncData} {m : List D → Re} (F : FnOk P w K mg base CX0 k f fd ["script"] (spI T K 1 m)) (h : ∀ ns : List Int, ns.length ≤ 63 → m [.list (ns.map PyData.int)] = .ok (.imm (.bool true))) :
    FnOk P w K mg base CX0 k f fd ["script"] (spLaw T K) := F.imp fun vs H Q E ⟨a, ns, e, hT, hS, hl, q⟩ => by
  subst e
  refine ⟨rfl, hT, [.list (ns.map PyData.int)], .cons (.lst hS (ints_df ns)) .nil, ?_⟩
  rw [h ns hl]
  intro v H' sm dv
  cases dv
  exact q H' fun p hp => sm _ _ (hT p hp)
theorem law_callT {T : List Addr} {P : Program} {w : World} {K : PySem.W.Frag} {mg mb : Str → Option Value} {k : Nat} {fa a : Addr} {fd : FuncData} {x : Str} {s₁ : Shared} {vs : List Value} {ns : List Int}
    (KX : K.In s₁.heap) (hns : s₁.heap.Ns mainGlobals mg) (hb : s₁.heap.Ns builtinsNs mb) (hbb : ∀ x : Str, x ≠ "__name__" → mb x = bootBuiltins x) (hlim : s₁.heap.NoLimit) (hg : s₁.gens = #[]) (hbm : BM s₁.heap mg)
    (ha : s₁.heap.get? a = some { cls := .type "list", data := .seq vs.toArray }) (hi : IntsAre vs ns) (hl : ns.length ≤ 63) (hr : Room k callerA)
    (hT : ∀ p ∈ T, ∃ c, s₁.heap.TableAt c p #[]) (hKT : ∀ p ∈ T, K.lookup p = none)
    (F : ∀ base : Heap, K.In base → base.Ns mainGlobals mg → BM base mg → FnOk P w K mg base CX0 k fa fd [x] (spLaw T K)) (hbind : ∀ (s : Shared) (u : Value), BindsTo s fd ⟨[u], []⟩ [(x, u)]) :
    codeAny (model P w) callerA (.call (.ref fa) ⟨[.ref a], []⟩) (fun r s' => r = .ok (.ret (.bool true)) ∧ OldK s₁.heap s'.heap ∧ s'.os = s₁.os ∧ AllBare s'.gens) s₁ := by
  have rv := vals_ints hi
  have lenV := hi.length
  have core : ∀ H : Hp, (∀ b, H b = none ∨ (b ∈ T ∧ H b = some (Tab b)) ∨ (b = a ∧ K.lookup a = none ∧ ∃ o xs, H b = some (.frz o (.lst xs)))) → TbH T H → FzL K H a (ns.map V.int) → HOk P w H s₁.heap →
      codeAny (model P w) callerA (.call (.ref fa) ⟨[.ref a], []⟩) (fun r s' => r = .ok (.ret (.bool true)) ∧ OldK s₁.heap s'.heap ∧ s'.os = s₁.os ∧ AllBare s'.gens) s₁ := by
    intro H hH hTH hS hok
    have base_of : ∀ {b : Addr} {o : Obj}, s₁.heap.get? b = some o → H b = none → (hidT s₁.heap H).get? b = some o := fun e n => hidT_get e n
    have noA : ∀ {b : Addr} {o : Obj}, s₁.heap.get? b = some o → (∀ ps, o.data ≠ .fields ps) → (∀ a n, o.data ≠ .seq a n) → H b = none := fun {b o} e d1 d2 => by
      rcases hH b with z | ⟨hb, z⟩ | ⟨rfl, _⟩
      · exact z
      · obtain ⟨c, _, e'⟩ := hT b hb
        rw [e] at e'; cases e'
        exact absurd rfl (d1 #[])
      · rw [ha] at e; cases e
        exact absurd rfl (d2 _ _)
    have nsK : ∀ {b : Addr} {m : Str → Option Value}, s₁.heap.Ns b m → (hidT s₁.heap H).Ns b m := fun {b m} ⟨o, es, ep, e, d, r⟩ => ⟨o, es, ep, base_of e (noA e (fun ps z => by rw [d] at z; cases z) (fun _ _ z => by rw [d] at z; cases z)), d, r⟩
    have hKb : K.In (hidT s₁.heap H) := fun b o e => base_of (KX b o e) (by
      rcases hH b with z | ⟨hb, z⟩ | ⟨rfl, hk, _⟩
      · exact z
      · rw [hKT b hb] at e; cases e
      · rw [hk] at e; cases e)
    have hM : Mod K mg (hidT s₁.heap H) := ⟨hKb, nsK hns, ⟨mb, nsK hb, hbb⟩, let ⟨mc, h1, h2⟩ := hlim; ⟨mc, nsK h1, h2⟩⟩
    have hBB : BM (hidT s₁.heap H) mg := by
      obtain ⟨bm, ob, M⟩ := hbm
      exact ⟨bm, ob, nsK M.ns, M.name, M.ne, base_of M.obj (noA M.obj (fun ps z => by rw [M.data] at z; cases z) (fun _ _ z => by rw [M.data] at z; cases z)), M.cls, M.dict, M.data⟩
    have e0 : Env0 P w K mg (hidT s₁.heap H) callerA [] s₁ H := ⟨rfl, hM, fun b o e => of_hidT e, Nat.le_of_eq (hidT_size _ _), trivial, fun b hb => absurd (show b ∈ ([] : List Addr) from hb) (by simp), hok, .of_eq hg⟩
    refine codeAny_mono ((F _ hKb (nsK hns) hBB).run callerA [] s₁ H ⟨[.ref a], []⟩ [.ref a] [.ref a] (fun v H' => v = .bl true ∧ TbH T H') (fun _ _ _ => False) hr e0 (hbind s₁ (.ref a)) (.cons rfl .nil) ⟨a, ns, rfl, hTH, hS, hl, fun H' h => ⟨rfl, h⟩⟩) fun r s' h => ?_
    cases r with
    | error e => exact False.elim h
    | ok fl =>
      cases fl with
      | next => exact False.elim h
      | brk => exact False.elim h
      | cont => exact False.elim h
      | ret u =>
        obtain ⟨v, H', os, bare, un, hok', r', q, hT'⟩ := h
        subst q
        obtain rfl : u = Value.bool true := r'
        have kept : ∀ b o, s₁.heap.get? b = some o → b ∉ T → s'.heap.get? b = some o := fun b o e nb => by
          rcases hH b with z | ⟨hb, z⟩ | ⟨rfl, hk, ob, xs, z⟩
          · exact un.keep b o e z (by intro z; exact absurd (show b ∈ ([] : List Addr) from z) (by simp)) (by simp)
          · exact absurd hb nb
          · have z2 := un.frzs b ob _ z
            obtain ⟨e1, _⟩ := hok b _ z
            obtain ⟨e2, _⟩ := hok' b _ z2
            rw [e] at e1; cases e1
            exact e2
        refine ⟨rfl, ⟨fun b o e => ?_, fun b o e => ?_⟩, os, bare⟩
        · by_cases hb : b ∈ T
          · obtain ⟨c, t⟩ := hT b hb
            obtain ⟨⟨ps, e2, _⟩, _⟩ := hok' b _ (hT' b hb)
            have e1 := t.2
            rw [e] at e1
            cases e1
            exact .inr (.inl ⟨t.isCodeTable, rfl, #[], ps, rfl, by rw [e2]; simp⟩)
          · exact .inl (kept b o e hb)
        · by_cases hb : b ∈ T
          · obtain ⟨⟨ps, e2, _⟩, _⟩ := hok' b _ (hT' b hb)
            exact ⟨_, e2⟩
          · exact ⟨o, kept b o e hb⟩
  have tab0 : ∀ b ∈ T, tabP b s₁.heap := fun b hb => by
    obtain ⟨c, t⟩ := hT b hb
    exact ⟨#[], t.2, trivial⟩
  have naT : a ∉ T := fun h => by
    obtain ⟨c, t⟩ := hT a h
    have := t.2
    rw [ha] at this
    cases this
  cases hk : K.lookup a with
  | some o =>
    have e := KX a o hk
    rw [ha] at e
    cases e
    refine core (fun b => if b ∈ T then some (Tab b) else none) (fun b => ?_) (fun p hp => if_pos hp) (.inr ⟨_, vs.toArray, _, hk, rfl, rfl, rfl, by rw [List.size_toArray, lenV]; exact Nat.le_trans hl (by decide), by simpa using rv⟩) (fun b u z => ?_)
    · by_cases hb : b ∈ T
      · exact .inr (.inl ⟨hb, if_pos hb⟩)
      · exact .inl (if_neg hb)
    · by_cases hb : b ∈ T
      · have z' := (if_pos hb).symm.trans z
        cases z'
        exact (tab0 b hb).ok
      · have z' := (if_neg hb).symm.trans z
        cases z'
  | none =>
    refine core (fun b => if b ∈ T then some (Tab b) else if b = a then some (.frz { cls := .type "list", data := .seq vs.toArray } (.lst (ns.map V.int))) else none) (fun b => ?_) (fun p hp => if_pos hp) (.inl ⟨{ cls := .type "list", data := .seq vs.toArray }, (if_neg naT).trans (if_pos rfl)⟩) (fun b u z => ?_)
    · by_cases hb : b ∈ T
      · exact .inr (.inl ⟨hb, if_pos hb⟩)
      · by_cases hba : b = a
        · exact .inr (.inr ⟨hba, hk, _, _, (if_neg hb).trans (if_pos hba)⟩)
        · exact .inl ((if_neg hb).trans (if_neg hba))
    · by_cases hb : b ∈ T
      · have z' := (if_pos hb).symm.trans z
        cases z'
        exact (tab0 b hb).ok
      · by_cases hba : b = a
        · have z' := ((if_neg hb).trans (if_pos hba)).symm.trans z
          cases z'
          subst hba
          exact ⟨ha, by rw [List.length_map]; exact Nat.le_trans hl (by decide), vs, _, rv, ha⟩
        · have z' := ((if_neg hb).trans (if_neg hba)).symm.trans z
          cases z'
theorem noTab {K : PySem.W.Frag} {h : Heap} {mg : Str → Option Value} {c p : Addr} (KX : K.In h) (hc : PySem.W.kb_classed K = true) (hns : h.Ns mainGlobals mg) (hlim : h.NoLimit) (t : h.TableAt c p #[]) : K.lookup p = none := by
  cases q : K.lookup p with
  | none => rfl
  | some o =>
    have e := KX p o q
    have e2 := t.2
    rw [e] at e2
    cases e2
    have z := List.all_eq_true.mp hc (p, _) (PySem.W.kb_mem q)
    simp only [Bool.or_eq_true, decide_eq_true_eq, beq_iff_eq] at z
    rcases z with (z | z) | z
    · exact absurd rfl z
    · subst z
      obtain ⟨_, ⟨o, es, ep, ho, hd, _⟩, _⟩ := hlim
      rw [e] at ho; cases ho; cases hd
    · subst z
      obtain ⟨o, es, ep, ho, hd, _⟩ := hns
      rw [e] at ho; cases ho; cases hd
/-- the tables of the defs that a text names -/
abbrev Tabs (q : Program) (mg : Str → Option Value) (h : Heap) : Prop := ∀ (nm : Str) (dd : DefRec), (recsOf q).find? (fun e => e.name == nm) = some dd → ∀ (f : Addr) (o : Obj) (fd : FuncData), mg nm = some (.ref f) → h.get? f = some o → o.data = .func fd → ∃ c P, fd.code = .ref c ∧ Based h h c P #[]
theorem walk {l : PySem.W.OpenLaw} {q : Program} {loose : List Str} {XP : (Str → Option Value) → Heap → Prop} {YP : World → Heap → Prop} {d : DefRec} {K : Params → PySem.W.Frag} {k : Nat} (hn : l.most = some 63) (hdf : d.params.defaults = []) (hr : Room k callerA)
    (hY : ∀ (w : World) (h : Heap), YP w h → (K w.params).In h)
    (F : ∀ (w : World) (mg : Str → Option Value) (fa : Addr) (h : Heap), (K w.params).In h → h.Ns mainGlobals mg → mg d.name = some (.ref fa) → Tabs q mg h →
      ∃ (T : List Addr) (fd : FuncData), ((∀ p ∈ T, ∃ c, h.TableAt c p #[]) ∧ (T ≠ [] → PySem.W.kb_classed (K w.params) = true)) ∧ (∀ (s : Shared) (u : Value), BindsTo s fd ⟨[u], []⟩ [("script", u)]) ∧ ∀ base : Heap, (K w.params).In base → base.Ns mainGlobals mg → BM base mg → FnOk l.prog w (K w.params) mg base CX0 k fa fd ["script"] (spLaw T (K w.params))) :
    PySem.W.WalkO q loose XP YP l.row.toRowW d [] (fun f vs => PySem.call f vs) := by
  refine Att.attach_call hn hdf fun w s₀ s₁ mg mb fa o pm cd doc a vs ns G Y ho hd hcd hmg hobj hints hlen hg => ?_
  have KX := hY w _ Y
  obtain ⟨T, fd, ⟨hT, hcl⟩, hb, hF⟩ := F w mg fa _ KX G.T.g hmg (fun nm dd e f o fd h1 h2 h3 => PySem.W.based_of_top G.T e h1 h2 h3)
  refine law_callT KX G.T.g G.T.b G.T.builtins G.T.nolimit hg (PySem.W.bmod_of_top G.T) hobj hints hlen hr hT (fun p hp => ?_) hF hb
  obtain ⟨c, t⟩ := hT p hp
  exact noTab KX (hcl (List.ne_nil_of_mem hp)) G.T.g G.T.nolimit t
end Pu

namespace Pu
open PySem PySem.Spec PyProof.Rows L2
variable [Wish]
/-! ### x in y -/
section
variable {X : Cx}
end
end Pu

namespace Pu
open PySem PySem.Spec PyProof.Rows L2
variable [Wish]
/-! ### comparisons of deep things -/
def shW (d : D) : Bool := d.canLay0 && decide (d.depth ≤ 180)
def fEqW (a b : D) : Option Bool := if shW a && shW b then some (PyData.eqv a b) else none
def fNeW (a b : D) : Option Bool := if shW a && shW b then some (!PyData.eqv a b) else none
theorem unitsW {k : Nat} {A : Around} (r : Room k A) : A.units + 180 < cLine := by have := r.un; omega
theorem roomW {A : Around} {da db : PyData} (h : shW da = true) (hu : A.units + 180 < cLine) : A.units + min da.depth db.depth < cLine := by
  have h1 : da.depth ≤ 180 := of_decide_eq_true (Bool.and_eq_true_iff.mp h).2
  have h2 : min da.depth db.depth ≤ da.depth := Nat.min_le_left _ _
  omega
section
variable {X : Cx}
theorem op_eqPW (hu : X.A.units + 180 < cLine) : OpR X (compareOp .Eq) (rBp X.K fEqW) := by
  intro pins s σ H x y v u Q I rx ry ⟨a, b, d, ha, hb, hf, q⟩
  unfold fEqW at hf
  split at hf
  · rename_i h
    rw [Bool.and_eq_true] at h
    obtain rfl := Option.some.inj hf
    obtain ⟨as, r1⟩ := Dp.reads I a x v (ha (Bool.and_eq_true_iff.mp h.1).1) rx
    obtain ⟨bs, r2⟩ := Dp.reads I b y u (hb (Bool.and_eq_true_iff.mp h.2).1) ry
    exact SeqAt.compareEq_reads r1 r2 (Bool.and_eq_true_iff.mp h.1).1 (Bool.and_eq_true_iff.mp h.2).1 (roomW h.1 hu) ⟨.bl _, H, I, rfl, q⟩
  · cases hf
theorem op_nePW (hu : X.A.units + 180 < cLine) : OpR X (compareOp .NotEq) (rBp X.K fNeW) := by
  intro pins s σ H x y v u Q I rx ry ⟨a, b, d, ha, hb, hf, q⟩
  unfold fNeW at hf
  split at hf
  · rename_i h
    rw [Bool.and_eq_true] at h
    obtain rfl := Option.some.inj hf
    obtain ⟨as, r1⟩ := Dp.reads I a x v (ha (Bool.and_eq_true_iff.mp h.1).1) rx
    obtain ⟨bs, r2⟩ := Dp.reads I b y u (hb (Bool.and_eq_true_iff.mp h.2).1) ry
    exact SeqAt.compareNe_reads r1 r2 (Bool.and_eq_true_iff.mp h.1).1 (Bool.and_eq_true_iff.mp h.2).1 (roomW h.1 hu) ⟨.bl _, H, I, rfl, q⟩
  · cases hf
theorem op_eqRW (hu : X.A.units + 180 < cLine) : OpR X (compareOp .Eq) (rB X.K fEqW) := by
  intro pins s σ H x y v u Q I rx ry ⟨a, b, d, ha, hb, hf, q⟩
  exact op_eqPW hu pins s σ H x y v u Q I rx ry ⟨a, b, d, ha.dp, hb.dp, hf, q⟩
theorem op_neRW (hu : X.A.units + 180 < cLine) : OpR X (compareOp .NotEq) (rB X.K fNeW) := by
  intro pins s σ H x y v u Q I rx ry ⟨a, b, d, ha, hb, hf, q⟩
  exact op_nePW hu pins s σ H x y v u Q I rx ry ⟨a, b, d, ha.dp, hb.dp, hf, q⟩
end
theorem got_none {β : Type} {m : MM D} {f : D → Option β} {ρ : En} {k : β → En → Prop} (h : ∀ y, f y = none) (g : Got (bdN m (fun y => lift (f y)) ρ) k) : False := by
  obtain ⟨y, ρ2, q, g2⟩ := got_bdN g
  obtain ⟨z, hz, _⟩ := got_lift g2
  rw [h y] at hz
  cases hz
/-! ### sep.join, text.split -/
def mBinN (f : D → D → Option D) (a b : MM D) : MM D := bd a fun x => bdN b fun y => lift (f x y)
def strsD : List D → Option (List Str)
  | [] => some []
  | .str a :: r => (strsD r).map (a :: ·)
  | _ => none
def fJoin : D → D → Option D
  | .str a, .list ds => (strsD ds).bind fun ys => if (ys.map (·.length)).sum + ys.length * a.length ≤ 16777216 then some (.str (Txt.join a ys)) else none
  | .str a, .tuple ds => (strsD ds).bind fun ys => if (ys.map (·.length)).sum + ys.length * a.length ≤ 16777216 then some (.str (Txt.join a ys)) else none
  | _, _ => none
theorem strs_df {K : Fg} {H : Hp} : ∀ {vs : List V} {ds : List D} {ys : List Str}, DfA K H vs ds → strsD ds = some ys → vs = ys.map V.str
  | _, _, ys, .nil, e => by
    obtain rfl : [] = ys := Option.some.inj e
    rfl
  | _, _, ys, .cons (d := d) h r, e => by
    cases d with
    | str b =>
      cases h
      obtain ⟨ys', e1, rfl⟩ := Option.map_eq_some_iff.mp (show (strsD _).map (b :: ·) = some ys from e)
      rw [strs_df r e1]
      rfl
    | _ => exact absurd e (by simp [strsD])
section
variable {X : Cx} {H0 : Hp} {P : List Addr} {pos apos : Pos} {a b e : Expr} {ma mb m : MM D}
theorem re_join (ho : PE X a (tR (wd X H0 P) ma)) (he : PE X b (tR (wd X H0 P) mb)) (hs : starEach [b] X.env = [(false, eval b X.env)] := by rfl) (hbase : attributeBase a "join" X.env (eval a X.env) = eval a X.env := by rfl) (hline : (apos.endLine == pos.line) = true := by rfl) :
    PE X (.Call (.Attribute a "join" apos) [b] [] pos) (tR (wd X H0 P) (mBinN fJoin ma mb)) :=
  weak (pe_join ho he hs hbase hline) fun σ H Q ⟨ρ, R, g⟩ => tR_bd R g fun v H1 d ρ1 go1 R1 d1 g1 => by
    cases d with
    | str z =>
      cases d1
      refine ⟨⟨z, rfl⟩, tR_bd R1 (got_unN g1) fun u H2 y ρ2 go2 R2 d2 g2 => ?_⟩
      obtain ⟨w, hw, k⟩ := got_lift g2
      cases y with
      | list ds =>
        obtain ⟨ys, h1, h2⟩ := Option.bind_eq_some_iff.mp (show (strsD ds).bind _ = some w from hw)
        split at h2
        · rename_i hz
          obtain rfl := Option.some.inj h2
          cases d2 with
          | lst f1 f2 =>
            have e1 := strs_df f2 h1
            subst e1
            exact ⟨z, _, ys, rfl, rfl, .inl f1.sq, hz, k _ H2 (go1.trans go2) R2 (.str _)⟩
        · cases h2
      | tuple ds =>
        obtain ⟨ys, h1, h2⟩ := Option.bind_eq_some_iff.mp (show (strsD ds).bind _ = some w from hw)
        split at h2
        · rename_i hz
          obtain rfl := Option.some.inj h2
          cases d2 with
          | tup f1 f2 t_f1 =>
            have e1 := strs_df f2 h1
            subst e1
            exact ⟨z, _, ys, rfl, rfl, .inr f1, hz, k _ H2 (go1.trans go2) R2 (.str _)⟩
        · cases h2
      | _ => cases hw
    | _ => exact (got_none (fun _ => rfl) g1).elim
/-! ### int(x) -/
/-! ### {..}[k] -/
end

/-! ### str(i), text * i -/
section
variable {X : Cx}
end
/-! ### y in G, G a written tuple of texts of the module's top -/
end Pu

namespace Pu
open PySem PySem.Spec PyProof.Rows L2
variable [Wish]
/-! ### tuple * i -/
section
variable {X : Cx}
/-! ### all([..]) -/
end
end Pu

namespace Pu
open PySem PySem.Spec PyProof.Rows L2
variable [Wish]
/-! ### sum of a list of numbers, min of two numbers, bool -/
section
variable {X : Cx}
end
end Pu

namespace Pu
open PySem PySem.Spec PyProof.Rows L2

/-! ### list(enumerate(tuple)), near the model -/
section
variable {prog : Program} {w : World} {A : Around} {E : Value → Shared → Prop} {s : Shared}
section
variable {q c : Addr} {fp : List Addr} {n i : Nat} {P : Nat → Value → Prop} {St : Nat → Heap → Prop}
end
end
end Pu

namespace Pu
open PySem PySem.Spec PyProof.Rows L2

section
variable {prog : Program} {w : World} {A : Around} {E : Value → Shared → Prop} {s : Shared} {R : Result → Shared → Prop}
/-- the pairs laid so far, from B on -/
def Prs (B : Addr) (P : Nat → Value → Prop) (h : Heap) (acc : Array Value) (i : Nat) : Prop :=
  acc = ((List.range i).map fun j => Value.ref (B + j)).toArray ∧ ∀ j, j < i → ∃ tk x, P j x ∧ h.get? (B + j) = some { cls := .type "tuple", data := .seq #[.int j tk, x] }
theorem Prs.push {B : Addr} {P : Nat → Value → Prop} {h h' : Heap} {acc : Array Value} {i tk : Nat} {x : Value} (p : Prs B P h acc i) (k : ∀ j, j < i → ∀ o, h.get? (B + j) = some o → h'.get? (B + j) = some o) (px : P i x)
    (g : h'.get? (B + i) = some { cls := .type "tuple", data := .seq #[.int i tk, x] }) : Prs B P h' (acc.push (.ref (B + i))) (i + 1) := by
  obtain ⟨e, f⟩ := p
  refine ⟨by rw [e, List.range_succ, List.map_append, List.push_toArray]; rfl, fun j hj => ?_⟩
  by_cases z : j = i
  · subst z; exact ⟨tk, x, px, g⟩
  · obtain ⟨tk', x', p', g'⟩ := f j (by omega)
    exact ⟨tk', x', p', k j (by omega) _ g'⟩
theorem Prs.size {B : Addr} {P : Nat → Value → Prop} {h : Heap} {acc : Array Value} {i : Nat} (p : Prs B P h acc i) : acc.size = i := by rw [p.1]; simp
theorem far {u B : Addr} (j : Nat) (h : u < B) : B + j ≠ u := Nat.ne_of_gt (Nat.lt_of_lt_of_le h (Nat.le_add_right _ _))
end
end Pu

namespace Pu
open PySem PySem.Spec PyProof.Rows L2

section
variable {X : Cx}
end
end Pu

namespace Pu
open PySem PySem.Spec PyProof.Rows L2
variable [Wish]

section
variable {X : Cx} {H0 : Hp} {P : List Addr} {e iter tg : Expr} {m : MM D}
end
end Pu

namespace Pu
open PySem PySem.Spec PyProof.Rows L2
variable [Wish]
/-! ### reversed(range(n)) -/
section
variable {prog : Program} {w : World} {A : Around} {E : Value → Shared → Prop} {s : Shared}
end
section
variable {X : Cx} {tg : Expr}
end
section
variable {X : Cx} {H0 : Hp} {P : List Addr} {tg : Expr}
end
end Pu

namespace Pu
open PySem PySem.Spec PyProof.Rows L2
variable [Wish]
/-! ### reversed(tuple) -/
section
variable {prog : Program} {w : World} {A : Around} {E : Value → Shared → Prop} {s : Shared}
end
section
variable {X : Cx} {tg : Expr}
end
section
variable {X : Cx} {H0 : Hp} {P : List Addr} {tg : Expr}
end
end Pu

namespace Pu
open PySem PySem.Spec PyProof.Rows L2
variable [Wish]
/-! ### generators are never forgotten -/
/-! ### a generator expression's life, by any predicate of the state -/
def prJ (Φ : Nat → Shared → Prop) (tr : Nat → Bool) (n : Nat) : Protocol := fun m _ v z kap => (v = .bool (tr (n - 1 - m)) ∧ Φ (n - m) z) ∧ ∀ z', Φ (n - m) z' → kap (.send .none) z'
def enJ (Fn : Shared → Prop) : GenEnd := fun m _ r z => r = .ok .next ∧ (m = 0 ∧ Fn z)
section
variable {prog : Program} {w : World} {A : Around} {elt iter : Expr} {y : Str} {py gpos : Pos} {scope : Scope} {it a : Addr} {cenv : Env} {n g : Nat} {Φ : Nat → Shared → Prop} {Fn : Shared → Prop} {tr : Nat → Bool}
/-- the generator ahead of its item j -/
structure StJ (prog : Program) (w : World) (A : Around) (g : Nat) (Φ : Nat → Shared → Prop) (Fn : Shared → Prop) (tr : Nat → Bool) (n j : Nat) (z : Shared) : Prop where
  st : Φ j z
  gs : ∃ gs, z.gens[g]? = some gs ∧ ∀ z', Φ j z' → gs.Goes (model prog w) A.in1 (enJ Fn) (prJ Φ tr n) (n - j) (.send .none) z'
/-- what a state predicate must allow -/
structure OkJ (a : Addr) (g : Nat) (Φ : Nat → Shared → Prop) (Fn En : Shared → Prop) : Prop where
  set : ∀ j z x, Φ j z → x.bare = true → Φ j (z.setGen g x)
  gen : ∀ j z, Φ j z → z.heap.IsGen a g ∧ z.heap.NoLimit ∧ g < z.gens.size
  mid : ∀ j z, Φ j z → En z
  fin : ∀ z h', Fn z → (∀ b o, z.heap.get? b = some o → h'.get? b = some o) → En { z.setGen g .finished with heap := h' }
end
end Pu

namespace Pu
open PySem PySem.Spec PyProof.Rows L2
variable [Wish]
theorem Inv.gens {X : Cx} {pins : List (Addr × Obj)} {σ : L2.St} {H : Hp} {s : Shared} {gg : Array GenState} (I : Inv X pins σ H s) (hb : AllBare gg) : Inv X pins σ H { s with gens := gg } :=
  ⟨I.ok, I.os, hb, I.base, I.loc, I.cell, I.free, I.freeC, I.pin, I.hok, I.len⟩
section
variable {X : Cx} {pins : List (Addr × Obj)} {σ : L2.St} {H : Hp} {s : Shared}
end
section
variable {X : Cx} {H0 : Hp} {P : List Addr} {pos p py gpos : Pos} {T : List Addr} {y : Str} {iter elt : Expr} {scope : Scope} {me : MM D} {ms : MM (List D)} {wi : TI} {k : Nat}
end
end Pu

namespace Pu
open PySem PySem.Spec PyProof.Rows L2
variable [Wish]
/-! ### a dict at a name: d[e], e in d, e not in d; f(dict(e), ..) -/
theorem DfK.sm {K : Fg} {H : Hp} {k : Str} : ∀ {vs : List (Key × V)} {ds : List (Str × D)}, DfK K H vs ds → (valV vs (Sum.inr k)).isSome = (valD ds k).isSome
  | _, _, .nil => rfl
  | _, _, .cons (k := k') h r => by
    have ih := DfK.sm (k := k) r
    unfold valV valD at ih ⊢
    rw [List.find?_cons, List.find?_cons]
    show (Option.map _ (match decide ((Sum.inr k' : Key) = Sum.inr k) with | true => _ | false => _)).isSome = _
    rw [inr_eq]
    cases decide (k' = k) with
    | true => rfl
    | false => exact ih
section
variable {X : Cx} {H0 : Hp} {P : List Addr} {pos p1 : Pos} {x : Str} {e : Expr} {m : MM D}
variable {k n : Nat} {f : Addr} {fd : FuncData} {ps : List Str} {mf : List (Str × D) → List D → ReS} {es : List Expr} {mr : MM (List D)} {p : Pos}
end
/-! ### x in s, s a list or a tuple, by the things' data -/
end Pu

namespace Pu
open PySem PySem.Spec PyProof.Rows L2
variable [Wish]
/-! ### repr of plain data -/
end Pu

namespace Pu
open PySem PySem.Spec PyProof.Rows L2
variable [Wish]
/-! ### sets of texts -/
section
variable {W : Wd} {ρ : En} {σ : L2.St} {H H' : Hp}
end
section
variable {X : Cx} {H0 : Hp} {P : List Addr} {pos p1 : Pos} {x : Str} {e : Expr} {m : MM D}
end
end Pu

namespace Pu
open PySem PySem.Spec PyProof.Rows L2
variable [Wish]
/-! ### e in a name's own list of texts; its .count(text) -/
section
variable {X : Cx} {H0 : Hp} {P : List Addr} {pos p1 : Pos} {x : Str} {e : Expr} {m : MM D}
end
end Pu

namespace Pu
open PySem PySem.Spec PyProof.Rows L2
variable [Wish]
/-! ### tuple * 0 -/
section
variable {X : Cx}
end
end Pu

namespace L2
open PySem PySem.Spec PyProof.Rows
/-! ### dict(pairs) whose keys are tuples -/
section
variable {prog : Program} {w : World} {A : Around} {E : Value → Shared → Prop}
end
end L2
namespace Pu
open PySem PySem.Spec PyProof.Rows L2
variable [Wish]
/-! ### a dict whose keys are tuples of ints and texts, never changed: x = dict(e), x[k], k in x, k not in x -/
def valF (kvs : List (List Key × D)) (k : List Key) : Option D := (kvs.find? fun kv => decide (kv.1 = k)).map (·.2)
def putF (kvs : List (List Key × D)) (k : List Key) (d : D) : List (List Key × D) := if (kvs.any fun kv => decide (kv.1 = k)) = true then kvs.map (fun kv => if kv.1 = k then (kv.1, d) else kv) else kvs ++ [(k, d)]
theorem DfT.val {K : Fg} {H : Hp} {k : List Key} {d : D} : ∀ {vs : List (List Key × V)} {ds : List (List Key × D)}, DfT K H vs ds → valF ds k = some d → ∃ v, valV vs k = some v ∧ Df K H v d
  | _, _, .nil, e => by cases e
  | _, _, .cons (k := k') (v := v') (d := d') h r, e => by
    unfold valF at e
    rw [List.find?_cons] at e
    by_cases q : k' = k
    · rw [decide_eq_true q] at e
      cases e
      exact ⟨v', valV_pos q, h⟩
    · rw [decide_eq_false q] at e
      obtain ⟨v, h1, h2⟩ := DfT.val r e
      exact ⟨v, by rw [valV_neg q]; exact h1, h2⟩
theorem DfT.sm {K : Fg} {H : Hp} {k : List Key} : ∀ {vs : List (List Key × V)} {ds : List (List Key × D)}, DfT K H vs ds → (valV vs k).isSome = (valF ds k).isSome
  | _, _, .nil => rfl
  | _, _, .cons (k := k') h r => by
    unfold valF
    rw [List.find?_cons]
    by_cases q : k' = k
    · rw [decide_eq_true q, valV_pos q]
      rfl
    · rw [decide_eq_false q, valV_neg q]
      exact DfT.sm r
theorem DfT.repl {K : Fg} {H : Hp} {k : List Key} {v : V} {d : D} (h : Df K H v d) : ∀ {vs : List (List Key × V)} {ds : List (List Key × D)}, DfT K H vs ds → DfT K H (vs.map fun kv => if kv.1 = k then (kv.1, v) else kv) (ds.map fun kv => if kv.1 = k then (kv.1, d) else kv)
  | _, _, .nil => .nil
  | _, _, .cons (k := k') h' r => by
    rw [List.map_cons, List.map_cons]
    by_cases q : k' = k
    · rw [if_pos q, if_pos q]; exact .cons h (DfT.repl h r)
    · rw [if_neg q, if_neg q]; exact .cons h' (DfT.repl h r)
theorem DfT.snoc {K : Fg} {H : Hp} {k : List Key} {v : V} {d : D} (h : Df K H v d) : ∀ {vs : List (List Key × V)} {ds : List (List Key × D)}, DfT K H vs ds → DfT K H (vs ++ [(k, v)]) (ds ++ [(k, d)])
  | _, _, .nil => .cons h .nil
  | _, _, .cons h' r => .cons h' (DfT.snoc h r)
theorem DfT.anyK {K : Fg} {H : Hp} {k : List Key} : ∀ {vs : List (List Key × V)} {ds : List (List Key × D)}, DfT K H vs ds → (vs.any fun kv => decide (kv.1 = k)) = (ds.any fun kv => decide (kv.1 = k))
  | _, _, .nil => rfl
  | _, _, .cons h r => by rw [List.any_cons, List.any_cons, DfT.anyK r]
theorem DfT.put {K : Fg} {H : Hp} {k : List Key} {v : V} {d : D} (h : Df K H v d) {vs : List (List Key × V)} {ds : List (List Key × D)} (r : DfT K H vs ds) : DfT K H (putK vs k v) (putF ds k d) := by
  unfold putK putF
  rw [r.anyK]
  by_cases q : (ds.any fun kv => decide (kv.1 = k)) = true
  · rw [if_pos q, if_pos q]; exact r.repl h
  · rw [if_neg q, if_neg q]; exact r.snoc h
section
variable {X : Cx} {H0 : Hp} {P : List Addr} {pos p1 p2 : Pos} {x : Str} {a b e : Expr} {ma mb m : MM D}
end
end Pu

namespace L2
open PySem PySem.Spec PyProof.Rows
section
variable {X : Cx} {pos : Pos}
end
end L2
namespace Pu
open PySem PySem.Spec PyProof.Rows L2
variable [Wish]
end Pu

namespace L2
open PySem PySem.Spec PyProof.Rows
/-! ### sorted(xs), xs a list or a tuple of texts -/
section
variable {prog : Program} {w : World} {A : Around} {E : Value → Shared → Prop} {s : Shared}
end
end L2
namespace Pu
open PySem PySem.Spec PyProof.Rows L2
variable [Wish]
/-! ### the order of texts -/
section
variable {X : Cx} {H0 : Hp} {P : List Addr} {pos p1 p2 : Pos} {x : Str} {a b e : Expr} {ma mb m : MM D}
variable {es : List Expr} {mr : MM (List D)} {p : Pos} {id : String}
/-! ### e.count(text), e any list of texts -/
end
end Pu

namespace L2
open PySem PySem.Spec PyProof.Rows
section
variable {prog : Program} {w : World} {A : Around} {E : Value → Shared → Prop}
end
end L2
namespace Pu
open PySem PySem.Spec PyProof.Rows L2
variable [Wish]
section
variable {X : Cx} {H0 : Hp} {P : List Addr} {pos p1 p2 : Pos} {x : Str} {a b e : Expr} {ma mb m : MM D}
/-! ### dict(e)[k], the keys tuples, e a list or a tuple of pairs -/
/-! ### name = dict(e), the keys texts -/
end
end Pu

namespace Pu
open PySem PySem.Spec PyProof.Rows L2
variable [Wish]
/-! ### a list that a def may change for its caller -/
section
variable {W : Wd} {ρ : En} {σ : L2.St} {H H' : Hp}
end
/-! ### what a def with such a list promises -/
inductive ReB where
  | ok (r : RV) (bs : List D) | no
section
variable {Pr : Program} {w : World} {K : PySem.W.Frag} {mg : Str → Option Value} {base : Heap}
end
section
variable {X : Cx} {H0 : Hp} {P : List Addr} {pos : Pos} {e b : Expr} {m mb : MM D} {ml : MM (List D)} {x y : Str} {p1 p : Pos} {k n : Nat} {f : Addr} {fd : FuncData} {ps : List Str} {mf : List D → List D → ReB} {es : List Expr} {mr : MM (List D)}
/-! ### its items -/
theorem DfA.set {K : Fg} {H : Hp} {v : V} {d : D} (hv : Df K H v d) : ∀ {vs : List V} {ds : List D} (n : Nat), DfA K H vs ds → DfA K H (vs.set n v) (ds.set n d)
  | _, _, _, .nil => .nil
  | _, _, 0, .cons h r => .cons hv r
  | _, _, n + 1, .cons h r => .cons h (DfA.set hv n r)
end
end Pu

namespace Pu
open PySem PySem.Spec PyProof.Rows L2
variable [Wish]
/-! ### list(range(e)) -/
section
variable {X : Cx}
variable {H0 : Hp} {P : List Addr} {e : Expr} {m : MM D}
end
end Pu

namespace Pu
open PySem PySem.Spec PyProof.Rows L2
variable [Wish]
/-! ### xs[::-1] of a list -/
section
variable {X : Cx} {e es : Expr} {te ts : TE} {pos p2 : Pos}
variable {H0 : Hp} {P : List Addr} {m ms : MM D}
end
end Pu

namespace L2
open PySem PySem.Spec PyProof.Rows
/-! ### a dict comprehension whose keys are tuples -/
section
variable {X : Cx} {pins : List (Addr × Obj)} {σ : St} {H : Hp} {s : Shared}
end
section
variable {X : Cx}
end
end L2
namespace Pu
open PySem PySem.Spec PyProof.Rows L2
variable [Wish]
theorem DfT.length {K : Fg} {H : Hp} : ∀ {vs : List (List Key × V)} {ds : List (List Key × D)}, DfT K H vs ds → vs.length = ds.length
  | _, _, .nil => rfl
  | _, _, .cons _ r => congrArg (· + 1) (DfT.length r)
section
variable {W : Wd} {ρ : En} {σ : L2.St} {H : Hp}
end
section
variable {X : Cx} {H0 : Hp} {P : List Addr} {pos : Pos} {tg iter kx vx : Expr} {ifs : List Expr} {scope : Scope} {own : List (Str × Nat)} {wi : TI} {g : TG} {is : List Nat} {f : D → En → Option En} {ms : MM (List D)} {mt : MM Bool} {mk mv : MM D}
end
end Pu

namespace Pu
open PySem PySem.Spec PyProof.Rows L2
variable [Wish]

/-! ### f'..' -/
abbrev TJ := Str → L2.St → Hp → (Str → Hp → Prop) → Prop
def PJ (X : Cx) (es : List Expr) (t : TJ) : Prop :=
  ∀ (pins : List (Addr × Obj)) (s : Shared) (σ : L2.St) (H : Hp) (acc : Str) (Q : Str → Hp → Prop) (k : Str → Shared → Prop), Inv X pins σ H s → t acc σ H Q →
    (∀ out s' H', Inv X pins σ H' s' → out.length ≤ sizeLine → Q out H' → k out s') → Joins (model X.prog X.w) X.A X.xe (evalEach es X.env) acc k s
def tJ (W : Wd) (m : Str → MM Str) : TJ := fun acc σ H Q => ∃ ρ, Rel W ρ σ H ∧ Got (m acc ρ) fun out ρ' => ∀ H', Go ρ ρ' σ H H' → Rel W ρ' σ H' → Q out H'
def jN : Str → MM Str := fun acc => lift (if sized acc.length then some acc else none)
def jC (x : Str) (r : Str → MM Str) : Str → MM Str := fun acc => bd (lift (if sized (acc ++ x).length then some (acc ++ x) else none)) r
def fmD : D → Option Str
  | .str x => if sized x.length then some x else none
  | .int i => if i.natAbs.log2 < 1920 then some (toString i) else none
  | _ => none
def jV (m : MM D) (r : Str → MM Str) : Str → MM Str := fun acc => bd m fun d => bd (lift (fmD d)) fun y => jC y r acc
def mFs (j : Str → MM Str) : MM D := bd (j Str.empty) fun out => pu (.str out)
section
variable {X : Cx} {H0 : Hp} {P : List Addr} {e : Expr} {es : List Expr} {m : MM D} {r : Str → MM Str} {pos : Pos}
theorem rj_nil : PJ X [] (tJ (wd X H0 P) jN) := by
  intro pins s σ H acc Q k I ⟨ρ, R, g⟩ hk
  obtain ⟨a, ha, g1⟩ := got_lift g
  split at ha
  · rename_i hz
    obtain rfl := Option.some.inj ha
    exact hk _ _ H I (of_sized hz) (g1 H .refl R)
  · cases ha
theorem rj_str {x : Str} {j} (h : PJ X es (tJ (wd X H0 P) r)) : PJ X (.Constant (.str x) j pos :: es) (tJ (wd X H0 P) (jC x r)) := by
  intro pins s σ H acc Q k I ⟨ρ, R, g⟩ hk
  replace g := got_bd g
  obtain ⟨a, ha, g1⟩ := got_lift g
  split at ha
  · rename_i hz
    obtain rfl := Option.some.inj ha
    exact Calls.Constant_str ⟨x, _, rfl, of_sized hz, h pins _ σ H _ Q k (I.tok _) ⟨ρ, R, g1⟩ hk⟩
  · cases ha
theorem rj_val (he : PE X e (tR (wd X H0 P) m)) (h : PJ X es (tJ (wd X H0 P) r)) : PJ X (.FormattedValue e (-1) none pos :: es) (tJ (wd X H0 P) (jV m r)) := by
  intro pins s σ H acc Q k I ⟨ρ, R, g⟩ hk
  refine wpAny_FormattedValue_plain (thn (he pins s σ H (fun v H1 => ∃ d ρ1, Go ρ ρ1 σ H H1 ∧ Rel (wd X H0 P) ρ1 σ H1 ∧ Df X.K H1 v d ∧ Got ((bd (lift (fmD d)) fun y => jC y r acc) ρ1) fun out ρ' => ∀ H', Go ρ ρ' σ H H' → Rel (wd X H0 P) ρ' σ H' → Q out H') I
    (tR_bd R g fun v H1 d ρ1 go R1 d1 g1 => ⟨d, ρ1, go, R1, d1, g1⟩)) fun u s1 ⟨v, H1, I1, r1, d, ρ1, go, R1, d1, g1⟩ => ?_)
  obtain ⟨y, hy, g2⟩ := got_lift (got_bd g1)
  replace g2 := got_bd g2
  obtain ⟨a, ha, g3⟩ := got_lift g2
  split at ha
  · rename_i hz
    obtain rfl := Option.some.inj ha
    have fin : ∀ s2, Inv X pins σ H1 s2 → Joins (model X.prog X.w) X.A X.xe (evalEach es X.env) (acc ++ y) k s2 := fun s2 I2 =>
      h pins s2 σ H1 _ Q k I2 ⟨ρ1, R1, got_imp g3 fun out ρ' q H' go' R' => q H' (go.trans go') R'⟩ hk
    cases d1 with
    | str x =>
      obtain ⟨t, rfl⟩ := r1
      replace hy : (if sized x.length then some x else none) = some y := hy
      split at hy
      · rename_i hx
        obtain rfl := Option.some.inj hy
        exact wpAny_formatField_str ⟨_, _, rfl, of_sized hz, fin _ I1⟩ ⟨_, _, rfl, of_sized hz, fin _ (I1.tok _)⟩ (of_sized hx)
      · cases hy
    | int i =>
      obtain ⟨t, rfl⟩ := r1
      replace hy : (if i.natAbs.log2 < 1920 then some (toString i : Str) else none) = some y := hy
      split at hy
      · rename_i hx
        obtain rfl := Option.some.inj hy
        exact wpAny_formatField_int hx ⟨_, _, rfl, of_sized hz, fin _ ((I1.tok _).tok _)⟩
      · cases hy
    | non => cases hy
    | bl b => cases hy
    | lst _ _ => cases hy
    | tup _ _ _ => cases hy
    | exc _ _ _ _ => cases hy
  · cases ha
theorem re_fs {v1 v2 : Expr} {rest : List Expr} (h : PJ X (v1 :: v2 :: rest) (tJ (wd X H0 P) r)) : PE X (.JoinedStr (v1 :: v2 :: rest) pos) (tR (wd X H0 P) (mFs r)) := by
  intro pins s σ H Q I ⟨ρ, R, g⟩
  exact wpAny_JoinedStr (h pins s σ H Str.empty (fun out H' => Q (.str out) H') _ I ⟨ρ, R, got_imp (got_bd g) fun out ρ' q H' go R' => q (.str out) H' go R' (.str _)⟩ fun out s' H' I' hl q => ⟨hl, .str out, H', I'.tok _, ⟨_, rfl⟩, q⟩)
/-! ### try, where nothing is raised -/
/-! ### range(a, b) -/
/-! ### enumerate(list) -/
/-! ### names in brackets in brackets -/
def PGmf (X : Cx) (H0 : Hp) (P : List Addr) (ts : List Expr) (g : TGs) (is : List Nat) (f : List D → En → Option En) (n : Nat) : Prop :=
  PGs X ts g ∧ (∀ ds ρ ρ', f ds ρ = some ρ' → ds.length = n) ∧ ∀ vs ds ρ ρ' σ H Q, Rel (wd X H0 P) ρ σ H → DfA X.K H vs ds → f ds ρ = some ρ' → (∀ σ', Rel (wd X H0 P) ρ' σ' H → (∀ ws : List Nat, (∀ i ∈ is, i ∈ ws) → wipe σ' ws = wipe σ ws) → Q σ' H) → g vs σ H Q
end
end Pu

namespace Pu
open PySem PySem.Spec PyProof.Rows L2
variable [Wish]
/-! ### a def that may change a list and a dict of its caller: f(box, some, ..) -/
inductive ReM where
  | ok (r : RV) (bs : List D) (kvs : List (Str × D)) | no
section
variable {Pr : Program} {w : World} {K : PySem.W.Frag} {mg : Str → Option Value} {base : Heap}
end
section
variable {X : Cx} {H0 : Hp} {P : List Addr} {pos : Pos} {e b : Expr} {m mb : MM D} {x y y2 : Str} {p1 p2 p : Pos} {k n : Nat} {f : Addr} {fd : FuncData} {ps : List Str} {mf : List D → List (Str × D) → List D → ReM} {es : List Expr} {mr : MM (List D)}
/-! ### text.lower() -/
end
end Pu

namespace Pu
open PySem PySem.Spec PyProof.Rows L2
variable [Wish]
/-! ### xs[::-1] of a tuple -/
section
variable {prog : Program} {w : World} {A : Around} {E : Value → Shared → Prop} {s : Shared}
end
section
variable {X : Cx} {e es : Expr} {te ts : TE} {pos p2 : Pos}
variable {H0 : Hp} {P : List Addr} {m ms : MM D}
end
end Pu

namespace Pu
open PySem PySem.Spec PyProof.Rows L2
variable [Wish]
/-! ### zip(tuple, list), near the model -/
section
variable {prog : Program} {w : World} {A : Around} {E : Value → Shared → Prop} {s : Shared}
end
end Pu

namespace Pu
open PySem PySem.Spec PyProof.Rows L2
variable [Wish]
/-! ### zip(tuple, list) is made -/
section
variable {prog : Program} {w : World} {A : Around} {E : Value → Shared → Prop} {s : Shared}
end
/-! ### for x, y in zip(tuple, list), by data -/
section
variable {X : Cx} {H0 : Hp} {P : List Addr}
/-! ### not e, as a value, of anything -/
variable {a : Expr} {ta : TE} {ma : MM D} {pos : Pos}
end
end Pu

namespace Pu
open PySem PySem.Spec PyProof.Rows L2
variable [Wish]
/-! ### a generator expression whose part reads one name of the def (its cell) -/
section
variable {X : Cx} {pins : List (Addr × Obj)} {σ : L2.St} {H : Hp} {s : Shared}
end
section
variable {X : Cx} {H0 : Hp} {P : List Addr} {pos p py gpos : Pos} {T : List Addr} {y f : Str} {i : Nat} {iter elt : Expr} {scope : Scope} {me : MM D} {ms : MM (List D)} {wi : TI} {k : Nat}
end
end Pu

namespace Pu
open PySem PySem.Spec PyProof.Rows L2
variable [Wish]
section
variable {X : Cx} {H0 : Hp} {P : List Addr} {pos : Pos} {e e2 : Expr} {m m2 : MM D}
/-! ### text.upper() -/
/-! ### text.strip(text) -/
end
end Pu

namespace Pu
open PySem PySem.Spec PyProof.Rows L2
variable [Wish]
/-! ### an own error object made -/
def addD (ds : List D) : List (Str × Nat) → List (Str × D) → List (Str × D)
  | [], fs => fs
  | (f, i) :: l, fs => addD ds l ((f, ds.getD i .none) :: fs)
/-- what is made: the class, the fields; mt: the text of super().__init__ -/
def xF (cls : Str) (n : Nat) (l : List (Str × Nat)) (mt : MM D) (ds : List D) : Option XD := if ds.length + 1 = n then (match mt (none :: ds.map fun d => some (.imm d)) with
  | .ok (.str _) _ => some ⟨cls, addD (.none :: ds) l []⟩
  | _ => none) else none
def ErrMk (Pr : Program) (w : World) (K : Fg) (mg : Str → Option Value) (base : Heap) (k : Nat) (C : Addr) (f : List D → Option XD) : Prop :=
  ∀ (X : Cx) (pins : List (Addr × Obj)) (σ : L2.St) (H : Hp) (s : Shared) (vs : List V) (us : List Value) (ds : List D) (c : XD), X.prog = Pr → X.w = w → X.K = K → X.mg = mg → X.base = base → Room k X.A → Inv X pins σ H s → Vals vs us → DfA K H vs ds → f ds = some c →
    wpAny (model X.prog X.w) X.A (call (.ref C) us) (fun u s' => ∃ e dx fs t1 sl H2, u = .ref e ∧ Inv X pins σ H2 s' ∧ Same H H2 ∧ H e = none ∧ H dx = none ∧ dx ≠ e ∧ s.heap.objs.size ≤ e ∧ s.heap.objs.size ≤ dx ∧
      H2 e = some (.ext (Ex.exAt e C dx)) ∧ H2 dx = some (.ext (Ex.xdAt dx fs)) ∧ DfF K H2 fs c.fs ∧ Ex.ExK K C c.cls ∧ s'.heap.get? e = some (Ex.newE C dx t1 sl)) X.xe s
theorem ErrMk.mono {Pr : Program} {w : World} {K : Fg} {mg : Str → Option Value} {base : Heap} {j k : Nat} {C : Addr} {f : List D → Option XD} (M : ErrMk Pr w K mg base j C f) (h : j ≤ k) : ErrMk Pr w K mg base k C f :=
  fun X pins σ H s vs us ds c e1 e2 e3 e4 e5 hr => M X pins σ H s vs us ds c e1 e2 e3 e4 e5 (hr.mono h)
theorem addF_ok {K : Fg} {H : Hp} {vs : List V} {ds : List D} (h : DfA K H vs ds) (x : V) : ∀ (l : List (Str × Nat)) (fs : List (Str × V)) (gs : List (Str × D)), (∀ p ∈ l, 1 ≤ p.2 ∧ p.2 < vs.length + 1) → DfF K H fs gs → DfF K H (Ex.addFs (x :: vs) l fs) (addD (.none :: ds) l gs)
  | [], _, _, _, q => q
  | (f, i) :: l, fs, gs, hl, q => by
    unfold Ex.addFs addD
    refine addF_ok h x l _ _ (fun p hp => hl p (List.mem_cons_of_mem _ hp)) (.cons ?_ q)
    obtain ⟨h1, h2⟩ := hl (f, i) List.mem_cons_self
    obtain ⟨j, rfl⟩ : ∃ j, i = j + 1 := ⟨i - 1, by dsimp only at h1; omega⟩
    have hj : j < ds.length := by rw [← h.length]; dsimp only at h2; omega
    obtain ⟨v, e1, e2⟩ := h.get (List.getElem?_eq_getElem hj)
    have g1 : (x :: vs).getD (j + 1) .non = v := by simp [List.getD, e1]
    have g2 : (PyData.none :: ds).getD (j + 1) .none = ds[j] := by simp [List.getD, hj]
    rw [g1, g2]
    exact e2
/-- slot 0 is the object itself: nothing is said of it -/
theorem rel_init {K : Fg} {H : Hp} {vs : List V} {ds : List D} {x : V} (h : DfA K H vs ds) : Rel ⟨K, H, []⟩ (none :: ds.map fun d => some (.imm d)) ((x :: vs).map some) H where
  len := by simp [h.length]
  sl := fun i s e => by
    cases i with
    | zero => simp at e
    | succ i =>
      simp only [List.getElem?_cons_succ, List.getElem?_map] at e
      cases q : ds[i]? with
      | none => rw [q] at e; cases e
      | some d =>
        rw [q] at e
        cases e
        obtain ⟨v, h1, h2⟩ := h.get q
        exact ⟨v, by simp [h1], h2⟩
  stb := .refl H
  kp := fun b o e _ => e
  dis := fun i j s s' a n e1 e2 o1 o2 => by
    cases i with
    | zero => simp at e1
    | succ i =>
      simp only [List.getElem?_cons_succ, List.getElem?_map] at e1
      cases q : ds[i]? with
      | none => rw [q] at e1; cases e1
      | some d => rw [q] at e1; cases e1; cases o1
  par := fun k p e => by simp at e
  pdk := fun p e => nomatch e
section
variable {Pr : Program} {w : World} {K : Fg} {mg : Str → Option Value} {base : Heap} {N : List Str} {qual slf cls : Str} {params : Arguments} {scope : Scope} {fI cda cc C G NC NG : Addr} {l : List (Str × Nat)} {body : List Stmt} {p0 p1 apos cpos pos : Pos} {tx : Expr} {k : Nat}
  {kV doc pm ct : Value} {an : Option Addr} {mt : MM D}
theorem err_mk (Z : Ex.ErrK Pr K mg C G NC NG fI cc cda (PySem.W.ksFn "__init__" qual params (.Expr (.Call (.Attribute (.Call (.Name "super" p0) [] [] p1) "__init__" apos) [tx] [] cpos) pos :: body) scope .none kV doc pm an (.ref cda) ct cc) qual scope slf cls)
    (ZX : Ex.ExK K C cls) (S : Ex.IScope N scope) (hcode : PySem.W.codeIn K (.ref cda) qual = true) (hb : Binds K (PySem.W.ksFn "__init__" qual params (.Expr (.Call (.Attribute (.Call (.Name "super" p0) [] [] p1) "__init__" apos) [tx] [] cpos) pos :: body) scope .none kV doc pm an (.ref cda) ct cc) N []) (hcel : ∀ x ∈ scope.names, x.2 ≠ .cell) (hco : scope.isCoroutine = false) (hgen : scope.isGenerator = false)
    (h0 : N[0]? = some slf) (d1 : (slf == ("__debug__" : Str)) = false) (d2 : (slf == ("__classdict__" : Str)) = false) (St : ∀ L, Ex.Stores N slf (Ex.ieEnv qual scope L fI cda cc) body l) (hne : l ≠ []) (hz : l.length ≤ 100) (hN : N.length ≤ 100)
    (hf : ∀ p ∈ l, PySem.W.findIn K (.ref C) p.1 = some none) (hl : ∀ p ∈ l, 1 ≤ p.2 ∧ p.2 < N.length) (hset : PySem.W.findIn K (.ref C) "__setattr__" = some (some (.builtin "object.__setattr__")))
    (hT : ∀ (X : Cx) (A' : Around) (L : Addr) (s : Shared) (H : Hp), X.mg = mg → X.K = K → Room k (A'.deeper (Ex.ieEnv qual scope L fI cda cc)) → PE (Ex.cxI X A' N (Ex.ieEnv qual scope L fI cda cc) s H) tx (tR ⟨X.K, H, []⟩ mt)) (hst : ∀ L, starEach [tx] (Ex.ieEnv qual scope L fI cda cc) = [(false, eval tx (Ex.ieEnv qual scope L fI cda cc))])
    (hev : ∀ L, eval (.Call (.Attribute (.Call (.Name "super" p0) [] [] p1) "__init__" apos) [tx] [] cpos) (Ex.ieEnv qual scope L fI cda cc) = (do
      let ov ← attributeBase (.Call (.Name "super" p0) [] [] p1) "__init__" (Ex.ieEnv qual scope L fI cda cc) (eval (.Call (.Name "super" p0) [] [] p1) (Ex.ieEnv qual scope L fI cda cc))
      standAt apos.atName
      let (f, first) ← holding [ov] (getMethod ov "__init__" (pure false))
      callWith cpos f first (backTo cpos (starEach [tx] (Ex.ieEnv qual scope L fI cda cc))) []))
    (hsw : ∀ L, swapsWith (.Call (.Attribute (.Call (.Name "super" p0) [] [] p1) "__init__" apos) [tx] [] cpos) none pos.line (Ex.ieEnv qual scope L fI cda cc) = pure false) :
    ErrMk Pr w K mg base (k + 2) C (xF cls N.length l mt) := by
  intro X pins σ H s vs us ds c e1 e2 e3 e4 e5 hr I r hd hc
  subst e1 e2 e3 e4 e5
  unfold xF at hc
  split at hc
  · rename_i hlen
    split at hc
    · rename_i x ρ' hmt
      obtain rfl := Option.some.inj hc
      refine wpAny_mono (Ex.exc_call (RR := fun _ => True) Z S hcode hb hcel hco hgen h0 (by rw [hd.length]; exact hlen) d1 d2 hr St hne hz hN hf hset (fun A' L hr' => hT X A' L s H rfl rfl hr') hst hev hsw I r (fun e => ?_)) (fun u s' h => ?_) fun _ _ z => z
      · refine ⟨_, rel_init hd, ?_⟩
        rw [hmt]
        refine fun v H' go R' dv => ⟨?_, fun b o q => go.fr b o q fun j s' z o' => ?_, trivial⟩
        · cases dv with
          | str _ => exact ⟨_, rfl⟩
        · cases j with
          | zero => simp at z
          | succ j =>
            simp only [List.getElem?_cons_succ, List.getElem?_map] at z
            cases q : ds[j]? with
            | none => rw [q] at z; cases z
            | some d => rw [q] at z; cases z; cases o'
      · obtain ⟨e, dx, t1, sl, H0, H2, a1, a2, a3, _, a5, a6, a7, a8, a9, a10, a11, a12, a13⟩ := h
        have sm : Same H H2 := by
          rw [a12]
          exact a3.trans ((same_upd a6 _).trans (same_upd (by rw [upd_ne (Ne.symm a9)]; exact a5) _))
        refine ⟨e, dx, _, t1, sl, H2, a1, a2, sm, a7, a8, a9, a10, a11, by rw [a12, upd_same], by rw [a12, upd_ne a9, upd_same], ?_, ZX, a13⟩
        exact addF_ok (hd.mono (.same sm)) (.ref e) l [] [] (fun p hp => by rw [hd.length, hlen]; exact hl p hp) .nil
    · cases hc
  · cases hc
end
end Pu

namespace Pu
open PySem PySem.Spec PyProof.Rows L2
/-! ### an error in flight, against a context -/
structure Flies (X : Cx) (H0 : Hp) (pins : List (Addr × Obj)) (H : Hp) (s : Shared) (e : Addr) (c : XD) : Prop where
  ex : ∃ (z : Nat) (C dx : Addr) (fs : List (Str × V)) (fl : Option Value), Ex.Below X pins z ∧ z ≤ s.heap.objs.size ∧ z ≤ e ∧ (z ≤ dx ∧ ∀ b, z ≤ b → H0 b = none) ∧ H e = some (.ext (Ex.exAt e C dx)) ∧ H dx = some (.ext (Ex.xdAt dx fs)) ∧ DfF X.K H fs c.fs ∧ Ex.ExK X.K C c.cls ∧ (fl = none ∨ fl = some .none) ∧ Ex.TbOk z H s.heap e fl
/-- what the mirror wishes of an error is what the context wants -/
structure WX [Wish] (X : Cx) (H0 : Hp) (P : List Addr) : Prop where
  own : Ex.Own X
  hd : X.A.handled = none
  go : ∀ (c : XD) (ρ : En) (pins : List (Addr × Obj)) (σ : L2.St) (H : Hp) (s : Shared) (e : Addr), Wish.x c ρ → Inv X pins σ H s → Rel (wd X H0 P) ρ σ H → Flies X H0 pins H s e c → X.xe (.ref e) s
/-- what a def that may raise promises -/
inductive Rx where
  | ok (r : RV) | ex (c : XD) | no
section
variable {Pr : Program} {w : World} {K : Fg} {mg : Str → Option Value} {base : Heap}
end
end Pu

namespace Pu
open PySem PySem.Spec PyProof.Rows L2
section
variable [Wish] {X : Cx} {H0 : Hp} {P : List Addr} {x : Str} {p np cpos pos : Pos} {e : Expr} {es : List Expr} {mr : MM (List D)} {k n : Nat} {f C : Addr} {fd : FuncData} {ps : List Str}
end
end Pu

namespace Pu
open PySem PySem.Spec PyProof.Rows L2
/-! ### except C as n -/
/-- D is the error class named d, an own one -/
def CatchK (K : Fg) (d : Str) (D : Addr) : Prop := PySem.W.nsIn K mainGlobals d = some (some (.ref D)) ∧ ∃ (dd : Option Addr) (cd : ClassData) (sl : Array (Option Value)), K.lookup D = some ⟨.type "type", dd, .cls cd, sl⟩ ∧ cd.name = d ∧ cd.mro.contains (.type "BaseException") = true
def errSub (c d : Str) : Bool := (d == c) || (d == "GraftError")
theorem CatchK.nm {K : Fg} {d : Str} {D : Addr} (h : CatchK K d D) : Ex.ClsNm K d D := by
  obtain ⟨g, dd, cd, sl, h1, h2, _⟩ := h
  exact ⟨g, _, dd, cd, sl, h1, h2⟩
theorem sub_err {K : Fg} {C D : Addr} {c d : Str} (Z : Ex.ExK K C c) (h : Ex.ClsNm K d D) : PySem.W.mroIn K C (.ref D) = some (errSub c d) := by
  obtain ⟨cd, G, c1, c2, _, c4, c5⟩ := Z.cd
  obtain ⟨dg, c0, dd, cdD, sl, d1, d2⟩ := h
  unfold PySem.W.mroIn
  rw [c1]
  have e : cd.mro.isEmpty = false := by rw [c2]; rfl
  show (if cd.mro.isEmpty then none else some (cd.mro.contains (.ref D))) = _
  rw [if_neg (by rw [e]; exact Bool.false_ne_true), c2]
  congr 1
  have key : (Value.ref C :: .ref G :: Ex.bV).contains (.ref D) = (decide (D = C) || decide (D = G)) := by
    simp [Ex.bV]
  rw [key]
  unfold errSub
  have iC : decide (D = C) = (d == c) := by
    by_cases q : D = C
    · subst q
      unfold PySem.W.clsIn at c1
      rw [d1] at c1
      cases c1
      rw [← d2, c4]
      simp
    · have : d ≠ c := fun w => by
        subst w
        rw [Z.gl] at dg
        exact q (Value.ref.inj (Option.some.inj (Option.some.inj dg))).symm
      simp [q, this]
  obtain ⟨gg, g0, gd, gcd, gsl, g1, g2⟩ := c5
  have iG : decide (D = G) = (d == "GraftError") := by
    by_cases q : D = G
    · subst q
      rw [d1] at g1
      cases g1
      rw [← d2, g2]
      simp
    · have : d ≠ "GraftError" := fun w => by
        subst w
        rw [gg] at dg
        exact q (Value.ref.inj (Option.some.inj (Option.some.inj dg))).symm
      simp [q, this]
  rw [iC, iG]
section
variable {X : Cx} {pins : List (Addr × Obj)} {σ : L2.St} {H : Hp} {s : Shared} {e : Addr}
end
theorem Rel.frzX {W : Wd} {ρ : En} {σ : L2.St} {H : Hp} {a : Addr} {φ : Heap → Prop} {o : Obj} (R : Rel W ρ σ H) (ha : H a = some (.ext φ)) (h0 : W.H0 a = none) : Rel W ρ σ (upd H a (.frz o (.ext φ))) := by
  have hst : Stb H (upd H a (.frz o (.ext φ))) := ⟨fun b xs h => by rw [upd_ne (ne_of h ha (by intro z; cases z))]; exact h, fun b o u h => by rw [upd_ne (ne_of h ha (by intro z; cases z))]; exact h⟩
  refine ⟨R.len, fun j s z => ?_, R.stb.trans hst, fun b o z n => ?_, R.dis, R.par, fun p q => ?_⟩
  · obtain ⟨u, h1, h2⟩ := R.sl j s z
    refine ⟨u, h1, ?_⟩
    cases s with
    | imm d => exact Df.mono hst h2
    | fd d => exact Sl.fdm hst h2
    | lst es =>
      obtain ⟨b, ws, rfl, g1, g2, g3⟩ := h2
      exact ⟨b, ws, rfl, by rw [upd_ne (ne_of g1 ha (by intro z; cases z))]; exact g1, g2.mono hst, g3⟩
    | set es =>
      obtain ⟨b, ws, rfl, g1, g2, g3⟩ := h2
      exact ⟨b, ws, rfl, by rw [upd_ne (ne_of g1 ha (by intro z; cases z))]; exact g1, g2, g3⟩
    | box es =>
      obtain ⟨b, ws, rfl, g1, g2, g3⟩ := h2
      exact ⟨b, ws, rfl, by rw [upd_ne (ne_of g1 ha (by intro z; cases z))]; exact g1, g2.mono hst, g3⟩
    | dct kvs =>
      obtain ⟨b, ws, rfl, g1, g2, g3⟩ := h2
      exact ⟨b, ws, rfl, by rw [upd_ne (ne_of g1 ha (by intro z; cases z))]; exact g1, g2.mono hst, g3⟩
  · rw [upd_ne (ne_of_none z h0)]
    exact R.kp b _ z n
  · exact ⟨(R.pdk p q).1, upd_some (R.pdk p q).2⟩
theorem frzX_stb {H : Hp} {a : Addr} {φ : Heap → Prop} {o : Obj} (ha : H a = some (.ext φ)) : Stb H (upd H a (.frz o (.ext φ))) := ⟨fun b xs h => by rw [upd_ne (ne_of h ha (by intro z; cases z))]; exact h, fun b o u h => by rw [upd_ne (ne_of h ha (by intro z; cases z))]; exact h⟩
section
variable [Wish] {X : Cx} {D : Addr} {i k : Nat} {d n : Str} {body suite : List Stmt} {b0 : Stmt} {mb ms : MS} {np hpos pos : Pos}
end
end Pu

namespace Pu
open PySem PySem.Spec PyProof.Rows L2
/-! ### what is asked of a caught error -/
def attD (f : Str) : List (D × D) → Option D
  | [] => none
  | (.str g, d) :: r => if f == g then some d else attD f r
  | _ :: r => attD f r
def fAtt (f : Str) : D → Option D
  | .dict ((.none, .str _) :: kvs) => if Ex.errFs.contains f then attD f kvs else none
  | _ => none
def fIsE (ds : List Str) : D → Option D
  | .dict ((.none, .str c) :: _) => some (.bool (ds.any fun d => errSub c d))
  | _ => none
theorem attF {K : Fg} {H : Hp} {f : Str} : ∀ {fs : List (Str × V)} {ds : List (Str × D)} {d : D}, DfF K H fs ds → attD f (ds.map fun p => (.str p.1, p.2)) = some d → ∃ v, fs.lookup f = some v ∧ Df K H v d
  | _, _, _, .nil, e => by cases e
  | _, _, d, .cons (f := g) h r, e => by
    rw [List.map_cons] at e
    unfold attD at e
    rw [List.lookup_cons]
    split at e
    · rename_i q
      rw [q]
      cases e
      exact ⟨_, rfl, h⟩
    · rename_i q
      rw [Bool.not_eq_true] at q
      rw [q]
      exact attF r e
theorem relo {o : Option Value} {v : V} (h : RelO (some v) o) : ∃ u, o = some u ∧ RelV v u := by
  cases o with
  | none => exact h.elim
  | some u => exact ⟨u, rfl, h⟩
theorem find_at {K : Fg} {C : Addr} {cls f : Str} {od : Obj} {u : Value} {es : Array DictEntry} {ep : Nat} (Z : Ex.ExK K C cls) (hf : f ∈ Ex.errFs) (hd : od.data = .dict es ep) (hm : nsFind es f = some u) : PySem.W.findObj K C (some od) f = some (.value u) := by
  obtain ⟨cd, G, c1, c2, c3, _⟩ := Z.cd
  have e1 : PySem.W.lookIn f od = some (some u) := by
    unfold PySem.W.lookIn
    rw [hd]
    unfold nsFind findBy at hm
    rw [← Array.find?_toList] at hm
    cases q : es.toList.find? (fun x => x.key.isStr f) with
    | none => rw [q] at hm; cases hm
    | some en => rw [q] at hm; cases hm; simp only [q]
  unfold PySem.W.findObj
  rw [c1, Option.bind_some, Z.fs f hf, Option.bind_some]
  unfold PySem.W.ownOf
  simp [c3, e1]
section
variable {X : Cx}
theorem handed_rel {v : V} {u : Value} (h : RelV v u) : PySem.W.handedIn u = true := by
  cases v <;> first | (obtain ⟨t, rfl⟩ := h; rfl) | (cases h; rfl)
variable [Wish] {H0 : Hp} {P : List Addr} {e : Expr} {m : MM D} {pos p : Pos}
theorem re_att {f : Str} (he : PE X e (tR (wd X H0 P) m)) (hb : attributeBase e f X.env (eval e X.env) = eval e X.env := by rfl) : PE X (.Attribute e f pos) (tR (wd X H0 P) (mUn (fAtt f) m)) := by
  intro pins s σ H Q I ⟨ρ, R, g⟩
  refine attr_of hb (thn (he pins s σ H (fun v H1 => ∃ d z ρ1, Go ρ ρ1 σ H H1 ∧ Rel (wd X H0 P) ρ1 σ H1 ∧ Df X.K H1 v d ∧ fAtt f d = some z ∧ ∀ v H', Go ρ ρ1 σ H H' → Rel (wd X H0 P) ρ1 σ H' → Df X.K H' v z → Q v H') I (tR_bd R g fun v H1 d ρ1 go1 R1 d1 g1 => ?_)) fun u s1 ⟨v, H1, I1, r1, d, z, ρ1, go1, R1, d1, hz, k⟩ => ?_)
  · obtain ⟨z, hz, k⟩ := got_lift g1
    exact ⟨d, z, ρ1, go1, R1, d1, hz, k⟩
  · unfold fAtt at hz
    split at hz
    · rename_i d0 cc kvs
      split at hz
      · rename_i hc
        cases d1 with
        | exc h1 h2 Z hF =>
          cases r1
          obtain ⟨w, hw, dw⟩ := attF hF hz
          obtain ⟨g1, ⟨oe', vs, a1, a2, a3, a4, a5⟩, _⟩ := I1.hok _ _ h1
          obtain ⟨g2, ⟨mA, ⟨o, es, ep, b1, b2, b3, b4, b5⟩, br⟩, _⟩ := I1.hok _ _ h2
          have bf := br f
          rw [hw] at bf
          obtain ⟨u, hu, ru⟩ := relo bf
          obtain ⟨hp, gg, dr, tk, os⟩ := s1
          refine Ex.get_field Z I1.kIn (od := some o) ⟨a1, a2, ?_, ?_⟩ (find_at Z (by simpa using hc) b2 ((b5 f).trans hu)) (handed_rel ru) ⟨w, H1, I1.tok _, ru, k w H1 go1 R1 dw⟩
          · unfold PySem.W.notCls
            rw [a4]
          · rw [a3]
            exact b1
      · cases hz
    · cases hz
/-- isinstance(e, C), C an own error class -/
theorem kit_own {K : Fg} {C D : Addr} {c d : Str} (Z : Ex.ExK K C c) (hD : CatchK K d D) : PySem.W.kitOne K (.ref C) (.ref D) = some (errSub c d) := by
  have m1 := sub_err Z hD.nm
  obtain ⟨dg, dd, cd, sl, d1, d2, d3⟩ := hD
  unfold PySem.W.kitOne
  split
  · rename_i q
    have q : C = D := Value.ref.inj (eq_of_beq q)
    subst q
    have : d = c := by
      obtain ⟨cd', G, c1, c2, c3, c4, _⟩ := Z.cd
      unfold PySem.W.clsIn at c1
      rw [d1] at c1
      cases c1
      rw [← d2, c4]
    unfold errSub
    rw [this]
    simp
  · unfold PySem.W.kitCls
    have e1 : (PySem.W.clsIn K D).isSome = true := by unfold PySem.W.clsIn; rw [d1]; rfl
    have e2 : PySem.W.typeIn K (.ref D) = some (.type "type") := by
      show (K.lookup D).map (·.cls) = _
      rw [d1]
      rfl
    show (if ((PySem.W.clsIn K D).isSome && PySem.W.typeIn K (.ref D) == some (.type "type")) = true then PySem.W.subIn K (.ref C) (.ref D) else none) = _
    rw [if_pos (by rw [e1, e2]; rfl)]
    exact m1
theorem re_isE {d y : Str} {D : Addr} {p' : Pos} (hD : CatchK X.K d D) (hg : Gl X "isinstance") (hm : X.mg "isinstance" = none) (hg2 : Gl X d) (hm2 : X.mg d = some (.ref D)) (ha : PE X e (tR (wd X H0 P) m)) (hdb : (d == ("__debug__" : Str)) = false := by decide)
    (he : starEach (e :: [Expr.Name d p']) X.env = (false, eval e X.env) :: starEach [Expr.Name d p'] X.env := by rfl) (hpl : (backTo pos (starEach [Expr.Name d p'] X.env)).any (·.1) = false := by rfl) :
    PE X (.Call (.Name "isinstance" p) (e :: [Expr.Name d p']) [] pos) (tR (wd X H0 P) (mUn (fIsE [d]) m)) := by
  have hc : CallR X (.builtin "isinstance") (fun xs H Q => ∃ z x b, xs = [z, .ref D] ∧ Df X.K H z x ∧ fIsE [d] x = some (.bool b) ∧ Q (.bl b) H) := by
    intro pins s σ H xs us Q I r ⟨z, x, b, e1, hd, hf, q⟩
    subst e1
    obtain ⟨u, v, rfl, ru, rv⟩ := r.two
    cases rv
    unfold fIsE at hf
    split at hf
    · cases hd with
      | exc h1 h2 Z f =>
        cases ru
        have hf := PyData.bool.inj (Option.some.inj hf)
        rw [List.any_cons, List.any_nil, Bool.or_false] at hf
        subst hf
        exact PySem.W.kia_one (Ex.kitx_err Z) I.kIn (exc_inst I h1 h2) (kit_own Z hD) (fun z => nomatch z) fun tk => ⟨.bl _, H, I.tok tk, rfl, q⟩
    · cases hf
  refine weak (pe_callB (t := tCons (tR (wd X H0 P) m) (tCons (tC (.ref D)) tNil)) hc hg hm (by decide +kernel) (pa_cons ha (pa_cons (pe_glob hg2 hm2 rfl hdb) pa_nil) he) (by decide) (by decide) he hpl) fun σ H Q ⟨ρ, R, g⟩ => ?_
  refine tR_bd R g fun v H1 d' ρ1 go1 R1 d1 g1 => ?_
  obtain ⟨z, hz, k⟩ := got_lift g1
  have hz' := hz
  unfold fIsE at hz'
  split at hz'
  · cases hz'
    exact ⟨v, _, _, rfl, d1, hz, k _ H1 go1 R1 (.bl _)⟩
  · cases hz'
/-- names of own error classes in a row -/
inductive ClsRow (X : Cx) : List Expr → List Str → List Addr → Prop
  | nil : ClsRow X [] [] []
  | cons {d : Str} {D : Addr} {p : Pos} {es : List Expr} {ds : List Str} {Ds : List Addr} : CatchK X.K d D → Gl X d → X.mg d = some (.ref D) → (d == ("__debug__" : Str)) = false → (starEach (Expr.Name d p :: es) X.env = (false, eval (Expr.Name d p) X.env) :: starEach es X.env) → ClsRow X es ds Ds → ClsRow X (.Name d p :: es) (d :: ds) (D :: Ds)
/-- an error object made, as data -/
def mMk (f : List D → Option XD) (mr : MM (List D)) : MM D := bd mr fun ds => lift ((f ds).map excD)
theorem re_mk {ff : List D → Option XD} {x : Str} {C : Addr} {k : Nat} {es : List Expr} {mr : MM (List D)} (M : ErrMk X.prog X.w X.K X.mg X.base k C ff) (hr : Room k X.A) (hg : Gl X x) (hm : X.mg x = some (.ref C)) (hk : PySem.W.keepIn X.K (.ref C) = true)
    (ha : PA X (e :: es) (tA (wd X H0 P) mr)) (hdb : (x == ("__debug__" : Str)) = false := by decide) (he : starEach (e :: es) X.env = (false, eval e X.env) :: starEach es X.env := by rfl) (hpl : (backTo pos (starEach es X.env)).any (·.1) = false := by rfl) :
    PE X (.Call (.Name x p) (e :: es) [] pos) (tR (wd X H0 P) (mMk ff mr)) := by
  intro pins s σ H Q I ⟨ρ, R, g⟩
  have g' := got_bd g
  refine wpAny_Call_Name_kw (ld_glob I hg hm ?_ hdb)
  refine PySem.W.callWith_K (h₀ := X.base) I.ok.mod.kin hk (thn (ha pos pins s σ H (fun vs H1 => ∃ ds ρ1 c, Go ρ ρ1 σ H H1 ∧ Rel (wd X H0 P) ρ1 σ H1 ∧ DfA X.K H1 vs ds ∧ ff ds = some c ∧ ∀ v H', Go ρ ρ1 σ H H' → Rel (wd X H0 P) ρ1 σ H' → Df X.K H' v (excD c) → Q v H') I ⟨ρ, R, got_imp g' fun ds ρ1 q vs H1 go R1 d1 => ?_⟩) fun us s1 ⟨vs, H1, I1, r, ds, ρ1, c, go1, R1, d1, hc, k⟩ => ⟨I1.kIn, ?_⟩) he hpl
  · obtain ⟨z, hz, k⟩ := got_lift q
    obtain ⟨c, hc, rfl⟩ := Option.map_eq_some_iff.mp hz
    exact ⟨ds, ρ1, c, go, R1, d1, hc, k⟩
  · refine wpAny_mono (M X pins σ H1 s1 vs us ds c rfl rfl rfl rfl rfl hr I1 r d1 hc) (fun u s2 h => ?_) fun _ _ z => z
    obtain ⟨e', dx, fs, t1, sl, H2, rfl, I2, sm, n1, n2, n3, z1, z2, h1, h2, hf, hZ, ho⟩ := h
    have f1 := (R1.fresh (I1.hok.fresh z1)).1
    have f2 := (R1.fresh (I1.hok.fresh z2)).1
    obtain ⟨oe5, J6⟩ := I2.lock h1 trivial
    have h2' : upd H2 e' (.frz oe5 (.ext (Ex.exAt e' C dx))) dx = some (.ext (Ex.xdAt dx fs)) := by rw [upd_ne n3]; exact h2
    obtain ⟨od5, J7⟩ := J6.lock h2' trivial
    have R2 := ((R1.same sm).frzX (o := oe5) h1 f1).frzX (o := od5) h2' f2
    have st2 := (frzX_stb (o := oe5) h1).trans (frzX_stb (o := od5) h2')
    have df : Df X.K (upd (upd H2 e' (.frz oe5 (.ext (Ex.exAt e' C dx)))) dx (.frz od5 (.ext (Ex.xdAt dx fs)))) (.ref e') (excD c) := .exc (oe := oe5) (od := od5) (by rw [upd_ne (Ne.symm n3), upd_same]) upd_same hZ (hf.mono st2)
    refine ⟨.ref e', _, J7, rfl, k _ _ ⟨go1.stb.trans ((Stb.same sm).trans st2), fun b o hb nn => ?_, go1.shr⟩ R2 df⟩
    have y := sm b o (go1.fr b o hb nn)
    have y1 := go1.fr b o hb nn
    rw [upd_ne (fun w => by rw [w] at y1; rw [y1] at n2; cases n2), upd_ne (fun w => by rw [w] at y1; rw [y1] at n1; cases n1)]
    exact y
end
end Pu

namespace Pu
open PySem PySem.Spec PyProof.Rows L2
variable [Wish]
structure Pe (X : Cx) (H0 : Hp) (P : List Addr) (e : Expr) (m : MM D) : Prop where
  mk ::
  h : PE X e (tR (wd X H0 P) m)
structure Pl (X : Cx) (H0 : Hp) (P : List Addr) (e : Expr) (m : MM (List D)) : Prop where
  mk ::
  h : PE X e (tL (wd X H0 P) m)
structure Pt (X : Cx) (H0 : Hp) (P : List Addr) (e : Expr) (m : MM Bool) : Prop where
  mk ::
  h : PT X e (tT (wd X H0 P) m)
structure Pw (X : Cx) (H0 : Hp) (P : List Addr) (e : Expr) (m : MM Bool) : Prop where
  mk ::
  h : PW X e (tT (wd X H0 P) m)
structure Pa (X : Cx) (H0 : Hp) (P : List Addr) (e : List Expr) (m : MM (List D)) : Prop where
  mk ::
  h : PA X e (tA (wd X H0 P) m)
structure Po (X : Cx) (H0 : Hp) (P : List Addr) (e : Option Expr) (m : MM (Option Int)) : Prop where
  mk ::
  h : PO X e (tO (wd X H0 P) m)
structure Ps (X : Cx) (H0 : Hp) (P : List Addr) (e : Stmt) (m : MS) : Prop where
  mk ::
  h : PS X e (tS (wd X H0 P) m)
structure Pss (X : Cx) (H0 : Hp) (P : List Addr) (e : List Stmt) (m : MS) : Prop where
  mk ::
  h : PSs X e (tS (wd X H0 P) m)
structure Pts (X : Cx) (H0 : Hp) (P : List Addr) (e : List Expr) (m : MM Bool) : Prop where
  mk ::
  h : PTs X e (tT (wd X H0 P) m)
structure Pgm (X : Cx) (H0 : Hp) (P : List Addr) (tg : Expr) (g : TG) (is : List Nat) (f : D → En → Option En) : Prop where
  mk ::
  h : PGm X H0 P tg g is f
structure Pgms (X : Cx) (H0 : Hp) (P : List Addr) (ts : List Expr) (g : TGs) (is : List Nat) : Prop where
  mk ::
  h : PGms X H0 P ts g is
structure Pj (X : Cx) (H0 : Hp) (P : List Addr) (e : List Expr) (m : Str → MM Str) : Prop where
  mk ::
  h : PJ X e (tJ (wd X H0 P) m)
structure Pgmf (X : Cx) (H0 : Hp) (P : List Addr) (ts : List Expr) (g : TGs) (is : List Nat) (f : List D → En → Option En) (n : Nat) : Prop where
  mk ::
  h : PGmf X H0 P ts g is f n
structure Pim (X : Cx) (H0 : Hp) (P : List Addr) (tg iter : Expr) (wi : TI) (ms : MM (List D)) : Prop where
  mk ::
  h : PIm X H0 P tg iter wi ms
inductive Ppm (X : Cx) (H0 : Hp) (P : List Addr) (pos : Pos) : List (Option Expr) → List Expr → List (Str × MM D) → Prop
  | nil : Ppm X H0 P pos [] [] []
  | cons {k : Str} {j} {p2 : Pos} {e : Expr} {m : MM D} {ks : List (Option Expr)} {es : List Expr} {ms : List (Str × MM D)} : Pe X H0 P e m → Ppm X H0 P pos ks es ms → Ppm X H0 P pos (some (.Constant (.str k) j p2) :: ks) (e :: es) ((k, m) :: ms)
theorem Ppm.h {X : Cx} {H0 : Hp} {P : List Addr} {pos : Pos} {ks : List (Option Expr)} {es : List Expr} {ms : List (Str × MM D)} (q : Ppm X H0 P pos ks es ms) : PPm X H0 P pos ks es ms := by
  induction q with
  | nil => exact .nil
  | cons a _ ih => exact .cons a.h ih
theorem q_pt {X : Cx} {H0 : Hp} {P : List Addr} {e : Expr} {m : MM Bool} (h : Pw X H0 P e m) : Pt X H0 P e m := .mk (PW.pt h.h)
section
variable {X : Cx} {H0 : Hp} {P : List Addr} {pos : Pos}
end
section
variable {X : Cx} {H0 : Hp} {P : List Addr} {pos : Pos}
theorem q_re_bool {b j} : Pe X H0 P (.Constant (.bool b) j pos) (mC (.bool b)) := .mk (re_bool )
end
section
variable {X : Cx} {H0 : Hp} {P : List Addr} {pos : Pos}
theorem q_re_int {i j} : Pe X H0 P (.Constant (.int i) j pos) (mC (.int i)) := .mk (re_int )
end
section
variable {X : Cx} {H0 : Hp} {P : List Addr} {pos : Pos}
theorem q_re_str {x j} : Pe X H0 P (.Constant (.str x) j pos) (mC (.str x)) := .mk (re_str )
end
section
variable {X : Cx} {H0 : Hp} {P : List Addr} {pos : Pos}
end
section
variable {X : Cx} {H0 : Hp} {P : List Addr} {pos : Pos}
end
section
variable {X : Cx} {H0 : Hp} {P : List Addr} {pos : Pos}
theorem q_re_var (i : Nat) {x : Str} (hN : X.N[i]? = some x := by rfl) (hv : Vis X.env.scope x := by first | exact Or.inl rfl | exact Or.inr (Or.inl rfl) | exact Or.inr (Or.inr rfl)) (hd : (x == ("__debug__" : Str)) = false := by decide) (hcd : (x == ("__classdict__" : Str)) = false := by decide) : Pe X H0 P (.Name x pos) (mV i) := .mk (re_var (i := i) (hN := hN) (hv := hv) (hd := hd) (hcd := hcd))
end
section
variable {X : Cx} {H0 : Hp} {P : List Addr} {pos : Pos}
end
section
variable {X : Cx} {H0 : Hp} {P : List Addr} {pos : Pos}
theorem q_re_fz {e : Expr} {m : MM (List D)} (h : Pl X H0 P e m) : Pe X H0 P e (fz m) := .mk (re_fz (h := h.h))
end
section
variable {X : Cx}
variable {H0 : Hp} {P : List Addr} {pos : Pos} {a b : Expr} {ma mb : MM D}
theorem q_re_op {op : Operator} {f : D → D → Option D} (ho : OpR X (binaryOp op) (rD X.K f)) (ha : Pe X H0 P a ma) (hb : Pe X H0 P b mb) : Pe X H0 P (.BinOp a op b pos) (mBin f ma mb) := .mk (re_op (ho := ho) (ha := ha.h) (hb := hb.h))
end
section
variable {X : Cx}
variable {H0 : Hp} {P : List Addr} {pos : Pos} {a b : Expr} {ma mb : MM D}
theorem q_rt_cmp {op : CmpOp} {f : D → D → Option Bool} (ho : OpR X (compareOp op) (rB X.K f)) (ha : Pe X H0 P a ma) (hb : Pe X H0 P b mb) (hm : behindInMarks op b = false := by first | exact nobehind _ (by decide) (by decide) | rfl) : Pt X H0 P (.Compare a [op] [b] pos) (mCmp f ma mb) := .mk (rt_cmp (ho := ho) (ha := ha.h) (hb := hb.h) (hm := hm))
end
section
variable {X : Cx}
variable {H0 : Hp} {P : List Addr} {pos : Pos} {a b : Expr} {ma mb : MM D}
theorem q_re_cmp {op : CmpOp} {f : D → D → Option Bool} (ho : OpR X (compareOp op) (rB X.K f)) (ha : Pe X H0 P a ma) (hb : Pe X H0 P b mb) (hm : behindInMarks op b = false := by first | exact nobehind _ (by decide) (by decide) | rfl) : Pe X H0 P (.Compare a [op] [b] pos) (bl (mCmp f ma mb)) := .mk (re_cmp (ho := ho) (ha := ha.h) (hb := hb.h) (hm := hm))
end
section
variable {X : Cx}
variable {H0 : Hp} {P : List Addr} {pos : Pos} {a b : Expr} {ma mb : MM D}
end
section
variable {X : Cx}
variable {H0 : Hp} {P : List Addr} {pos : Pos} {a b : Expr} {ma mb : MM D}
end
section
variable {X : Cx}
variable {H0 : Hp} {P : List Addr} {pos : Pos} {a b : Expr} {ma mb : MM D}
variable {ta tb' : MM Bool} {rest : List Expr} {e : Expr} {m : MM D}
theorem q_rt_tru (he : Pe X H0 P e m) (hp : ∀ whole, isTrue e X.env whole = (do let v ← whole; standAt e.pos; holding [v] (truthy v)) := by intro _; rfl) : Pt X H0 P e (mTru m) := .mk (rt_tru (he := he.h) (hp := hp))
end
section
variable {X : Cx}
variable {H0 : Hp} {P : List Addr} {pos : Pos} {a b : Expr} {ma mb : MM D}
variable {ta tb' : MM Bool} {rest : List Expr} {e : Expr} {m : MM D}
end
section
variable {X : Cx}
variable {H0 : Hp} {P : List Addr} {pos : Pos} {a b : Expr} {ma mb : MM D}
variable {ta tb' : MM Bool} {rest : List Expr} {e : Expr} {m : MM D}
theorem q_rt_not (ha : Pt X H0 P a ta) : Pt X H0 P (.UnaryOp .Not a pos) (mNot ta) := .mk (rt_not (ha := ha.h))
end
section
variable {X : Cx}
variable {H0 : Hp} {P : List Addr} {pos : Pos} {a b : Expr} {ma mb : MM D}
variable {ta tb' : MM Bool} {rest : List Expr} {e : Expr} {m : MM D}
end
section
variable {X : Cx}
variable {H0 : Hp} {P : List Addr} {pos : Pos} {a b : Expr} {ma mb : MM D}
variable {ta tb' : MM Bool} {rest : List Expr} {e : Expr} {m : MM D}
theorem q_rw_or1 (ha : Pt X H0 P a ta) : Pw X H0 P (.BoolOp .Or [a] pos) ta := .mk (rw_or1 (ha := ha.h))
end
section
variable {X : Cx}
variable {H0 : Hp} {P : List Addr} {pos : Pos} {a b : Expr} {ma mb : MM D}
variable {ta tb' : MM Bool} {rest : List Expr} {e : Expr} {m : MM D}
end
section
variable {X : Cx}
variable {H0 : Hp} {P : List Addr} {pos : Pos} {a b : Expr} {ma mb : MM D}
variable {ta tb' : MM Bool} {rest : List Expr} {e : Expr} {m : MM D}
theorem q_rw_or (ha : Pt X H0 P a ta) (hb : Pw X H0 P (.BoolOp .Or (b :: rest) pos) tb') : Pw X H0 P (.BoolOp .Or (a :: b :: rest) pos) (mOr ta tb') := .mk (rw_or (ha := ha.h) (hb := hb.h))
end
section
variable {X : Cx}
variable {H0 : Hp} {P : List Addr} {pos : Pos} {a b : Expr} {ma mb : MM D}
variable {ta tb' : MM Bool} {rest : List Expr} {e : Expr} {m : MM D}
end
section
variable {X : Cx}
variable {H0 : Hp} {P : List Addr} {pos : Pos} {a b : Expr} {ma mb : MM D}
variable {ta tb' : MM Bool} {rest : List Expr} {e : Expr} {m : MM D}
end
section
variable {X : Cx}
variable {H0 : Hp} {P : List Addr} {pos : Pos} {a b : Expr} {ma mb : MM D}
variable {ta tb' : MM Bool} {rest : List Expr} {e : Expr} {m : MM D}
end
section
variable {X : Cx}
variable {H0 : Hp} {P : List Addr} {pos : Pos} {a b : Expr} {ma mb : MM D}
variable {ta tb' : MM Bool} {rest : List Expr} {e : Expr} {m : MM D}
end
section
variable {X : Cx}
variable {H0 : Hp} {P : List Addr} {pos : Pos} {a b : Expr} {ma mb : MM D}
variable {ta tb' : MM Bool} {rest : List Expr} {e : Expr} {m : MM D}
theorem q_re_if {c : Expr} (hc : Pt X H0 P c ta) (ha : Pe X H0 P a ma) (hb : Pe X H0 P b mb) : Pe X H0 P (.IfExp c a b pos) (mIf ta ma mb) := .mk (re_if (hc := hc.h) (ha := ha.h) (hb := hb.h))
end
section
variable {X : Cx}
variable {H0 : Hp} {P : List Addr} {pos : Pos} {a b : Expr} {ma mb : MM D}
variable {ta tb' : MM Bool} {rest : List Expr} {e : Expr} {m : MM D}
variable {es : List Expr} {mr : MM (List D)}
theorem q_ra_nil  : Pa X H0 P [] mNil := .mk (ra_nil )
end
section
variable {X : Cx}
variable {H0 : Hp} {P : List Addr} {pos : Pos} {a b : Expr} {ma mb : MM D}
variable {ta tb' : MM Bool} {rest : List Expr} {e : Expr} {m : MM D}
variable {es : List Expr} {mr : MM (List D)}
theorem q_ra_cons (ha : Pe X H0 P e m) (hr : Pa X H0 P es mr) (hs : starEach (e :: es) X.env = (false, eval e X.env) :: starEach es X.env := by rfl) : Pa X H0 P (e :: es) (mCons m mr) := .mk (ra_cons (ha := ha.h) (hr := hr.h) (hs := hs))
end
section
variable {X : Cx}
variable {H0 : Hp} {P : List Addr} {pos : Pos} {a b : Expr} {ma mb : MM D}
variable {ta tb' : MM Bool} {rest : List Expr} {e : Expr} {m : MM D}
variable {es : List Expr} {mr : MM (List D)}
end
section
variable {X : Cx}
variable {H0 : Hp} {P : List Addr} {pos : Pos} {a b : Expr} {ma mb : MM D}
variable {ta tb' : MM Bool} {rest : List Expr} {e : Expr} {m : MM D}
variable {es : List Expr} {mr : MM (List D)}
theorem q_rl_lst (h : Pa X H0 P es mr) : Pl X H0 P (.List es pos) (mLst mr) := .mk (rl_lst (h := h.h))
end
section
variable {X : Cx} {H0 : Hp} {P : List Addr} {pos : Pos} {a b e : Expr} {ma mb m : MM D}
theorem q_re_ix (ha : Pe X H0 P a ma) (hb : Pe X H0 P b mb) (hs : PlainIx b := by intro _ _; rfl) : Pe X H0 P (.Subscript a b pos) (mBin fIx ma mb) := .mk (re_ix (ha := ha.h) (hb := hb.h) (hs := hs))
end
section
variable {X : Cx} {H0 : Hp} {P : List Addr} {pos : Pos} {a b e : Expr} {ma mb m : MM D}
theorem q_re_ixL (i : Nat) {x : Str} {p1 : Pos} (hb : Pe X H0 P b mb) (hs : PlainIx b := by intro _ _; rfl) (hN : X.N[i]? = some x := by rfl) (hv : Vis X.env.scope x := by first | exact Or.inl rfl | exact Or.inr (Or.inl rfl) | exact Or.inr (Or.inr rfl)) (hd : (x == ("__debug__" : Str)) = false := by decide) (hcd : (x == ("__classdict__" : Str)) = false := by decide) : Pe X H0 P (.Subscript (.Name x p1) b pos) (mIxL i mb) := .mk (re_ixL (i := i) (hb := hb.h) (hs := hs) (hN := hN) (hv := hv) (hd := hd) (hcd := hcd))
end
section
variable {X : Cx} {H0 : Hp} {P : List Addr} {pos : Pos} {a b e : Expr} {ma mb m : MM D}
theorem q_ro_none  : Po X H0 P none mNoP := .mk (ro_none )
end
section
variable {X : Cx} {H0 : Hp} {P : List Addr} {pos : Pos} {a b e : Expr} {ma mb m : MM D}
theorem q_ro_some (h : Pe X H0 P e m) : Po X H0 P (some e) (mPt m) := .mk (ro_some (h := h.h))
end
section
variable {X : Cx} {H0 : Hp} {P : List Addr} {pos : Pos} {a b e : Expr} {ma mb m : MM D}
variable {lo hi : Option Expr} {ml mu : MM (Option Int)} {p2 : Pos}
end
section
variable {X : Cx} {H0 : Hp} {P : List Addr} {pos : Pos} {a b e : Expr} {ma mb m : MM D}
variable {lo hi : Option Expr} {ml mu : MM (Option Int)} {p2 : Pos}
theorem q_rl_sl (he : Pe X H0 P e m) (hl : Po X H0 P lo ml) (hu : Po X H0 P hi mu) : Pl X H0 P (.Subscript e (.Slice lo hi none p2) pos) (mSlL m ml mu) := .mk (rl_sl (he := he.h) (hl := hl.h) (hu := hu.h))
end
section
variable {X : Cx} {H0 : Hp} {P : List Addr} {pos : Pos} {a b e : Expr} {ma mb m : MM D}
variable {lo hi : Option Expr} {ml mu : MM (Option Int)} {p2 : Pos}
variable {es : List Expr} {mr : MM (List D)} {x : Str} {p : Pos} {id T : String}
theorem q_re_callB {g : List D → Option D} (hc : CallR X (.builtin id) (rC X.K g)) (hg : Gl X x) (hm : X.mg x = none) (hv : bootBuiltins x = some (.builtin id)) (ha : Pa X H0 P (e :: es) mr) (hn : x ≠ "__name__" := by decide) (hdb : (x == ("__debug__" : Str)) = false := by decide) (he : starEach (e :: es) X.env = (false, eval e X.env) :: starEach es X.env := by rfl) (hpl : (backTo pos (starEach es X.env)).any (·.1) = false := by rfl) : Pe X H0 P (.Call (.Name x p) (e :: es) [] pos) (mCall g mr) := .mk (re_callB (hc := hc) (hg := hg) (hm := hm) (hv := hv) (ha := ha.h) (hn := hn) (hdb := hdb) (he := he) (hpl := hpl))
end
section
variable {X : Cx} {H0 : Hp} {P : List Addr} {pos : Pos} {a b e : Expr} {ma mb m : MM D}
variable {lo hi : Option Expr} {ml mu : MM (Option Int)} {p2 : Pos}
variable {es : List Expr} {mr : MM (List D)} {x : Str} {p : Pos} {id T : String}
theorem q_re_callT {g : List D → Option D} (hc : CallR X (.type T) (rC X.K g)) (hg : Gl X x) (hm : X.mg x = none) (hv : bootBuiltins x = some (.type T)) (ha : Pa X H0 P (e :: es) mr) (hn : x ≠ "__name__" := by decide) (hdb : (x == ("__debug__" : Str)) = false := by decide) (he : starEach (e :: es) X.env = (false, eval e X.env) :: starEach es X.env := by rfl) (hpl : (backTo pos (starEach es X.env)).any (·.1) = false := by rfl) : Pe X H0 P (.Call (.Name x p) (e :: es) [] pos) (mCall g mr) := .mk (re_callT (hc := hc) (hg := hg) (hm := hm) (hv := hv) (ha := ha.h) (hn := hn) (hdb := hdb) (he := he) (hpl := hpl))
end
section
variable {X : Cx} {H0 : Hp} {P : List Addr} {pos : Pos} {a b e : Expr} {ma mb m : MM D}
variable {lo hi : Option Expr} {ml mu : MM (Option Int)} {p2 : Pos}
variable {es : List Expr} {mr : MM (List D)} {x : Str} {p : Pos} {id T : String}
end
section
variable {X : Cx} {H0 : Hp} {P : List Addr} {pos : Pos} {a b e : Expr} {ma mb m : MM D}
variable {lo hi : Option Expr} {ml mu : MM (Option Int)} {p2 : Pos}
variable {es : List Expr} {mr : MM (List D)} {x : Str} {p : Pos} {id T : String}
theorem q_re_isi {y : Str} {p' : Pos} (T : String) (hT : ∀ d : D, PySem.W.kitOne X.K (.type (tyD d)) (.type T) = some (isT T d)) (hg : Gl X "isinstance") (hm : X.mg "isinstance" = none) (hg2 : Gl X y) (hm2 : X.mg y = none) (hv2 : bootBuiltins y = some (.type T)) (ha : Pe X H0 P e m) (hn : y ≠ "__name__" := by decide) (hdb : (y == ("__debug__" : Str)) = false := by decide) (he : starEach (e :: [Expr.Name y p']) X.env = (false, eval e X.env) :: starEach [Expr.Name y p'] X.env := by rfl) (hpl : (backTo pos (starEach [Expr.Name y p'] X.env)).any (·.1) = false := by rfl) : Pe X H0 P (.Call (.Name "isinstance" p) (e :: [Expr.Name y p']) [] pos) (mIsi T m) := .mk (re_isi (T := T) (hT := hT) (hg := hg) (hm := hm) (hg2 := hg2) (hm2 := hm2) (hv2 := hv2) (ha := ha.h) (hn := hn) (hdb := hdb) (he := he) (hpl := hpl))
end
section
variable {X : Cx}
variable {H0 : Hp} {P : List Addr} {apos cpos : Pos} {e : Expr} {es : List Expr} {mr : MM (List D)} {x : Str} {p1 : Pos} {name : Str} {id : String}
end
section
variable {X : Cx}
variable {H0 : Hp} {P : List Addr} {apos cpos : Pos} {e : Expr} {es : List Expr} {mr : MM (List D)} {x : Str} {p1 : Pos} {name : Str} {id : String}
end
section
variable {X : Cx}
variable {H0 : Hp} {P : List Addr} {apos cpos : Pos} {e : Expr} {es : List Expr} {mr : MM (List D)} {x : Str} {p1 : Pos} {name : Str} {id : String}
end
section
variable {X : Cx}
variable {H0 : Hp} {P : List Addr} {apos cpos : Pos} {e : Expr} {es : List Expr} {mr : MM (List D)} {x : Str} {p1 : Pos} {name : Str} {id : String}
end
section
variable {X : Cx}
variable {H0 : Hp} {P : List Addr} {apos cpos : Pos} {e : Expr} {es : List Expr} {mr : MM (List D)} {x : Str} {p1 : Pos} {name : Str} {id : String}
end
section
variable {X : Cx} {H0 : Hp} {P : List Addr} {pos : Pos} {e : Expr} {m : MM D} {ml : MM (List D)} {st : Stmt} {rest a b : List Stmt} {m1 m2 : MS}
theorem q_rss_nil  : Pss X H0 P [] sNx := .mk (rss_nil )
end
section
variable {X : Cx} {H0 : Hp} {P : List Addr} {pos : Pos} {e : Expr} {m : MM D} {ml : MM (List D)} {st : Stmt} {rest a b : List Stmt} {m1 m2 : MS}
theorem q_rss_one (h : Ps X H0 P st m1) : Pss X H0 P [st] m1 := .mk (rss_one (h := h.h))
end
section
variable {X : Cx} {H0 : Hp} {P : List Addr} {pos : Pos} {e : Expr} {m : MM D} {ml : MM (List D)} {st : Stmt} {rest a b : List Stmt} {m1 m2 : MS}
theorem q_rss_cons (h1 : Ps X H0 P st m1) (h2 : Pss X H0 P rest m2) : Pss X H0 P (st :: rest) (sSeq m1 m2) := .mk (rss_cons (h1 := h1.h) (h2 := h2.h))
end
section
variable {X : Cx} {H0 : Hp} {P : List Addr} {pos : Pos} {e : Expr} {m : MM D} {ml : MM (List D)} {st : Stmt} {rest a b : List Stmt} {m1 m2 : MS}
end
section
variable {X : Cx} {H0 : Hp} {P : List Addr} {pos : Pos} {e : Expr} {m : MM D} {ml : MM (List D)} {st : Stmt} {rest a b : List Stmt} {m1 m2 : MS}
end
section
variable {X : Cx} {H0 : Hp} {P : List Addr} {pos : Pos} {e : Expr} {m : MM D} {ml : MM (List D)} {st : Stmt} {rest a b : List Stmt} {m1 m2 : MS}
end
section
variable {X : Cx} {H0 : Hp} {P : List Addr} {pos : Pos} {e : Expr} {m : MM D} {ml : MM (List D)} {st : Stmt} {rest a b : List Stmt} {m1 m2 : MS}
end
section
variable {X : Cx} {H0 : Hp} {P : List Addr} {pos : Pos} {e : Expr} {m : MM D} {ml : MM (List D)} {st : Stmt} {rest a b : List Stmt} {m1 m2 : MS}
end
section
variable {X : Cx} {H0 : Hp} {P : List Addr} {pos : Pos} {e : Expr} {m : MM D} {ml : MM (List D)} {st : Stmt} {rest a b : List Stmt} {m1 m2 : MS}
theorem q_rs_ret (he : Pe X H0 P e m) : Ps X H0 P (.Return (some e) pos) (sRet m) := .mk (rs_ret (he := he.h))
end
section
variable {X : Cx} {H0 : Hp} {P : List Addr} {pos : Pos} {e : Expr} {m : MM D} {ml : MM (List D)} {st : Stmt} {rest a b : List Stmt} {m1 m2 : MS}
theorem q_rs_retL (he : Pl X H0 P e ml) : Ps X H0 P (.Return (some e) pos) (sRetL ml) := .mk (rs_retL (he := he.h))
end
section
variable {X : Cx} {H0 : Hp} {P : List Addr} {pos : Pos} {e : Expr} {m : MM D} {ml : MM (List D)} {st : Stmt} {rest a b : List Stmt} {m1 m2 : MS}
theorem q_rs_if {c : Expr} {mc : MM Bool} (hc : Pt X H0 P c mc) (ha : Pss X H0 P a m1) (hb : Pss X H0 P b m2) : Ps X H0 P (.If c a b pos) (sIf mc m1 m2) := .mk (rs_if (hc := hc.h) (ha := ha.h) (hb := hb.h))
end
section
variable {X : Cx} {H0 : Hp} {P : List Addr} {pos : Pos} {e : Expr} {m : MM D} {ml : MM (List D)} {st : Stmt} {rest a b : List Stmt} {m1 m2 : MS}
theorem q_rs_set {i : Nat} {x : Str} {pos' : Pos} (hN : X.N.Nodup) (he : Pe X H0 P e m) (hi : X.N[i]? = some x := by rfl) (hx : Loc X.env.scope x := by first | exact Or.inl rfl | exact Or.inr rfl) (hs : swapsWith e (some (.Name x pos')) pos.line X.env = pure false := by rfl) (hf : X.fn x = true ∨ X.env.scope.names.lookup x = some .local := by first | exact .inl rfl | exact .inr rfl) : Ps X H0 P (.Assign [.Name x pos'] e pos) (sSet i m) := .mk (rs_set (hN := hN) (he := he.h) (hi := hi) (hx := hx) (hs := hs) (hf := hf))
end
section
variable {X : Cx} {H0 : Hp} {P : List Addr} {pos : Pos} {e : Expr} {m : MM D} {ml : MM (List D)} {st : Stmt} {rest a b : List Stmt} {m1 m2 : MS}
theorem q_rs_setL {i : Nat} {x : Str} {pos' : Pos} (hN : X.N.Nodup) (he : Pl X H0 P e ml) (hi : X.N[i]? = some x := by rfl) (hx : Loc X.env.scope x := by first | exact Or.inl rfl | exact Or.inr rfl) (hs : swapsWith e (some (.Name x pos')) pos.line X.env = pure false := by rfl) (hf : X.fn x = true ∨ X.env.scope.names.lookup x = some .local := by first | exact .inl rfl | exact .inr rfl) : Ps X H0 P (.Assign [.Name x pos'] e pos) (sSetL i ml) := .mk (rs_setL (hN := hN) (he := he.h) (hi := hi) (hx := hx) (hs := hs) (hf := hf))
end
section
variable {X : Cx} {H0 : Hp} {P : List Addr} {pos : Pos} {e : Expr} {m : MM D} {ml : MM (List D)} {st : Stmt} {rest a b : List Stmt} {m1 m2 : MS}
theorem q_gm_name {i : Nat} {x : Str} (hN : X.N.Nodup) (hi : X.N[i]? = some x := by rfl) (hx : Loc X.env.scope x := by first | exact Or.inl rfl | exact Or.inr rfl) (hf : X.fn x = true ∨ X.env.scope.names.lookup x = some .local := by first | exact .inl rfl | exact .inr rfl) : Pgm X H0 P (.Name x pos) (gName i) [i] (gN i) := .mk (gm_name (hN := hN) (hi := hi) (hx := hx) (hf := hf))
end
section
variable {X : Cx} {H0 : Hp} {P : List Addr} {pos : Pos} {e : Expr} {m : MM D} {ml : MM (List D)} {st : Stmt} {rest a b : List Stmt} {m1 m2 : MS}
end
section
variable {X : Cx} {H0 : Hp} {P : List Addr} {pos : Pos} {e : Expr} {m : MM D} {ml : MM (List D)} {st : Stmt} {rest a b : List Stmt} {m1 m2 : MS}
end
section
variable {X : Cx} {H0 : Hp} {P : List Addr} {pos : Pos} {e : Expr} {m : MM D} {ml : MM (List D)} {st : Stmt} {rest a b : List Stmt} {m1 m2 : MS}
end
section
variable {X : Cx} {H0 : Hp} {P : List Addr} {pos : Pos} {e : Expr} {m : MM D} {ml : MM (List D)} {st : Stmt} {rest a b : List Stmt} {m1 m2 : MS}
end
section
variable {X : Cx} {H0 : Hp} {P : List Addr} {pos : Pos} {e : Expr} {m : MM D} {ml : MM (List D)} {st : Stmt} {rest a b : List Stmt} {m1 m2 : MS}
variable {tg iter : Expr} {g : TG} {f : D → En → Option En} {body : List Stmt} {mb : MS}
theorem q_im_seq (he : Pe X H0 P iter m) : Pim X H0 P tg iter (iSeq X.K (tR (wd X H0 P) m)) (msSeq m) := .mk (im_seq (he := he.h))
end
section
variable {X : Cx} {H0 : Hp} {P : List Addr} {pos : Pos} {e : Expr} {m : MM D} {ml : MM (List D)} {st : Stmt} {rest a b : List Stmt} {m1 m2 : MS}
variable {tg iter : Expr} {g : TG} {f : D → En → Option En} {body : List Stmt} {mb : MS}
theorem q_im_rng {ea : Expr} {mr : MM (List D)} {p1 p2 : Pos} (hgl : Gl X "range") (hm : X.mg "range" = none) (he : Pa X H0 P [ea] mr) (hse : starEach [ea] X.env = [(false, eval ea X.env)] := by rfl) : Pim X H0 P tg (.Call (.Name "range" p1) [ea] [] p2) (iRng1 (tA (wd X H0 P) mr)) (msRng mr) := .mk (im_rng (hgl := hgl) (hm := hm) (he := he.h) (hse := hse))
end
section
variable {X : Cx} {H0 : Hp} {P : List Addr} {pos : Pos} {e : Expr} {m : MM D} {ml : MM (List D)} {st : Stmt} {rest a b : List Stmt} {m1 m2 : MS}
variable {tg iter : Expr} {g : TG} {f : D → En → Option En} {body : List Stmt} {mb : MS}
end
section
variable {X : Cx} {H0 : Hp} {P : List Addr} {pos : Pos} {e : Expr} {m : MM D} {ml : MM (List D)} {st : Stmt} {rest a b : List Stmt} {m1 m2 : MS}
variable {tg iter : Expr} {g : TG} {f : D → En → Option En} {body : List Stmt} {mb : MS}
theorem q_rs_for {wi : TI} {is : List Nat} {ms : MM (List D)} (hp : PassesOwn (model X.prog X.w) X.A X.env X.xe) (hc : X.calm = true) (hi : Pim X H0 P tg iter wi ms) (hg : Pgm X H0 P tg g is f) (hb : Pss X H0 P body mb) (hsf : ∀ x, foldedSetIterable iter X.env x = pure x := by intro _; rfl) : Ps X H0 P (.For tg iter body [] pos) (sFor ms f mb) := .mk (rs_for (hp := hp) (hc := hc) (hi := hi.h) (hg := hg.h) (hb := hb.h) (hsf := hsf))
end
section
variable {X : Cx} {H0 : Hp} {P : List Addr} {pos : Pos} {e : Expr} {m : MM D} {ml : MM (List D)} {st : Stmt} {rest a b : List Stmt} {m1 m2 : MS}
variable {tg iter : Expr} {g : TG} {f : D → En → Option En} {body : List Stmt} {mb : MS}
end
section
variable {X : Cx} {H0 : Hp} {P : List Addr} {pos : Pos} {tg iter elt : Expr} {ifs : List Expr} {scope : Scope} {own : List (Str × Nat)} {wi : TI} {g : TG} {is : List Nat} {f : D → En → Option En} {ms : MM (List D)} {mt : MM Bool} {me : MM D}
theorem q_rts_nil  : Pts X H0 P [] mYes := .mk (rts_nil )
end
section
variable {X : Cx} {H0 : Hp} {P : List Addr} {pos : Pos} {tg iter elt : Expr} {ifs : List Expr} {scope : Scope} {own : List (Str × Nat)} {wi : TI} {g : TG} {is : List Nat} {f : D → En → Option En} {ms : MM (List D)} {mt : MM Bool} {me : MM D}
end
section
variable {X : Cx} {H0 : Hp} {P : List Addr} {pos : Pos} {tg iter elt : Expr} {ifs : List Expr} {scope : Scope} {own : List (Str × Nat)} {wi : TI} {g : TG} {is : List Nat} {f : D → En → Option En} {ms : MM (List D)} {mt : MM Bool} {me : MM D}
theorem q_rl_lc (hc : X.calm = true) (hN : X.N.Nodup) (hi : Pim X H0 P tg iter wi ms) (ok : BlkOk X.N X.env.scope scope own) (hg : ∀ (s : Shared) (H : Hp) (C : Addr) (cl : List (Str × Addr)) (fp : List Addr), Pgm (X.blk s H scope (compEnvC scope cl C X.env) fp) H0 P tg g is f) (ht : ∀ (s : Shared) (H : Hp) (C : Addr) (cl : List (Str × Addr)) (fp : List Addr), Pts (X.blk s H scope (compEnvC scope cl C X.env) fp) H0 P ifs mt) (he : ∀ (s : Shared) (H : Hp) (C : Addr) (cl : List (Str × Addr)) (fp : List Addr), Pe (X.blk s H scope (compEnvC scope cl C X.env) fp) H0 P elt me) (hsub : ∀ i ∈ is, i ∈ own.map (·.2)) (hown : ∀ d ρ ρ', f d ρ = some ρ' → ∀ (j : Nat) (s : S1), ρ'[j]? = some (some s) → s.own = true → ρ[j]? = some (some s)) (hs : ∀ x, foldedSetIterable iter X.env x = pure x := by intro _; rfl) : Pl X H0 P (.ListComp elt [⟨tg, iter, ifs, 0⟩] scope pos) (mLc (own.map (·.2)) ms f mt me) := .mk (rl_lc (hc := hc) (hN := hN) (hi := hi.h) (ok := ok) (hg := fun s H C cl fp => (hg s H C cl fp).h) (ht := fun s H C cl fp => (ht s H C cl fp).h) (he := fun s H C cl fp => (he s H C cl fp).h) (hsub := hsub) (hown := hown) (hs := hs))
end
section
variable {X : Cx} {H0 : Hp} {P : List Addr} {pos : Pos} {tg iter elt : Expr} {ifs : List Expr} {scope : Scope} {own : List (Str × Nat)} {wi : TI} {g : TG} {is : List Nat} {f : D → En → Option En} {ms : MM (List D)} {mt : MM Bool} {me : MM D}
end
section
variable {X : Cx} {H0 : Hp} {P : List Addr} {pos p py gpos : Pos} {T : List Addr} {y : Str} {iter elt : Expr} {scope : Scope} {f : D → Option Bool} {m : MM D} {k : Nat}
end
section
variable {X : Cx} {H0 : Hp} {P : List Addr} {pos p py gpos : Pos} {T : List Addr} {y : Str} {iter elt : Expr} {scope : Scope} {f : D → Option Bool} {m : MM D} {k : Nat}
end
section
variable {X : Cx} {H0 : Hp} {P : List Addr} {pos : Pos} {e : Expr} {m : MM D} {x : Str} {p1 : Pos}
end
section
variable {X : Cx} {H0 : Hp} {P : List Addr} {pos : Pos} {e : Expr} {m : MM D} {x : Str} {p1 : Pos}
end
section
variable {X : Cx} {H0 : Hp} {P : List Addr} {pos : Pos} {e : Expr} {m : MM D} {x : Str} {p1 : Pos}
end
section
variable {X : Cx} {H0 : Hp} {P : List Addr} {pos : Pos} {e : Expr} {m : MM D} {x : Str} {p1 : Pos}
variable {Pr : Program} {w : World} {K : PySem.W.Frag} {mg : Str → Option Value} {base : Heap}
variable {k n : Nat} {f : Addr} {fd : FuncData} {ps : List Str} {mf : List D → Re} {es : List Expr} {mr : MM (List D)} {p : Pos}
end
section
variable {X : Cx} {H0 : Hp} {P : List Addr} {pos : Pos} {e : Expr} {m : MM D} {x : Str} {p1 : Pos}
variable {Pr : Program} {w : World} {K : PySem.W.Frag} {mg : Str → Option Value} {base : Heap}
variable {k n : Nat} {f : Addr} {fd : FuncData} {ps : List Str} {mf : List D → Re} {es : List Expr} {mr : MM (List D)} {p : Pos}
theorem q_rl_call {T : List Addr} (F : FnOk X.prog X.w X.K X.mg X.base CX0 k f fd ps (spI T X.K n mf)) (hr : Room k X.A) (hT : TbW T H0 P) (hg : Gl X x) (hm : X.mg x = some (.ref f)) (hk : PySem.W.keepIn X.K (.ref f) = true) (hb : Binds X.K fd ps []) (hn : (e :: es).length = n) (ha : Pa X H0 P (e :: es) mr) (hlen : ∀ ρ ds ρ', mr ρ = .ok ds ρ' → ds.length = (e :: es).length) (hdb : (x == ("__debug__" : Str)) = false := by decide) (he : starEach (e :: es) X.env = (false, eval e X.env) :: starEach es X.env := by rfl) (hpl : (backTo pos (starEach es X.env)).any (·.1) = false := by rfl) : Pl X H0 P (.Call (.Name x p) (e :: es) [] pos) (mCFL mf mr) := .mk (rl_call (F := F) (hr := hr) (hT := hT) (hg := hg) (hm := hm) (hk := hk) (hb := hb) (hn := hn) (ha := ha.h) (hlen := hlen) (hdb := hdb) (he := he) (hpl := hpl))
end
section
variable {X : Cx} {H0 : Hp} {P : List Addr} {pos : Pos} {e : Expr} {m : MM D} {x y : Str} {p1 p : Pos} {k n : Nat} {f : Addr} {fd : FuncData} {ps : List Str} {mf : List (Str × D) → List D → ReS} {es : List Expr} {mr : MM (List D)}
end
section
variable {X : Cx} {H0 : Hp} {P : List Addr} {pos : Pos} {e : Expr} {m : MM D} {x y : Str} {p1 p : Pos} {k n : Nat} {f : Addr} {fd : FuncData} {ps : List Str} {mf : List (Str × D) → List D → ReS} {es : List Expr} {mr : MM (List D)}
end
section
variable {X : Cx} {H0 : Hp} {P : List Addr} {pos : Pos} {a b e : Expr} {ma mb m : MM D}
end
section
variable {X : Cx} {H0 : Hp} {P : List Addr} {pos : Pos} {a b e : Expr} {ma mb m : MM D}
theorem q_rl_cat (ha : Pe X H0 P a ma) (hb : Pe X H0 P b mb) : Pl X H0 P (.BinOp a .Add b pos) (mBinL fCat ma mb) := .mk (rl_cat (ha := ha.h) (hb := hb.h))
end
section
variable {X : Cx} {H0 : Hp} {P : List Addr} {pos : Pos} {a b e : Expr} {ma mb m : MM D}
end
section
variable {X : Cx} {H0 : Hp} {P : List Addr} {pos apos : Pos} {a b e : Expr} {ma mb m : MM D}
theorem q_re_join (ho : Pe X H0 P a ma) (he : Pe X H0 P b mb) (hs : starEach [b] X.env = [(false, eval b X.env)] := by rfl) (hbase : attributeBase a "join" X.env (eval a X.env) = eval a X.env := by rfl) (hline : (apos.endLine == pos.line) = true := by rfl) : Pe X H0 P (.Call (.Attribute a "join" apos) [b] [] pos) (mBinN fJoin ma mb) := .mk (re_join (ho := ho.h) (he := he.h) (hs := hs) (hbase := hbase) (hline := hline))
end
section
variable {X : Cx} {H0 : Hp} {P : List Addr} {pos apos : Pos} {a b e : Expr} {ma mb m : MM D}
end
section
variable {X : Cx} {H0 : Hp} {P : List Addr} {pos apos : Pos} {a b e : Expr} {ma mb m : MM D}
end
section
variable {X : Cx} {H0 : Hp} {P : List Addr} {e iter tg : Expr} {m : MM D}
end
section
variable {X : Cx} {H0 : Hp} {P : List Addr} {e iter tg : Expr} {m : MM D}
end
section
variable {X : Cx} {H0 : Hp} {P : List Addr} {tg : Expr}
end
section
variable {X : Cx} {H0 : Hp} {P : List Addr} {tg : Expr}
end
section
variable {X : Cx} {H0 : Hp} {P : List Addr} {pos p py gpos : Pos} {T : List Addr} {y : Str} {iter elt : Expr} {scope : Scope} {me : MM D} {ms : MM (List D)} {wi : TI} {k : Nat}
end
section
variable {X : Cx} {H0 : Hp} {P : List Addr} {pos p py gpos : Pos} {T : List Addr} {y : Str} {iter elt : Expr} {scope : Scope} {me : MM D} {ms : MM (List D)} {wi : TI} {k : Nat}
end
section
variable {X : Cx} {H0 : Hp} {P : List Addr} {pos p1 : Pos} {x : Str} {e : Expr} {m : MM D}
end
section
variable {X : Cx} {H0 : Hp} {P : List Addr} {pos p1 : Pos} {x : Str} {e : Expr} {m : MM D}
end
section
variable {X : Cx} {H0 : Hp} {P : List Addr} {pos p1 : Pos} {x : Str} {e : Expr} {m : MM D}
end
section
variable {X : Cx} {H0 : Hp} {P : List Addr} {pos p1 : Pos} {x : Str} {e : Expr} {m : MM D}
end
section
variable {X : Cx} {H0 : Hp} {P : List Addr} {pos p1 : Pos} {x : Str} {e : Expr} {m : MM D}
end
section
variable {X : Cx} {H0 : Hp} {P : List Addr} {pos p1 : Pos} {x : Str} {e : Expr} {m : MM D}
variable {k n : Nat} {f : Addr} {fd : FuncData} {ps : List Str} {mf : List (Str × D) → List D → ReS} {es : List Expr} {mr : MM (List D)} {p : Pos}
end
section
variable {X : Cx} {H0 : Hp} {P : List Addr} {pos p1 : Pos} {x : Str} {e : Expr} {m : MM D}
end
section
variable {X : Cx} {H0 : Hp} {P : List Addr} {pos p1 : Pos} {x : Str} {e : Expr} {m : MM D}
end
section
variable {X : Cx} {H0 : Hp} {P : List Addr} {pos p1 : Pos} {x : Str} {e : Expr} {m : MM D}
end
section
variable {X : Cx} {H0 : Hp} {P : List Addr} {pos p1 : Pos} {x : Str} {e : Expr} {m : MM D}
end
section
variable {X : Cx} {H0 : Hp} {P : List Addr} {pos p1 : Pos} {x : Str} {e : Expr} {m : MM D}
end
section
variable {X : Cx} {H0 : Hp} {P : List Addr} {pos p1 p2 : Pos} {x : Str} {a b e : Expr} {ma mb m : MM D}
end
section
variable {X : Cx} {H0 : Hp} {P : List Addr} {pos p1 p2 : Pos} {x : Str} {a b e : Expr} {ma mb m : MM D}
end
section
variable {X : Cx} {H0 : Hp} {P : List Addr} {pos p1 p2 : Pos} {x : Str} {a b e : Expr} {ma mb m : MM D}
end
section
variable {X : Cx} {H0 : Hp} {P : List Addr} {pos p1 p2 : Pos} {x : Str} {a b e : Expr} {ma mb m : MM D}
end
section
variable {X : Cx} {H0 : Hp} {P : List Addr} {pos p1 p2 : Pos} {x : Str} {a b e : Expr} {ma mb m : MM D}
end
section
variable {X : Cx} {H0 : Hp} {P : List Addr} {pos p1 p2 : Pos} {x : Str} {a b e : Expr} {ma mb m : MM D}
end
section
variable [Wish]
end
section
variable {X : Cx} {H0 : Hp} {P : List Addr} {pos p1 p2 : Pos} {x : Str} {a b e : Expr} {ma mb m : MM D}
variable {es : List Expr} {mr : MM (List D)} {p : Pos} {id : String}
end
section
variable {X : Cx} {H0 : Hp} {P : List Addr} {pos p1 p2 : Pos} {x : Str} {a b e : Expr} {ma mb m : MM D}
variable {es : List Expr} {mr : MM (List D)} {p : Pos} {id : String}
end
section
variable {X : Cx} {H0 : Hp} {P : List Addr} {pos p1 p2 : Pos} {x : Str} {a b e : Expr} {ma mb m : MM D}
end
section
variable {X : Cx} {H0 : Hp} {P : List Addr} {pos p1 p2 : Pos} {x : Str} {a b e : Expr} {ma mb m : MM D}
end
section
variable {X : Cx} {H0 : Hp} {P : List Addr} {pos : Pos} {e b : Expr} {m mb : MM D} {ml : MM (List D)} {x y : Str} {p1 p : Pos} {k n : Nat} {f : Addr} {fd : FuncData} {ps : List Str} {mf : List D → List D → ReB} {es : List Expr} {mr : MM (List D)}
end
section
variable {X : Cx} {H0 : Hp} {P : List Addr} {pos : Pos} {e b : Expr} {m mb : MM D} {ml : MM (List D)} {x y : Str} {p1 p : Pos} {k n : Nat} {f : Addr} {fd : FuncData} {ps : List Str} {mf : List D → List D → ReB} {es : List Expr} {mr : MM (List D)}
end
section
variable {X : Cx} {H0 : Hp} {P : List Addr} {pos : Pos} {e b : Expr} {m mb : MM D} {ml : MM (List D)} {x y : Str} {p1 p : Pos} {k n : Nat} {f : Addr} {fd : FuncData} {ps : List Str} {mf : List D → List D → ReB} {es : List Expr} {mr : MM (List D)}
end
section
variable {X : Cx} {H0 : Hp} {P : List Addr} {pos : Pos} {e b : Expr} {m mb : MM D} {ml : MM (List D)} {x y : Str} {p1 p : Pos} {k n : Nat} {f : Addr} {fd : FuncData} {ps : List Str} {mf : List D → List D → ReB} {es : List Expr} {mr : MM (List D)}
end
section
variable {X : Cx} {H0 : Hp} {P : List Addr} {pos : Pos} {e b : Expr} {m mb : MM D} {ml : MM (List D)} {x y : Str} {p1 p : Pos} {k n : Nat} {f : Addr} {fd : FuncData} {ps : List Str} {mf : List D → List D → ReB} {es : List Expr} {mr : MM (List D)}
end
section
variable {X : Cx}
variable {H0 : Hp} {P : List Addr} {e : Expr} {m : MM D}
end
section
variable {X : Cx} {e es : Expr} {te ts : TE} {pos p2 : Pos}
variable {H0 : Hp} {P : List Addr} {m ms : MM D}
end
section
variable {X : Cx} {H0 : Hp} {P : List Addr} {pos : Pos} {tg iter kx vx : Expr} {ifs : List Expr} {scope : Scope} {own : List (Str × Nat)} {wi : TI} {g : TG} {is : List Nat} {f : D → En → Option En} {ms : MM (List D)} {mt : MM Bool} {mk mv : MM D}
end
section
variable {X : Cx} {H0 : Hp} {P : List Addr} {e : Expr} {es : List Expr} {m : MM D} {r : Str → MM Str} {pos : Pos}
theorem q_rj_nil  : Pj X H0 P [] jN := .mk (rj_nil )
end
section
variable {X : Cx} {H0 : Hp} {P : List Addr} {e : Expr} {es : List Expr} {m : MM D} {r : Str → MM Str} {pos : Pos}
theorem q_rj_str {x : Str} {j} (h : Pj X H0 P es r) : Pj X H0 P (.Constant (.str x) j pos :: es) (jC x r) := .mk (rj_str (h := h.h))
end
section
variable {X : Cx} {H0 : Hp} {P : List Addr} {e : Expr} {es : List Expr} {m : MM D} {r : Str → MM Str} {pos : Pos}
theorem q_rj_val (he : Pe X H0 P e m) (h : Pj X H0 P es r) : Pj X H0 P (.FormattedValue e (-1) none pos :: es) (jV m r) := .mk (rj_val (he := he.h) (h := h.h))
end
section
variable {X : Cx} {H0 : Hp} {P : List Addr} {e : Expr} {es : List Expr} {m : MM D} {r : Str → MM Str} {pos : Pos}
theorem q_re_fs {v1 v2 : Expr} {rest : List Expr} (h : Pj X H0 P (v1 :: v2 :: rest) r) : Pe X H0 P (.JoinedStr (v1 :: v2 :: rest) pos) (mFs r) := .mk (re_fs (h := h.h))
end
section
variable {X : Cx} {H0 : Hp} {P : List Addr} {e : Expr} {es : List Expr} {m : MM D} {r : Str → MM Str} {pos : Pos}
end
section
variable {X : Cx} {H0 : Hp} {P : List Addr} {e : Expr} {es : List Expr} {m : MM D} {r : Str → MM Str} {pos : Pos}
end
section
variable {X : Cx} {H0 : Hp} {P : List Addr} {e : Expr} {es : List Expr} {m : MM D} {r : Str → MM Str} {pos : Pos}
end
section
variable {X : Cx} {H0 : Hp} {P : List Addr} {e : Expr} {es : List Expr} {m : MM D} {r : Str → MM Str} {pos : Pos}
end
section
variable {X : Cx} {H0 : Hp} {P : List Addr} {e : Expr} {es : List Expr} {m : MM D} {r : Str → MM Str} {pos : Pos}
end
section
variable {X : Cx} {H0 : Hp} {P : List Addr} {e : Expr} {es : List Expr} {m : MM D} {r : Str → MM Str} {pos : Pos}
end
section
variable {X : Cx} {H0 : Hp} {P : List Addr} {pos : Pos} {e b : Expr} {m mb : MM D} {x y y2 : Str} {p1 p2 p : Pos} {k n : Nat} {f : Addr} {fd : FuncData} {ps : List Str} {mf : List D → List (Str × D) → List D → ReM} {es : List Expr} {mr : MM (List D)}
end
section
variable {X : Cx} {H0 : Hp} {P : List Addr} {pos : Pos} {e b : Expr} {m mb : MM D} {x y y2 : Str} {p1 p2 p : Pos} {k n : Nat} {f : Addr} {fd : FuncData} {ps : List Str} {mf : List D → List (Str × D) → List D → ReM} {es : List Expr} {mr : MM (List D)}
end
section
variable {X : Cx} {e es : Expr} {te ts : TE} {pos p2 : Pos}
variable {H0 : Hp} {P : List Addr} {m ms : MM D}
end
section
variable {X : Cx} {H0 : Hp} {P : List Addr}
end
section
variable {X : Cx} {H0 : Hp} {P : List Addr}
variable {a : Expr} {ta : TE} {ma : MM D} {pos : Pos}
end
section
variable {X : Cx} {H0 : Hp} {P : List Addr} {pos p py gpos : Pos} {T : List Addr} {y f : Str} {i : Nat} {iter elt : Expr} {scope : Scope} {me : MM D} {ms : MM (List D)} {wi : TI} {k : Nat}
end
section
variable {X : Cx} {H0 : Hp} {P : List Addr} {pos p py gpos : Pos} {T : List Addr} {y f : Str} {i : Nat} {iter elt : Expr} {scope : Scope} {me : MM D} {ms : MM (List D)} {wi : TI} {k : Nat}
end
section
variable {X : Cx} {H0 : Hp} {P : List Addr} {pos : Pos} {e e2 : Expr} {m m2 : MM D}
end
section
variable {X : Cx} {H0 : Hp} {P : List Addr} {pos : Pos} {e e2 : Expr} {m m2 : MM D}
end
section
variable {Pr : Program} {w : World} {K : PySem.W.Frag} {mg : Str → Option Value} {base : Heap}
theorem q_fn_pure {T : List Addr} {x qual : Str} {st : Stmt} {f : Addr} {fd : FuncData} {N ps : List Str} {k : Nat} {mb : MS} (F : Fun K x qual st f fd) (S : FnScope N ps (defScope st))
    (hb : ∀ (cdv : Value) (A : Around) (outer : List Env) (s : Shared) (H : Hp) (E : XK), Room k (A.deeper (envOfC qual (defScope st) s.heap.objs.size f cdv)) → TbW T H [] → fd.code = cdv → Pss (cxOf CX0 Pr w K mg base N qual (defScope st) f cdv A outer s H E).nox H [] (defBody st) mb) :
    FnOk Pr w K mg base CX0 (k + 1) f fd ps (spI T K ps.length (mfn N.length mb)) := fn_pure F S fun cdv A outer s H E hr hT hcd => (hb cdv A outer s H E hr hT hcd).h
end
end Pu

namespace Pu
open PySem PySem.Spec PyProof.Rows L2
variable [Wish]
theorem atI_some {α : Type} {l : List α} {n : Nat} {a : α} (h : l[n]? = some a) : atI l (n : Int) = some a := by
  have hn : n < l.length := (List.getElem?_eq_some_iff.mp h).1
  unfold atI ixN
  rw [if_pos (by omega), if_pos (by omega)]
  simpa using h
theorem atI0 {α : Type} {a : α} {l : List α} : atI (a :: l) 0 = some a := atI_some (n := 0) rfl
theorem sized_le {n : Nat} (h : n ≤ 16000000) : sized n = true := decide_eq_true (Nat.le_trans h (by rw [sizeLine_eq]; decide))
theorem lt_line {n : Nat} (h : n ≤ 16000000) : n < sizeLine := Nat.lt_of_le_of_lt h (by rw [sizeLine_eq]; decide)
/-- a small index by a remainder -/
theorem mod_cases {c : Int} {k : Nat} (hk : 0 < k) : ∃ j : Nat, j < k ∧ c % (k : Int) = (j : Int) := by
  have h0 := Int.emod_nonneg c (show (k : Int) ≠ 0 by omega)
  have h1 := Int.emod_lt_of_pos c (show (0 : Int) < k by omega)
  exact ⟨(c % (k : Int)).toNat, by omega, by omega⟩
theorem fMod_eq {i j : Int} (h0 : 0 < j) : fMod (.int i) (.int j) = some (.int (i % j)) := by
  unfold fMod
  dsimp only
  rw [if_pos (decide_eq_true h0)]
theorem fIxL {ds : List D} {i : Int} : fIx (.list ds) (.int i) = atI ds i := rfl
theorem cut_take {α : Type} (xs : List α) (j : Nat) : cutD xs none (some (j : Int)) = xs.take j := by
  unfold cutD
  rw [HT.sIx_none, HT.sIx_nat, List.drop_zero, Nat.sub_zero]
  by_cases h : j ≤ xs.length
  · rw [Nat.min_eq_left h]
  · rw [Nat.min_eq_right (by omega), List.take_of_length_le (Nat.le_refl _), List.take_of_length_le (by omega)]
/-! ### statement by statement -/
theorem seq_nx {a b : MS} {ρ ρ' : En} (h : a ρ = .nx ρ') : sSeq a b ρ = b ρ' := by unfold sSeq; rw [h]
theorem bs_ok {α : Type} {m : MM α} {f : α → MS} {ρ ρ' : En} {a : α} (h : m ρ = .ok a ρ') : bs m f ρ = f a ρ' := by unfold bs; rw [h]
theorem bd_ok {α β : Type} {m : MM α} {f : α → MM β} {ρ ρ' : En} {a : α} (h : m ρ = .ok a ρ') : bd m f ρ = f a ρ' := by unfold bd; rw [h]
theorem if_f {c : MM Bool} {a b : MS} {ρ ρ' : En} (h : c ρ = .ok false ρ') : sIf c a b ρ = b ρ' := by unfold sIf; rw [bs_ok h]; rfl
theorem ret_ok {m : MM D} {ρ ρ' : En} {d : D} (h : m ρ = .ok d ρ') : sRet m ρ = .rt (.imm d) ρ' := by unfold sRet; rw [bs_ok h]
theorem for_ok {ms : MM (List D)} {f : D → En → Option En} {b : MS} {ρ ρ' : En} {ds : List D} (h : ms ρ = .ok ds ρ') : sFor ms f b ρ = forD f b ds ρ' := by unfold sFor; rw [bs_ok h]
theorem set_ok {i : Nat} {m : MM D} {ρ ρ' : En} {d : D} (h : m ρ = .ok d ρ') (hi : i < ρ'.length) : sSet i m ρ = .nx (ρ'.set i (some (.imm d))) := by unfold sSet; rw [bs_ok h, if_pos hi]
theorem setL_ok {i : Nat} {m : MM (List D)} {ρ ρ' : En} {d : List D} (h : m ρ = .ok d ρ') (hi : i < ρ'.length) : sSetL i m ρ = .nx (ρ'.set i (some (.lst d))) := by unfold sSetL; rw [bs_ok h, if_pos hi]
theorem mfn_rt {n : Nat} {b : MS} {ds : List D} {r : RV} {ρ' : En} (h : b (enI n ds) = .rt r ρ') : mfn n b ds = .ok r := by unfold mfn; rw [h]
/-! ### comprehensions and loops of the mirror -/
theorem for_cons {f : D → En → Option En} {b : MS} {d : D} {r : List D} {ρ ρ1 ρ2 : En} (h1 : f d ρ = some ρ1) (h2 : b ρ1 = .nx ρ2) : forD f b (d :: r) ρ = forD f b r ρ2 := by
  show (match f d ρ with
    | none => Fl.no
    | some ρ1 => match b ρ1 with
      | .nx ρ2 => forD f b r ρ2
      | .ct ρ2 => forD f b r ρ2
      | .bk ρ2 => .nx ρ2
      | .rt v ρ2 => .rt v ρ2
      | .ex c ρ2 => .ex c ρ2
      | .no => .no) = _
  rw [h1]
  dsimp only
  rw [h2]
end Pu

namespace Pu
open PySem PySem.Spec PyProof.Rows L2
variable [Wish]
/-! ### texts -/
theorem slen_append (a b : Str) : (a ++ b).length = a.length + b.length := by
  show (a.cps ++ b.cps).size = a.cps.size + b.cps.size
  exact Array.size_append
theorem fAdd_str {a b : Str} (h : a.length + b.length ≤ 16000000) : fAdd (.str a) (.str b) = some (.str (a ++ b)) := by
  show (if sized (a.length + b.length) then some (PyData.str (a ++ b)) else none) = _
  rw [if_pos (sized_le h)]
end Pu

namespace Pu
open PySem PySem.Spec PyProof.Rows L2
variable [Wish]
theorem lc_map {α : Type} {vs : List Nat} {f : D → En → Option En} {tt : MM Bool} {te : MM D} {ρ : En} (g : α → D) (p : α → Bool) (e : α → D) : ∀ (ds : List α) (acc : List D),
    (∀ d ∈ ds, ∃ ρ1, f (g d) ρ = some ρ1 ∧ ∃ ρ2, tt ρ1 = .ok (p d) ρ2 ∧ (p d = false → wipeE vs ρ2 = ρ) ∧ (p d = true → ∃ ρ3, te ρ2 = .ok (e d) ρ3 ∧ wipeE vs ρ3 = ρ)) → acc.length + ds.length ≤ 16000000 →
    lcD vs f tt te (ds.map g) acc ρ = .ok (acc ++ (ds.filter p).map e) ρ
  | [], acc, _, _ => by simp [lcD, pu]
  | d :: r, acc, h, hl => by
    obtain ⟨ρ1, e1, ρ2, e2, h3, h4⟩ := h d List.mem_cons_self
    rw [List.length_cons] at hl
    rw [List.map_cons]
    unfold lcD
    rw [e1]
    dsimp only
    rw [e2]
    cases hp : p d with
    | false =>
      dsimp only
      rw [h3 hp, lc_map g p e r acc (fun x hx => h x (List.mem_cons_of_mem _ hx)) (by omega), List.filter_cons_of_neg (by rw [hp]; simp)]
    | true =>
      dsimp only
      obtain ⟨ρ3, e3, w3⟩ := h4 hp
      rw [e3]
      dsimp only
      rw [if_pos (lt_line (by omega)), w3, lc_map g p e r _ (fun x hx => h x (List.mem_cons_of_mem _ hx)) (by rw [List.length_append, List.length_singleton]; omega), List.filter_cons_of_pos hp, List.map_cons, List.append_assoc]
      rfl
theorem mLcM_eq {α : Type} {vs : List Nat} {ms : MM (List D)} {f : D → En → Option En} {tt : MM Bool} {te : MM D} {ρ ρ' ρw : En} {ds : List α} (g : α → D) (p : α → Bool) (e : α → D) (hm : ms ρ = .ok (ds.map g) ρ') (hw : wipeE vs ρ' = ρw)
    (h : ∀ d ∈ ds, ∃ ρ1, f (g d) ρw = some ρ1 ∧ ∃ ρ2, tt ρ1 = .ok (p d) ρ2 ∧ (p d = false → wipeE vs ρ2 = ρw) ∧ (p d = true → ∃ ρ3, te ρ2 = .ok (e d) ρ3 ∧ wipeE vs ρ3 = ρw)) (hl : ds.length ≤ 16000000) :
    mLc vs ms f tt te ρ = .ok ((ds.filter p).map e) ρw := by
  unfold mLc bd
  rw [hm]
  dsimp only
  rw [hw, lc_map g p e ds [] h (by simpa using hl)]
  rfl
end Pu

namespace Pu
open PySem PySem.Spec PyProof.Rows L2
/-! ### the facts of the text about an error class -/
structure ErrTx (Pm : Program) (K : Fg) (mg : Str → Option Value) (cls qual : Str) (st : Stmt) (N : List Str) (l : List (Str × Nat)) (C : Addr) : Prop where
  ex : ∃ (G NC NG fI cc cda : Addr) (kV doc pm ct : Value) (an : Option Addr), Ex.ErrK Pm K mg C G NC NG fI cc cda (PySem.W.ksFn "__init__" qual (defArgs st) (defBody st) (defScope st) .none kV doc pm an (.ref cda) ct cc) qual (defScope st) (N.headD "") cls ∧ PySem.W.codeIn K (.ref cda) qual = true ∧
    Binds K (PySem.W.ksFn "__init__" qual (defArgs st) (defBody st) (defScope st) .none kV doc pm an (.ref cda) ct cc) N []
  xk : Ex.ExK K C cls
  set : PySem.W.findIn K (.ref C) "__setattr__" = some (some (.builtin "object.__setattr__"))
  fs : ∀ p ∈ l, PySem.W.findIn K (.ref C) p.1 = some none
  g : mg cls = some (.ref C)
  kp : PySem.W.keepIn K (.ref C) = true
def iOnly (sc : Scope) : Bool := sc.names.all fun p => (p.2 != .cell && p.2 != .free) || p.1 == "__class__"
theorem iscope {N : List Str} {sc : Scope} (h1 : sc.kind = .function) (h2 : N.Nodup) (h3 : N.all (fun x => sc.names.lookup x == some .local) = true) (h4 : iOnly sc = true) (h5 : sc.names.lookup ("super" : Str) = some .globalImplicit) (h6 : sc.names.lookup ("__class__" : Str) = some .free) : Ex.IScope N sc := by
  refine ⟨h1, h2, fun x hx => eq_of_beq (List.all_eq_true.mp h3 x hx), fun x hx => ?_, h5, h6⟩
  unfold iOnly at h4
  rcases hx with hx | hx
  · have := List.all_eq_true.mp h4 _ (PySem.mem_of_lookup hx)
    simpa using this
  · have := List.all_eq_true.mp h4 _ (PySem.mem_of_lookup hx)
    simpa using this
section
variable {Pr : Program} {w : World} {K : Fg} {mg : Str → Option Value} {base : Heap} {N : List Str} {cls qual : Str} {st : Stmt} {l : List (Str × Nat)} {C : Addr} {body : List Stmt} {p0 p1 apos cpos pos : Pos} {tx : Expr} {k : Nat} {mt : MM D}
theorem err_mk' [Wish] (T : ErrTx Pr K mg cls qual st N l C) (S : Ex.IScope N (defScope st)) (hbody : defBody st = .Expr (.Call (.Attribute (.Call (.Name "super" p0) [] [] p1) "__init__" apos) [tx] [] cpos) pos :: body)
    (hcel : ∀ x ∈ (defScope st).names, x.2 ≠ .cell) (hco : (defScope st).isCoroutine = false) (hgen : (defScope st).isGenerator = false) (h0 : N[0]? = some (N.headD "")) (d1 : ((N.headD "") == ("__debug__" : Str)) = false) (d2 : ((N.headD "") == ("__classdict__" : Str)) = false)
    (St : ∀ L fI cda cc, Ex.Stores N (N.headD "") (Ex.ieEnv qual (defScope st) L fI cda cc) body l) (hne : l ≠ []) (hz : l.length ≤ 100) (hN : N.length ≤ 100) (hl : ∀ p ∈ l, 1 ≤ p.2 ∧ p.2 < N.length)
    (hT : ∀ (X : Cx) (A' : Around) (L fI cda cc : Addr) (s : Shared) (H : Hp), X.mg = mg → X.K = K → Room k (A'.deeper (Ex.ieEnv qual (defScope st) L fI cda cc)) → Pe (Ex.cxI X A' N (Ex.ieEnv qual (defScope st) L fI cda cc) s H) H [] tx mt) (hst : ∀ L fI cda cc, starEach [tx] (Ex.ieEnv qual (defScope st) L fI cda cc) = [(false, eval tx (Ex.ieEnv qual (defScope st) L fI cda cc))])
    (hev : ∀ L fI cda cc, eval (.Call (.Attribute (.Call (.Name "super" p0) [] [] p1) "__init__" apos) [tx] [] cpos) (Ex.ieEnv qual (defScope st) L fI cda cc) = (do
      let ov ← attributeBase (.Call (.Name "super" p0) [] [] p1) "__init__" (Ex.ieEnv qual (defScope st) L fI cda cc) (eval (.Call (.Name "super" p0) [] [] p1) (Ex.ieEnv qual (defScope st) L fI cda cc))
      standAt apos.atName
      let (f, first) ← holding [ov] (getMethod ov "__init__" (pure false))
      callWith cpos f first (backTo cpos (starEach [tx] (Ex.ieEnv qual (defScope st) L fI cda cc))) []))
    (hsw : ∀ L fI cda cc, swapsWith (.Call (.Attribute (.Call (.Name "super" p0) [] [] p1) "__init__" apos) [tx] [] cpos) none pos.line (Ex.ieEnv qual (defScope st) L fI cda cc) = pure false) :
    ErrMk Pr w K mg base (k + 2) C (xF cls N.length l mt) := by
  obtain ⟨G, NC, NG, fI, cc, cda, kV, doc, pm, ct, an, Z, hcode, hb⟩ := T.ex
  rw [hbody] at Z hb
  exact err_mk Z T.xk S hcode hb hcel hco hgen h0 d1 d2 (fun L => St L fI cda cc) hne hz hN T.fs hl T.set (fun X A' L s H e1 e2 hr => (hT X A' L fI cda cc s H e1 e2 hr).h) (fun L => hst L fI cda cc) (fun L => hev L fI cda cc) (fun L => hsw L fI cda cc)
/-- from the written part -/
theorem errTx_of {h : Heap} {G NC fI cc cda : Addr} {kV doc pm ct c0 ccl cl cN : Value} {an dd od ddG cdd cld dN dNG : Option Addr} {q : Str} {bs sub : List Value} {sn : List Str} {ab : Bool} {col : Option Bool} {k0 k1 k2 k3 k5 : Option Value} {cdG : ClassData} {slG osl ccs csl slN slNG : Array (Option Value)} {cvs : Array Value} {file : Str} {tf : Tok} {cNG : Value} {esN esNG : Array DictEntry} {nN nNG : Nat} (X : K.In h) (Gm : h.Ns mainGlobals mg)
    (gC : PySem.W.nsIn K mainGlobals cls = some (some (.ref C))) (lC : K.lookup C = some (excClassObj cls q C NC bs (.ref G :: Ex.bV) true sn sub ab col dd k0 k1 k2 k3 k5 "ValueError.__new__")) (gG : PySem.W.nsIn K mainGlobals "GraftError" = some (some (.ref G))) (lG : K.lookup G = some ⟨c0, ddG, .cls cdG, slG⟩) (nG : cdG.name = "GraftError")
    (iG : PySem.W.nsIn K cdG.ns "__init__" = some none) (lNG : K.lookup cdG.ns = some ⟨cNG, dNG, .dict esNG nNG, slNG⟩) (oG : (esNG.all fun e => match e.key with | .str _ _ => true | _ => false) = true) (lN : K.lookup NC = some ⟨cN, dN, .dict esN nN, slN⟩) (oC : (esN.all fun e => match e.key with | .str _ _ => true | _ => false) = true)
    (iC : PySem.W.nsIn K NC "__init__" = some (some (.ref fI))) (lF : K.lookup fI = some ⟨.type "function", od, .func (PySem.W.ksFn "__init__" qual (defArgs st) (defBody st) (defScope st) .none kV doc pm an (.ref cda) ct cc), osl⟩) (lD : K.lookup cda = some ⟨ccl, cdd, .fields cvs, ccs⟩) (vD : cvs[2]? = some (.str file tf)) (fD : ((Pr.main.file : Str) == file) = true)
    (tp : (Pr.main.scope.names.lookup ("super" : Str)).isSome = false) (lc : K.lookup cc = some ⟨cl, cld, .cell (some (.ref C)), csl⟩) (sup : PySem.W.nsIn K mainGlobals "super" = some none) (opq : PySem.W.nsIn K cStatics "thirdparty.any" = some none) (hcode : PySem.W.codeIn K (.ref cda) qual = true)
    (ga : PySem.W.findIn K (.ref C) "__getattribute__" = some (some (.builtin "BaseException.__getattribute__"))) (gt : PySem.W.findIn K (.ref C) "__getattr__" = some none) (kc : PySem.W.findIn K (.ref C) "__class__" = some (some (.builtin "object.__class__"))) (set : PySem.W.findIn K (.ref C) "__setattr__" = some (some (.builtin "object.__setattr__")))
    (f1 : PySem.W.findIn K (.ref C) "at" = some none) (f2 : PySem.W.findIn K (.ref C) "place" = some none) (f3 : PySem.W.findIn K (.ref C) "number" = some none) (f4 : PySem.W.findIn K (.ref C) "key" = some none) (f5 : PySem.W.findIn K (.ref C) "word" = some none) (f6 : PySem.W.findIn K (.ref C) "row" = some none) (f7 : PySem.W.findIn K (.ref C) "most" = some none) (f8 : PySem.W.findIn K (.ref C) "text" = some none)
    (kp : PySem.W.keepIn K (.ref C) = true) (hl : ∀ p ∈ l, p.1 ∈ Ex.errFs) (hargs : ∃ ar : Arg, ((defArgs st).posonlyargs ++ (defArgs st).args).head? = some ar ∧ ar.arg = N.headD "")
    (hb : ∀ us : List Value, us.length = N.length → bindArgs (PySem.W.ksFn "__init__" qual (defArgs st) (defBody st) (defScope st) .none kV doc pm an (.ref cda) ct cc) ⟨us, []⟩ = pure (N.zip us)) : ErrTx Pr K mg cls qual st N l C := by
  have hfs : ∀ f ∈ Ex.errFs, PySem.W.findIn K (.ref C) f = some none := fun f hf => by
    simp only [Ex.errFs, List.mem_cons, List.not_mem_nil, or_false] at hf
    rcases hf with rfl | rfl | rfl | rfl | rfl | rfl | rfl | rfl
    · exact f1
    · exact f2
    · exact f3
    · exact f4
    · exact f5
    · exact f6
    · exact f7
    · exact f8
  have nm : Ex.ClsNm K "GraftError" G := ⟨gG, c0, ddG, cdG, slG, lG, nG⟩
  have o1 : PySem.W.nsOkIn K cdG.ns = true := by unfold PySem.W.nsOkIn; rw [lNG]; exact oG
  have o2 : PySem.W.nsOkIn K NC = true := by unfold PySem.W.nsOkIn; rw [lN]; exact oC
  refine ⟨⟨G, NC, cdG.ns, fI, cc, cda, kV, doc, pm, ct, an, ⟨⟨q, bs, sn, sub, ab, col, dd, k0, k1, k2, k3, k5, lC⟩, ⟨c0, ddG, cdG, slG, lG, rfl, iG, o1⟩, nm, o2, iC, ⟨_, od, osl, lF, rfl⟩, hargs, ⟨ccl, cdd, cvs, ccs, file, tf, lD, vD, fD⟩, tp, ⟨cl, cld, csl, lc⟩, PySem.W.mg_none_of X Gm sup, opq⟩, hcode, .all hb⟩,
    ⟨⟨G, NC, q, bs, sn, sub, ab, col, dd, k0, k1, k2, k3, k5, lC, nm⟩, gC, ga, gt, kc, hfs⟩, set, fun p hp => hfs _ (hl p hp), PySem.W.mg_of X Gm gC, kp⟩
theorem catch_of {d : Str} {D : Addr} {dd : Option Addr} {cd : ClassData} {sl : Array (Option Value)} (g : PySem.W.nsIn K mainGlobals d = some (some (.ref D))) (lk : K.lookup D = some ⟨.type "type", dd, .cls cd, sl⟩) (n : cd.name = d) (b : cd.mro.contains (.type "BaseException") = true) : CatchK K d D := ⟨g, dd, cd, sl, lk, n, b⟩
end
/-! ### the rules once more, over judgements that are not unfolded -/
theorem kit_ValueError (K : Fg) : ∀ d : D, PySem.W.kitOne K (.type (tyD d)) (.type "ValueError") = some (isT "ValueError" d) := by
  intro d; cases d <;> first | rfl | kernel_rfl
section
variable [Wish] {X : Cx} {H0 : Hp} {P : List Addr} {x : Str} {p np cpos pos : Pos} {e : Expr} {es : List Expr} {mr : MM (List D)} {m : MM D} {k n : Nat} {f C : Addr} {fd : FuncData} {ps : List Str}
theorem q_re_att {f : Str} (he : Pe X H0 P e m) (hb : attributeBase e f X.env (eval e X.env) = eval e X.env := by rfl) : Pe X H0 P (.Attribute e f pos) (mUn (fAtt f) m) := .mk (re_att he.h hb)
theorem q_re_isE {d : Str} {D : Addr} {p' : Pos} (hD : CatchK X.K d D) (hg : Gl X "isinstance") (hm : X.mg "isinstance" = none) (hg2 : Gl X d) (hm2 : X.mg d = some (.ref D)) (ha : Pe X H0 P e m) (hdb : (d == ("__debug__" : Str)) = false := by decide)
    (he : starEach (e :: [Expr.Name d p']) X.env = (false, eval e X.env) :: starEach [Expr.Name d p'] X.env := by rfl) (hpl : (backTo pos (starEach [Expr.Name d p'] X.env)).any (·.1) = false := by rfl) :
    Pe X H0 P (.Call (.Name "isinstance" p) (e :: [Expr.Name d p']) [] pos) (mUn (fIsE [d]) m) := .mk (re_isE (y := d) hD hg hm hg2 hm2 ha.h hdb he hpl)
theorem q_re_mk {ff : List D → Option XD} (M : ErrMk X.prog X.w X.K X.mg X.base k C ff) (hr : Room k X.A) (hg : Gl X x) (hm : X.mg x = some (.ref C)) (hk : PySem.W.keepIn X.K (.ref C) = true)
    (ha : Pa X H0 P (e :: es) mr) (hdb : (x == ("__debug__" : Str)) = false := by decide) (he : starEach (e :: es) X.env = (false, eval e X.env) :: starEach es X.env := by rfl) (hpl : (backTo pos (starEach es X.env)).any (·.1) = false := by rfl) :
    Pe X H0 P (.Call (.Name x p) (e :: es) [] pos) (mMk ff mr) := .mk (re_mk M hr hg hm hk ha.h hdb he hpl)
end
end Pu
namespace Ex
open PySem
/-- the class object, by a word that is unfolded when it is asked -/
abbrev errObj (nm q : Str) (C N : Addr) (bs bm : List Value) (hdct : Bool) (sn : List Str) (sub : List Value) (ab : Bool) (col : Option Bool) (dd : Option Addr) (k0 k1 k2 k3 k5 : Option Value) (newId : String) : Obj := excClassObj nm q C N bs bm hdct sn sub ab col dd k0 k1 k2 k3 k5 newId
end Ex

namespace Kt
open PySem PySem.Spec PyProof.Rows L2 Pu
/-! ### the letters of a text -/
abbrev cs (x : Str) : List Nat := x.cps.toList
def inB (z : Str) (c : Nat) : Bool := !(Builtin.Str.occurrences z ⟨#[c]⟩ 0 z.length 1).isEmpty
theorem len_cs (x : Str) : x.length = (cs x).length := by unfold cs; rw [Array.length_toList]; rfl
def hdB (z : Str) : List Nat → Bool
  | [] => false
  | c :: _ => inB z c
def keyB (n : Int) (g l x : Str) : Bool := decide ((1 : Int) ≤ x.length) && decide ((x.length : Int) ≤ n) && (hdB g (cs x) && (cs x).all (inB l))
def sgnB (n : Int) (l x : Str) : Bool := decide ((1 : Int) ≤ x.length) && decide ((x.length : Int) ≤ n) && (cs x).all (inB l)
theorem first {x : Str} (h : x.length ≤ 1000) (h1 : (1 : Int) ≤ x.length) : ∃ c, fIx (.str x) (.int 0) = some (.str ⟨#[c]⟩) ∧ ∀ z, hdB z (cs x) = inB z c := by
  have e := len_cs x
  cases q : cs x with
  | nil => rw [q] at e; simp at e; omega
  | cons c r =>
    refine ⟨c, ?_, fun z => rfl⟩
    show (if sized x.length then (atI x.cps.toList 0).map (fun c => PyData.str ⟨#[c]⟩) else none) = _
    rw [if_pos (sized_le (by omega)), show x.cps.toList = c :: r from q, atI0]
    rfl
abbrev GR : Str := "ABCDEFGHIJKLMNOPQRSTUVWXYZ"
abbrev NL : Str := "ABCDEFGHIJKLMNOPQRSTUVWXYZ0123456789"
abbrev SM : Str := "abcdefghijklmnopqrstuvwxyz"
theorem gr_fact : ∀ c ∈ cs GR, inB GR c = true ∧ c ∈ cs NL := by decide +kernel
theorem nl_fact : ∀ c ∈ cs NL, inB NL c = true ∧ c < 128 ∧ 47 < c ∧ c ≠ 63 ∧ c ≠ 91 ∧ c ≠ 93 := by decide +kernel
theorem sm_fact : ∀ c ∈ cs SM, inB SM c = true ∧ c < 128 ∧ 96 < c := by decide +kernel
structure Nm (x : Str) : Prop where
  len : x.length ≤ 24
  hd : ∃ c r, cs x = c :: r ∧ c ∈ cs GR ∧ ∀ d ∈ r, d ∈ cs NL
structure Sg (x : Str) : Prop where
  ne : 1 ≤ x.length
  len : x.length ≤ 6
  all : ∀ d ∈ cs x, d ∈ cs SM
/-- a text of plain letters, none a blank -/
def Pl (x : Str) : Prop := ∀ c ∈ cs x, c < 128 ∧ 32 < c
theorem strOk_of {x : Str} (h : ∀ c ∈ cs x, c < 128) : PyData.strOk x = true := by
  unfold PyData.strOk
  rw [Array.all_eq_true']
  intro c hc
  have := h c (by simpa [cs] using hc)
  simp
  omega
theorem Pl.ok {x : Str} (h : Pl x) : PyData.strOk x = true := strOk_of fun c hc => (h c hc).1
theorem Nm.all {x : Str} (h : Nm x) : ∀ d ∈ cs x, d ∈ cs NL := by
  obtain ⟨c, r, e, h1, h2⟩ := h.hd
  intro d hd
  rw [e] at hd
  rcases List.mem_cons.mp hd with rfl | hd
  · exact (gr_fact _ h1).2
  · exact h2 d hd
theorem Nm.pl {x : Str} (h : Nm x) : Pl x := fun c hc => by
  have := nl_fact c (h.all c hc)
  omega
theorem Sg.pl {x : Str} (h : Sg x) : Pl x := fun c hc => by
  have := sm_fact c (h.all c hc)
  omega
theorem Nm.b {x : Str} (h : Nm x) : keyB 24 GR NL x = true := by
  obtain ⟨c, r, e, h1, h2⟩ := h.hd
  have l1 := h.len
  have l2 := len_cs x
  have l3 : (cs x).length = r.length + 1 := by rw [e]; rfl
  unfold keyB
  rw [decide_eq_true (show (1 : Int) ≤ x.length by omega), decide_eq_true (show (x.length : Int) ≤ 24 by omega)]
  rw [show (cs x).all (inB NL) = true from List.all_eq_true.mpr fun d hd => (nl_fact d (h.all d hd)).1, e]
  show (true && true && (inB GR c && true)) = true
  rw [(gr_fact c h1).1]
  rfl
theorem Sg.b {x : Str} (h : Sg x) : sgnB 6 SM x = true := by
  have l1 := h.len
  have l2 := h.ne
  unfold sgnB
  rw [decide_eq_true (show (1 : Int) ≤ x.length by omega), decide_eq_true (show (x.length : Int) ≤ 6 by omega)]
  rw [show (cs x).all (inB SM) = true from List.all_eq_true.mpr fun d hd => (sm_fact d (h.all d hd)).1]
  rfl
theorem cs_append (a b : Str) : cs (a ++ b) = cs a ++ cs b := TL.tl_append a b
theorem fNeW_same {d : D} (h : shW d = true) : fNeW d d = some false := by
  unfold fNeW
  rw [h, PySem.SeqAt.eqv_refl d (Bool.and_eq_true_iff.mp h).1]
  rfl
/-! ### slices of texts -/
/-! ### trees -/
inductive Tr where
  | sign (s : Str) | void | hole (n : Str) | foot (n : Str) | knot (n : Str) (t : Option (Str × Bool)) (kids : List Tr)
mutual
def Tr.sz : Tr → Nat
  | .knot _ _ ks => 1 + szs ks
  | _ => 1
def szs : List Tr → Nat
  | [] => 0
  | t :: r => t.sz + szs r
end
def TakOk : Option (Str × Bool) → Prop
  | none => True
  | some (m, _) => Nm m
/-- a tree with at most k knots within one another -/
def Wf : Nat → Tr → Prop
  | _, .sign s => Sg s
  | _, .void => True
  | _, .hole n => Nm n
  | _, .foot n => Nm n
  | 0, .knot _ _ _ => False
  | k + 1, .knot n t ks => Nm n ∧ TakOk t ∧ 1 ≤ ks.length ∧ ks.length ≤ 8 ∧ ∀ c ∈ ks, Wf k c
theorem Wf.leafS {s : Str} (h : Sg s) : ∀ k, Wf k (.sign s)
  | 0 => h
  | _ + 1 => h
theorem Wf.leafV : ∀ k, Wf k .void
  | 0 => trivial
  | _ + 1 => trivial
theorem Wf.leafH {s : Str} (h : Nm s) : ∀ k, Wf k (.hole s)
  | 0 => h
  | _ + 1 => h
theorem Wf.leafF {s : Str} (h : Nm s) : ∀ k, Wf k (.foot s)
  | 0 => h
  | _ + 1 => h
theorem Wf.up : ∀ {k : Nat} {t : Tr}, Wf k t → Wf (k + 1) t
  | k, .sign _, h => Wf.leafS (by cases k <;> exact h) _
  | _, .void, _ => Wf.leafV _
  | k, .hole _, h => Wf.leafH (by cases k <;> exact h) _
  | k, .foot _, h => Wf.leafF (by cases k <;> exact h) _
  | 0, .knot _ _ _, h => h.elim
  | k + 1, .knot _ _ _, ⟨h1, h2, h3, h4, h5⟩ => ⟨h1, h2, h3, h4, fun c hc => Wf.up (h5 c hc)⟩
/-! ### the words -/
def takW : Option (Str × Bool) → List Str
  | none => []
  | some (m, b) => [(if b then ("!" : Str) else "?") ++ m]
mutual
def Tr.ws : Tr → List Str
  | .sign s => [s]
  | .void => ["-"]
  | .hole n => ["+" ++ n]
  | .foot n => ["*" ++ n]
  | .knot n t ks => "[" :: n :: (takW t ++ (wss ks ++ (["]"] : List Str)))
def wss : List Tr → List Str
  | [] => []
  | t :: r => t.ws ++ wss r
end
def sD (l : List Str) : List D := l.map PyData.str
/-- a word of a tree: plain letters, at most 25 of them, at least one -/
def Wd (w : Str) : Prop := Pl w ∧ w.length ≤ 25 ∧ 1 ≤ w.length
theorem Nm.wd {x : Str} (h : Nm x) : Wd x := ⟨h.pl, by have := h.len; omega, by
  obtain ⟨c, r, e, _⟩ := h.hd
  rw [len_cs, e]
  simp⟩
theorem Sg.wd {x : Str} (h : Sg x) : Wd x := ⟨h.pl, by have := h.len; omega, h.ne⟩
/-! ### laid out: depth and letters -/
/-! ### joined and cut again -/
theorem strsD_sD : ∀ l : List Str, strsD (sD l) = some l
  | [] => rfl
  | a :: r => by
    show (strsD (sD r)).map (a :: ·) = _
    rw [strsD_sD r]
    rfl
theorem join_len (y : Str) : ∀ l : List Str, (Str.join y l).length ≤ (l.map (·.length)).sum + l.length * y.length
  | [] => by show (0 : Nat) ≤ _; omega
  | [a] => by
    show a.length ≤ (a.length + 0) + 1 * y.length
    omega
  | a :: b :: r => by
    have ih := join_len y (b :: r)
    show (a ++ y ++ Str.join y (b :: r)).length ≤ _
    rw [slen_append, slen_append]
    simp only [List.map_cons, List.sum_cons, List.length_cons] at ih ⊢
    have e := Nat.succ_mul (r.length + 1) y.length
    rw [Nat.succ_eq_add_one] at e
    omega
def blank : Str := " "
end Kt

namespace K18
open PySem PySem.Spec PyProof.Rows L2 Pu
def top (i : Nat) : Stmt := PySem.Challenge.pw_graftsay_k18_refusals_apart.main.body.getD i (.Pass ⟨0, 0, 0, 0⟩)
abbrev s__law_sorts : Stmt := top 13
abbrev s_law : Stmt := top 14
def x_NoKey : MM D := (mFs (jC "there is no key for tree " (jV (mV 1) jN)))
def x_NoLine : MM D := (mV 1)
def x_NoPlace : MM D := (mC (.str "the tree has no such place"))
def x_NoPlan : MM D := (mV 1)
def x_NoRow : MM D := (mFs (jC "text " (jV (mV 1) (jC " is no row of a book" jN))))
def x_NoText : MM D := (mFs (jC "nothing is written so, as word " (jV (mV 1) (jC " shows" jN))))
def x_NoTree : MM D := (mFs (jC "the tree " (jV (mV 1) (jC " is no start and no graft: " (jV (mV 2) jN)))))
def x_TooMany : MM D := (mFs (jC "there are more than " (jV (mV 1) jN)))
def x_Twice : MM D := (mFs (jC "the key " (jV (mV 1) (jC " stands twice" jN))))
def x_TwoSided : MM D := (mFs (jC "the graft " (jV (mV 1) (jC " is put in from two sides" jN))))
def b__law_sorts : MS := (sSeq (sSetL 1 (mLst (mCons (mUn (fIsE ["NoPlace"]) (mV 0)) (mCons (mUn (fIsE ["NoText"]) (mV 0)) (mCons (mUn (fIsE ["NoKey"]) (mV 0)) (mCons (mUn (fIsE ["Twice"]) (mV 0)) mNil)))))) (sSeq (sSetL 1 (mBinL fCat (mV 1) (fz (mLst (mCons (mUn (fIsE ["NoTree"]) (mV 0)) (mCons (mUn (fIsE ["NoRow"]) (mV 0)) (mCons (mUn (fIsE ["TooMany"]) (mV 0)) mNil))))))) (sRetL (mBinL fCat (mV 1) (fz (mLst (mCons (mUn (fIsE ["TwoSided"]) (mV 0)) (mCons (mUn (fIsE ["NoPlan"]) (mV 0)) (mCons (mUn (fIsE ["NoLine"]) (mV 0)) mNil)))))))))
def m__law_sorts : List D → Re := mfn 2 b__law_sorts
def b_law : MS := (sSeq (sSet 1 (mIf (mCmp fGt (mCall gLen (mCons (mV 0) mNil)) (mC (.int 0))) (mBin fMod (mBin fIx (mV 0) (mC (.int 0))) (mC (.int 1001))) (mC (.int 0)))) (sSeq (sSet 2 (mCall gTuple (mCons (fz (mLc [7] (msSeq (fz (mSlL (mV 0) mNoP (mPt (mC (.int 12)))))) (gN 7) mYes (mBin fMod (mV 7) (mC (.int 8))))) mNil))) (sSeq (sSet 3 (mBin fAdd (mC (.str "k")) (mBinN fJoin (mC (.str "")) (fz (mLc [7] (msSeq (fz (mSlL (mV 0) mNoP (mPt (mC (.int 8)))))) (gN 7) mYes (mBin fIx (mC (.str "abcxyz")) (mBin fMod (mV 7) (mC (.int 6))))))))) (sSeq (sSet 4 (mBin fIx (fz (mLst (mCons (mC (.str "knot")) (mCons (mC (.str "feet")) (mCons (mC (.str "sign")) (mCons (mC (.str "great")) mNil)))))) (mBin fMod (mV 1) (mC (.int 4))))) (sSeq (sSetL 5 (mLst (mCons (mMk (xF "NoPlace" 2 [("place", 1)] x_NoPlace) (mCons (mV 2) mNil)) (mCons (mMk (xF "NoText" 2 [("at", 1)] x_NoText) (mCons (mV 1) mNil)) (mCons (mMk (xF "NoKey" 2 [("number", 1)] x_NoKey) (mCons (mV 1) mNil)) (mCons (mMk (xF "Twice" 2 [("key", 1)] x_Twice) (mCons (mV 3) mNil)) (mCons (mMk (xF "NoTree" 3 [("key", 1), ("word", 2)] x_NoTree) (mCons (mV 3) (mCons (mV 4) mNil))) (mCons (mMk (xF "NoRow" 2 [("row", 1)] x_NoRow) (mCons (mV 1) mNil)) mNil)))))))) (sSeq (sSetL 5 (mBinL fCat (mV 5) (fz (mLst (mCons (mMk (xF "TooMany" 2 [("most", 1)] x_TooMany) (mCons (mV 1) mNil)) (mCons (mMk (xF "TwoSided" 2 [("key", 1)] x_TwoSided) (mCons (mV 3) mNil)) (mCons (mMk (xF "NoPlan" 2 [("text", 1)] x_NoPlan) (mCons (mV 3) mNil)) (mCons (mMk (xF "NoLine" 2 [("text", 1)] x_NoLine) (mCons (mV 3) mNil)) mNil)))))))) (sSeq (sFor (msRng (mCons (mC (.int 10)) mNil)) (gN 6) (sSeq (sIf (mCmp fNeW (fz (mCFL m__law_sorts (mCons (mIxL 5 (mV 6)) mNil))) (fz (mLc [8] (msRng (mCons (mC (.int 10)) mNil)) (gN 8) mYes (bl (mCmp fEqW (mV 8) (mV 6)))))) (sRet (mC (.bool false))) sNx) (sIf (mOr (mNot (mTru (mUn (fIsE ["GraftError"]) (mIxL 5 (mV 6))))) (mNot (mTru (mIsi "ValueError" (mIxL 5 (mV 6)))))) (sRet (mC (.bool false))) sNx))) (sSeq (sIf (mCmp fNeW (fz (mLst (mCons (mUn (fAtt "place") (mIxL 5 (mC (.int 0)))) (mCons (mUn (fAtt "at") (mIxL 5 (mC (.int 1)))) (mCons (mUn (fAtt "number") (mIxL 5 (mC (.int 2)))) (mCons (mUn (fAtt "key") (mIxL 5 (mC (.int 3)))) mNil)))))) (fz (mLst (mCons (mV 2) (mCons (mV 1) (mCons (mV 1) (mCons (mV 3) mNil))))))) (sRet (mC (.bool false))) sNx) (sRet (bl (mCmp fEqW (fz (mLst (mCons (mUn (fAtt "key") (mIxL 5 (mC (.int 4)))) (mCons (mUn (fAtt "word") (mIxL 5 (mC (.int 4)))) (mCons (mUn (fAtt "row") (mIxL 5 (mC (.int 5)))) (mCons (mUn (fAtt "most") (mIxL 5 (mC (.int 6)))) (mCons (mUn (fAtt "key") (mIxL 5 (mC (.int 7)))) mNil))))))) (fz (mLst (mCons (mV 3) (mCons (mV 4) (mCons (mV 1) (mCons (mV 1) (mCons (mV 3) mNil))))))))))))))))))
def m_law : List D → Re := mfn 9 b_law
structure Adr where
  a__law_sorts : Addr
  d__law_sorts : FuncData
  a_law : Addr
  d_law : FuncData
  a_GraftError : Addr
  a_NoKey : Addr
  a_NoLine : Addr
  a_NoPlace : Addr
  a_NoPlan : Addr
  a_NoRow : Addr
  a_NoText : Addr
  a_NoTree : Addr
  a_TooMany : Addr
  a_Twice : Addr
  a_TwoSided : Addr
structure Txt (Pm : Program) (tb : List Addr) (K : Fg) (mg : Str → Option Value) (t : Adr) : Prop where
  F__law_sorts : Fun K "_law_sorts" "_law_sorts" s__law_sorts t.a__law_sorts t.d__law_sorts
  b__law_sorts : Binds K t.d__law_sorts ["one"] []
  g__law_sorts : mg "_law_sorts" = some (.ref t.a__law_sorts)
  F_law : Fun K "law" "law" s_law t.a_law t.d_law
  b_law : Binds K t.d_law ["script"] []
  g_law : mg "law" = some (.ref t.a_law)
  E_NoKey : ErrTx Pm K mg "NoKey" "NoKey.__init__" (inClass (top 4) 0) ["self", "number"] [("number", 1)] t.a_NoKey
  E_NoLine : ErrTx Pm K mg "NoLine" "NoLine.__init__" (inClass (top 11) 0) ["self", "text"] [("text", 1)] t.a_NoLine
  E_NoPlace : ErrTx Pm K mg "NoPlace" "NoPlace.__init__" (inClass (top 2) 0) ["self", "place"] [("place", 1)] t.a_NoPlace
  E_NoPlan : ErrTx Pm K mg "NoPlan" "NoPlan.__init__" (inClass (top 10) 0) ["self", "text"] [("text", 1)] t.a_NoPlan
  E_NoRow : ErrTx Pm K mg "NoRow" "NoRow.__init__" (inClass (top 7) 0) ["self", "row"] [("row", 1)] t.a_NoRow
  E_NoText : ErrTx Pm K mg "NoText" "NoText.__init__" (inClass (top 3) 0) ["self", "at"] [("at", 1)] t.a_NoText
  E_NoTree : ErrTx Pm K mg "NoTree" "NoTree.__init__" (inClass (top 6) 0) ["self", "key", "word"] [("key", 1), ("word", 2)] t.a_NoTree
  E_TooMany : ErrTx Pm K mg "TooMany" "TooMany.__init__" (inClass (top 8) 0) ["self", "most"] [("most", 1)] t.a_TooMany
  E_Twice : ErrTx Pm K mg "Twice" "Twice.__init__" (inClass (top 5) 0) ["self", "key"] [("key", 1)] t.a_Twice
  E_TwoSided : ErrTx Pm K mg "TwoSided" "TwoSided.__init__" (inClass (top 9) 0) ["self", "key"] [("key", 1)] t.a_TwoSided
  k_GraftError : CatchK K "GraftError" t.a_GraftError
  kg_GraftError : mg "GraftError" = some (.ref t.a_GraftError)
  k_NoKey : CatchK K "NoKey" t.a_NoKey
  kg_NoKey : mg "NoKey" = some (.ref t.a_NoKey)
  k_NoLine : CatchK K "NoLine" t.a_NoLine
  kg_NoLine : mg "NoLine" = some (.ref t.a_NoLine)
  k_NoPlace : CatchK K "NoPlace" t.a_NoPlace
  kg_NoPlace : mg "NoPlace" = some (.ref t.a_NoPlace)
  k_NoPlan : CatchK K "NoPlan" t.a_NoPlan
  kg_NoPlan : mg "NoPlan" = some (.ref t.a_NoPlan)
  k_NoRow : CatchK K "NoRow" t.a_NoRow
  kg_NoRow : mg "NoRow" = some (.ref t.a_NoRow)
  k_NoText : CatchK K "NoText" t.a_NoText
  kg_NoText : mg "NoText" = some (.ref t.a_NoText)
  k_NoTree : CatchK K "NoTree" t.a_NoTree
  kg_NoTree : mg "NoTree" = some (.ref t.a_NoTree)
  k_TooMany : CatchK K "TooMany" t.a_TooMany
  kg_TooMany : mg "TooMany" = some (.ref t.a_TooMany)
  k_Twice : CatchK K "Twice" t.a_Twice
  kg_Twice : mg "Twice" = some (.ref t.a_Twice)
  k_TwoSided : CatchK K "TwoSided" t.a_TwoSided
  kg_TwoSided : mg "TwoSided" = some (.ref t.a_TwoSided)
  z_ValueError : mg "ValueError" = none
  z_isinstance : mg "isinstance" = none
  z_len : mg "len" = none
  z_range : mg "range" = none
  z_tuple : mg "tuple" = none
theorem sc__law_sorts : FnScope ["one", "found"] ["one"] (defScope s__law_sorts) := ⟨rfl, rfl, rfl, by decide +kernel, rfl, by decide +kernel, by decide +kernel⟩
theorem sc_law : FnScope ["script", "number", "place", "text", "word", "made", "k", "cell", "j"] ["script"] (defScope s_law) := ⟨rfl, rfl, rfl, by decide +kernel, rfl, by decide +kernel, by decide +kernel⟩
section
variable {Pr : Program} {w : World} {K : Fg} {mg : Str → Option Value} {base : Heap} {t : Adr} {tb : List Addr}
set_option maxHeartbeats 4000000 in
theorem mk_NoKey (T : Txt Pr tb K mg t) : ErrMk Pr w K mg base 2 t.a_NoKey (xF "NoKey" 2 [("number", 1)] x_NoKey) :=
  err_mk' (k := 0) T.E_NoKey (iscope rfl (by decide) (by decide +kernel) (by decide +kernel) rfl rfl) rfl (by decide +kernel) rfl rfl rfl (by decide) (by decide) (fun _ _ _ _ => (.cons rfl (by decide) (by decide) rfl .nil)) (by simp) (by decide) (by decide) (by decide)
    (fun X A' L fI cda cc s H hmg hK hr => (q_re_fs (q_rj_str (q_rj_val (q_re_var 1) q_rj_nil)))) (fun _ _ _ _ => rfl) (fun _ _ _ _ => rfl) (fun _ _ _ _ => rfl)
set_option maxHeartbeats 4000000 in
theorem mk_NoLine (T : Txt Pr tb K mg t) : ErrMk Pr w K mg base 2 t.a_NoLine (xF "NoLine" 2 [("text", 1)] x_NoLine) :=
  err_mk' (k := 0) T.E_NoLine (iscope rfl (by decide) (by decide +kernel) (by decide +kernel) rfl rfl) rfl (by decide +kernel) rfl rfl rfl (by decide) (by decide) (fun _ _ _ _ => (.cons rfl (by decide) (by decide) rfl .nil)) (by simp) (by decide) (by decide) (by decide)
    (fun X A' L fI cda cc s H hmg hK hr => (q_re_var 1)) (fun _ _ _ _ => rfl) (fun _ _ _ _ => rfl) (fun _ _ _ _ => rfl)
set_option maxHeartbeats 4000000 in
theorem mk_NoPlace (T : Txt Pr tb K mg t) : ErrMk Pr w K mg base 2 t.a_NoPlace (xF "NoPlace" 2 [("place", 1)] x_NoPlace) :=
  err_mk' (k := 0) T.E_NoPlace (iscope rfl (by decide) (by decide +kernel) (by decide +kernel) rfl rfl) rfl (by decide +kernel) rfl rfl rfl (by decide) (by decide) (fun _ _ _ _ => (.cons rfl (by decide) (by decide) rfl .nil)) (by simp) (by decide) (by decide) (by decide)
    (fun X A' L fI cda cc s H hmg hK hr => q_re_str) (fun _ _ _ _ => rfl) (fun _ _ _ _ => rfl) (fun _ _ _ _ => rfl)
set_option maxHeartbeats 4000000 in
theorem mk_NoPlan (T : Txt Pr tb K mg t) : ErrMk Pr w K mg base 2 t.a_NoPlan (xF "NoPlan" 2 [("text", 1)] x_NoPlan) :=
  err_mk' (k := 0) T.E_NoPlan (iscope rfl (by decide) (by decide +kernel) (by decide +kernel) rfl rfl) rfl (by decide +kernel) rfl rfl rfl (by decide) (by decide) (fun _ _ _ _ => (.cons rfl (by decide) (by decide) rfl .nil)) (by simp) (by decide) (by decide) (by decide)
    (fun X A' L fI cda cc s H hmg hK hr => (q_re_var 1)) (fun _ _ _ _ => rfl) (fun _ _ _ _ => rfl) (fun _ _ _ _ => rfl)
set_option maxHeartbeats 4000000 in
theorem mk_NoRow (T : Txt Pr tb K mg t) : ErrMk Pr w K mg base 2 t.a_NoRow (xF "NoRow" 2 [("row", 1)] x_NoRow) :=
  err_mk' (k := 0) T.E_NoRow (iscope rfl (by decide) (by decide +kernel) (by decide +kernel) rfl rfl) rfl (by decide +kernel) rfl rfl rfl (by decide) (by decide) (fun _ _ _ _ => (.cons rfl (by decide) (by decide) rfl .nil)) (by simp) (by decide) (by decide) (by decide)
    (fun X A' L fI cda cc s H hmg hK hr => (q_re_fs (q_rj_str (q_rj_val (q_re_var 1) (q_rj_str q_rj_nil))))) (fun _ _ _ _ => rfl) (fun _ _ _ _ => rfl) (fun _ _ _ _ => rfl)
set_option maxHeartbeats 4000000 in
theorem mk_NoText (T : Txt Pr tb K mg t) : ErrMk Pr w K mg base 2 t.a_NoText (xF "NoText" 2 [("at", 1)] x_NoText) :=
  err_mk' (k := 0) T.E_NoText (iscope rfl (by decide) (by decide +kernel) (by decide +kernel) rfl rfl) rfl (by decide +kernel) rfl rfl rfl (by decide) (by decide) (fun _ _ _ _ => (.cons rfl (by decide) (by decide) rfl .nil)) (by simp) (by decide) (by decide) (by decide)
    (fun X A' L fI cda cc s H hmg hK hr => (q_re_fs (q_rj_str (q_rj_val (q_re_var 1) (q_rj_str q_rj_nil))))) (fun _ _ _ _ => rfl) (fun _ _ _ _ => rfl) (fun _ _ _ _ => rfl)
set_option maxHeartbeats 4000000 in
theorem mk_NoTree (T : Txt Pr tb K mg t) : ErrMk Pr w K mg base 2 t.a_NoTree (xF "NoTree" 3 [("key", 1), ("word", 2)] x_NoTree) :=
  err_mk' (k := 0) T.E_NoTree (iscope rfl (by decide) (by decide +kernel) (by decide +kernel) rfl rfl) rfl (by decide +kernel) rfl rfl rfl (by decide) (by decide) (fun _ _ _ _ => (.cons rfl (by decide) (by decide) rfl (.cons rfl (by decide) (by decide) rfl .nil))) (by simp) (by decide) (by decide) (by decide)
    (fun X A' L fI cda cc s H hmg hK hr => (q_re_fs (q_rj_str (q_rj_val (q_re_var 1) (q_rj_str (q_rj_val (q_re_var 2) q_rj_nil)))))) (fun _ _ _ _ => rfl) (fun _ _ _ _ => rfl) (fun _ _ _ _ => rfl)
set_option maxHeartbeats 4000000 in
theorem mk_TooMany (T : Txt Pr tb K mg t) : ErrMk Pr w K mg base 2 t.a_TooMany (xF "TooMany" 2 [("most", 1)] x_TooMany) :=
  err_mk' (k := 0) T.E_TooMany (iscope rfl (by decide) (by decide +kernel) (by decide +kernel) rfl rfl) rfl (by decide +kernel) rfl rfl rfl (by decide) (by decide) (fun _ _ _ _ => (.cons rfl (by decide) (by decide) rfl .nil)) (by simp) (by decide) (by decide) (by decide)
    (fun X A' L fI cda cc s H hmg hK hr => (q_re_fs (q_rj_str (q_rj_val (q_re_var 1) q_rj_nil)))) (fun _ _ _ _ => rfl) (fun _ _ _ _ => rfl) (fun _ _ _ _ => rfl)
set_option maxHeartbeats 4000000 in
theorem mk_Twice (T : Txt Pr tb K mg t) : ErrMk Pr w K mg base 2 t.a_Twice (xF "Twice" 2 [("key", 1)] x_Twice) :=
  err_mk' (k := 0) T.E_Twice (iscope rfl (by decide) (by decide +kernel) (by decide +kernel) rfl rfl) rfl (by decide +kernel) rfl rfl rfl (by decide) (by decide) (fun _ _ _ _ => (.cons rfl (by decide) (by decide) rfl .nil)) (by simp) (by decide) (by decide) (by decide)
    (fun X A' L fI cda cc s H hmg hK hr => (q_re_fs (q_rj_str (q_rj_val (q_re_var 1) (q_rj_str q_rj_nil))))) (fun _ _ _ _ => rfl) (fun _ _ _ _ => rfl) (fun _ _ _ _ => rfl)
set_option maxHeartbeats 4000000 in
theorem mk_TwoSided (T : Txt Pr tb K mg t) : ErrMk Pr w K mg base 2 t.a_TwoSided (xF "TwoSided" 2 [("key", 1)] x_TwoSided) :=
  err_mk' (k := 0) T.E_TwoSided (iscope rfl (by decide) (by decide +kernel) (by decide +kernel) rfl rfl) rfl (by decide +kernel) rfl rfl rfl (by decide) (by decide) (fun _ _ _ _ => (.cons rfl (by decide) (by decide) rfl .nil)) (by simp) (by decide) (by decide) (by decide)
    (fun X A' L fI cda cc s H hmg hK hr => (q_re_fs (q_rj_str (q_rj_val (q_re_var 1) (q_rj_str q_rj_nil))))) (fun _ _ _ _ => rfl) (fun _ _ _ _ => rfl) (fun _ _ _ _ => rfl)
set_option maxHeartbeats 4000000 in
theorem ok__law_sorts (T : Txt Pr tb K mg t) (hB : BM base mg) : FnOk Pr w K mg base CX0 1 t.a__law_sorts t.d__law_sorts ["one"] (spI tb K 1 m__law_sorts) := by
  exact q_fn_pure T.F__law_sorts sc__law_sorts fun cdv A outer s H E hr hT hcd =>
    (q_rss_cons (q_rs_setL (i := 1) sc__law_sorts.nd (q_rl_lst (q_ra_cons (q_re_isE T.k_NoPlace rfl T.z_isinstance rfl T.kg_NoPlace (q_re_var 0)) (q_ra_cons (q_re_isE T.k_NoText rfl T.z_isinstance rfl T.kg_NoText (q_re_var 0)) (q_ra_cons (q_re_isE T.k_NoKey rfl T.z_isinstance rfl T.kg_NoKey (q_re_var 0)) (q_ra_cons (q_re_isE T.k_Twice rfl T.z_isinstance rfl T.kg_Twice (q_re_var 0)) q_ra_nil)))))) (q_rss_cons (q_rs_setL (i := 1) sc__law_sorts.nd (q_rl_cat (q_re_var 1) (q_re_fz (q_rl_lst (q_ra_cons (q_re_isE T.k_NoTree rfl T.z_isinstance rfl T.kg_NoTree (q_re_var 0)) (q_ra_cons (q_re_isE T.k_NoRow rfl T.z_isinstance rfl T.kg_NoRow (q_re_var 0)) (q_ra_cons (q_re_isE T.k_TooMany rfl T.z_isinstance rfl T.kg_TooMany (q_re_var 0)) q_ra_nil))))))) (q_rss_one (q_rs_retL (q_rl_cat (q_re_var 1) (q_re_fz (q_rl_lst (q_ra_cons (q_re_isE T.k_TwoSided rfl T.z_isinstance rfl T.kg_TwoSided (q_re_var 0)) (q_ra_cons (q_re_isE T.k_NoPlan rfl T.z_isinstance rfl T.kg_NoPlan (q_re_var 0)) (q_ra_cons (q_re_isE T.k_NoLine rfl T.z_isinstance rfl T.kg_NoLine (q_re_var 0)) q_ra_nil))))))))))
set_option maxHeartbeats 4000000 in
theorem ok_law (T : Txt Pr tb K mg t) (hB : BM base mg) : FnOk Pr w K mg base CX0 3 t.a_law t.d_law ["script"] (spI tb K 1 m_law) := by
  have M_NoKey := (mk_NoKey (Pr := Pr) (w := w) (base := base) T).mono (show 2 ≤ 2 by decide)
  have M_NoLine := (mk_NoLine (Pr := Pr) (w := w) (base := base) T).mono (show 2 ≤ 2 by decide)
  have M_NoPlace := (mk_NoPlace (Pr := Pr) (w := w) (base := base) T).mono (show 2 ≤ 2 by decide)
  have M_NoPlan := (mk_NoPlan (Pr := Pr) (w := w) (base := base) T).mono (show 2 ≤ 2 by decide)
  have M_NoRow := (mk_NoRow (Pr := Pr) (w := w) (base := base) T).mono (show 2 ≤ 2 by decide)
  have M_NoText := (mk_NoText (Pr := Pr) (w := w) (base := base) T).mono (show 2 ≤ 2 by decide)
  have M_NoTree := (mk_NoTree (Pr := Pr) (w := w) (base := base) T).mono (show 2 ≤ 2 by decide)
  have M_TooMany := (mk_TooMany (Pr := Pr) (w := w) (base := base) T).mono (show 2 ≤ 2 by decide)
  have M_Twice := (mk_Twice (Pr := Pr) (w := w) (base := base) T).mono (show 2 ≤ 2 by decide)
  have M_TwoSided := (mk_TwoSided (Pr := Pr) (w := w) (base := base) T).mono (show 2 ≤ 2 by decide)
  have G__law_sorts := (ok__law_sorts (Pr := Pr) (w := w) (base := base) T hB).mono (show 1 ≤ 2 by decide)
  exact q_fn_pure T.F_law sc_law fun cdv A outer s H E hr hT hcd =>
    (q_rss_cons (q_rs_set (i := 1) sc_law.nd (q_re_if (q_rt_cmp op_gtR (q_re_callB cr_len rfl T.z_len PySem.boot_len (q_ra_cons (q_re_var 0) q_ra_nil)) q_re_int) (q_re_op op_modD (q_re_ix (q_re_var 0) q_re_int) q_re_int) q_re_int)) (q_rss_cons (q_rs_set (i := 2) sc_law.nd (q_re_callT cr_tuple rfl T.z_tuple (by decide +kernel) (q_ra_cons (q_re_fz (q_rl_lc (own := [("cell", 7)]) (g := gName 7) (is := [7]) (f := (gN 7)) rfl sc_law.nd (q_im_seq (q_re_fz (q_rl_sl (q_re_var 0) q_ro_none (q_ro_some q_re_int)))) (blkOk_by (own := [("cell", 7)]) (N := ["script", "number", "place", "text", "word", "made", "k", "cell", "j"]) (sc := defScope s_law) (by decide +kernel)) (fun _ _ _ _ _ => (q_gm_name (i := 7) sc_law.nd)) (fun _ _ _ _ _ => q_rts_nil) (fun _ _ _ _ _ => (q_re_op op_modD (q_re_var 7) q_re_int)) (by decide) (fun _ _ _ h _ _ e o => gN_own h e o))) q_ra_nil))) (q_rss_cons (q_rs_set (i := 3) sc_law.nd (q_re_op op_addD q_re_str (q_re_join q_re_str (q_re_fz (q_rl_lc (own := [("cell", 7)]) (g := gName 7) (is := [7]) (f := (gN 7)) rfl sc_law.nd (q_im_seq (q_re_fz (q_rl_sl (q_re_var 0) q_ro_none (q_ro_some q_re_int)))) (blkOk_by (own := [("cell", 7)]) (N := ["script", "number", "place", "text", "word", "made", "k", "cell", "j"]) (sc := defScope s_law) (by decide +kernel)) (fun _ _ _ _ _ => (q_gm_name (i := 7) sc_law.nd)) (fun _ _ _ _ _ => q_rts_nil) (fun _ _ _ _ _ => (q_re_ix q_re_str (q_re_op op_modD (q_re_var 7) q_re_int))) (by decide) (fun _ _ _ h _ _ e o => gN_own h e o)))))) (q_rss_cons (q_rs_set (i := 4) sc_law.nd (q_re_ix (q_re_fz (q_rl_lst (q_ra_cons q_re_str (q_ra_cons q_re_str (q_ra_cons q_re_str (q_ra_cons q_re_str q_ra_nil)))))) (q_re_op op_modD (q_re_var 1) q_re_int))) (q_rss_cons (q_rs_setL (i := 5) sc_law.nd (q_rl_lst (q_ra_cons (q_re_mk M_NoPlace hr rfl T.E_NoPlace.g T.E_NoPlace.kp (q_ra_cons (q_re_var 2) q_ra_nil)) (q_ra_cons (q_re_mk M_NoText hr rfl T.E_NoText.g T.E_NoText.kp (q_ra_cons (q_re_var 1) q_ra_nil)) (q_ra_cons (q_re_mk M_NoKey hr rfl T.E_NoKey.g T.E_NoKey.kp (q_ra_cons (q_re_var 1) q_ra_nil)) (q_ra_cons (q_re_mk M_Twice hr rfl T.E_Twice.g T.E_Twice.kp (q_ra_cons (q_re_var 3) q_ra_nil)) (q_ra_cons (q_re_mk M_NoTree hr rfl T.E_NoTree.g T.E_NoTree.kp (q_ra_cons (q_re_var 3) (q_ra_cons (q_re_var 4) q_ra_nil))) (q_ra_cons (q_re_mk M_NoRow hr rfl T.E_NoRow.g T.E_NoRow.kp (q_ra_cons (q_re_var 1) q_ra_nil)) q_ra_nil)))))))) (q_rss_cons (q_rs_setL (i := 5) sc_law.nd (q_rl_cat (q_re_var 5) (q_re_fz (q_rl_lst (q_ra_cons (q_re_mk M_TooMany hr rfl T.E_TooMany.g T.E_TooMany.kp (q_ra_cons (q_re_var 1) q_ra_nil)) (q_ra_cons (q_re_mk M_TwoSided hr rfl T.E_TwoSided.g T.E_TwoSided.kp (q_ra_cons (q_re_var 3) q_ra_nil)) (q_ra_cons (q_re_mk M_NoPlan hr rfl T.E_NoPlan.g T.E_NoPlan.kp (q_ra_cons (q_re_var 3) q_ra_nil)) (q_ra_cons (q_re_mk M_NoLine hr rfl T.E_NoLine.g T.E_NoLine.kp (q_ra_cons (q_re_var 3) q_ra_nil)) q_ra_nil)))))))) (q_rss_cons (q_rs_for PassesOwn.never rfl (q_im_rng rfl T.z_range (q_ra_cons q_re_int q_ra_nil)) (q_gm_name (i := 6) sc_law.nd) (q_rss_cons (q_rs_if (q_rt_cmp (op_neRW (unitsW hr)) (q_re_fz (q_rl_call G__law_sorts hr hT rfl T.g__law_sorts T.F__law_sorts.kp T.b__law_sorts rfl (q_ra_cons (q_re_ixL 5 (q_re_var 6)) q_ra_nil) (len_cons len_nil))) (q_re_fz (q_rl_lc (own := [("j", 8)]) (g := gName 8) (is := [8]) (f := (gN 8)) rfl sc_law.nd (q_im_rng rfl T.z_range (q_ra_cons q_re_int q_ra_nil)) (blkOk_by (own := [("j", 8)]) (N := ["script", "number", "place", "text", "word", "made", "k", "cell", "j"]) (sc := defScope s_law) (by decide +kernel)) (fun _ _ _ _ _ => (q_gm_name (i := 8) sc_law.nd)) (fun _ _ _ _ _ => q_rts_nil) (fun _ _ _ _ _ => (q_re_cmp (op_eqRW (unitsW hr)) (q_re_var 8) (q_re_var 6))) (by decide) (fun _ _ _ h _ _ e o => gN_own h e o)))) (q_rss_one (q_rs_ret q_re_bool)) q_rss_nil) (q_rss_one (q_rs_if (q_pt (q_rw_or (q_rt_not (q_rt_tru (q_re_isE T.k_GraftError rfl T.z_isinstance rfl T.kg_GraftError (q_re_ixL 5 (q_re_var 6))))) (q_rw_or1 (q_rt_not (q_rt_tru (q_re_isi "ValueError" (kit_ValueError _) rfl T.z_isinstance rfl T.z_ValueError (by decide +kernel) (q_re_ixL 5 (q_re_var 6)))))))) (q_rss_one (q_rs_ret q_re_bool)) q_rss_nil)))) (q_rss_cons (q_rs_if (q_rt_cmp (op_neRW (unitsW hr)) (q_re_fz (q_rl_lst (q_ra_cons (q_re_att (q_re_ixL 5 q_re_int)) (q_ra_cons (q_re_att (q_re_ixL 5 q_re_int)) (q_ra_cons (q_re_att (q_re_ixL 5 q_re_int)) (q_ra_cons (q_re_att (q_re_ixL 5 q_re_int)) q_ra_nil)))))) (q_re_fz (q_rl_lst (q_ra_cons (q_re_var 2) (q_ra_cons (q_re_var 1) (q_ra_cons (q_re_var 1) (q_ra_cons (q_re_var 3) q_ra_nil))))))) (q_rss_one (q_rs_ret q_re_bool)) q_rss_nil) (q_rss_one (q_rs_ret (q_re_cmp (op_eqRW (unitsW hr)) (q_re_fz (q_rl_lst (q_ra_cons (q_re_att (q_re_ixL 5 q_re_int)) (q_ra_cons (q_re_att (q_re_ixL 5 q_re_int)) (q_ra_cons (q_re_att (q_re_ixL 5 q_re_int)) (q_ra_cons (q_re_att (q_re_ixL 5 q_re_int)) (q_ra_cons (q_re_att (q_re_ixL 5 q_re_int)) q_ra_nil))))))) (q_re_fz (q_rl_lst (q_ra_cons (q_re_var 3) (q_ra_cons (q_re_var 4) (q_ra_cons (q_re_var 1) (q_ra_cons (q_re_var 1) (q_ra_cons (q_re_var 3) q_ra_nil))))))))))))))))))
end

set_option maxHeartbeats 4000000 in
theorem all_mk {l : PySem.W.OpenLaw} {w : World} {K : PySem.W.Frag} {h : Heap} {mg : Str → Option Value} {fa : Addr} {q : Program} (X : K.In h) (G : h.Ns mainGlobals mg) (hfa : mg "law" = some (.ref fa))
    {f1 : Addr} {od1 an1 : Option Addr} {sl1 : Array (Option Value)} {oc1 kV1 dc1 pm1 cd1 ct1 : Value} (a1 : PySem.W.nsIn K mainGlobals "_law_sorts" = some (some (.ref f1))) (l1 : K.lookup f1 = some ⟨oc1, od1, .func (PySem.W.fnOf "_law_sorts" "_law_sorts" (defArgs s__law_sorts) (defBody s__law_sorts) (defScope s__law_sorts) .none kV1 dc1 pm1 an1 cd1 ct1), sl1⟩) (c1 : PySem.W.codeIn K cd1 "_law_sorts" = true) (k1 : PySem.W.keepIn K (.ref f1) = true)
    {f2 : Addr} {od2 an2 : Option Addr} {sl2 : Array (Option Value)} {oc2 kV2 dc2 pm2 cd2 ct2 : Value} (a2 : PySem.W.nsIn K mainGlobals "law" = some (some (.ref f2))) (l2 : K.lookup f2 = some ⟨oc2, od2, .func (PySem.W.fnOf "law" "law" (defArgs s_law) (defBody s_law) (defScope s_law) .none kV2 dc2 pm2 an2 cd2 ct2), sl2⟩) (c2 : PySem.W.codeIn K cd2 "law" = true) (k2 : PySem.W.keepIn K (.ref f2) = true)
    (z_ValueError : PySem.W.nsIn K mainGlobals "ValueError" = some none)
    (z_isinstance : PySem.W.nsIn K mainGlobals "isinstance" = some none)
    (z_len : PySem.W.nsIn K mainGlobals "len" = some none)
    (z_range : PySem.W.nsIn K mainGlobals "range" = some none)
    (z_tuple : PySem.W.nsIn K mainGlobals "tuple" = some none)
    {C_NoKey G_NoKey NC_NoKey fI_NoKey cc_NoKey cda_NoKey : Addr} {kV_NoKey doc_NoKey pm_NoKey ct_NoKey c0_NoKey ccl_NoKey cl_NoKey cN_NoKey cNG_NoKey : Value} {an_NoKey dd_NoKey od_NoKey ddG_NoKey cdd_NoKey cld_NoKey dN_NoKey dNG_NoKey : Option Addr} {q_NoKey : Str} {bs_NoKey sub_NoKey : List Value} {sn_NoKey : List Str} {ab_NoKey : Bool} {col_NoKey : Option Bool} {k0_NoKey k1_NoKey k2_NoKey k3_NoKey k5_NoKey : Option Value} {cdG_NoKey : ClassData} {slG_NoKey osl_NoKey ccs_NoKey csl_NoKey slN_NoKey slNG_NoKey : Array (Option Value)} {cvs_NoKey : Array Value} {file_NoKey : Str} {tf_NoKey : Tok} {esN_NoKey esNG_NoKey : Array DictEntry} {nN_NoKey nNG_NoKey : Nat}
    (xC_NoKey : PySem.W.nsIn K mainGlobals "NoKey" = some (some (.ref C_NoKey))) (yC_NoKey : K.lookup C_NoKey = some (Ex.errObj "NoKey" q_NoKey C_NoKey NC_NoKey bs_NoKey (.ref G_NoKey :: Ex.bV) true sn_NoKey sub_NoKey ab_NoKey col_NoKey dd_NoKey k0_NoKey k1_NoKey k2_NoKey k3_NoKey k5_NoKey "ValueError.__new__")) (xG_NoKey : PySem.W.nsIn K mainGlobals "GraftError" = some (some (.ref G_NoKey))) (yG_NoKey : K.lookup G_NoKey = some ⟨c0_NoKey, ddG_NoKey, .cls cdG_NoKey, slG_NoKey⟩) (zG_NoKey : cdG_NoKey.name = "GraftError")
    (wG_NoKey : PySem.W.nsIn K cdG_NoKey.ns "__init__" = some none) (yNG_NoKey : K.lookup cdG_NoKey.ns = some ⟨cNG_NoKey, dNG_NoKey, .dict esNG_NoKey nNG_NoKey, slNG_NoKey⟩) (oG_NoKey : (esNG_NoKey.all fun e => match e.key with | .str _ _ => true | _ => false) = true) (yN_NoKey : K.lookup NC_NoKey = some ⟨cN_NoKey, dN_NoKey, .dict esN_NoKey nN_NoKey, slN_NoKey⟩) (oC_NoKey : (esN_NoKey.all fun e => match e.key with | .str _ _ => true | _ => false) = true)
    (wC_NoKey : PySem.W.nsIn K NC_NoKey "__init__" = some (some (.ref fI_NoKey))) (yF_NoKey : K.lookup fI_NoKey = some ⟨.type "function", od_NoKey, .func (PySem.W.ksFn "__init__" "NoKey.__init__" (defArgs (inClass (top 4) 0)) (defBody (inClass (top 4) 0)) (defScope (inClass (top 4) 0)) .none kV_NoKey doc_NoKey pm_NoKey an_NoKey (.ref cda_NoKey) ct_NoKey cc_NoKey), osl_NoKey⟩) (yD_NoKey : K.lookup cda_NoKey = some ⟨ccl_NoKey, cdd_NoKey, .fields cvs_NoKey, ccs_NoKey⟩) (vD_NoKey : cvs_NoKey[2]? = some (.str file_NoKey tf_NoKey)) (fD_NoKey : ((l.prog.main.file : Str) == file_NoKey) = true)
    (tp_NoKey : (l.prog.main.scope.names.lookup ("super" : Str)).isSome = false) (yc_NoKey : K.lookup cc_NoKey = some ⟨cl_NoKey, cld_NoKey, .cell (some (.ref C_NoKey)), csl_NoKey⟩) (su_NoKey : PySem.W.nsIn K mainGlobals "super" = some none) (op_NoKey : PySem.W.nsIn K cStatics "thirdparty.any" = some none) (co_NoKey : PySem.W.codeIn K (.ref cda_NoKey) "NoKey.__init__" = true)
    (ga_NoKey : PySem.W.findIn K (.ref C_NoKey) "__getattribute__" = some (some (.builtin "BaseException.__getattribute__"))) (gt_NoKey : PySem.W.findIn K (.ref C_NoKey) "__getattr__" = some none) (kc_NoKey : PySem.W.findIn K (.ref C_NoKey) "__class__" = some (some (.builtin "object.__class__"))) (se_NoKey : PySem.W.findIn K (.ref C_NoKey) "__setattr__" = some (some (.builtin "object.__setattr__")))
    (f0_NoKey : PySem.W.findIn K (.ref C_NoKey) "at" = some none) (f1_NoKey : PySem.W.findIn K (.ref C_NoKey) "place" = some none) (f2_NoKey : PySem.W.findIn K (.ref C_NoKey) "number" = some none) (f3_NoKey : PySem.W.findIn K (.ref C_NoKey) "key" = some none) (f4_NoKey : PySem.W.findIn K (.ref C_NoKey) "word" = some none) (f5_NoKey : PySem.W.findIn K (.ref C_NoKey) "row" = some none) (f6_NoKey : PySem.W.findIn K (.ref C_NoKey) "most" = some none) (f7_NoKey : PySem.W.findIn K (.ref C_NoKey) "text" = some none) (kp_NoKey : PySem.W.keepIn K (.ref C_NoKey) = true)
    {C_NoLine G_NoLine NC_NoLine fI_NoLine cc_NoLine cda_NoLine : Addr} {kV_NoLine doc_NoLine pm_NoLine ct_NoLine c0_NoLine ccl_NoLine cl_NoLine cN_NoLine cNG_NoLine : Value} {an_NoLine dd_NoLine od_NoLine ddG_NoLine cdd_NoLine cld_NoLine dN_NoLine dNG_NoLine : Option Addr} {q_NoLine : Str} {bs_NoLine sub_NoLine : List Value} {sn_NoLine : List Str} {ab_NoLine : Bool} {col_NoLine : Option Bool} {k0_NoLine k1_NoLine k2_NoLine k3_NoLine k5_NoLine : Option Value} {cdG_NoLine : ClassData} {slG_NoLine osl_NoLine ccs_NoLine csl_NoLine slN_NoLine slNG_NoLine : Array (Option Value)} {cvs_NoLine : Array Value} {file_NoLine : Str} {tf_NoLine : Tok} {esN_NoLine esNG_NoLine : Array DictEntry} {nN_NoLine nNG_NoLine : Nat}
    (xC_NoLine : PySem.W.nsIn K mainGlobals "NoLine" = some (some (.ref C_NoLine))) (yC_NoLine : K.lookup C_NoLine = some (Ex.errObj "NoLine" q_NoLine C_NoLine NC_NoLine bs_NoLine (.ref G_NoLine :: Ex.bV) true sn_NoLine sub_NoLine ab_NoLine col_NoLine dd_NoLine k0_NoLine k1_NoLine k2_NoLine k3_NoLine k5_NoLine "ValueError.__new__")) (xG_NoLine : PySem.W.nsIn K mainGlobals "GraftError" = some (some (.ref G_NoLine))) (yG_NoLine : K.lookup G_NoLine = some ⟨c0_NoLine, ddG_NoLine, .cls cdG_NoLine, slG_NoLine⟩) (zG_NoLine : cdG_NoLine.name = "GraftError")
    (wG_NoLine : PySem.W.nsIn K cdG_NoLine.ns "__init__" = some none) (yNG_NoLine : K.lookup cdG_NoLine.ns = some ⟨cNG_NoLine, dNG_NoLine, .dict esNG_NoLine nNG_NoLine, slNG_NoLine⟩) (oG_NoLine : (esNG_NoLine.all fun e => match e.key with | .str _ _ => true | _ => false) = true) (yN_NoLine : K.lookup NC_NoLine = some ⟨cN_NoLine, dN_NoLine, .dict esN_NoLine nN_NoLine, slN_NoLine⟩) (oC_NoLine : (esN_NoLine.all fun e => match e.key with | .str _ _ => true | _ => false) = true)
    (wC_NoLine : PySem.W.nsIn K NC_NoLine "__init__" = some (some (.ref fI_NoLine))) (yF_NoLine : K.lookup fI_NoLine = some ⟨.type "function", od_NoLine, .func (PySem.W.ksFn "__init__" "NoLine.__init__" (defArgs (inClass (top 11) 0)) (defBody (inClass (top 11) 0)) (defScope (inClass (top 11) 0)) .none kV_NoLine doc_NoLine pm_NoLine an_NoLine (.ref cda_NoLine) ct_NoLine cc_NoLine), osl_NoLine⟩) (yD_NoLine : K.lookup cda_NoLine = some ⟨ccl_NoLine, cdd_NoLine, .fields cvs_NoLine, ccs_NoLine⟩) (vD_NoLine : cvs_NoLine[2]? = some (.str file_NoLine tf_NoLine)) (fD_NoLine : ((l.prog.main.file : Str) == file_NoLine) = true)
    (tp_NoLine : (l.prog.main.scope.names.lookup ("super" : Str)).isSome = false) (yc_NoLine : K.lookup cc_NoLine = some ⟨cl_NoLine, cld_NoLine, .cell (some (.ref C_NoLine)), csl_NoLine⟩) (su_NoLine : PySem.W.nsIn K mainGlobals "super" = some none) (op_NoLine : PySem.W.nsIn K cStatics "thirdparty.any" = some none) (co_NoLine : PySem.W.codeIn K (.ref cda_NoLine) "NoLine.__init__" = true)
    (ga_NoLine : PySem.W.findIn K (.ref C_NoLine) "__getattribute__" = some (some (.builtin "BaseException.__getattribute__"))) (gt_NoLine : PySem.W.findIn K (.ref C_NoLine) "__getattr__" = some none) (kc_NoLine : PySem.W.findIn K (.ref C_NoLine) "__class__" = some (some (.builtin "object.__class__"))) (se_NoLine : PySem.W.findIn K (.ref C_NoLine) "__setattr__" = some (some (.builtin "object.__setattr__")))
    (f0_NoLine : PySem.W.findIn K (.ref C_NoLine) "at" = some none) (f1_NoLine : PySem.W.findIn K (.ref C_NoLine) "place" = some none) (f2_NoLine : PySem.W.findIn K (.ref C_NoLine) "number" = some none) (f3_NoLine : PySem.W.findIn K (.ref C_NoLine) "key" = some none) (f4_NoLine : PySem.W.findIn K (.ref C_NoLine) "word" = some none) (f5_NoLine : PySem.W.findIn K (.ref C_NoLine) "row" = some none) (f6_NoLine : PySem.W.findIn K (.ref C_NoLine) "most" = some none) (f7_NoLine : PySem.W.findIn K (.ref C_NoLine) "text" = some none) (kp_NoLine : PySem.W.keepIn K (.ref C_NoLine) = true)
    {C_NoPlace G_NoPlace NC_NoPlace fI_NoPlace cc_NoPlace cda_NoPlace : Addr} {kV_NoPlace doc_NoPlace pm_NoPlace ct_NoPlace c0_NoPlace ccl_NoPlace cl_NoPlace cN_NoPlace cNG_NoPlace : Value} {an_NoPlace dd_NoPlace od_NoPlace ddG_NoPlace cdd_NoPlace cld_NoPlace dN_NoPlace dNG_NoPlace : Option Addr} {q_NoPlace : Str} {bs_NoPlace sub_NoPlace : List Value} {sn_NoPlace : List Str} {ab_NoPlace : Bool} {col_NoPlace : Option Bool} {k0_NoPlace k1_NoPlace k2_NoPlace k3_NoPlace k5_NoPlace : Option Value} {cdG_NoPlace : ClassData} {slG_NoPlace osl_NoPlace ccs_NoPlace csl_NoPlace slN_NoPlace slNG_NoPlace : Array (Option Value)} {cvs_NoPlace : Array Value} {file_NoPlace : Str} {tf_NoPlace : Tok} {esN_NoPlace esNG_NoPlace : Array DictEntry} {nN_NoPlace nNG_NoPlace : Nat}
    (xC_NoPlace : PySem.W.nsIn K mainGlobals "NoPlace" = some (some (.ref C_NoPlace))) (yC_NoPlace : K.lookup C_NoPlace = some (Ex.errObj "NoPlace" q_NoPlace C_NoPlace NC_NoPlace bs_NoPlace (.ref G_NoPlace :: Ex.bV) true sn_NoPlace sub_NoPlace ab_NoPlace col_NoPlace dd_NoPlace k0_NoPlace k1_NoPlace k2_NoPlace k3_NoPlace k5_NoPlace "ValueError.__new__")) (xG_NoPlace : PySem.W.nsIn K mainGlobals "GraftError" = some (some (.ref G_NoPlace))) (yG_NoPlace : K.lookup G_NoPlace = some ⟨c0_NoPlace, ddG_NoPlace, .cls cdG_NoPlace, slG_NoPlace⟩) (zG_NoPlace : cdG_NoPlace.name = "GraftError")
    (wG_NoPlace : PySem.W.nsIn K cdG_NoPlace.ns "__init__" = some none) (yNG_NoPlace : K.lookup cdG_NoPlace.ns = some ⟨cNG_NoPlace, dNG_NoPlace, .dict esNG_NoPlace nNG_NoPlace, slNG_NoPlace⟩) (oG_NoPlace : (esNG_NoPlace.all fun e => match e.key with | .str _ _ => true | _ => false) = true) (yN_NoPlace : K.lookup NC_NoPlace = some ⟨cN_NoPlace, dN_NoPlace, .dict esN_NoPlace nN_NoPlace, slN_NoPlace⟩) (oC_NoPlace : (esN_NoPlace.all fun e => match e.key with | .str _ _ => true | _ => false) = true)
    (wC_NoPlace : PySem.W.nsIn K NC_NoPlace "__init__" = some (some (.ref fI_NoPlace))) (yF_NoPlace : K.lookup fI_NoPlace = some ⟨.type "function", od_NoPlace, .func (PySem.W.ksFn "__init__" "NoPlace.__init__" (defArgs (inClass (top 2) 0)) (defBody (inClass (top 2) 0)) (defScope (inClass (top 2) 0)) .none kV_NoPlace doc_NoPlace pm_NoPlace an_NoPlace (.ref cda_NoPlace) ct_NoPlace cc_NoPlace), osl_NoPlace⟩) (yD_NoPlace : K.lookup cda_NoPlace = some ⟨ccl_NoPlace, cdd_NoPlace, .fields cvs_NoPlace, ccs_NoPlace⟩) (vD_NoPlace : cvs_NoPlace[2]? = some (.str file_NoPlace tf_NoPlace)) (fD_NoPlace : ((l.prog.main.file : Str) == file_NoPlace) = true)
    (tp_NoPlace : (l.prog.main.scope.names.lookup ("super" : Str)).isSome = false) (yc_NoPlace : K.lookup cc_NoPlace = some ⟨cl_NoPlace, cld_NoPlace, .cell (some (.ref C_NoPlace)), csl_NoPlace⟩) (su_NoPlace : PySem.W.nsIn K mainGlobals "super" = some none) (op_NoPlace : PySem.W.nsIn K cStatics "thirdparty.any" = some none) (co_NoPlace : PySem.W.codeIn K (.ref cda_NoPlace) "NoPlace.__init__" = true)
    (ga_NoPlace : PySem.W.findIn K (.ref C_NoPlace) "__getattribute__" = some (some (.builtin "BaseException.__getattribute__"))) (gt_NoPlace : PySem.W.findIn K (.ref C_NoPlace) "__getattr__" = some none) (kc_NoPlace : PySem.W.findIn K (.ref C_NoPlace) "__class__" = some (some (.builtin "object.__class__"))) (se_NoPlace : PySem.W.findIn K (.ref C_NoPlace) "__setattr__" = some (some (.builtin "object.__setattr__")))
    (f0_NoPlace : PySem.W.findIn K (.ref C_NoPlace) "at" = some none) (f1_NoPlace : PySem.W.findIn K (.ref C_NoPlace) "place" = some none) (f2_NoPlace : PySem.W.findIn K (.ref C_NoPlace) "number" = some none) (f3_NoPlace : PySem.W.findIn K (.ref C_NoPlace) "key" = some none) (f4_NoPlace : PySem.W.findIn K (.ref C_NoPlace) "word" = some none) (f5_NoPlace : PySem.W.findIn K (.ref C_NoPlace) "row" = some none) (f6_NoPlace : PySem.W.findIn K (.ref C_NoPlace) "most" = some none) (f7_NoPlace : PySem.W.findIn K (.ref C_NoPlace) "text" = some none) (kp_NoPlace : PySem.W.keepIn K (.ref C_NoPlace) = true)
    {C_NoPlan G_NoPlan NC_NoPlan fI_NoPlan cc_NoPlan cda_NoPlan : Addr} {kV_NoPlan doc_NoPlan pm_NoPlan ct_NoPlan c0_NoPlan ccl_NoPlan cl_NoPlan cN_NoPlan cNG_NoPlan : Value} {an_NoPlan dd_NoPlan od_NoPlan ddG_NoPlan cdd_NoPlan cld_NoPlan dN_NoPlan dNG_NoPlan : Option Addr} {q_NoPlan : Str} {bs_NoPlan sub_NoPlan : List Value} {sn_NoPlan : List Str} {ab_NoPlan : Bool} {col_NoPlan : Option Bool} {k0_NoPlan k1_NoPlan k2_NoPlan k3_NoPlan k5_NoPlan : Option Value} {cdG_NoPlan : ClassData} {slG_NoPlan osl_NoPlan ccs_NoPlan csl_NoPlan slN_NoPlan slNG_NoPlan : Array (Option Value)} {cvs_NoPlan : Array Value} {file_NoPlan : Str} {tf_NoPlan : Tok} {esN_NoPlan esNG_NoPlan : Array DictEntry} {nN_NoPlan nNG_NoPlan : Nat}
    (xC_NoPlan : PySem.W.nsIn K mainGlobals "NoPlan" = some (some (.ref C_NoPlan))) (yC_NoPlan : K.lookup C_NoPlan = some (Ex.errObj "NoPlan" q_NoPlan C_NoPlan NC_NoPlan bs_NoPlan (.ref G_NoPlan :: Ex.bV) true sn_NoPlan sub_NoPlan ab_NoPlan col_NoPlan dd_NoPlan k0_NoPlan k1_NoPlan k2_NoPlan k3_NoPlan k5_NoPlan "ValueError.__new__")) (xG_NoPlan : PySem.W.nsIn K mainGlobals "GraftError" = some (some (.ref G_NoPlan))) (yG_NoPlan : K.lookup G_NoPlan = some ⟨c0_NoPlan, ddG_NoPlan, .cls cdG_NoPlan, slG_NoPlan⟩) (zG_NoPlan : cdG_NoPlan.name = "GraftError")
    (wG_NoPlan : PySem.W.nsIn K cdG_NoPlan.ns "__init__" = some none) (yNG_NoPlan : K.lookup cdG_NoPlan.ns = some ⟨cNG_NoPlan, dNG_NoPlan, .dict esNG_NoPlan nNG_NoPlan, slNG_NoPlan⟩) (oG_NoPlan : (esNG_NoPlan.all fun e => match e.key with | .str _ _ => true | _ => false) = true) (yN_NoPlan : K.lookup NC_NoPlan = some ⟨cN_NoPlan, dN_NoPlan, .dict esN_NoPlan nN_NoPlan, slN_NoPlan⟩) (oC_NoPlan : (esN_NoPlan.all fun e => match e.key with | .str _ _ => true | _ => false) = true)
    (wC_NoPlan : PySem.W.nsIn K NC_NoPlan "__init__" = some (some (.ref fI_NoPlan))) (yF_NoPlan : K.lookup fI_NoPlan = some ⟨.type "function", od_NoPlan, .func (PySem.W.ksFn "__init__" "NoPlan.__init__" (defArgs (inClass (top 10) 0)) (defBody (inClass (top 10) 0)) (defScope (inClass (top 10) 0)) .none kV_NoPlan doc_NoPlan pm_NoPlan an_NoPlan (.ref cda_NoPlan) ct_NoPlan cc_NoPlan), osl_NoPlan⟩) (yD_NoPlan : K.lookup cda_NoPlan = some ⟨ccl_NoPlan, cdd_NoPlan, .fields cvs_NoPlan, ccs_NoPlan⟩) (vD_NoPlan : cvs_NoPlan[2]? = some (.str file_NoPlan tf_NoPlan)) (fD_NoPlan : ((l.prog.main.file : Str) == file_NoPlan) = true)
    (tp_NoPlan : (l.prog.main.scope.names.lookup ("super" : Str)).isSome = false) (yc_NoPlan : K.lookup cc_NoPlan = some ⟨cl_NoPlan, cld_NoPlan, .cell (some (.ref C_NoPlan)), csl_NoPlan⟩) (su_NoPlan : PySem.W.nsIn K mainGlobals "super" = some none) (op_NoPlan : PySem.W.nsIn K cStatics "thirdparty.any" = some none) (co_NoPlan : PySem.W.codeIn K (.ref cda_NoPlan) "NoPlan.__init__" = true)
    (ga_NoPlan : PySem.W.findIn K (.ref C_NoPlan) "__getattribute__" = some (some (.builtin "BaseException.__getattribute__"))) (gt_NoPlan : PySem.W.findIn K (.ref C_NoPlan) "__getattr__" = some none) (kc_NoPlan : PySem.W.findIn K (.ref C_NoPlan) "__class__" = some (some (.builtin "object.__class__"))) (se_NoPlan : PySem.W.findIn K (.ref C_NoPlan) "__setattr__" = some (some (.builtin "object.__setattr__")))
    (f0_NoPlan : PySem.W.findIn K (.ref C_NoPlan) "at" = some none) (f1_NoPlan : PySem.W.findIn K (.ref C_NoPlan) "place" = some none) (f2_NoPlan : PySem.W.findIn K (.ref C_NoPlan) "number" = some none) (f3_NoPlan : PySem.W.findIn K (.ref C_NoPlan) "key" = some none) (f4_NoPlan : PySem.W.findIn K (.ref C_NoPlan) "word" = some none) (f5_NoPlan : PySem.W.findIn K (.ref C_NoPlan) "row" = some none) (f6_NoPlan : PySem.W.findIn K (.ref C_NoPlan) "most" = some none) (f7_NoPlan : PySem.W.findIn K (.ref C_NoPlan) "text" = some none) (kp_NoPlan : PySem.W.keepIn K (.ref C_NoPlan) = true)
    {C_NoRow G_NoRow NC_NoRow fI_NoRow cc_NoRow cda_NoRow : Addr} {kV_NoRow doc_NoRow pm_NoRow ct_NoRow c0_NoRow ccl_NoRow cl_NoRow cN_NoRow cNG_NoRow : Value} {an_NoRow dd_NoRow od_NoRow ddG_NoRow cdd_NoRow cld_NoRow dN_NoRow dNG_NoRow : Option Addr} {q_NoRow : Str} {bs_NoRow sub_NoRow : List Value} {sn_NoRow : List Str} {ab_NoRow : Bool} {col_NoRow : Option Bool} {k0_NoRow k1_NoRow k2_NoRow k3_NoRow k5_NoRow : Option Value} {cdG_NoRow : ClassData} {slG_NoRow osl_NoRow ccs_NoRow csl_NoRow slN_NoRow slNG_NoRow : Array (Option Value)} {cvs_NoRow : Array Value} {file_NoRow : Str} {tf_NoRow : Tok} {esN_NoRow esNG_NoRow : Array DictEntry} {nN_NoRow nNG_NoRow : Nat}
    (xC_NoRow : PySem.W.nsIn K mainGlobals "NoRow" = some (some (.ref C_NoRow))) (yC_NoRow : K.lookup C_NoRow = some (Ex.errObj "NoRow" q_NoRow C_NoRow NC_NoRow bs_NoRow (.ref G_NoRow :: Ex.bV) true sn_NoRow sub_NoRow ab_NoRow col_NoRow dd_NoRow k0_NoRow k1_NoRow k2_NoRow k3_NoRow k5_NoRow "ValueError.__new__")) (xG_NoRow : PySem.W.nsIn K mainGlobals "GraftError" = some (some (.ref G_NoRow))) (yG_NoRow : K.lookup G_NoRow = some ⟨c0_NoRow, ddG_NoRow, .cls cdG_NoRow, slG_NoRow⟩) (zG_NoRow : cdG_NoRow.name = "GraftError")
    (wG_NoRow : PySem.W.nsIn K cdG_NoRow.ns "__init__" = some none) (yNG_NoRow : K.lookup cdG_NoRow.ns = some ⟨cNG_NoRow, dNG_NoRow, .dict esNG_NoRow nNG_NoRow, slNG_NoRow⟩) (oG_NoRow : (esNG_NoRow.all fun e => match e.key with | .str _ _ => true | _ => false) = true) (yN_NoRow : K.lookup NC_NoRow = some ⟨cN_NoRow, dN_NoRow, .dict esN_NoRow nN_NoRow, slN_NoRow⟩) (oC_NoRow : (esN_NoRow.all fun e => match e.key with | .str _ _ => true | _ => false) = true)
    (wC_NoRow : PySem.W.nsIn K NC_NoRow "__init__" = some (some (.ref fI_NoRow))) (yF_NoRow : K.lookup fI_NoRow = some ⟨.type "function", od_NoRow, .func (PySem.W.ksFn "__init__" "NoRow.__init__" (defArgs (inClass (top 7) 0)) (defBody (inClass (top 7) 0)) (defScope (inClass (top 7) 0)) .none kV_NoRow doc_NoRow pm_NoRow an_NoRow (.ref cda_NoRow) ct_NoRow cc_NoRow), osl_NoRow⟩) (yD_NoRow : K.lookup cda_NoRow = some ⟨ccl_NoRow, cdd_NoRow, .fields cvs_NoRow, ccs_NoRow⟩) (vD_NoRow : cvs_NoRow[2]? = some (.str file_NoRow tf_NoRow)) (fD_NoRow : ((l.prog.main.file : Str) == file_NoRow) = true)
    (tp_NoRow : (l.prog.main.scope.names.lookup ("super" : Str)).isSome = false) (yc_NoRow : K.lookup cc_NoRow = some ⟨cl_NoRow, cld_NoRow, .cell (some (.ref C_NoRow)), csl_NoRow⟩) (su_NoRow : PySem.W.nsIn K mainGlobals "super" = some none) (op_NoRow : PySem.W.nsIn K cStatics "thirdparty.any" = some none) (co_NoRow : PySem.W.codeIn K (.ref cda_NoRow) "NoRow.__init__" = true)
    (ga_NoRow : PySem.W.findIn K (.ref C_NoRow) "__getattribute__" = some (some (.builtin "BaseException.__getattribute__"))) (gt_NoRow : PySem.W.findIn K (.ref C_NoRow) "__getattr__" = some none) (kc_NoRow : PySem.W.findIn K (.ref C_NoRow) "__class__" = some (some (.builtin "object.__class__"))) (se_NoRow : PySem.W.findIn K (.ref C_NoRow) "__setattr__" = some (some (.builtin "object.__setattr__")))
    (f0_NoRow : PySem.W.findIn K (.ref C_NoRow) "at" = some none) (f1_NoRow : PySem.W.findIn K (.ref C_NoRow) "place" = some none) (f2_NoRow : PySem.W.findIn K (.ref C_NoRow) "number" = some none) (f3_NoRow : PySem.W.findIn K (.ref C_NoRow) "key" = some none) (f4_NoRow : PySem.W.findIn K (.ref C_NoRow) "word" = some none) (f5_NoRow : PySem.W.findIn K (.ref C_NoRow) "row" = some none) (f6_NoRow : PySem.W.findIn K (.ref C_NoRow) "most" = some none) (f7_NoRow : PySem.W.findIn K (.ref C_NoRow) "text" = some none) (kp_NoRow : PySem.W.keepIn K (.ref C_NoRow) = true)
    {C_NoText G_NoText NC_NoText fI_NoText cc_NoText cda_NoText : Addr} {kV_NoText doc_NoText pm_NoText ct_NoText c0_NoText ccl_NoText cl_NoText cN_NoText cNG_NoText : Value} {an_NoText dd_NoText od_NoText ddG_NoText cdd_NoText cld_NoText dN_NoText dNG_NoText : Option Addr} {q_NoText : Str} {bs_NoText sub_NoText : List Value} {sn_NoText : List Str} {ab_NoText : Bool} {col_NoText : Option Bool} {k0_NoText k1_NoText k2_NoText k3_NoText k5_NoText : Option Value} {cdG_NoText : ClassData} {slG_NoText osl_NoText ccs_NoText csl_NoText slN_NoText slNG_NoText : Array (Option Value)} {cvs_NoText : Array Value} {file_NoText : Str} {tf_NoText : Tok} {esN_NoText esNG_NoText : Array DictEntry} {nN_NoText nNG_NoText : Nat}
    (xC_NoText : PySem.W.nsIn K mainGlobals "NoText" = some (some (.ref C_NoText))) (yC_NoText : K.lookup C_NoText = some (Ex.errObj "NoText" q_NoText C_NoText NC_NoText bs_NoText (.ref G_NoText :: Ex.bV) true sn_NoText sub_NoText ab_NoText col_NoText dd_NoText k0_NoText k1_NoText k2_NoText k3_NoText k5_NoText "ValueError.__new__")) (xG_NoText : PySem.W.nsIn K mainGlobals "GraftError" = some (some (.ref G_NoText))) (yG_NoText : K.lookup G_NoText = some ⟨c0_NoText, ddG_NoText, .cls cdG_NoText, slG_NoText⟩) (zG_NoText : cdG_NoText.name = "GraftError")
    (wG_NoText : PySem.W.nsIn K cdG_NoText.ns "__init__" = some none) (yNG_NoText : K.lookup cdG_NoText.ns = some ⟨cNG_NoText, dNG_NoText, .dict esNG_NoText nNG_NoText, slNG_NoText⟩) (oG_NoText : (esNG_NoText.all fun e => match e.key with | .str _ _ => true | _ => false) = true) (yN_NoText : K.lookup NC_NoText = some ⟨cN_NoText, dN_NoText, .dict esN_NoText nN_NoText, slN_NoText⟩) (oC_NoText : (esN_NoText.all fun e => match e.key with | .str _ _ => true | _ => false) = true)
    (wC_NoText : PySem.W.nsIn K NC_NoText "__init__" = some (some (.ref fI_NoText))) (yF_NoText : K.lookup fI_NoText = some ⟨.type "function", od_NoText, .func (PySem.W.ksFn "__init__" "NoText.__init__" (defArgs (inClass (top 3) 0)) (defBody (inClass (top 3) 0)) (defScope (inClass (top 3) 0)) .none kV_NoText doc_NoText pm_NoText an_NoText (.ref cda_NoText) ct_NoText cc_NoText), osl_NoText⟩) (yD_NoText : K.lookup cda_NoText = some ⟨ccl_NoText, cdd_NoText, .fields cvs_NoText, ccs_NoText⟩) (vD_NoText : cvs_NoText[2]? = some (.str file_NoText tf_NoText)) (fD_NoText : ((l.prog.main.file : Str) == file_NoText) = true)
    (tp_NoText : (l.prog.main.scope.names.lookup ("super" : Str)).isSome = false) (yc_NoText : K.lookup cc_NoText = some ⟨cl_NoText, cld_NoText, .cell (some (.ref C_NoText)), csl_NoText⟩) (su_NoText : PySem.W.nsIn K mainGlobals "super" = some none) (op_NoText : PySem.W.nsIn K cStatics "thirdparty.any" = some none) (co_NoText : PySem.W.codeIn K (.ref cda_NoText) "NoText.__init__" = true)
    (ga_NoText : PySem.W.findIn K (.ref C_NoText) "__getattribute__" = some (some (.builtin "BaseException.__getattribute__"))) (gt_NoText : PySem.W.findIn K (.ref C_NoText) "__getattr__" = some none) (kc_NoText : PySem.W.findIn K (.ref C_NoText) "__class__" = some (some (.builtin "object.__class__"))) (se_NoText : PySem.W.findIn K (.ref C_NoText) "__setattr__" = some (some (.builtin "object.__setattr__")))
    (f0_NoText : PySem.W.findIn K (.ref C_NoText) "at" = some none) (f1_NoText : PySem.W.findIn K (.ref C_NoText) "place" = some none) (f2_NoText : PySem.W.findIn K (.ref C_NoText) "number" = some none) (f3_NoText : PySem.W.findIn K (.ref C_NoText) "key" = some none) (f4_NoText : PySem.W.findIn K (.ref C_NoText) "word" = some none) (f5_NoText : PySem.W.findIn K (.ref C_NoText) "row" = some none) (f6_NoText : PySem.W.findIn K (.ref C_NoText) "most" = some none) (f7_NoText : PySem.W.findIn K (.ref C_NoText) "text" = some none) (kp_NoText : PySem.W.keepIn K (.ref C_NoText) = true)
    {C_NoTree G_NoTree NC_NoTree fI_NoTree cc_NoTree cda_NoTree : Addr} {kV_NoTree doc_NoTree pm_NoTree ct_NoTree c0_NoTree ccl_NoTree cl_NoTree cN_NoTree cNG_NoTree : Value} {an_NoTree dd_NoTree od_NoTree ddG_NoTree cdd_NoTree cld_NoTree dN_NoTree dNG_NoTree : Option Addr} {q_NoTree : Str} {bs_NoTree sub_NoTree : List Value} {sn_NoTree : List Str} {ab_NoTree : Bool} {col_NoTree : Option Bool} {k0_NoTree k1_NoTree k2_NoTree k3_NoTree k5_NoTree : Option Value} {cdG_NoTree : ClassData} {slG_NoTree osl_NoTree ccs_NoTree csl_NoTree slN_NoTree slNG_NoTree : Array (Option Value)} {cvs_NoTree : Array Value} {file_NoTree : Str} {tf_NoTree : Tok} {esN_NoTree esNG_NoTree : Array DictEntry} {nN_NoTree nNG_NoTree : Nat}
    (xC_NoTree : PySem.W.nsIn K mainGlobals "NoTree" = some (some (.ref C_NoTree))) (yC_NoTree : K.lookup C_NoTree = some (Ex.errObj "NoTree" q_NoTree C_NoTree NC_NoTree bs_NoTree (.ref G_NoTree :: Ex.bV) true sn_NoTree sub_NoTree ab_NoTree col_NoTree dd_NoTree k0_NoTree k1_NoTree k2_NoTree k3_NoTree k5_NoTree "ValueError.__new__")) (xG_NoTree : PySem.W.nsIn K mainGlobals "GraftError" = some (some (.ref G_NoTree))) (yG_NoTree : K.lookup G_NoTree = some ⟨c0_NoTree, ddG_NoTree, .cls cdG_NoTree, slG_NoTree⟩) (zG_NoTree : cdG_NoTree.name = "GraftError")
    (wG_NoTree : PySem.W.nsIn K cdG_NoTree.ns "__init__" = some none) (yNG_NoTree : K.lookup cdG_NoTree.ns = some ⟨cNG_NoTree, dNG_NoTree, .dict esNG_NoTree nNG_NoTree, slNG_NoTree⟩) (oG_NoTree : (esNG_NoTree.all fun e => match e.key with | .str _ _ => true | _ => false) = true) (yN_NoTree : K.lookup NC_NoTree = some ⟨cN_NoTree, dN_NoTree, .dict esN_NoTree nN_NoTree, slN_NoTree⟩) (oC_NoTree : (esN_NoTree.all fun e => match e.key with | .str _ _ => true | _ => false) = true)
    (wC_NoTree : PySem.W.nsIn K NC_NoTree "__init__" = some (some (.ref fI_NoTree))) (yF_NoTree : K.lookup fI_NoTree = some ⟨.type "function", od_NoTree, .func (PySem.W.ksFn "__init__" "NoTree.__init__" (defArgs (inClass (top 6) 0)) (defBody (inClass (top 6) 0)) (defScope (inClass (top 6) 0)) .none kV_NoTree doc_NoTree pm_NoTree an_NoTree (.ref cda_NoTree) ct_NoTree cc_NoTree), osl_NoTree⟩) (yD_NoTree : K.lookup cda_NoTree = some ⟨ccl_NoTree, cdd_NoTree, .fields cvs_NoTree, ccs_NoTree⟩) (vD_NoTree : cvs_NoTree[2]? = some (.str file_NoTree tf_NoTree)) (fD_NoTree : ((l.prog.main.file : Str) == file_NoTree) = true)
    (tp_NoTree : (l.prog.main.scope.names.lookup ("super" : Str)).isSome = false) (yc_NoTree : K.lookup cc_NoTree = some ⟨cl_NoTree, cld_NoTree, .cell (some (.ref C_NoTree)), csl_NoTree⟩) (su_NoTree : PySem.W.nsIn K mainGlobals "super" = some none) (op_NoTree : PySem.W.nsIn K cStatics "thirdparty.any" = some none) (co_NoTree : PySem.W.codeIn K (.ref cda_NoTree) "NoTree.__init__" = true)
    (ga_NoTree : PySem.W.findIn K (.ref C_NoTree) "__getattribute__" = some (some (.builtin "BaseException.__getattribute__"))) (gt_NoTree : PySem.W.findIn K (.ref C_NoTree) "__getattr__" = some none) (kc_NoTree : PySem.W.findIn K (.ref C_NoTree) "__class__" = some (some (.builtin "object.__class__"))) (se_NoTree : PySem.W.findIn K (.ref C_NoTree) "__setattr__" = some (some (.builtin "object.__setattr__")))
    (f0_NoTree : PySem.W.findIn K (.ref C_NoTree) "at" = some none) (f1_NoTree : PySem.W.findIn K (.ref C_NoTree) "place" = some none) (f2_NoTree : PySem.W.findIn K (.ref C_NoTree) "number" = some none) (f3_NoTree : PySem.W.findIn K (.ref C_NoTree) "key" = some none) (f4_NoTree : PySem.W.findIn K (.ref C_NoTree) "word" = some none) (f5_NoTree : PySem.W.findIn K (.ref C_NoTree) "row" = some none) (f6_NoTree : PySem.W.findIn K (.ref C_NoTree) "most" = some none) (f7_NoTree : PySem.W.findIn K (.ref C_NoTree) "text" = some none) (kp_NoTree : PySem.W.keepIn K (.ref C_NoTree) = true)
    {C_TooMany G_TooMany NC_TooMany fI_TooMany cc_TooMany cda_TooMany : Addr} {kV_TooMany doc_TooMany pm_TooMany ct_TooMany c0_TooMany ccl_TooMany cl_TooMany cN_TooMany cNG_TooMany : Value} {an_TooMany dd_TooMany od_TooMany ddG_TooMany cdd_TooMany cld_TooMany dN_TooMany dNG_TooMany : Option Addr} {q_TooMany : Str} {bs_TooMany sub_TooMany : List Value} {sn_TooMany : List Str} {ab_TooMany : Bool} {col_TooMany : Option Bool} {k0_TooMany k1_TooMany k2_TooMany k3_TooMany k5_TooMany : Option Value} {cdG_TooMany : ClassData} {slG_TooMany osl_TooMany ccs_TooMany csl_TooMany slN_TooMany slNG_TooMany : Array (Option Value)} {cvs_TooMany : Array Value} {file_TooMany : Str} {tf_TooMany : Tok} {esN_TooMany esNG_TooMany : Array DictEntry} {nN_TooMany nNG_TooMany : Nat}
    (xC_TooMany : PySem.W.nsIn K mainGlobals "TooMany" = some (some (.ref C_TooMany))) (yC_TooMany : K.lookup C_TooMany = some (Ex.errObj "TooMany" q_TooMany C_TooMany NC_TooMany bs_TooMany (.ref G_TooMany :: Ex.bV) true sn_TooMany sub_TooMany ab_TooMany col_TooMany dd_TooMany k0_TooMany k1_TooMany k2_TooMany k3_TooMany k5_TooMany "ValueError.__new__")) (xG_TooMany : PySem.W.nsIn K mainGlobals "GraftError" = some (some (.ref G_TooMany))) (yG_TooMany : K.lookup G_TooMany = some ⟨c0_TooMany, ddG_TooMany, .cls cdG_TooMany, slG_TooMany⟩) (zG_TooMany : cdG_TooMany.name = "GraftError")
    (wG_TooMany : PySem.W.nsIn K cdG_TooMany.ns "__init__" = some none) (yNG_TooMany : K.lookup cdG_TooMany.ns = some ⟨cNG_TooMany, dNG_TooMany, .dict esNG_TooMany nNG_TooMany, slNG_TooMany⟩) (oG_TooMany : (esNG_TooMany.all fun e => match e.key with | .str _ _ => true | _ => false) = true) (yN_TooMany : K.lookup NC_TooMany = some ⟨cN_TooMany, dN_TooMany, .dict esN_TooMany nN_TooMany, slN_TooMany⟩) (oC_TooMany : (esN_TooMany.all fun e => match e.key with | .str _ _ => true | _ => false) = true)
    (wC_TooMany : PySem.W.nsIn K NC_TooMany "__init__" = some (some (.ref fI_TooMany))) (yF_TooMany : K.lookup fI_TooMany = some ⟨.type "function", od_TooMany, .func (PySem.W.ksFn "__init__" "TooMany.__init__" (defArgs (inClass (top 8) 0)) (defBody (inClass (top 8) 0)) (defScope (inClass (top 8) 0)) .none kV_TooMany doc_TooMany pm_TooMany an_TooMany (.ref cda_TooMany) ct_TooMany cc_TooMany), osl_TooMany⟩) (yD_TooMany : K.lookup cda_TooMany = some ⟨ccl_TooMany, cdd_TooMany, .fields cvs_TooMany, ccs_TooMany⟩) (vD_TooMany : cvs_TooMany[2]? = some (.str file_TooMany tf_TooMany)) (fD_TooMany : ((l.prog.main.file : Str) == file_TooMany) = true)
    (tp_TooMany : (l.prog.main.scope.names.lookup ("super" : Str)).isSome = false) (yc_TooMany : K.lookup cc_TooMany = some ⟨cl_TooMany, cld_TooMany, .cell (some (.ref C_TooMany)), csl_TooMany⟩) (su_TooMany : PySem.W.nsIn K mainGlobals "super" = some none) (op_TooMany : PySem.W.nsIn K cStatics "thirdparty.any" = some none) (co_TooMany : PySem.W.codeIn K (.ref cda_TooMany) "TooMany.__init__" = true)
    (ga_TooMany : PySem.W.findIn K (.ref C_TooMany) "__getattribute__" = some (some (.builtin "BaseException.__getattribute__"))) (gt_TooMany : PySem.W.findIn K (.ref C_TooMany) "__getattr__" = some none) (kc_TooMany : PySem.W.findIn K (.ref C_TooMany) "__class__" = some (some (.builtin "object.__class__"))) (se_TooMany : PySem.W.findIn K (.ref C_TooMany) "__setattr__" = some (some (.builtin "object.__setattr__")))
    (f0_TooMany : PySem.W.findIn K (.ref C_TooMany) "at" = some none) (f1_TooMany : PySem.W.findIn K (.ref C_TooMany) "place" = some none) (f2_TooMany : PySem.W.findIn K (.ref C_TooMany) "number" = some none) (f3_TooMany : PySem.W.findIn K (.ref C_TooMany) "key" = some none) (f4_TooMany : PySem.W.findIn K (.ref C_TooMany) "word" = some none) (f5_TooMany : PySem.W.findIn K (.ref C_TooMany) "row" = some none) (f6_TooMany : PySem.W.findIn K (.ref C_TooMany) "most" = some none) (f7_TooMany : PySem.W.findIn K (.ref C_TooMany) "text" = some none) (kp_TooMany : PySem.W.keepIn K (.ref C_TooMany) = true)
    {C_Twice G_Twice NC_Twice fI_Twice cc_Twice cda_Twice : Addr} {kV_Twice doc_Twice pm_Twice ct_Twice c0_Twice ccl_Twice cl_Twice cN_Twice cNG_Twice : Value} {an_Twice dd_Twice od_Twice ddG_Twice cdd_Twice cld_Twice dN_Twice dNG_Twice : Option Addr} {q_Twice : Str} {bs_Twice sub_Twice : List Value} {sn_Twice : List Str} {ab_Twice : Bool} {col_Twice : Option Bool} {k0_Twice k1_Twice k2_Twice k3_Twice k5_Twice : Option Value} {cdG_Twice : ClassData} {slG_Twice osl_Twice ccs_Twice csl_Twice slN_Twice slNG_Twice : Array (Option Value)} {cvs_Twice : Array Value} {file_Twice : Str} {tf_Twice : Tok} {esN_Twice esNG_Twice : Array DictEntry} {nN_Twice nNG_Twice : Nat}
    (xC_Twice : PySem.W.nsIn K mainGlobals "Twice" = some (some (.ref C_Twice))) (yC_Twice : K.lookup C_Twice = some (Ex.errObj "Twice" q_Twice C_Twice NC_Twice bs_Twice (.ref G_Twice :: Ex.bV) true sn_Twice sub_Twice ab_Twice col_Twice dd_Twice k0_Twice k1_Twice k2_Twice k3_Twice k5_Twice "ValueError.__new__")) (xG_Twice : PySem.W.nsIn K mainGlobals "GraftError" = some (some (.ref G_Twice))) (yG_Twice : K.lookup G_Twice = some ⟨c0_Twice, ddG_Twice, .cls cdG_Twice, slG_Twice⟩) (zG_Twice : cdG_Twice.name = "GraftError")
    (wG_Twice : PySem.W.nsIn K cdG_Twice.ns "__init__" = some none) (yNG_Twice : K.lookup cdG_Twice.ns = some ⟨cNG_Twice, dNG_Twice, .dict esNG_Twice nNG_Twice, slNG_Twice⟩) (oG_Twice : (esNG_Twice.all fun e => match e.key with | .str _ _ => true | _ => false) = true) (yN_Twice : K.lookup NC_Twice = some ⟨cN_Twice, dN_Twice, .dict esN_Twice nN_Twice, slN_Twice⟩) (oC_Twice : (esN_Twice.all fun e => match e.key with | .str _ _ => true | _ => false) = true)
    (wC_Twice : PySem.W.nsIn K NC_Twice "__init__" = some (some (.ref fI_Twice))) (yF_Twice : K.lookup fI_Twice = some ⟨.type "function", od_Twice, .func (PySem.W.ksFn "__init__" "Twice.__init__" (defArgs (inClass (top 5) 0)) (defBody (inClass (top 5) 0)) (defScope (inClass (top 5) 0)) .none kV_Twice doc_Twice pm_Twice an_Twice (.ref cda_Twice) ct_Twice cc_Twice), osl_Twice⟩) (yD_Twice : K.lookup cda_Twice = some ⟨ccl_Twice, cdd_Twice, .fields cvs_Twice, ccs_Twice⟩) (vD_Twice : cvs_Twice[2]? = some (.str file_Twice tf_Twice)) (fD_Twice : ((l.prog.main.file : Str) == file_Twice) = true)
    (tp_Twice : (l.prog.main.scope.names.lookup ("super" : Str)).isSome = false) (yc_Twice : K.lookup cc_Twice = some ⟨cl_Twice, cld_Twice, .cell (some (.ref C_Twice)), csl_Twice⟩) (su_Twice : PySem.W.nsIn K mainGlobals "super" = some none) (op_Twice : PySem.W.nsIn K cStatics "thirdparty.any" = some none) (co_Twice : PySem.W.codeIn K (.ref cda_Twice) "Twice.__init__" = true)
    (ga_Twice : PySem.W.findIn K (.ref C_Twice) "__getattribute__" = some (some (.builtin "BaseException.__getattribute__"))) (gt_Twice : PySem.W.findIn K (.ref C_Twice) "__getattr__" = some none) (kc_Twice : PySem.W.findIn K (.ref C_Twice) "__class__" = some (some (.builtin "object.__class__"))) (se_Twice : PySem.W.findIn K (.ref C_Twice) "__setattr__" = some (some (.builtin "object.__setattr__")))
    (f0_Twice : PySem.W.findIn K (.ref C_Twice) "at" = some none) (f1_Twice : PySem.W.findIn K (.ref C_Twice) "place" = some none) (f2_Twice : PySem.W.findIn K (.ref C_Twice) "number" = some none) (f3_Twice : PySem.W.findIn K (.ref C_Twice) "key" = some none) (f4_Twice : PySem.W.findIn K (.ref C_Twice) "word" = some none) (f5_Twice : PySem.W.findIn K (.ref C_Twice) "row" = some none) (f6_Twice : PySem.W.findIn K (.ref C_Twice) "most" = some none) (f7_Twice : PySem.W.findIn K (.ref C_Twice) "text" = some none) (kp_Twice : PySem.W.keepIn K (.ref C_Twice) = true)
    {C_TwoSided G_TwoSided NC_TwoSided fI_TwoSided cc_TwoSided cda_TwoSided : Addr} {kV_TwoSided doc_TwoSided pm_TwoSided ct_TwoSided c0_TwoSided ccl_TwoSided cl_TwoSided cN_TwoSided cNG_TwoSided : Value} {an_TwoSided dd_TwoSided od_TwoSided ddG_TwoSided cdd_TwoSided cld_TwoSided dN_TwoSided dNG_TwoSided : Option Addr} {q_TwoSided : Str} {bs_TwoSided sub_TwoSided : List Value} {sn_TwoSided : List Str} {ab_TwoSided : Bool} {col_TwoSided : Option Bool} {k0_TwoSided k1_TwoSided k2_TwoSided k3_TwoSided k5_TwoSided : Option Value} {cdG_TwoSided : ClassData} {slG_TwoSided osl_TwoSided ccs_TwoSided csl_TwoSided slN_TwoSided slNG_TwoSided : Array (Option Value)} {cvs_TwoSided : Array Value} {file_TwoSided : Str} {tf_TwoSided : Tok} {esN_TwoSided esNG_TwoSided : Array DictEntry} {nN_TwoSided nNG_TwoSided : Nat}
    (xC_TwoSided : PySem.W.nsIn K mainGlobals "TwoSided" = some (some (.ref C_TwoSided))) (yC_TwoSided : K.lookup C_TwoSided = some (Ex.errObj "TwoSided" q_TwoSided C_TwoSided NC_TwoSided bs_TwoSided (.ref G_TwoSided :: Ex.bV) true sn_TwoSided sub_TwoSided ab_TwoSided col_TwoSided dd_TwoSided k0_TwoSided k1_TwoSided k2_TwoSided k3_TwoSided k5_TwoSided "ValueError.__new__")) (xG_TwoSided : PySem.W.nsIn K mainGlobals "GraftError" = some (some (.ref G_TwoSided))) (yG_TwoSided : K.lookup G_TwoSided = some ⟨c0_TwoSided, ddG_TwoSided, .cls cdG_TwoSided, slG_TwoSided⟩) (zG_TwoSided : cdG_TwoSided.name = "GraftError")
    (wG_TwoSided : PySem.W.nsIn K cdG_TwoSided.ns "__init__" = some none) (yNG_TwoSided : K.lookup cdG_TwoSided.ns = some ⟨cNG_TwoSided, dNG_TwoSided, .dict esNG_TwoSided nNG_TwoSided, slNG_TwoSided⟩) (oG_TwoSided : (esNG_TwoSided.all fun e => match e.key with | .str _ _ => true | _ => false) = true) (yN_TwoSided : K.lookup NC_TwoSided = some ⟨cN_TwoSided, dN_TwoSided, .dict esN_TwoSided nN_TwoSided, slN_TwoSided⟩) (oC_TwoSided : (esN_TwoSided.all fun e => match e.key with | .str _ _ => true | _ => false) = true)
    (wC_TwoSided : PySem.W.nsIn K NC_TwoSided "__init__" = some (some (.ref fI_TwoSided))) (yF_TwoSided : K.lookup fI_TwoSided = some ⟨.type "function", od_TwoSided, .func (PySem.W.ksFn "__init__" "TwoSided.__init__" (defArgs (inClass (top 9) 0)) (defBody (inClass (top 9) 0)) (defScope (inClass (top 9) 0)) .none kV_TwoSided doc_TwoSided pm_TwoSided an_TwoSided (.ref cda_TwoSided) ct_TwoSided cc_TwoSided), osl_TwoSided⟩) (yD_TwoSided : K.lookup cda_TwoSided = some ⟨ccl_TwoSided, cdd_TwoSided, .fields cvs_TwoSided, ccs_TwoSided⟩) (vD_TwoSided : cvs_TwoSided[2]? = some (.str file_TwoSided tf_TwoSided)) (fD_TwoSided : ((l.prog.main.file : Str) == file_TwoSided) = true)
    (tp_TwoSided : (l.prog.main.scope.names.lookup ("super" : Str)).isSome = false) (yc_TwoSided : K.lookup cc_TwoSided = some ⟨cl_TwoSided, cld_TwoSided, .cell (some (.ref C_TwoSided)), csl_TwoSided⟩) (su_TwoSided : PySem.W.nsIn K mainGlobals "super" = some none) (op_TwoSided : PySem.W.nsIn K cStatics "thirdparty.any" = some none) (co_TwoSided : PySem.W.codeIn K (.ref cda_TwoSided) "TwoSided.__init__" = true)
    (ga_TwoSided : PySem.W.findIn K (.ref C_TwoSided) "__getattribute__" = some (some (.builtin "BaseException.__getattribute__"))) (gt_TwoSided : PySem.W.findIn K (.ref C_TwoSided) "__getattr__" = some none) (kc_TwoSided : PySem.W.findIn K (.ref C_TwoSided) "__class__" = some (some (.builtin "object.__class__"))) (se_TwoSided : PySem.W.findIn K (.ref C_TwoSided) "__setattr__" = some (some (.builtin "object.__setattr__")))
    (f0_TwoSided : PySem.W.findIn K (.ref C_TwoSided) "at" = some none) (f1_TwoSided : PySem.W.findIn K (.ref C_TwoSided) "place" = some none) (f2_TwoSided : PySem.W.findIn K (.ref C_TwoSided) "number" = some none) (f3_TwoSided : PySem.W.findIn K (.ref C_TwoSided) "key" = some none) (f4_TwoSided : PySem.W.findIn K (.ref C_TwoSided) "word" = some none) (f5_TwoSided : PySem.W.findIn K (.ref C_TwoSided) "row" = some none) (f6_TwoSided : PySem.W.findIn K (.ref C_TwoSided) "most" = some none) (f7_TwoSided : PySem.W.findIn K (.ref C_TwoSided) "text" = some none) (kp_TwoSided : PySem.W.keepIn K (.ref C_TwoSided) = true)
    {D_GraftError : Addr} {Ddd_GraftError : Option Addr} {Dcd_GraftError : ClassData} {Dsl_GraftError : Array (Option Value)} (xD_GraftError : PySem.W.nsIn K mainGlobals "GraftError" = some (some (.ref D_GraftError))) (yDD_GraftError : K.lookup D_GraftError = some ⟨.type "type", Ddd_GraftError, .cls Dcd_GraftError, Dsl_GraftError⟩) (zD_GraftError : Dcd_GraftError.name = "GraftError") (wD_GraftError : Dcd_GraftError.mro.contains (.type "BaseException") = true)
    {D_NoKey : Addr} {Ddd_NoKey : Option Addr} {Dcd_NoKey : ClassData} {Dsl_NoKey : Array (Option Value)} (xD_NoKey : PySem.W.nsIn K mainGlobals "NoKey" = some (some (.ref D_NoKey))) (yDD_NoKey : K.lookup D_NoKey = some ⟨.type "type", Ddd_NoKey, .cls Dcd_NoKey, Dsl_NoKey⟩) (zD_NoKey : Dcd_NoKey.name = "NoKey") (wD_NoKey : Dcd_NoKey.mro.contains (.type "BaseException") = true)
    {D_NoLine : Addr} {Ddd_NoLine : Option Addr} {Dcd_NoLine : ClassData} {Dsl_NoLine : Array (Option Value)} (xD_NoLine : PySem.W.nsIn K mainGlobals "NoLine" = some (some (.ref D_NoLine))) (yDD_NoLine : K.lookup D_NoLine = some ⟨.type "type", Ddd_NoLine, .cls Dcd_NoLine, Dsl_NoLine⟩) (zD_NoLine : Dcd_NoLine.name = "NoLine") (wD_NoLine : Dcd_NoLine.mro.contains (.type "BaseException") = true)
    {D_NoPlace : Addr} {Ddd_NoPlace : Option Addr} {Dcd_NoPlace : ClassData} {Dsl_NoPlace : Array (Option Value)} (xD_NoPlace : PySem.W.nsIn K mainGlobals "NoPlace" = some (some (.ref D_NoPlace))) (yDD_NoPlace : K.lookup D_NoPlace = some ⟨.type "type", Ddd_NoPlace, .cls Dcd_NoPlace, Dsl_NoPlace⟩) (zD_NoPlace : Dcd_NoPlace.name = "NoPlace") (wD_NoPlace : Dcd_NoPlace.mro.contains (.type "BaseException") = true)
    {D_NoPlan : Addr} {Ddd_NoPlan : Option Addr} {Dcd_NoPlan : ClassData} {Dsl_NoPlan : Array (Option Value)} (xD_NoPlan : PySem.W.nsIn K mainGlobals "NoPlan" = some (some (.ref D_NoPlan))) (yDD_NoPlan : K.lookup D_NoPlan = some ⟨.type "type", Ddd_NoPlan, .cls Dcd_NoPlan, Dsl_NoPlan⟩) (zD_NoPlan : Dcd_NoPlan.name = "NoPlan") (wD_NoPlan : Dcd_NoPlan.mro.contains (.type "BaseException") = true)
    {D_NoRow : Addr} {Ddd_NoRow : Option Addr} {Dcd_NoRow : ClassData} {Dsl_NoRow : Array (Option Value)} (xD_NoRow : PySem.W.nsIn K mainGlobals "NoRow" = some (some (.ref D_NoRow))) (yDD_NoRow : K.lookup D_NoRow = some ⟨.type "type", Ddd_NoRow, .cls Dcd_NoRow, Dsl_NoRow⟩) (zD_NoRow : Dcd_NoRow.name = "NoRow") (wD_NoRow : Dcd_NoRow.mro.contains (.type "BaseException") = true)
    {D_NoText : Addr} {Ddd_NoText : Option Addr} {Dcd_NoText : ClassData} {Dsl_NoText : Array (Option Value)} (xD_NoText : PySem.W.nsIn K mainGlobals "NoText" = some (some (.ref D_NoText))) (yDD_NoText : K.lookup D_NoText = some ⟨.type "type", Ddd_NoText, .cls Dcd_NoText, Dsl_NoText⟩) (zD_NoText : Dcd_NoText.name = "NoText") (wD_NoText : Dcd_NoText.mro.contains (.type "BaseException") = true)
    {D_NoTree : Addr} {Ddd_NoTree : Option Addr} {Dcd_NoTree : ClassData} {Dsl_NoTree : Array (Option Value)} (xD_NoTree : PySem.W.nsIn K mainGlobals "NoTree" = some (some (.ref D_NoTree))) (yDD_NoTree : K.lookup D_NoTree = some ⟨.type "type", Ddd_NoTree, .cls Dcd_NoTree, Dsl_NoTree⟩) (zD_NoTree : Dcd_NoTree.name = "NoTree") (wD_NoTree : Dcd_NoTree.mro.contains (.type "BaseException") = true)
    {D_TooMany : Addr} {Ddd_TooMany : Option Addr} {Dcd_TooMany : ClassData} {Dsl_TooMany : Array (Option Value)} (xD_TooMany : PySem.W.nsIn K mainGlobals "TooMany" = some (some (.ref D_TooMany))) (yDD_TooMany : K.lookup D_TooMany = some ⟨.type "type", Ddd_TooMany, .cls Dcd_TooMany, Dsl_TooMany⟩) (zD_TooMany : Dcd_TooMany.name = "TooMany") (wD_TooMany : Dcd_TooMany.mro.contains (.type "BaseException") = true)
    {D_Twice : Addr} {Ddd_Twice : Option Addr} {Dcd_Twice : ClassData} {Dsl_Twice : Array (Option Value)} (xD_Twice : PySem.W.nsIn K mainGlobals "Twice" = some (some (.ref D_Twice))) (yDD_Twice : K.lookup D_Twice = some ⟨.type "type", Ddd_Twice, .cls Dcd_Twice, Dsl_Twice⟩) (zD_Twice : Dcd_Twice.name = "Twice") (wD_Twice : Dcd_Twice.mro.contains (.type "BaseException") = true)
    {D_TwoSided : Addr} {Ddd_TwoSided : Option Addr} {Dcd_TwoSided : ClassData} {Dsl_TwoSided : Array (Option Value)} (xD_TwoSided : PySem.W.nsIn K mainGlobals "TwoSided" = some (some (.ref D_TwoSided))) (yDD_TwoSided : K.lookup D_TwoSided = some ⟨.type "type", Ddd_TwoSided, .cls Dcd_TwoSided, Dsl_TwoSided⟩) (zD_TwoSided : Dcd_TwoSided.name = "TwoSided") (wD_TwoSided : Dcd_TwoSided.mro.contains (.type "BaseException") = true)
    (hm : ∀ ns : List Int, ns.length ≤ 63 → m_law [.list (ns.map PyData.int)] = .ok (.imm (.bool true))) :
    ∃ (T : List Addr) (fd : FuncData), ((∀ p ∈ T, ∃ c, h.TableAt c p #[]) ∧ (T ≠ [] → PySem.W.kb_classed K = true)) ∧ (∀ (s : Shared) (v : Value), BindsTo s fd ⟨[v], []⟩ [("script", v)]) ∧ ∀ base : Heap, K.In base → base.Ns mainGlobals mg → BM base mg → FnOk l.prog w K mg base CX0 3 fa fd ["script"] (spLaw T K) := by
  have e := hfa.symm.trans (PySem.W.mg_of X G a2)
  cases e
  have F1 := fun_mk (st := s__law_sorts) l1 c1 k1
  have b1 := F1.binds (ps := ["one"]) fun _ _ _ _ _ _ us hl => match us, hl with | [_], _ => rfl
  have F2 := fun_mk (st := s_law) l2 c2 k2
  have b2 := F2.binds (ps := ["script"]) fun _ _ _ _ _ _ us hl => match us, hl with | [_], _ => rfl
  have E_NoKey : ErrTx l.prog K mg "NoKey" "NoKey.__init__" (inClass (top 4) 0) ["self", "number"] [("number", 1)] C_NoKey := errTx_of X G xC_NoKey yC_NoKey xG_NoKey yG_NoKey zG_NoKey wG_NoKey yNG_NoKey oG_NoKey yN_NoKey oC_NoKey wC_NoKey yF_NoKey yD_NoKey vD_NoKey fD_NoKey tp_NoKey yc_NoKey su_NoKey op_NoKey co_NoKey ga_NoKey gt_NoKey kc_NoKey se_NoKey f0_NoKey f1_NoKey f2_NoKey f3_NoKey f4_NoKey f5_NoKey f6_NoKey f7_NoKey kp_NoKey (by decide) ⟨_, rfl, rfl⟩ fun us hl => match us, hl with | [_, _], _ => rfl
  have eD_NoKey : C_NoKey = D_NoKey := Value.ref.inj (Option.some.inj (Option.some.inj (xC_NoKey.symm.trans xD_NoKey)))
  subst eD_NoKey
  have E_NoLine : ErrTx l.prog K mg "NoLine" "NoLine.__init__" (inClass (top 11) 0) ["self", "text"] [("text", 1)] C_NoLine := errTx_of X G xC_NoLine yC_NoLine xG_NoLine yG_NoLine zG_NoLine wG_NoLine yNG_NoLine oG_NoLine yN_NoLine oC_NoLine wC_NoLine yF_NoLine yD_NoLine vD_NoLine fD_NoLine tp_NoLine yc_NoLine su_NoLine op_NoLine co_NoLine ga_NoLine gt_NoLine kc_NoLine se_NoLine f0_NoLine f1_NoLine f2_NoLine f3_NoLine f4_NoLine f5_NoLine f6_NoLine f7_NoLine kp_NoLine (by decide) ⟨_, rfl, rfl⟩ fun us hl => match us, hl with | [_, _], _ => rfl
  have eD_NoLine : C_NoLine = D_NoLine := Value.ref.inj (Option.some.inj (Option.some.inj (xC_NoLine.symm.trans xD_NoLine)))
  subst eD_NoLine
  have E_NoPlace : ErrTx l.prog K mg "NoPlace" "NoPlace.__init__" (inClass (top 2) 0) ["self", "place"] [("place", 1)] C_NoPlace := errTx_of X G xC_NoPlace yC_NoPlace xG_NoPlace yG_NoPlace zG_NoPlace wG_NoPlace yNG_NoPlace oG_NoPlace yN_NoPlace oC_NoPlace wC_NoPlace yF_NoPlace yD_NoPlace vD_NoPlace fD_NoPlace tp_NoPlace yc_NoPlace su_NoPlace op_NoPlace co_NoPlace ga_NoPlace gt_NoPlace kc_NoPlace se_NoPlace f0_NoPlace f1_NoPlace f2_NoPlace f3_NoPlace f4_NoPlace f5_NoPlace f6_NoPlace f7_NoPlace kp_NoPlace (by decide) ⟨_, rfl, rfl⟩ fun us hl => match us, hl with | [_, _], _ => rfl
  have eD_NoPlace : C_NoPlace = D_NoPlace := Value.ref.inj (Option.some.inj (Option.some.inj (xC_NoPlace.symm.trans xD_NoPlace)))
  subst eD_NoPlace
  have E_NoPlan : ErrTx l.prog K mg "NoPlan" "NoPlan.__init__" (inClass (top 10) 0) ["self", "text"] [("text", 1)] C_NoPlan := errTx_of X G xC_NoPlan yC_NoPlan xG_NoPlan yG_NoPlan zG_NoPlan wG_NoPlan yNG_NoPlan oG_NoPlan yN_NoPlan oC_NoPlan wC_NoPlan yF_NoPlan yD_NoPlan vD_NoPlan fD_NoPlan tp_NoPlan yc_NoPlan su_NoPlan op_NoPlan co_NoPlan ga_NoPlan gt_NoPlan kc_NoPlan se_NoPlan f0_NoPlan f1_NoPlan f2_NoPlan f3_NoPlan f4_NoPlan f5_NoPlan f6_NoPlan f7_NoPlan kp_NoPlan (by decide) ⟨_, rfl, rfl⟩ fun us hl => match us, hl with | [_, _], _ => rfl
  have eD_NoPlan : C_NoPlan = D_NoPlan := Value.ref.inj (Option.some.inj (Option.some.inj (xC_NoPlan.symm.trans xD_NoPlan)))
  subst eD_NoPlan
  have E_NoRow : ErrTx l.prog K mg "NoRow" "NoRow.__init__" (inClass (top 7) 0) ["self", "row"] [("row", 1)] C_NoRow := errTx_of X G xC_NoRow yC_NoRow xG_NoRow yG_NoRow zG_NoRow wG_NoRow yNG_NoRow oG_NoRow yN_NoRow oC_NoRow wC_NoRow yF_NoRow yD_NoRow vD_NoRow fD_NoRow tp_NoRow yc_NoRow su_NoRow op_NoRow co_NoRow ga_NoRow gt_NoRow kc_NoRow se_NoRow f0_NoRow f1_NoRow f2_NoRow f3_NoRow f4_NoRow f5_NoRow f6_NoRow f7_NoRow kp_NoRow (by decide) ⟨_, rfl, rfl⟩ fun us hl => match us, hl with | [_, _], _ => rfl
  have eD_NoRow : C_NoRow = D_NoRow := Value.ref.inj (Option.some.inj (Option.some.inj (xC_NoRow.symm.trans xD_NoRow)))
  subst eD_NoRow
  have E_NoText : ErrTx l.prog K mg "NoText" "NoText.__init__" (inClass (top 3) 0) ["self", "at"] [("at", 1)] C_NoText := errTx_of X G xC_NoText yC_NoText xG_NoText yG_NoText zG_NoText wG_NoText yNG_NoText oG_NoText yN_NoText oC_NoText wC_NoText yF_NoText yD_NoText vD_NoText fD_NoText tp_NoText yc_NoText su_NoText op_NoText co_NoText ga_NoText gt_NoText kc_NoText se_NoText f0_NoText f1_NoText f2_NoText f3_NoText f4_NoText f5_NoText f6_NoText f7_NoText kp_NoText (by decide) ⟨_, rfl, rfl⟩ fun us hl => match us, hl with | [_, _], _ => rfl
  have eD_NoText : C_NoText = D_NoText := Value.ref.inj (Option.some.inj (Option.some.inj (xC_NoText.symm.trans xD_NoText)))
  subst eD_NoText
  have E_NoTree : ErrTx l.prog K mg "NoTree" "NoTree.__init__" (inClass (top 6) 0) ["self", "key", "word"] [("key", 1), ("word", 2)] C_NoTree := errTx_of X G xC_NoTree yC_NoTree xG_NoTree yG_NoTree zG_NoTree wG_NoTree yNG_NoTree oG_NoTree yN_NoTree oC_NoTree wC_NoTree yF_NoTree yD_NoTree vD_NoTree fD_NoTree tp_NoTree yc_NoTree su_NoTree op_NoTree co_NoTree ga_NoTree gt_NoTree kc_NoTree se_NoTree f0_NoTree f1_NoTree f2_NoTree f3_NoTree f4_NoTree f5_NoTree f6_NoTree f7_NoTree kp_NoTree (by decide) ⟨_, rfl, rfl⟩ fun us hl => match us, hl with | [_, _, _], _ => rfl
  have eD_NoTree : C_NoTree = D_NoTree := Value.ref.inj (Option.some.inj (Option.some.inj (xC_NoTree.symm.trans xD_NoTree)))
  subst eD_NoTree
  have E_TooMany : ErrTx l.prog K mg "TooMany" "TooMany.__init__" (inClass (top 8) 0) ["self", "most"] [("most", 1)] C_TooMany := errTx_of X G xC_TooMany yC_TooMany xG_TooMany yG_TooMany zG_TooMany wG_TooMany yNG_TooMany oG_TooMany yN_TooMany oC_TooMany wC_TooMany yF_TooMany yD_TooMany vD_TooMany fD_TooMany tp_TooMany yc_TooMany su_TooMany op_TooMany co_TooMany ga_TooMany gt_TooMany kc_TooMany se_TooMany f0_TooMany f1_TooMany f2_TooMany f3_TooMany f4_TooMany f5_TooMany f6_TooMany f7_TooMany kp_TooMany (by decide) ⟨_, rfl, rfl⟩ fun us hl => match us, hl with | [_, _], _ => rfl
  have eD_TooMany : C_TooMany = D_TooMany := Value.ref.inj (Option.some.inj (Option.some.inj (xC_TooMany.symm.trans xD_TooMany)))
  subst eD_TooMany
  have E_Twice : ErrTx l.prog K mg "Twice" "Twice.__init__" (inClass (top 5) 0) ["self", "key"] [("key", 1)] C_Twice := errTx_of X G xC_Twice yC_Twice xG_Twice yG_Twice zG_Twice wG_Twice yNG_Twice oG_Twice yN_Twice oC_Twice wC_Twice yF_Twice yD_Twice vD_Twice fD_Twice tp_Twice yc_Twice su_Twice op_Twice co_Twice ga_Twice gt_Twice kc_Twice se_Twice f0_Twice f1_Twice f2_Twice f3_Twice f4_Twice f5_Twice f6_Twice f7_Twice kp_Twice (by decide) ⟨_, rfl, rfl⟩ fun us hl => match us, hl with | [_, _], _ => rfl
  have eD_Twice : C_Twice = D_Twice := Value.ref.inj (Option.some.inj (Option.some.inj (xC_Twice.symm.trans xD_Twice)))
  subst eD_Twice
  have E_TwoSided : ErrTx l.prog K mg "TwoSided" "TwoSided.__init__" (inClass (top 9) 0) ["self", "key"] [("key", 1)] C_TwoSided := errTx_of X G xC_TwoSided yC_TwoSided xG_TwoSided yG_TwoSided zG_TwoSided wG_TwoSided yNG_TwoSided oG_TwoSided yN_TwoSided oC_TwoSided wC_TwoSided yF_TwoSided yD_TwoSided vD_TwoSided fD_TwoSided tp_TwoSided yc_TwoSided su_TwoSided op_TwoSided co_TwoSided ga_TwoSided gt_TwoSided kc_TwoSided se_TwoSided f0_TwoSided f1_TwoSided f2_TwoSided f3_TwoSided f4_TwoSided f5_TwoSided f6_TwoSided f7_TwoSided kp_TwoSided (by decide) ⟨_, rfl, rfl⟩ fun us hl => match us, hl with | [_, _], _ => rfl
  have eD_TwoSided : C_TwoSided = D_TwoSided := Value.ref.inj (Option.some.inj (Option.some.inj (xC_TwoSided.symm.trans xD_TwoSided)))
  subst eD_TwoSided
  have T : Txt l.prog [] K mg ⟨f1, _, fa, _, D_GraftError, C_NoKey, C_NoLine, C_NoPlace, C_NoPlan, C_NoRow, C_NoText, C_NoTree, C_TooMany, C_Twice, C_TwoSided⟩ := ⟨F1, b1, PySem.W.mg_of X G a1, F2, b2, PySem.W.mg_of X G a2, E_NoKey, E_NoLine, E_NoPlace, E_NoPlan, E_NoRow, E_NoText, E_NoTree, E_TooMany, E_Twice, E_TwoSided, catch_of xD_GraftError yDD_GraftError zD_GraftError wD_GraftError, PySem.W.mg_of X G xD_GraftError, catch_of xD_NoKey yDD_NoKey zD_NoKey wD_NoKey, PySem.W.mg_of X G xD_NoKey, catch_of xD_NoLine yDD_NoLine zD_NoLine wD_NoLine, PySem.W.mg_of X G xD_NoLine, catch_of xD_NoPlace yDD_NoPlace zD_NoPlace wD_NoPlace, PySem.W.mg_of X G xD_NoPlace, catch_of xD_NoPlan yDD_NoPlan zD_NoPlan wD_NoPlan, PySem.W.mg_of X G xD_NoPlan, catch_of xD_NoRow yDD_NoRow zD_NoRow wD_NoRow, PySem.W.mg_of X G xD_NoRow, catch_of xD_NoText yDD_NoText zD_NoText wD_NoText, PySem.W.mg_of X G xD_NoText, catch_of xD_NoTree yDD_NoTree zD_NoTree wD_NoTree, PySem.W.mg_of X G xD_NoTree, catch_of xD_TooMany yDD_TooMany zD_TooMany wD_TooMany, PySem.W.mg_of X G xD_TooMany, catch_of xD_Twice yDD_Twice zD_Twice wD_Twice, PySem.W.mg_of X G xD_Twice, catch_of xD_TwoSided yDD_TwoSided zD_TwoSided wD_TwoSided, PySem.W.mg_of X G xD_TwoSided, PySem.W.mg_none_of X G z_ValueError, PySem.W.mg_none_of X G z_isinstance, PySem.W.mg_none_of X G z_len, PySem.W.mg_none_of X G z_range, PySem.W.mg_none_of X G z_tuple⟩
  refine ⟨[], _, ⟨?tabs, fun z => absurd rfl z⟩, fun s v => .of_eq rfl, fun base _ _ hB => law_ok (ok_law T hB) hm⟩
  exact fun p hp => absurd hp (by simp)


end K18

namespace K18
open PySem PySem.Spec PyProof.Rows L2 Pu Kt
abbrev ER (c : Str) (f : List (D × D)) : D := .dict ((.none, .str c) :: f)
/-! ### messages -/
def dgI (n : Nat) : Str := Str.ofString (toString ((n : Nat) : Int))
theorem dgI_len : ∀ n, n < 1001 → (dgI n).length ≤ 10 := by decide +kernel
/-- a value that a message may hold -/
def Mv (d : D) : Prop := ∃ y : Str, y.length ≤ 100 ∧ fmD d = some y
theorem mv_int {n : Nat} (h : n < 1001) : Mv (.int (n : Int)) := by
  refine ⟨dgI n, by have := dgI_len n h; omega, ?_⟩
  show (if (((n : Nat) : Int)).natAbs.log2 < 1920 then some (dgI n) else none) = _
  rw [if_pos (by
    have e : ((n : Int)).natAbs = n := Int.natAbs_natCast n
    rw [e]
    have : n.log2 ≤ n := Nat.log2_le_self n
    omega)]
theorem mv_str {y : Str} (h : y.length ≤ 100) : Mv (.str y) := by
  refine ⟨y, h, ?_⟩
  show (if sized y.length then some y else none) = _
  rw [if_pos (sized_le (by omega))]
def JG (r : Str → MM Str) (ρ : En) (b : Nat) : Prop := ∀ acc : Str, acc.length ≤ b → ∃ out, r acc ρ = .ok out ρ
theorem jg_n {ρ : En} {b : Nat} (h : b ≤ 10000) : JG jN ρ b := fun acc ha => by
  refine ⟨acc, ?_⟩
  unfold jN
  rw [if_pos (sized_le (by omega))]
  rfl
theorem jg_c {x : Str} {r : Str → MM Str} {ρ : En} {b c : Nat} (h : JG r ρ c) (hx : x.length + b ≤ c) (hc : c ≤ 10000) : JG (jC x r) ρ b := fun acc ha => by
  have hl := slen_append acc x
  obtain ⟨out, e⟩ := h (acc ++ x) (by omega)
  refine ⟨out, ?_⟩
  unfold jC
  rw [if_pos (sized_le (by omega))]
  exact e
theorem jg_v {i : Nat} {d : D} {r : Str → MM Str} {ρ : En} {b c : Nat} (hd : Mv d) (hi : ρ[i]? = some (some (.imm d))) (h : JG r ρ c) (hx : 100 + b ≤ c) (hc : c ≤ 10000) : JG (jV (mV i) r) ρ b := fun acc ha => by
  obtain ⟨y, hy, e⟩ := hd
  have hl := slen_append acc y
  obtain ⟨out, e2⟩ := h (acc ++ y) (by omega)
  refine ⟨out, ?_⟩
  unfold jV
  have e3 : mV i ρ = .ok d ρ := by unfold mV; rw [hi]
  have e4 : lift (fmD d) ρ = .ok y ρ := by unfold lift; rw [e]
  rw [bd_ok e3, bd_ok e4]
  unfold jC
  rw [if_pos (sized_le (by omega))]
  exact e2
theorem x_ok {cls : Str} {n : Nat} {l : List (Str × Nat)} {r : Str → MM Str} {ds : List D} (hn : ds.length + 1 = n) (h : JG r (none :: ds.map fun d => some (.imm d)) 0) : xF cls n l (mFs r) ds = some ⟨cls, addD (.none :: ds) l []⟩ := by
  obtain ⟨out, e⟩ := h Str.empty (Nat.le_refl 0)
  unfold xF
  rw [if_pos hn]
  have e2 : mFs r (none :: ds.map fun d => some (.imm d)) = .ok (.str out) (none :: ds.map fun d => some (.imm d)) := by
    unfold mFs
    rw [bd_ok e]
    rfl
  rw [e2]
theorem x1 {n : Nat} (h : n < 1001) : xF "NoText" 2 [("at", 1)] x_NoText [.int (n : Int)] = some ⟨"NoText", [("at", .int (n : Int))]⟩ :=
  x_ok rfl (jg_c (c := 200) (jg_v (c := 400) (mv_int h) rfl (jg_c (c := 1000) (jg_n (by omega)) (by decide +kernel) (by omega)) (by omega) (by omega)) (by decide +kernel) (by omega))
theorem x2 {n : Nat} (h : n < 1001) : xF "NoKey" 2 [("number", 1)] x_NoKey [.int (n : Int)] = some ⟨"NoKey", [("number", .int (n : Int))]⟩ :=
  x_ok rfl (jg_c (c := 200) (jg_v (c := 400) (mv_int h) rfl (jg_n (by omega)) (by omega) (by omega)) (by decide +kernel) (by omega))
theorem x3 {y : Str} (h : y.length ≤ 100) : xF "Twice" 2 [("key", 1)] x_Twice [.str y] = some ⟨"Twice", [("key", .str y)]⟩ :=
  x_ok rfl (jg_c (c := 200) (jg_v (c := 400) (mv_str h) rfl (jg_c (c := 1000) (jg_n (by omega)) (by decide +kernel) (by omega)) (by omega) (by omega)) (by decide +kernel) (by omega))
theorem x4 {y z : Str} (h : y.length ≤ 100) (h2 : z.length ≤ 100) : xF "NoTree" 3 [("key", 1), ("word", 2)] x_NoTree [.str y, .str z] = some ⟨"NoTree", [("word", .str z), ("key", .str y)]⟩ :=
  x_ok rfl (jg_c (c := 200) (jg_v (c := 400) (mv_str h) rfl (jg_c (c := 1000) (jg_v (c := 2000) (mv_str h2) rfl (jg_n (by omega)) (by omega) (by omega)) (by decide +kernel) (by omega)) (by omega) (by omega)) (by decide +kernel) (by omega))
theorem x5 {n : Nat} (h : n < 1001) : xF "NoRow" 2 [("row", 1)] x_NoRow [.int (n : Int)] = some ⟨"NoRow", [("row", .int (n : Int))]⟩ :=
  x_ok rfl (jg_c (c := 200) (jg_v (c := 400) (mv_int h) rfl (jg_c (c := 1000) (jg_n (by omega)) (by decide +kernel) (by omega)) (by omega) (by omega)) (by decide +kernel) (by omega))
theorem x6 {n : Nat} (h : n < 1001) : xF "TooMany" 2 [("most", 1)] x_TooMany [.int (n : Int)] = some ⟨"TooMany", [("most", .int (n : Int))]⟩ :=
  x_ok rfl (jg_c (c := 200) (jg_v (c := 400) (mv_int h) rfl (jg_n (by omega)) (by omega) (by omega)) (by decide +kernel) (by omega))
theorem x7 {y : Str} (h : y.length ≤ 100) : xF "TwoSided" 2 [("key", 1)] x_TwoSided [.str y] = some ⟨"TwoSided", [("key", .str y)]⟩ :=
  x_ok rfl (jg_c (c := 200) (jg_v (c := 400) (mv_str h) rfl (jg_c (c := 1000) (jg_n (by omega)) (by decide +kernel) (by omega)) (by omega) (by omega)) (by decide +kernel) (by omega))
theorem x0 {d : D} : xF "NoPlace" 2 [("place", 1)] x_NoPlace [d] = some ⟨"NoPlace", [("place", d)]⟩ := rfl
theorem mk_ok {f : List D → Option XD} {mr : MM (List D)} {ρ ρ' : En} {ds : List D} {c : XD} (h : mr ρ = .ok ds ρ') (e : f ds = some c) : mMk f mr ρ = .ok (excD c) ρ' := by
  unfold mMk
  rw [bd_ok h, e]
  rfl
abbrev E9 (o0 o1 o2 o3 o4 o5 o6 o7 o8 : Option S1) : En := [o0, o1, o2, o3, o4, o5, o6, o7, o8]
/-! ### the ten -/
def made (N : Nat) (P : D) (T W : Str) : List D := [ER "NoPlace" [(.str "place", P)], ER "NoText" [(.str "at", .int (N : Int))], ER "NoKey" [(.str "number", .int (N : Int))], ER "Twice" [(.str "key", .str T)], ER "NoTree" [(.str "word", .str W), (.str "key", .str T)], ER "NoRow" [(.str "row", .int (N : Int))],
  ER "TooMany" [(.str "most", .int (N : Int))], ER "TwoSided" [(.str "key", .str T)], ER "NoPlan" [(.str "text", .str T)], ER "NoLine" [(.str "text", .str T)]]
def bs10 (k : Nat) : List D := (List.range 10).map fun j => .bool (j == k)
theorem eqs (k : Nat) (hk : k < 10) : fNeW (.list (bs10 k)) (.list (bs10 k)) = some false :=
  fNeW_same (by rcases k with _|_|_|_|_|_|_|_|_|_|_ <;> first | rfl | omega)
end K18

namespace K18
open PySem PySem.Spec PyProof.Rows L2 Pu Kt
abbrev LC8 : MM (List D) := (mLc [8] (msRng (mCons (mC (.int 10)) mNil)) (gN 8) mYes (bl (mCmp fEqW (mV 8) (mV 6))))
abbrev LB : MS := (sSeq (sIf (mCmp fNeW (fz (mCFL m__law_sorts (mCons (mIxL 5 (mV 6)) mNil))) (fz LC8)) (sRet (mC (.bool false))) sNx) (sIf (mOr (mNot (mTru (mUn (fIsE ["GraftError"]) (mIxL 5 (mV 6))))) (mNot (mTru (mIsi "ValueError" (mIxL 5 (mV 6)))))) (sRet (mC (.bool false))) sNx))
theorem cmp_ok {f : D → D → Option Bool} {a b : MM D} {ρ ρ1 ρ2 : En} {x y : D} {c : Bool} (h1 : a ρ = .ok x ρ1) (h2 : b ρ1 = .ok y ρ2) (h3 : f x y = some c) : mCmp f a b ρ = .ok c ρ2 := by
  unfold mCmp
  rw [bd_ok h1, bd_ok h2, h3]
  rfl
theorem if_f {c : MM Bool} {a b : MS} {ρ ρ' : En} (h : c ρ = .ok false ρ') : sIf c a b ρ = b ρ' := by unfold sIf; rw [bs_ok h]; rfl
theorem bl_ok {m : MM Bool} {ρ ρ' : En} {b : Bool} (h : m ρ = .ok b ρ') : bl m ρ = .ok (.bool b) ρ' := by unfold bl; rw [bd_ok h]; rfl
theorem if_n {c : MM Bool} {a : MS} {ρ ρ' : En} (h : c ρ = .ok false ρ') : sIf c a sNx ρ = .nx ρ' := by rw [if_f h]; rfl
theorem turn (k : Nat) (hk : k < 10) (N : Nat) (P : D) (T W : Str) (o0 o1 o2 o3 o4 o7 o8 : Option S1) : ∃ ρ2, LB (E9 o0 o1 o2 o3 o4 (some (.lst (made N P T W))) (some (.imm (.int (k : Int)))) o7 o8) = .nx ρ2 ∧ ρ2 = E9 o0 o1 o2 o3 o4 (some (.lst (made N P T W))) (some (.imm (.int (k : Int)))) o7 none := by
  refine ⟨_, ?_, rfl⟩
  unfold LB
  have a1 : (fz (mCFL m__law_sorts (mCons (mIxL 5 (mV 6)) mNil))) (E9 o0 o1 o2 o3 o4 (some (.lst (made N P T W))) (some (.imm (.int (k : Int)))) o7 o8) = .ok (.list (bs10 k)) (E9 o0 o1 o2 o3 o4 (some (.lst (made N P T W))) (some (.imm (.int (k : Int)))) o7 o8) := by
    rcases k with _|_|_|_|_|_|_|_|_|_|_ <;> first | omega | kernel_rfl
  have a2 : (fz LC8) (E9 o0 o1 o2 o3 o4 (some (.lst (made N P T W))) (some (.imm (.int (k : Int)))) o7 o8) = .ok (.list (bs10 k)) (E9 o0 o1 o2 o3 o4 (some (.lst (made N P T W))) (some (.imm (.int (k : Int)))) o7 none) := by
    rcases k with _|_|_|_|_|_|_|_|_|_|_ <;> first | omega | kernel_rfl
  rw [seq_nx (if_n (cmp_ok a1 a2 (eqs k hk)))]
  refine if_n ?_
  rcases k with _|_|_|_|_|_|_|_|_|_|_ <;> first | omega | kernel_rfl
theorem loop (N : Nat) (P : D) (T W : Str) (o0 o1 o2 o3 o4 o6 o7 o8 : Option S1) : sFor (msRng (mCons (mC (.int 10)) mNil)) (gN 6) LB (E9 o0 o1 o2 o3 o4 (some (.lst (made N P T W))) o6 o7 o8) = .nx (E9 o0 o1 o2 o3 o4 (some (.lst (made N P T W))) (some (.imm (.int 9))) o7 none) := by
  have e0 : (msRng (mCons (mC (.int 10)) mNil)) (E9 o0 o1 o2 o3 o4 (some (.lst (made N P T W))) o6 o7 o8) = .ok [.int ((0 : Nat) : Int), .int ((1 : Nat) : Int), .int ((2 : Nat) : Int), .int ((3 : Nat) : Int), .int ((4 : Nat) : Int), .int ((5 : Nat) : Int), .int ((6 : Nat) : Int), .int ((7 : Nat) : Int), .int ((8 : Nat) : Int), .int ((9 : Nat) : Int)] (E9 o0 o1 o2 o3 o4 (some (.lst (made N P T W))) o6 o7 o8) := by kernel_rfl
  rw [for_ok e0]
  have st : ∀ (k : Nat) (_ : k < 10) (r : List D) (o6 o8 : Option S1), forD (gN 6) LB (.int (k : Int) :: r) (E9 o0 o1 o2 o3 o4 (some (.lst (made N P T W))) o6 o7 o8) = forD (gN 6) LB r (E9 o0 o1 o2 o3 o4 (some (.lst (made N P T W))) (some (.imm (.int (k : Int)))) o7 none) := fun k hk r o6 o8 => by
    obtain ⟨ρ2, e, rfl⟩ := turn k hk N P T W o0 o1 o2 o3 o4 o7 o8
    exact for_cons rfl e
  rw [st 0 (by omega), st 1 (by omega), st 2 (by omega), st 3 (by omega), st 4 (by omega), st 5 (by omega), st 6 (by omega), st 7 (by omega), st 8 (by omega), st 9 (by omega)]
  rfl
/-! ### what is read of them -/
theorem sh_all {P : D} {T W : Str} {N : Nat} (hP : P.canLay0 = true ∧ P.depth ≤ 1) (hT : PyData.strOk T = true) (hW : PyData.strOk W = true) : shW (.list [P, .int (N : Int), .int (N : Int), .str T]) = true ∧ shW (.list [.str T, .str W, .int (N : Int), .int (N : Int), .str T]) = true := by
  obtain ⟨h1, h2⟩ := hP
  constructor
  · unfold shW
    rw [Bool.and_eq_true]
    constructor
    · simp [PyData.canLay0, PyData.canLayAll0, h1, hT]
    · refine decide_eq_true ?_
      simp [PyData.depth, PyData.depthAll]
      omega
  · unfold shW
    rw [Bool.and_eq_true]
    constructor
    · simp [PyData.canLay0, PyData.canLayAll0, hT, hW]
    · refine decide_eq_true ?_
      simp [PyData.depth, PyData.depthAll]
theorem fEqW_same {d : D} (h : shW d = true) : fEqW d d = some true := by
  unfold fEqW
  rw [h, PySem.SeqAt.eqv_refl d (Bool.and_eq_true_iff.mp h).1]
  rfl
abbrev LE : MS := (sSeq (sIf (mCmp fNeW (fz (mLst (mCons (mUn (fAtt "place") (mIxL 5 (mC (.int 0)))) (mCons (mUn (fAtt "at") (mIxL 5 (mC (.int 1)))) (mCons (mUn (fAtt "number") (mIxL 5 (mC (.int 2)))) (mCons (mUn (fAtt "key") (mIxL 5 (mC (.int 3)))) mNil)))))) (fz (mLst (mCons (mV 2) (mCons (mV 1) (mCons (mV 1) (mCons (mV 3) mNil))))))) (sRet (mC (.bool false))) sNx) (sRet (bl (mCmp fEqW (fz (mLst (mCons (mUn (fAtt "key") (mIxL 5 (mC (.int 4)))) (mCons (mUn (fAtt "word") (mIxL 5 (mC (.int 4)))) (mCons (mUn (fAtt "row") (mIxL 5 (mC (.int 5)))) (mCons (mUn (fAtt "most") (mIxL 5 (mC (.int 6)))) (mCons (mUn (fAtt "key") (mIxL 5 (mC (.int 7)))) mNil))))))) (fz (mLst (mCons (mV 3) (mCons (mV 4) (mCons (mV 1) (mCons (mV 1) (mCons (mV 3) mNil)))))))))))
theorem last (N : Nat) (P : D) (T W : Str) (o0 o6 o7 o8 : Option S1) (hP : P.canLay0 = true ∧ P.depth ≤ 1) (hT : PyData.strOk T = true) (hW : PyData.strOk W = true) :
    ∃ ρ', LE (E9 o0 (some (.imm (.int (N : Int)))) (some (.imm P)) (some (.imm (.str T))) (some (.imm (.str W))) (some (.lst (made N P T W))) o6 o7 o8) = .rt (.imm (.bool true)) ρ' := by
  obtain ⟨s1, s2⟩ := sh_all (N := N) hP hT hW
  have a1 : (fz (mLst (mCons (mUn (fAtt "place") (mIxL 5 (mC (.int 0)))) (mCons (mUn (fAtt "at") (mIxL 5 (mC (.int 1)))) (mCons (mUn (fAtt "number") (mIxL 5 (mC (.int 2)))) (mCons (mUn (fAtt "key") (mIxL 5 (mC (.int 3)))) mNil)))))) (E9 o0 (some (.imm (.int (N : Int)))) (some (.imm P)) (some (.imm (.str T))) (some (.imm (.str W))) (some (.lst (made N P T W))) o6 o7 o8) = .ok (.list [P, .int (N : Int), .int (N : Int), .str T]) (E9 o0 (some (.imm (.int (N : Int)))) (some (.imm P)) (some (.imm (.str T))) (some (.imm (.str W))) (some (.lst (made N P T W))) o6 o7 o8) := by kernel_rfl
  have a2 : (fz (mLst (mCons (mV 2) (mCons (mV 1) (mCons (mV 1) (mCons (mV 3) mNil)))))) (E9 o0 (some (.imm (.int (N : Int)))) (some (.imm P)) (some (.imm (.str T))) (some (.imm (.str W))) (some (.lst (made N P T W))) o6 o7 o8) = .ok (.list [P, .int (N : Int), .int (N : Int), .str T]) (E9 o0 (some (.imm (.int (N : Int)))) (some (.imm P)) (some (.imm (.str T))) (some (.imm (.str W))) (some (.lst (made N P T W))) o6 o7 o8) := by kernel_rfl
  have a3 : (fz (mLst (mCons (mUn (fAtt "key") (mIxL 5 (mC (.int 4)))) (mCons (mUn (fAtt "word") (mIxL 5 (mC (.int 4)))) (mCons (mUn (fAtt "row") (mIxL 5 (mC (.int 5)))) (mCons (mUn (fAtt "most") (mIxL 5 (mC (.int 6)))) (mCons (mUn (fAtt "key") (mIxL 5 (mC (.int 7)))) mNil))))))) (E9 o0 (some (.imm (.int (N : Int)))) (some (.imm P)) (some (.imm (.str T))) (some (.imm (.str W))) (some (.lst (made N P T W))) o6 o7 o8) = .ok (.list [.str T, .str W, .int (N : Int), .int (N : Int), .str T]) (E9 o0 (some (.imm (.int (N : Int)))) (some (.imm P)) (some (.imm (.str T))) (some (.imm (.str W))) (some (.lst (made N P T W))) o6 o7 o8) := by kernel_rfl
  have a4 : (fz (mLst (mCons (mV 3) (mCons (mV 4) (mCons (mV 1) (mCons (mV 1) (mCons (mV 3) mNil))))))) (E9 o0 (some (.imm (.int (N : Int)))) (some (.imm P)) (some (.imm (.str T))) (some (.imm (.str W))) (some (.lst (made N P T W))) o6 o7 o8) = .ok (.list [.str T, .str W, .int (N : Int), .int (N : Int), .str T]) (E9 o0 (some (.imm (.int (N : Int)))) (some (.imm P)) (some (.imm (.str T))) (some (.imm (.str W))) (some (.lst (made N P T W))) o6 o7 o8) := by kernel_rfl
  unfold LE
  rw [seq_nx (if_n (cmp_ok a1 a2 (fNeW_same s1)))]
  exact ⟨_, ret_ok (bl_ok (cmp_ok a3 a4 (fEqW_same s2)))⟩
end K18

namespace K18
open PySem PySem.Spec PyProof.Rows L2 Pu Kt
def ltr (m : Nat) : Str := [("a" : Str), "b", "c", "x", "y", "z"].getD m ""
theorem ltr_all : ∀ m, m < 6 → (ltr m).length = 1 ∧ ∀ c ∈ cs (ltr m), c < 128 := by decide +kernel
theorem ltr_ix (m : Nat) (h : m < 6) : fIx (.str "abcxyz") (.int (m : Int)) = some (.str (ltr m)) := by
  rcases m with _|_|_|_|_|_|_ <;> first | omega | kernel_rfl
def wrd (m : Nat) : Str := [("knot" : Str), "feet", "sign", "great"].getD m ""
theorem wrd_all : ∀ m, m < 4 → (wrd m).length ≤ 5 ∧ PyData.strOk (wrd m) = true := by decide +kernel
theorem wrd_ix (m : Nat) (h : m < 4) : fIx (.list [.str "knot", .str "feet", .str "sign", .str "great"]) (.int (m : Int)) = some (.str (wrd m)) := by
  rcases m with _|_|_|_|_ <;> first | omega | kernel_rfl
theorem join0_cs : ∀ l : List Str, (∀ w ∈ l, ∀ c ∈ cs w, c < 128) → ∀ c ∈ cs (Str.join "" l), c < 128
  | [], _, c, hc => by
    rw [show cs (Str.join "" []) = [] by decide +kernel] at hc
    cases hc
  | [a], h, c, hc => h a List.mem_cons_self c hc
  | a :: b :: r, h, c, hc => by
    have e : cs (Str.join "" (a :: b :: r)) = cs (a ++ "" ++ Str.join "" (b :: r)) := rfl
    rw [e, cs_append, cs_append, List.mem_append, List.mem_append] at hc
    rcases hc with (hc | hc) | hc
    · exact h a List.mem_cons_self c hc
    · rw [show cs ("" : Str) = [] by decide +kernel] at hc; cases hc
    · exact join0_cs (b :: r) (fun w hw => h w (List.mem_cons_of_mem _ hw)) c hc
theorem join0 {l : List Str} (hl : ∀ w ∈ l, w.length = 1) (h : l.length ≤ 8) (hc : ∀ w ∈ l, ∀ c ∈ cs w, c < 128) : ∃ x : Str, fJoin (.str "") (.list (sD l)) = some (.str x) ∧ x.length ≤ 8 ∧ ∀ c ∈ cs x, c < 128 := by
  have e1 : ("" : Str).length = 0 := by decide +kernel
  have e2 : (l.map (·.length)).sum ≤ l.length := by
    clear h hc
    induction l with
    | nil => exact Nat.le_refl 0
    | cons a r ih =>
      rw [List.map_cons, List.sum_cons, List.length_cons, hl a List.mem_cons_self]
      have := ih fun w hw => hl w (List.mem_cons_of_mem _ hw)
      omega
  have e3 := join_len "" l
  rw [e1] at e3
  refine ⟨Txt.join "" l, ?_, by rw [TL.join_eq]; omega, by rw [TL.join_eq]; exact join0_cs l hc⟩
  show (strsD (sD l)).bind _ = _
  rw [strsD_sD]
  show (if _ then _ else _) = _
  rw [if_pos (by rw [e1]; omega)]
theorem ints_lay : ∀ q : List Int, PyData.canLayAll0 (q.map fun n => PyData.int (n % 8)) = true ∧ PyData.depthAll (q.map fun n => PyData.int (n % 8)) = 0
  | [] => ⟨rfl, rfl⟩
  | a :: r => ⟨by simp only [List.map_cons, PyData.canLayAll0, (ints_lay r).1]; rfl, by simp only [List.map_cons, PyData.depthAll, (ints_lay r).2]; rfl⟩
abbrev E5 (S P : D) (N : Nat) (T W : Str) (o5 : Option S1) : En := E9 (some (.imm S)) (some (.imm (.int (N : Int)))) (some (.imm P)) (some (.imm (.str T))) (some (.imm (.str W))) o5 none none none
theorem cons_ok {m : MM D} {r : MM (List D)} {ρ ρ1 ρ2 : En} {d : D} {ds : List D} (h : m ρ = .ok d ρ1) (k : r ρ1 = .ok ds ρ2) : mCons m r ρ = .ok (d :: ds) ρ2 := by
  unfold mCons
  rw [bd_ok h, bd_ok k]
  rfl
theorem lst_ok {r : MM (List D)} {ρ ρ1 : En} {ds : List D} (h : r ρ = .ok ds ρ1) (hl : decide (ds.length ≤ 1000) = true := by rfl) : mLst r ρ = .ok ds ρ1 := by
  unfold mLst
  rw [bd_ok h, if_pos (sized_le (by have := of_decide_eq_true hl; omega))]
  rfl
theorem fz_ok {m : MM (List D)} {ρ ρ1 : En} {ds : List D} (h : m ρ = .ok ds ρ1) : fz m ρ = .ok (.list ds) ρ1 := by unfold fz; rw [bd_ok h]; rfl
theorem six {N : Nat} {S P : D} {T W : Str} (hN : N < 1001) (hT : T.length ≤ 100) (hW : W.length ≤ 100) : (mLst (mCons (mMk (xF "NoPlace" 2 [("place", 1)] x_NoPlace) (mCons (mV 2) mNil)) (mCons (mMk (xF "NoText" 2 [("at", 1)] x_NoText) (mCons (mV 1) mNil)) (mCons (mMk (xF "NoKey" 2 [("number", 1)] x_NoKey) (mCons (mV 1) mNil)) (mCons (mMk (xF "Twice" 2 [("key", 1)] x_Twice) (mCons (mV 3) mNil)) (mCons (mMk (xF "NoTree" 3 [("key", 1), ("word", 2)] x_NoTree) (mCons (mV 3) (mCons (mV 4) mNil))) (mCons (mMk (xF "NoRow" 2 [("row", 1)] x_NoRow) (mCons (mV 1) mNil)) mNil))))))) (E5 S P N T W none) = .ok ((made N P T W).take 6) (E5 S P N T W none) :=
  lst_ok (cons_ok (mk_ok (ρ' := E5 S P N T W none) rfl x0) (cons_ok (mk_ok (ρ' := E5 S P N T W none) rfl (x1 hN)) (cons_ok (mk_ok (ρ' := E5 S P N T W none) rfl (x2 hN)) (cons_ok (mk_ok (ρ' := E5 S P N T W none) rfl (x3 hT)) (cons_ok (mk_ok (ρ' := E5 S P N T W none) rfl (x4 hT hW)) (cons_ok (mk_ok (ρ' := E5 S P N T W none) rfl (x5 hN)) rfl))))))
theorem four {N : Nat} {S P : D} {T W : Str} (hN : N < 1001) (hT : T.length ≤ 100) : (mBinL fCat (mV 5) (fz (mLst (mCons (mMk (xF "TooMany" 2 [("most", 1)] x_TooMany) (mCons (mV 1) mNil)) (mCons (mMk (xF "TwoSided" 2 [("key", 1)] x_TwoSided) (mCons (mV 3) mNil)) (mCons (mMk (xF "NoPlan" 2 [("text", 1)] x_NoPlan) (mCons (mV 3) mNil)) (mCons (mMk (xF "NoLine" 2 [("text", 1)] x_NoLine) (mCons (mV 3) mNil)) mNil))))))) (E5 S P N T W (some (.lst ((made N P T W).take 6)))) = .ok (made N P T W) (E5 S P N T W (some (.imm (.list ((made N P T W).take 6))))) := by
  have h : (fz (mLst (mCons (mMk (xF "TooMany" 2 [("most", 1)] x_TooMany) (mCons (mV 1) mNil)) (mCons (mMk (xF "TwoSided" 2 [("key", 1)] x_TwoSided) (mCons (mV 3) mNil)) (mCons (mMk (xF "NoPlan" 2 [("text", 1)] x_NoPlan) (mCons (mV 3) mNil)) (mCons (mMk (xF "NoLine" 2 [("text", 1)] x_NoLine) (mCons (mV 3) mNil)) mNil)))))) (E5 S P N T W (some (.imm (.list ((made N P T W).take 6))))) = .ok (.list ((made N P T W).drop 6)) (E5 S P N T W (some (.imm (.list ((made N P T W).take 6))))) := fz_ok (lst_ok (cons_ok (mk_ok (ρ' := E5 S P N T W (some (.imm (.list ((made N P T W).take 6))))) rfl (x6 hN)) (cons_ok (mk_ok (ρ' := E5 S P N T W (some (.imm (.list ((made N P T W).take 6))))) rfl (x7 hT)) (cons_ok (mk_ok (f := xF "NoPlan" 2 [("text", 1)] x_NoPlan) (mr := mCons (mV 3) mNil) (ds := [.str T]) (c := ⟨"NoPlan", [("text", .str T)]⟩) (ρ' := E5 S P N T W (some (.imm (.list ((made N P T W).take 6))))) rfl rfl) (cons_ok (mk_ok (f := xF "NoLine" 2 [("text", 1)] x_NoLine) (mr := mCons (mV 3) mNil) (ds := [.str T]) (c := ⟨"NoLine", [("text", .str T)]⟩) (ρ' := E5 S P N T W (some (.imm (.list ((made N P T W).take 6))))) rfl rfl) (ρ2 := E5 S P N T W (some (.imm (.list ((made N P T W).take 6))))) rfl)))))
  unfold mBinL
  have h0 : mV 5 (E5 S P N T W (some (.lst ((made N P T W).take 6)))) = .ok (.list ((made N P T W).take 6)) (E5 S P N T W (some (.imm (.list ((made N P T W).take 6))))) := rfl
  rw [bd_ok h0, bd_ok h]
  rfl
theorem lcs {ns : List Int} {j : Nat} {te : MM D} {e : Int → D} {o1 o2 o3 o4 o5 o6 o8 : Option S1} (h : ∀ c : Int, te (E9 (some (.imm (.list (ns.map PyData.int)))) o1 o2 o3 o4 o5 o6 (some (.imm (.int c))) o8) = .ok (e c) (E9 (some (.imm (.list (ns.map PyData.int)))) o1 o2 o3 o4 o5 o6 (some (.imm (.int c))) o8)) (hn : ns.length ≤ 63) :
    mLc [7] (msSeq (fz (mSlL (mV 0) mNoP (mPt (mC (.int (j : Int))))))) (gN 7) mYes te (E9 (some (.imm (.list (ns.map PyData.int)))) o1 o2 o3 o4 o5 o6 none o8) = .ok ((ns.take j).map e) (E9 (some (.imm (.list (ns.map PyData.int)))) o1 o2 o3 o4 o5 o6 none o8) := by
  have e0 : msSeq (fz (mSlL (mV 0) mNoP (mPt (mC (.int (j : Int)))))) (E9 (some (.imm (.list (ns.map PyData.int)))) o1 o2 o3 o4 o5 o6 none o8) = .ok ((ns.take j).map PyData.int) (E9 (some (.imm (.list (ns.map PyData.int)))) o1 o2 o3 o4 o5 o6 none o8) := by
    simp only [msSeq, seqD, fz, mSlL, bd, mV, List.getElem?_cons_zero, mNoP, mPt, mC, pu, pI, lift, fSlL, cut_take, List.map_take]
  have q := mLcM_eq (vs := [7]) (f := gN 7) (tt := mYes) (te := te) PyData.int (fun _ => true) e e0 rfl (fun c _ => ⟨_, rfl, _, rfl, (fun z => nomatch z), fun _ => ⟨_, h c, rfl⟩⟩) (by rw [List.length_take]; omega)
  rw [q, List.filter_eq_self.mpr fun _ _ => rfl]
  rfl
theorem law_true (ns : List Int) (hl : ns.length ≤ 63) : m_law [.list (ns.map PyData.int)] = .ok (.imm (.bool true)) := by
  have body : ∃ ρ', b_law (E9 (some (.imm (.list (ns.map PyData.int)))) none none none none none none none none) = .rt (.imm (.bool true)) ρ' := by
    unfold b_law
    generalize hS : PyData.list (ns.map PyData.int) = S
    obtain ⟨N, hN, e1⟩ : ∃ N : Nat, N < 1001 ∧ (mIf (mCmp fGt (mCall gLen (mCons (mV 0) mNil)) (mC (.int 0))) (mBin fMod (mBin fIx (mV 0) (mC (.int 0))) (mC (.int 1001))) (mC (.int 0))) (E9 (some (.imm S)) none none none none none none none none) = .ok (.int (N : Int)) (E9 (some (.imm S)) none none none none none none none none) := by
      subst hS
      cases ns with
      | nil => exact ⟨0, by omega, by kernel_rfl⟩
      | cons a r =>
        obtain ⟨m, hm1, hm2⟩ := mod_cases (c := a) (k := 1001) (by omega)
        refine ⟨m, hm1, ?_⟩
        rw [List.length_cons] at hl
        have g1 : mCmp fGt (mCall gLen (mCons (mV 0) mNil)) (mC (.int 0)) (E9 (some (.imm (.list ((a :: r).map PyData.int)))) none none none none none none none none) = .ok true (E9 (some (.imm (.list ((a :: r).map PyData.int)))) none none none none none none none none) := by
          refine cmp_ok (x := .int (((a :: r).map PyData.int).length : Nat)) rfl rfl ?_
          show some (decide ((0 : Int) < _)) = _
          rw [decide_eq_true (by rw [List.length_map, List.length_cons]; omega)]
        have g2 : fMod (.int a) (.int 1001) = some (.int (m : Int)) := (fMod_eq (by decide)).trans (congrArg (fun z => some (PyData.int z)) hm2)
        unfold mIf
        rw [bd_ok g1]
        unfold mBin
        have g3 : fIx (.list ((a :: r).map PyData.int)) (.int 0) = some (.int a) := fIxL.trans atI0
        simp only [if_true, bd, mV, mC, pu, List.getElem?_cons_zero, g3, lift, g2]
    rw [seq_nx (set_ok e1 (by simp))]
    clear e1
    subst hS
    rw [show (E9 (some (.imm (.list (ns.map PyData.int)))) none none none none none none none none).set 1 (some (.imm (.int (N : Int)))) = E9 (some (.imm (.list (ns.map PyData.int)))) (some (.imm (.int (N : Int)))) none none none none none none none from rfl]
    obtain ⟨P, hP⟩ : ∃ P : D, P = .tuple ((ns.take 12).map fun n => PyData.int (n % 8)) := ⟨_, rfl⟩
    have hPl : P.canLay0 = true ∧ P.depth ≤ 1 := by
      subst hP
      refine ⟨(ints_lay _).1, ?_⟩
      show PyData.depthAll ((ns.take 12).map fun n => PyData.int (n % 8)) + 1 ≤ 1
      rw [(ints_lay _).2]
      omega
    have l2 := lcs (ns := ns) (j := 12) (te := mBin fMod (mV 7) (mC (.int 8))) (e := fun n => PyData.int (n % 8)) (o1 := some (.imm (.int (N : Int)))) (o2 := none) (o3 := none) (o4 := none) (o5 := none) (o6 := none) (o8 := none) (fun c => by
      have g : fMod (.int c) (.int 8) = some (.int (c % 8)) := fMod_eq (by decide)
      simp only [mBin, bd, mV, mC, pu, List.getElem?_cons_zero, List.getElem?_cons_succ, g, lift]) hl
    have e2 : mCall gTuple (mCons (fz (mLc [7] (msSeq (fz (mSlL (mV 0) mNoP (mPt (mC (.int 12)))))) (gN 7) mYes (mBin fMod (mV 7) (mC (.int 8))))) mNil) (E9 (some (.imm (.list (ns.map PyData.int)))) (some (.imm (.int (N : Int)))) none none none none none none none) = .ok P (E9 (some (.imm (.list (ns.map PyData.int)))) (some (.imm (.int (N : Int)))) none none none none none none none) := by
      rw [hP]
      have l3 : mLc [7] (msSeq (fz (mSlL (mV 0) mNoP (mPt (mC (.int 12)))))) (gN 7) mYes (mBin fMod (mV 7) (mC (.int 8))) (E9 (some (.imm (.list (ns.map PyData.int)))) (some (.imm (.int (N : Int)))) none none none none none none none) = _ := l2
      generalize (ns.take 12).map (fun n => PyData.int (n % 8)) = X at l3 ⊢
      generalize mLc [7] (msSeq (fz (mSlL (mV 0) mNoP (mPt (mC (.int 12)))))) (gN 7) mYes (mBin fMod (mV 7) (mC (.int 8))) = ML at l3 ⊢
      unfold mCall
      have l4 : (mCons (fz ML) mNil) (E9 (some (.imm (.list (ns.map PyData.int)))) (some (.imm (.int (N : Int)))) none none none none none none none) = .ok [.list X] (E9 (some (.imm (.list (ns.map PyData.int)))) (some (.imm (.int (N : Int)))) none none none none none none none) := by
        have l5 : fz ML (E9 (some (.imm (.list (ns.map PyData.int)))) (some (.imm (.int (N : Int)))) none none none none none none none) = .ok (.list X) (E9 (some (.imm (.list (ns.map PyData.int)))) (some (.imm (.int (N : Int)))) none none none none none none none) := by
          unfold fz
          rw [bd_ok l3]
          rfl
        unfold mCons
        rw [bd_ok l5]
        rfl
      rw [bd_ok l4]
      rfl
    rw [seq_nx (set_ok e2 (by simp))]
    clear e2 l2 hP
    rw [show (E9 (some (.imm (.list (ns.map PyData.int)))) (some (.imm (.int (N : Int)))) none none none none none none none).set 2 (some (.imm P)) = E9 (some (.imm (.list (ns.map PyData.int)))) (some (.imm (.int (N : Int)))) (some (.imm P)) none none none none none none from rfl]
    obtain ⟨T0, hT0, hT1, hT2⟩ := join0 (l := (ns.take 8).map fun c => ltr (c % 6).toNat) (fun w hw => by
      obtain ⟨c, _, rfl⟩ := List.mem_map.mp hw
      exact (ltr_all _ (by omega)).1) (by rw [List.length_map, List.length_take]; omega) (fun w hw => by
      obtain ⟨c, _, rfl⟩ := List.mem_map.mp hw
      exact (ltr_all _ (by omega)).2)
    generalize hW : wrd (N % 4) = W
    have hW1 : W.length ≤ 5 ∧ PyData.strOk W = true := by rw [← hW]; exact wrd_all _ (by omega)
    have l2 := lcs (ns := ns) (j := 8) (te := mBin fIx (mC (.str "abcxyz")) (mBin fMod (mV 7) (mC (.int 6)))) (e := fun n => PyData.str (ltr (n % 6).toNat)) (o1 := some (.imm (.int (N : Int)))) (o2 := some (.imm P)) (o3 := none) (o4 := none) (o5 := none) (o6 := none) (o8 := none) (fun c => by
      have g : fMod (.int c) (.int 6) = some (.int (c % 6)) := fMod_eq (by decide)
      have g2 := ltr_ix (c % 6).toNat (by omega)
      rw [Int.toNat_of_nonneg (by omega)] at g2
      simp only [mBin, bd, mV, mC, pu, List.getElem?_cons_zero, List.getElem?_cons_succ, g, lift, g2]) hl
    have hmm : (ns.take 8).map (fun n => PyData.str (ltr (n % 6).toNat)) = sD ((ns.take 8).map fun c => ltr (c % 6).toNat) := by unfold sD; rw [List.map_map]; rfl
    rw [hmm] at l2
    generalize sD ((ns.take 8).map fun c => ltr (c % 6).toNat) = X at l2 hT0
    have e3 : mBin fAdd (mC (.str "k")) (mBinN fJoin (mC (.str "")) (fz (mLc [7] (msSeq (fz (mSlL (mV 0) mNoP (mPt (mC (.int 8)))))) (gN 7) mYes (mBin fIx (mC (.str "abcxyz")) (mBin fMod (mV 7) (mC (.int 6))))))) (E9 (some (.imm (.list (ns.map PyData.int)))) (some (.imm (.int (N : Int)))) (some (.imm P)) none none none none none none) = .ok (.str ("k" ++ T0)) (E9 (some (.imm (.list (ns.map PyData.int)))) (some (.imm (.int (N : Int)))) (some (.imm P)) none none none none none none) := by
      have l3 : mLc [7] (msSeq (fz (mSlL (mV 0) mNoP (mPt (mC (.int 8)))))) (gN 7) mYes (mBin fIx (mC (.str "abcxyz")) (mBin fMod (mV 7) (mC (.int 6)))) (E9 (some (.imm (.list (ns.map PyData.int)))) (some (.imm (.int (N : Int)))) (some (.imm P)) none none none none none none) = _ := l2
      generalize mLc [7] (msSeq (fz (mSlL (mV 0) mNoP (mPt (mC (.int 8)))))) (gN 7) mYes (mBin fIx (mC (.str "abcxyz")) (mBin fMod (mV 7) (mC (.int 6)))) = ML at l3 ⊢
      have g1 : fAdd (.str "k") (.str T0) = some (.str ("k" ++ T0)) := fAdd_str (by rw [show ("k" : Str).length = 1 by decide +kernel]; omega)
      simp only [mBin, mBinN, bdN, bd, fz, mC, pu, l3, hT0, lift, g1]
    rw [seq_nx (set_ok e3 (by simp))]
    clear e3 l2 hmm hT0
    rw [show (E9 (some (.imm (.list (ns.map PyData.int)))) (some (.imm (.int (N : Int)))) (some (.imm P)) none none none none none none).set 3 (some (.imm (.str ("k" ++ T0)))) = E9 (some (.imm (.list (ns.map PyData.int)))) (some (.imm (.int (N : Int)))) (some (.imm P)) (some (.imm (.str ("k" ++ T0)))) none none none none none from rfl]
    have hT : ("k" ++ T0).length ≤ 100 ∧ PyData.strOk ("k" ++ T0) = true := by
      refine ⟨by rw [slen_append, show ("k" : Str).length = 1 by decide +kernel]; omega, strOk_of fun c hc => ?_⟩
      rw [cs_append, List.mem_append] at hc
      rcases hc with hc | hc
      · exact (show ∀ c ∈ cs ("k" : Str), c < 128 by decide +kernel) c hc
      · exact hT2 c hc
    generalize "k" ++ T0 = T at hT
    generalize PyData.list (ns.map PyData.int) = S
    have e4 : mBin fIx (fz (mLst (mCons (mC (.str "knot")) (mCons (mC (.str "feet")) (mCons (mC (.str "sign")) (mCons (mC (.str "great")) mNil)))))) (mBin fMod (mV 1) (mC (.int 4))) (E9 (some (.imm S)) (some (.imm (.int (N : Int)))) (some (.imm P)) (some (.imm (.str T))) none none none none none) = .ok (.str W) (E9 (some (.imm S)) (some (.imm (.int (N : Int)))) (some (.imm P)) (some (.imm (.str T))) none none none none none) := by
      have g : fMod (.int (N : Int)) (.int 4) = some (.int ((N % 4 : Nat) : Int)) := fMod_eq (by decide)
      have g2 := wrd_ix (N % 4) (by omega)
      rw [hW] at g2
      have g3 : (fz (mLst (mCons (mC (.str "knot")) (mCons (mC (.str "feet")) (mCons (mC (.str "sign")) (mCons (mC (.str "great")) mNil)))))) (E9 (some (.imm S)) (some (.imm (.int (N : Int)))) (some (.imm P)) (some (.imm (.str T))) none none none none none) = .ok (.list [.str "knot", .str "feet", .str "sign", .str "great"]) (E9 (some (.imm S)) (some (.imm (.int (N : Int)))) (some (.imm P)) (some (.imm (.str T))) none none none none none) := rfl
      generalize (fz (mLst (mCons (mC (.str "knot")) (mCons (mC (.str "feet")) (mCons (mC (.str "sign")) (mCons (mC (.str "great")) mNil)))))) = ML at g3 ⊢
      simp only [mBin, bd, g3, mV, mC, pu, List.getElem?_cons_zero, List.getElem?_cons_succ, g, lift, g2]
    rw [seq_nx (set_ok e4 (by simp))]
    clear e4
    rw [show (E9 (some (.imm S)) (some (.imm (.int (N : Int)))) (some (.imm P)) (some (.imm (.str T))) none none none none none).set 4 (some (.imm (.str W))) = E9 (some (.imm S)) (some (.imm (.int (N : Int)))) (some (.imm P)) (some (.imm (.str T))) (some (.imm (.str W))) none none none none from rfl]
    obtain ⟨hTl, hTo⟩ := hT
    obtain ⟨hWl, hWo⟩ := hW1
    rw [seq_nx (setL_ok (six hN hTl (by omega)) (by simp))]
    rw [show (E5 S P N T W none).set 5 (some (.lst ((made N P T W).take 6))) = E5 S P N T W (some (.lst ((made N P T W).take 6))) from rfl]
    rw [seq_nx (setL_ok (four hN hTl) (by simp))]
    rw [show (E5 S P N T W (some (.imm (.list ((made N P T W).take 6))))).set 5 (some (.lst (made N P T W))) = E5 S P N T W (some (.lst (made N P T W))) from rfl]
    have lp := loop N P T W (some (.imm S)) (some (.imm (.int (N : Int)))) (some (.imm P)) (some (.imm (.str T))) (some (.imm (.str W))) none none none
    rw [seq_nx (a := sFor (msRng (mCons (mC (.int 10)) mNil)) (gN 6) LB) lp]
    exact last N P T W (some (.imm S)) _ _ _ hPl hTo hWo
  obtain ⟨ρ', e⟩ := body
  exact mfn_rt (b := b_law) (n := 9) e
end K18

open PySem PySem.W PyProof.Rows
set_option maxRecDepth 100000 in
set_option maxHeartbeats 0 in
theorem PySem.Challenge.cw_graftsay_k18_refusals_apart_holds : PySem.Challenge.rw_graftsay_k18_refusals_apart.Holds := by
  w_on; o_law; k_head; (case hw => w_witness2)
  k_fill
  refine Pu.walk (l := PySem.Challenge.rw_graftsay_k18_refusals_apart) (k := 3) rfl rfl ⟨rfl, by decide, by decide, rfl⟩ (fun w h Y => PySem.W.kIn_of Y) ?F
  case F =>
    intro w mg fa h KX G hmg hTb
    refine' K18.all_mk (q := PySem.Challenge.pw_graftsay_k18_refusals_apart) KX G hmg ?a1 ?l1 ?c1 ?k1 ?a2 ?l2 ?c2 ?k2 ?z_ValueError ?z_isinstance ?z_len ?z_range ?z_tuple ?xC_NoKey ?yC_NoKey ?xG_NoKey ?yG_NoKey ?zG_NoKey ?wG_NoKey ?yNG_NoKey ?oG_NoKey ?yN_NoKey ?oC_NoKey ?wC_NoKey ?yF_NoKey ?yD_NoKey ?vD_NoKey ?fD_NoKey ?tp_NoKey ?yc_NoKey ?su_NoKey ?op_NoKey ?co_NoKey ?ga_NoKey ?gt_NoKey ?kc_NoKey ?se_NoKey ?f0_NoKey ?f1_NoKey ?f2_NoKey ?f3_NoKey ?f4_NoKey ?f5_NoKey ?f6_NoKey ?f7_NoKey ?kp_NoKey ?xC_NoLine ?yC_NoLine ?xG_NoLine ?yG_NoLine ?zG_NoLine ?wG_NoLine ?yNG_NoLine ?oG_NoLine ?yN_NoLine ?oC_NoLine ?wC_NoLine ?yF_NoLine ?yD_NoLine ?vD_NoLine ?fD_NoLine ?tp_NoLine ?yc_NoLine ?su_NoLine ?op_NoLine ?co_NoLine ?ga_NoLine ?gt_NoLine ?kc_NoLine ?se_NoLine ?f0_NoLine ?f1_NoLine ?f2_NoLine ?f3_NoLine ?f4_NoLine ?f5_NoLine ?f6_NoLine ?f7_NoLine ?kp_NoLine ?xC_NoPlace ?yC_NoPlace ?xG_NoPlace ?yG_NoPlace ?zG_NoPlace ?wG_NoPlace ?yNG_NoPlace ?oG_NoPlace ?yN_NoPlace ?oC_NoPlace ?wC_NoPlace ?yF_NoPlace ?yD_NoPlace ?vD_NoPlace ?fD_NoPlace ?tp_NoPlace ?yc_NoPlace ?su_NoPlace ?op_NoPlace ?co_NoPlace ?ga_NoPlace ?gt_NoPlace ?kc_NoPlace ?se_NoPlace ?f0_NoPlace ?f1_NoPlace ?f2_NoPlace ?f3_NoPlace ?f4_NoPlace ?f5_NoPlace ?f6_NoPlace ?f7_NoPlace ?kp_NoPlace ?xC_NoPlan ?yC_NoPlan ?xG_NoPlan ?yG_NoPlan ?zG_NoPlan ?wG_NoPlan ?yNG_NoPlan ?oG_NoPlan ?yN_NoPlan ?oC_NoPlan ?wC_NoPlan ?yF_NoPlan ?yD_NoPlan ?vD_NoPlan ?fD_NoPlan ?tp_NoPlan ?yc_NoPlan ?su_NoPlan ?op_NoPlan ?co_NoPlan ?ga_NoPlan ?gt_NoPlan ?kc_NoPlan ?se_NoPlan ?f0_NoPlan ?f1_NoPlan ?f2_NoPlan ?f3_NoPlan ?f4_NoPlan ?f5_NoPlan ?f6_NoPlan ?f7_NoPlan ?kp_NoPlan ?xC_NoRow ?yC_NoRow ?xG_NoRow ?yG_NoRow ?zG_NoRow ?wG_NoRow ?yNG_NoRow ?oG_NoRow ?yN_NoRow ?oC_NoRow ?wC_NoRow ?yF_NoRow ?yD_NoRow ?vD_NoRow ?fD_NoRow ?tp_NoRow ?yc_NoRow ?su_NoRow ?op_NoRow ?co_NoRow ?ga_NoRow ?gt_NoRow ?kc_NoRow ?se_NoRow ?f0_NoRow ?f1_NoRow ?f2_NoRow ?f3_NoRow ?f4_NoRow ?f5_NoRow ?f6_NoRow ?f7_NoRow ?kp_NoRow ?xC_NoText ?yC_NoText ?xG_NoText ?yG_NoText ?zG_NoText ?wG_NoText ?yNG_NoText ?oG_NoText ?yN_NoText ?oC_NoText ?wC_NoText ?yF_NoText ?yD_NoText ?vD_NoText ?fD_NoText ?tp_NoText ?yc_NoText ?su_NoText ?op_NoText ?co_NoText ?ga_NoText ?gt_NoText ?kc_NoText ?se_NoText ?f0_NoText ?f1_NoText ?f2_NoText ?f3_NoText ?f4_NoText ?f5_NoText ?f6_NoText ?f7_NoText ?kp_NoText ?xC_NoTree ?yC_NoTree ?xG_NoTree ?yG_NoTree ?zG_NoTree ?wG_NoTree ?yNG_NoTree ?oG_NoTree ?yN_NoTree ?oC_NoTree ?wC_NoTree ?yF_NoTree ?yD_NoTree ?vD_NoTree ?fD_NoTree ?tp_NoTree ?yc_NoTree ?su_NoTree ?op_NoTree ?co_NoTree ?ga_NoTree ?gt_NoTree ?kc_NoTree ?se_NoTree ?f0_NoTree ?f1_NoTree ?f2_NoTree ?f3_NoTree ?f4_NoTree ?f5_NoTree ?f6_NoTree ?f7_NoTree ?kp_NoTree ?xC_TooMany ?yC_TooMany ?xG_TooMany ?yG_TooMany ?zG_TooMany ?wG_TooMany ?yNG_TooMany ?oG_TooMany ?yN_TooMany ?oC_TooMany ?wC_TooMany ?yF_TooMany ?yD_TooMany ?vD_TooMany ?fD_TooMany ?tp_TooMany ?yc_TooMany ?su_TooMany ?op_TooMany ?co_TooMany ?ga_TooMany ?gt_TooMany ?kc_TooMany ?se_TooMany ?f0_TooMany ?f1_TooMany ?f2_TooMany ?f3_TooMany ?f4_TooMany ?f5_TooMany ?f6_TooMany ?f7_TooMany ?kp_TooMany ?xC_Twice ?yC_Twice ?xG_Twice ?yG_Twice ?zG_Twice ?wG_Twice ?yNG_Twice ?oG_Twice ?yN_Twice ?oC_Twice ?wC_Twice ?yF_Twice ?yD_Twice ?vD_Twice ?fD_Twice ?tp_Twice ?yc_Twice ?su_Twice ?op_Twice ?co_Twice ?ga_Twice ?gt_Twice ?kc_Twice ?se_Twice ?f0_Twice ?f1_Twice ?f2_Twice ?f3_Twice ?f4_Twice ?f5_Twice ?f6_Twice ?f7_Twice ?kp_Twice ?xC_TwoSided ?yC_TwoSided ?xG_TwoSided ?yG_TwoSided ?zG_TwoSided ?wG_TwoSided ?yNG_TwoSided ?oG_TwoSided ?yN_TwoSided ?oC_TwoSided ?wC_TwoSided ?yF_TwoSided ?yD_TwoSided ?vD_TwoSided ?fD_TwoSided ?tp_TwoSided ?yc_TwoSided ?su_TwoSided ?op_TwoSided ?co_TwoSided ?ga_TwoSided ?gt_TwoSided ?kc_TwoSided ?se_TwoSided ?f0_TwoSided ?f1_TwoSided ?f2_TwoSided ?f3_TwoSided ?f4_TwoSided ?f5_TwoSided ?f6_TwoSided ?f7_TwoSided ?kp_TwoSided ?xD_GraftError ?yDD_GraftError ?zD_GraftError ?wD_GraftError ?xD_NoKey ?yDD_NoKey ?zD_NoKey ?wD_NoKey ?xD_NoLine ?yDD_NoLine ?zD_NoLine ?wD_NoLine ?xD_NoPlace ?yDD_NoPlace ?zD_NoPlace ?wD_NoPlace ?xD_NoPlan ?yDD_NoPlan ?zD_NoPlan ?wD_NoPlan ?xD_NoRow ?yDD_NoRow ?zD_NoRow ?wD_NoRow ?xD_NoText ?yDD_NoText ?zD_NoText ?wD_NoText ?xD_NoTree ?yDD_NoTree ?zD_NoTree ?wD_NoTree ?xD_TooMany ?yDD_TooMany ?zD_TooMany ?wD_TooMany ?xD_Twice ?yDD_Twice ?zD_Twice ?wD_Twice ?xD_TwoSided ?yDD_TwoSided ?zD_TwoSided ?wD_TwoSided K18.law_true
    (case a1 => k_is); (case l1 => k_is); (case c1 => k_is); (case k1 => k_is)
    (case a2 => k_is); (case l2 => k_is); (case c2 => k_is); (case k2 => k_is)
    (case z_ValueError => k_is)
    (case z_isinstance => k_is)
    (case z_len => k_is)
    (case z_range => k_is)
    (case z_tuple => k_is)
    (case xC_NoKey => k_is)
    (case yC_NoKey => k_is)
    (case xG_NoKey => k_is)
    (case yG_NoKey => k_is)
    (case zG_NoKey => rfl)
    (case wG_NoKey => k_is)
    (case yNG_NoKey => k_is)
    (case oG_NoKey => first | kernel_rfl | with_unfolding_all rfl | simp)
    (case yN_NoKey => k_is)
    (case oC_NoKey => first | kernel_rfl | with_unfolding_all rfl | simp)
    (case wC_NoKey => k_is)
    (case yF_NoKey => k_is)
    (case yD_NoKey => k_is)
    (case vD_NoKey => rfl)
    (case fD_NoKey => rfl)
    (case tp_NoKey => first | rfl | decide +kernel)
    (case yc_NoKey => k_is)
    (case su_NoKey => k_is)
    (case op_NoKey => k_is)
    (case co_NoKey => k_is)
    (case ga_NoKey => k_is)
    (case gt_NoKey => k_is)
    (case kc_NoKey => k_is)
    (case se_NoKey => k_is)
    (case f0_NoKey => k_is)
    (case f1_NoKey => k_is)
    (case f2_NoKey => k_is)
    (case f3_NoKey => k_is)
    (case f4_NoKey => k_is)
    (case f5_NoKey => k_is)
    (case f6_NoKey => k_is)
    (case f7_NoKey => k_is)
    (case kp_NoKey => k_is)
    (case xC_NoLine => k_is)
    (case yC_NoLine => k_is)
    (case xG_NoLine => k_is)
    (case yG_NoLine => k_is)
    (case zG_NoLine => rfl)
    (case wG_NoLine => k_is)
    (case yNG_NoLine => k_is)
    (case oG_NoLine => first | kernel_rfl | with_unfolding_all rfl | simp)
    (case yN_NoLine => k_is)
    (case oC_NoLine => first | kernel_rfl | with_unfolding_all rfl | simp)
    (case wC_NoLine => k_is)
    (case yF_NoLine => k_is)
    (case yD_NoLine => k_is)
    (case vD_NoLine => rfl)
    (case fD_NoLine => rfl)
    (case tp_NoLine => first | rfl | decide +kernel)
    (case yc_NoLine => k_is)
    (case su_NoLine => k_is)
    (case op_NoLine => k_is)
    (case co_NoLine => k_is)
    (case ga_NoLine => k_is)
    (case gt_NoLine => k_is)
    (case kc_NoLine => k_is)
    (case se_NoLine => k_is)
    (case f0_NoLine => k_is)
    (case f1_NoLine => k_is)
    (case f2_NoLine => k_is)
    (case f3_NoLine => k_is)
    (case f4_NoLine => k_is)
    (case f5_NoLine => k_is)
    (case f6_NoLine => k_is)
    (case f7_NoLine => k_is)
    (case kp_NoLine => k_is)
    (case xC_NoPlace => k_is)
    (case yC_NoPlace => k_is)
    (case xG_NoPlace => k_is)
    (case yG_NoPlace => k_is)
    (case zG_NoPlace => rfl)
    (case wG_NoPlace => k_is)
    (case yNG_NoPlace => k_is)
    (case oG_NoPlace => first | kernel_rfl | with_unfolding_all rfl | simp)
    (case yN_NoPlace => k_is)
    (case oC_NoPlace => first | kernel_rfl | with_unfolding_all rfl | simp)
    (case wC_NoPlace => k_is)
    (case yF_NoPlace => k_is)
    (case yD_NoPlace => k_is)
    (case vD_NoPlace => rfl)
    (case fD_NoPlace => rfl)
    (case tp_NoPlace => first | rfl | decide +kernel)
    (case yc_NoPlace => k_is)
    (case su_NoPlace => k_is)
    (case op_NoPlace => k_is)
    (case co_NoPlace => k_is)
    (case ga_NoPlace => k_is)
    (case gt_NoPlace => k_is)
    (case kc_NoPlace => k_is)
    (case se_NoPlace => k_is)
    (case f0_NoPlace => k_is)
    (case f1_NoPlace => k_is)
    (case f2_NoPlace => k_is)
    (case f3_NoPlace => k_is)
    (case f4_NoPlace => k_is)
    (case f5_NoPlace => k_is)
    (case f6_NoPlace => k_is)
    (case f7_NoPlace => k_is)
    (case kp_NoPlace => k_is)
    (case xC_NoPlan => k_is)
    (case yC_NoPlan => k_is)
    (case xG_NoPlan => k_is)
    (case yG_NoPlan => k_is)
    (case zG_NoPlan => rfl)
    (case wG_NoPlan => k_is)
    (case yNG_NoPlan => k_is)
    (case oG_NoPlan => first | kernel_rfl | with_unfolding_all rfl | simp)
    (case yN_NoPlan => k_is)
    (case oC_NoPlan => first | kernel_rfl | with_unfolding_all rfl | simp)
    (case wC_NoPlan => k_is)
    (case yF_NoPlan => k_is)
    (case yD_NoPlan => k_is)
    (case vD_NoPlan => rfl)
    (case fD_NoPlan => rfl)
    (case tp_NoPlan => first | rfl | decide +kernel)
    (case yc_NoPlan => k_is)
    (case su_NoPlan => k_is)
    (case op_NoPlan => k_is)
    (case co_NoPlan => k_is)
    (case ga_NoPlan => k_is)
    (case gt_NoPlan => k_is)
    (case kc_NoPlan => k_is)
    (case se_NoPlan => k_is)
    (case f0_NoPlan => k_is)
    (case f1_NoPlan => k_is)
    (case f2_NoPlan => k_is)
    (case f3_NoPlan => k_is)
    (case f4_NoPlan => k_is)
    (case f5_NoPlan => k_is)
    (case f6_NoPlan => k_is)
    (case f7_NoPlan => k_is)
    (case kp_NoPlan => k_is)
    (case xC_NoRow => k_is)
    (case yC_NoRow => k_is)
    (case xG_NoRow => k_is)
    (case yG_NoRow => k_is)
    (case zG_NoRow => rfl)
    (case wG_NoRow => k_is)
    (case yNG_NoRow => k_is)
    (case oG_NoRow => first | kernel_rfl | with_unfolding_all rfl | simp)
    (case yN_NoRow => k_is)
    (case oC_NoRow => first | kernel_rfl | with_unfolding_all rfl | simp)
    (case wC_NoRow => k_is)
    (case yF_NoRow => k_is)
    (case yD_NoRow => k_is)
    (case vD_NoRow => rfl)
    (case fD_NoRow => rfl)
    (case tp_NoRow => first | rfl | decide +kernel)
    (case yc_NoRow => k_is)
    (case su_NoRow => k_is)
    (case op_NoRow => k_is)
    (case co_NoRow => k_is)
    (case ga_NoRow => k_is)
    (case gt_NoRow => k_is)
    (case kc_NoRow => k_is)
    (case se_NoRow => k_is)
    (case f0_NoRow => k_is)
    (case f1_NoRow => k_is)
    (case f2_NoRow => k_is)
    (case f3_NoRow => k_is)
    (case f4_NoRow => k_is)
    (case f5_NoRow => k_is)
    (case f6_NoRow => k_is)
    (case f7_NoRow => k_is)
    (case kp_NoRow => k_is)
    (case xC_NoText => k_is)
    (case yC_NoText => k_is)
    (case xG_NoText => k_is)
    (case yG_NoText => k_is)
    (case zG_NoText => rfl)
    (case wG_NoText => k_is)
    (case yNG_NoText => k_is)
    (case oG_NoText => first | kernel_rfl | with_unfolding_all rfl | simp)
    (case yN_NoText => k_is)
    (case oC_NoText => first | kernel_rfl | with_unfolding_all rfl | simp)
    (case wC_NoText => k_is)
    (case yF_NoText => k_is)
    (case yD_NoText => k_is)
    (case vD_NoText => rfl)
    (case fD_NoText => rfl)
    (case tp_NoText => first | rfl | decide +kernel)
    (case yc_NoText => k_is)
    (case su_NoText => k_is)
    (case op_NoText => k_is)
    (case co_NoText => k_is)
    (case ga_NoText => k_is)
    (case gt_NoText => k_is)
    (case kc_NoText => k_is)
    (case se_NoText => k_is)
    (case f0_NoText => k_is)
    (case f1_NoText => k_is)
    (case f2_NoText => k_is)
    (case f3_NoText => k_is)
    (case f4_NoText => k_is)
    (case f5_NoText => k_is)
    (case f6_NoText => k_is)
    (case f7_NoText => k_is)
    (case kp_NoText => k_is)
    (case xC_NoTree => k_is)
    (case yC_NoTree => k_is)
    (case xG_NoTree => k_is)
    (case yG_NoTree => k_is)
    (case zG_NoTree => rfl)
    (case wG_NoTree => k_is)
    (case yNG_NoTree => k_is)
    (case oG_NoTree => first | kernel_rfl | with_unfolding_all rfl | simp)
    (case yN_NoTree => k_is)
    (case oC_NoTree => first | kernel_rfl | with_unfolding_all rfl | simp)
    (case wC_NoTree => k_is)
    (case yF_NoTree => k_is)
    (case yD_NoTree => k_is)
    (case vD_NoTree => rfl)
    (case fD_NoTree => rfl)
    (case tp_NoTree => first | rfl | decide +kernel)
    (case yc_NoTree => k_is)
    (case su_NoTree => k_is)
    (case op_NoTree => k_is)
    (case co_NoTree => k_is)
    (case ga_NoTree => k_is)
    (case gt_NoTree => k_is)
    (case kc_NoTree => k_is)
    (case se_NoTree => k_is)
    (case f0_NoTree => k_is)
    (case f1_NoTree => k_is)
    (case f2_NoTree => k_is)
    (case f3_NoTree => k_is)
    (case f4_NoTree => k_is)
    (case f5_NoTree => k_is)
    (case f6_NoTree => k_is)
    (case f7_NoTree => k_is)
    (case kp_NoTree => k_is)
    (case xC_TooMany => k_is)
    (case yC_TooMany => k_is)
    (case xG_TooMany => k_is)
    (case yG_TooMany => k_is)
    (case zG_TooMany => rfl)
    (case wG_TooMany => k_is)
    (case yNG_TooMany => k_is)
    (case oG_TooMany => first | kernel_rfl | with_unfolding_all rfl | simp)
    (case yN_TooMany => k_is)
    (case oC_TooMany => first | kernel_rfl | with_unfolding_all rfl | simp)
    (case wC_TooMany => k_is)
    (case yF_TooMany => k_is)
    (case yD_TooMany => k_is)
    (case vD_TooMany => rfl)
    (case fD_TooMany => rfl)
    (case tp_TooMany => first | rfl | decide +kernel)
    (case yc_TooMany => k_is)
    (case su_TooMany => k_is)
    (case op_TooMany => k_is)
    (case co_TooMany => k_is)
    (case ga_TooMany => k_is)
    (case gt_TooMany => k_is)
    (case kc_TooMany => k_is)
    (case se_TooMany => k_is)
    (case f0_TooMany => k_is)
    (case f1_TooMany => k_is)
    (case f2_TooMany => k_is)
    (case f3_TooMany => k_is)
    (case f4_TooMany => k_is)
    (case f5_TooMany => k_is)
    (case f6_TooMany => k_is)
    (case f7_TooMany => k_is)
    (case kp_TooMany => k_is)
    (case xC_Twice => k_is)
    (case yC_Twice => k_is)
    (case xG_Twice => k_is)
    (case yG_Twice => k_is)
    (case zG_Twice => rfl)
    (case wG_Twice => k_is)
    (case yNG_Twice => k_is)
    (case oG_Twice => first | kernel_rfl | with_unfolding_all rfl | simp)
    (case yN_Twice => k_is)
    (case oC_Twice => first | kernel_rfl | with_unfolding_all rfl | simp)
    (case wC_Twice => k_is)
    (case yF_Twice => k_is)
    (case yD_Twice => k_is)
    (case vD_Twice => rfl)
    (case fD_Twice => rfl)
    (case tp_Twice => first | rfl | decide +kernel)
    (case yc_Twice => k_is)
    (case su_Twice => k_is)
    (case op_Twice => k_is)
    (case co_Twice => k_is)
    (case ga_Twice => k_is)
    (case gt_Twice => k_is)
    (case kc_Twice => k_is)
    (case se_Twice => k_is)
    (case f0_Twice => k_is)
    (case f1_Twice => k_is)
    (case f2_Twice => k_is)
    (case f3_Twice => k_is)
    (case f4_Twice => k_is)
    (case f5_Twice => k_is)
    (case f6_Twice => k_is)
    (case f7_Twice => k_is)
    (case kp_Twice => k_is)
    (case xC_TwoSided => k_is)
    (case yC_TwoSided => k_is)
    (case xG_TwoSided => k_is)
    (case yG_TwoSided => k_is)
    (case zG_TwoSided => rfl)
    (case wG_TwoSided => k_is)
    (case yNG_TwoSided => k_is)
    (case oG_TwoSided => first | kernel_rfl | with_unfolding_all rfl | simp)
    (case yN_TwoSided => k_is)
    (case oC_TwoSided => first | kernel_rfl | with_unfolding_all rfl | simp)
    (case wC_TwoSided => k_is)
    (case yF_TwoSided => k_is)
    (case yD_TwoSided => k_is)
    (case vD_TwoSided => rfl)
    (case fD_TwoSided => rfl)
    (case tp_TwoSided => first | rfl | decide +kernel)
    (case yc_TwoSided => k_is)
    (case su_TwoSided => k_is)
    (case op_TwoSided => k_is)
    (case co_TwoSided => k_is)
    (case ga_TwoSided => k_is)
    (case gt_TwoSided => k_is)
    (case kc_TwoSided => k_is)
    (case se_TwoSided => k_is)
    (case f0_TwoSided => k_is)
    (case f1_TwoSided => k_is)
    (case f2_TwoSided => k_is)
    (case f3_TwoSided => k_is)
    (case f4_TwoSided => k_is)
    (case f5_TwoSided => k_is)
    (case f6_TwoSided => k_is)
    (case f7_TwoSided => k_is)
    (case kp_TwoSided => k_is)
    (case xD_GraftError => k_is); (case yDD_GraftError => k_is); (case zD_GraftError => rfl); (case wD_GraftError => first | rfl | decide +kernel)
    (case xD_NoKey => k_is); (case yDD_NoKey => k_is); (case zD_NoKey => rfl); (case wD_NoKey => first | rfl | decide +kernel)
    (case xD_NoLine => k_is); (case yDD_NoLine => k_is); (case zD_NoLine => rfl); (case wD_NoLine => first | rfl | decide +kernel)
    (case xD_NoPlace => k_is); (case yDD_NoPlace => k_is); (case zD_NoPlace => rfl); (case wD_NoPlace => first | rfl | decide +kernel)
    (case xD_NoPlan => k_is); (case yDD_NoPlan => k_is); (case zD_NoPlan => rfl); (case wD_NoPlan => first | rfl | decide +kernel)
    (case xD_NoRow => k_is); (case yDD_NoRow => k_is); (case zD_NoRow => rfl); (case wD_NoRow => first | rfl | decide +kernel)
    (case xD_NoText => k_is); (case yDD_NoText => k_is); (case zD_NoText => rfl); (case wD_NoText => first | rfl | decide +kernel)
    (case xD_NoTree => k_is); (case yDD_NoTree => k_is); (case zD_NoTree => rfl); (case wD_NoTree => first | rfl | decide +kernel)
    (case xD_TooMany => k_is); (case yDD_TooMany => k_is); (case zD_TooMany => rfl); (case wD_TooMany => first | rfl | decide +kernel)
    (case xD_Twice => k_is); (case yDD_Twice => k_is); (case zD_Twice => rfl); (case wD_Twice => first | rfl | decide +kernel)
    (case xD_TwoSided => k_is); (case yDD_TwoSided => k_is); (case zD_TwoSided => rfl); (case wD_TwoSided => first | rfl | decide +kernel)


