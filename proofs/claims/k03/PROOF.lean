import PyProof.Rows.All
import Wide.All
import OpenK.AllK
import Wide.FinOn
import Lean
import PyProof.EqAt
import PyProof.EqKinds
import PyProof.TupleCall
import KE.KSortTup
import KE.KTryOn
import KE.KIsAll
import PyProof.NsDelKeeps
import PySem.Challenge.RW_knavehall_k03_worlds
set_option Elab.async false
set_option linter.all false
set_option maxRecDepth 100000
set_option maxHeartbeats 8000000
-- CHANGE: your row's module here, as the last of these rows
/-! THE HAND LAYER, for ints, bools, texts, own classes, LISTS and tuples (index, slices, in, append, pop ..), calls, loops. Paste it whole ahead of your own text; what your proof does not reach may be deleted. -/
namespace L2
open PySem PySem.Spec PyProof.Rows

/-- a key: an int or a str -/
abbrev Key := Sum Int Str
def keyIs : Key → Value → Bool
  | .inl k, v => Value.isInt k v
  | .inr x, v => Value.isStrOf x v
def keyH (w : World) : Key → Int
  | .inl k => hashInt k
  | .inr x => hashStr w x
theorem keyIs_shape : ∀ {k : Key} {v : Value}, keyIs k v = true → (∃ i t, k = Sum.inl i ∧ v = Value.int i t) ∨ (∃ x t, k = Sum.inr x ∧ v = Value.str x t)
  | .inl i, v, h => by
    obtain ⟨t, e⟩ := Value.isInt_shape (k := i) (v := v) h
    exact .inl ⟨i, t, rfl, e⟩
  | .inr x, v, h => by
    obtain ⟨t, e⟩ := Value.isStrOf_shape (x := x) (v := v) h
    exact .inr ⟨x, t, rfl, e⟩
theorem keyIs_int (i : Int) (t : Tok) : keyIs (.inl i) (.int i t) = true := by simp [keyIs, Value.isInt]
theorem keyIs_str (x : Str) (t : Tok) : keyIs (.inr x) (.str x t) = true := by simp [keyIs, Value.isStrOf]
theorem key_ll (a b : Int) : decide ((Sum.inl a : Key) = Sum.inl b) = (a == b) := by
  by_cases e : a = b
  · subst e; simp
  · have h : ¬ (Sum.inl a : Key) = Sum.inl b := fun q => e (Sum.inl.inj q)
    rw [decide_eq_false h]
    exact (beq_eq_false_iff_ne.mpr e).symm
theorem key_rr (a b : Str) : decide ((Sum.inr a : Key) = Sum.inr b) = decide (a = b) := by
  by_cases e : a = b
  · subst e; simp
  · have h : ¬ (Sum.inr a : Key) = Sum.inr b := fun q => e (Sum.inr.inj q)
    rw [decide_eq_false h, decide_eq_false e]
theorem key_lr (a : Int) (b : Str) : decide ((Sum.inl a : Key) = Sum.inr b) = false := decide_eq_false (fun q => nomatch q)
theorem key_rl (a : Str) (b : Int) : decide ((Sum.inr a : Key) = Sum.inl b) = false := decide_eq_false (fun q => nomatch q)

def mixKind (prog : Program) (w : World) : PySem.KeyKind prog w Key where
  is := keyIs
  hash := keyH w
  inj := fun v a b ha hb => by
    rcases keyIs_shape ha with ⟨i, t, rfl, rfl⟩ | ⟨x, t, rfl, rfl⟩
    · rcases keyIs_shape hb with ⟨j, u, rfl, e⟩ | ⟨y, u, rfl, e⟩
      · injection e with e1 _; rw [e1]
      · exact nomatch e
    · rcases keyIs_shape hb with ⟨j, u, rfl, e⟩ | ⟨y, u, rfl, e⟩
      · exact nomatch e
      · injection e with e1 _; rw [e1]
  byValue := fun k v h => by
    rcases keyIs_shape h with ⟨i, t, rfl, rfl⟩ | ⟨x, t, rfl, rfl⟩ <;> rfl
  pyHash := fun hv h => by
    rcases keyIs_shape hv with ⟨i, t, rfl, rfl⟩ | ⟨x, t, rfl, rfl⟩
    · exact wpAny_pyHash_int h
    · exact wpAny_pyHash_str h
  eqBool := fun hu hv h => by
    rcases keyIs_shape hu with ⟨i, t, rfl, rfl⟩ | ⟨x, t, rfl, rfl⟩
    · rcases keyIs_shape hv with ⟨j, u, rfl, rfl⟩ | ⟨y, u, rfl, rfl⟩
      · rw [key_ll] at h; exact wpAny_eqBool_int h
      · rw [key_lr] at h; exact SeqAt.EqAt.int_str i t y u _ _ _ _ h
    · rcases keyIs_shape hv with ⟨j, u, rfl, rfl⟩ | ⟨y, u, rfl, rfl⟩
      · rw [key_rl] at h; exact SeqAt.EqAt.str_int x t j u _ _ _ _ h
      · rw [key_rr] at h; exact wpAny_eqBool_str h
  «strs» := fun k x t v h => by
    rcases keyIs_shape h with ⟨i, u, rfl, e⟩ | ⟨y, u, rfl, e⟩
    · exact nomatch e
    · injection e with e1 _
      subst e1
      cases v <;> rfl

theorem mixKind_int (prog : Program) (w : World) (i : Int) (t : Tok) : (mixKind prog w).is (.inl i) (.int i t) = true := keyIs_int i t
theorem mixKind_str (prog : Program) (w : World) (x : Str) (t : Tok) : (mixKind prog w).is (.inr x) (.str x t) = true := keyIs_str x t
end L2

namespace L2
open PySem PySem.Spec PyProof.Rows

/-- a value, without the heap -/
inductive V where
  | non | bl (b : Bool) | int (i : Int) | str (x : Str) | byt (b : Array UInt8) | flt (b : UInt64) | ref (a : Addr) | ty (n : String)
  deriving DecidableEq

def RelV : V → Value → Prop
  | .non, u => u = Value.none
  | .bl b, u => u = Value.bool b
  | .int i, u => ∃ t, u = Value.int i t
  | .str x, u => ∃ t, u = Value.str x t
  | .byt b, u => ∃ t, u = Value.bytes b t
  | .flt b, u => ∃ t, u = Value.float b t
  | .ref a, u => u = Value.ref a
  | .ty n, u => u = Value.type n

abbrev Vals : List V → List Value → Prop := Paired RelV
theorem Vals.length {xs : List V} {us : List Value} (r : Vals xs us) : xs.length = us.length := Paired.length r
theorem Vals.get : ∀ {xs : List V} {us : List Value} {i : Nat} {x : V}, Vals xs us → xs[i]? = some x → ∃ u, us[i]? = some u ∧ RelV x u
  | _, _, _, _, .nil, e => by simp at e
  | _, _, 0, _, .cons r _, e => by simp at e; subst e; exact ⟨_, rfl, r⟩
  | _, _, i + 1, x, .cons _ t, e => by
    obtain ⟨u, h1, h2⟩ := Vals.get (i := i) (x := x) t (by simpa using e)
    exact ⟨u, by simpa using h1, h2⟩
theorem Vals.set {x : V} {u : Value} (r : RelV x u) : ∀ {xs : List V} {us : List Value} (i : Nat), Vals xs us → Vals (xs.set i x) (us.set i u)
  | _, _, _, .nil => .nil
  | _, _, 0, .cons _ t => .cons r t
  | _, _, i + 1, .cons q t => .cons q (Vals.set r i t)
theorem Vals.append : ∀ {xs ys : List V} {us ws : List Value}, Vals xs us → Vals ys ws → Vals (xs ++ ys) (us ++ ws)
  | _, _, _, _, .nil, s => s
  | _, _, _, _, .cons r t, s => .cons r (Vals.append t s)
theorem Vals.take : ∀ {xs : List V} {us : List Value} (n : Nat), Vals xs us → Vals (xs.take n) (us.take n)
  | _, _, 0, _ => .nil
  | _, _, _ + 1, .nil => .nil
  | _, _, n + 1, .cons r t => .cons r (Vals.take n t)
theorem Vals.drop : ∀ {xs : List V} {us : List Value} (n : Nat), Vals xs us → Vals (xs.drop n) (us.drop n)
  | _, _, 0, r => r
  | _, _, _ + 1, .nil => .nil
  | _, _, n + 1, .cons _ t => Vals.drop n t
def RelO : Option V → Option Value → Prop
  | some v, some u => RelV v u
  | none, none => True
  | _, _ => False
def KV {κ : Type} : List (κ × V) → List (κ × Value) → Prop := Paired fun (p : κ × V) (q : κ × Value) => p.1 = q.1 ∧ RelV p.2 q.2

/-- a key of a dict (00_mix): an int or a text -/
def kV : Key → V
  | .inl i => .int i
  | .inr x => .str x

/-- what stands at a tracked address -/
inductive HO where
  /-- a list -/
  | lst (xs : List V)
  /-- a tuple (never changes) -/
  | tup (xs : List V)
  /-- a dict whose keys are ints and texts; one whose keys are tuples of ints and texts (the empty one is both) -/
  | dK (kvs : List (Key × V)) | dT (kvs : List (List Key × V))
  /-- a set of ints: its members, its size -/
  | set (S : Int → Bool) (n : Nat)
  /-- an instance of the class at C, its dict at dx, its attributes -/
  | ins (C dx : Addr) (fs : List (Str × V))
  /-- the dict of the instance at x -/
  | own (x : Addr)
  /-- the dict of an exception -/
  | xd (fs : List (Str × V))
  /-- a bound method, f of x -/
  | met (f x : Addr)
  /-- a range object lo, lo + 1, .. below hi -/
  | rng (lo hi : Int)
  /-- a thing that is known to the object (the script; a dict while a loop walks it): read, never written while it is so -/
  | frz (o : Obj) (u : HO)
  /-- a code object's table -/
  | tbl (ps : Array Value)
  /-- any other thing, by what is true of its one object (a def of one's own: SetO a S n := HO.ext fun h => ..) -/
  | ext (φ : Heap → Prop)

abbrev Hp := Addr → Option HO
def upd (H : Hp) (a : Addr) (o : HO) : Hp := fun b => if b = a then some o else H b
theorem upd_same {H : Hp} {a : Addr} {o : HO} : upd H a o a = some o := by unfold upd; rw [if_pos rfl]
theorem upd_ne {H : Hp} {a b : Addr} {o : HO} (h : b ≠ a) : upd H a o b = H b := by unfold upd; rw [if_neg h]
theorem ne_of_none {H : Hp} {a b : Addr} {o : HO} (h : H a = some o) (h' : H b = none) : a ≠ b := by
  intro e; subst e; rw [h] at h'; cases h'

/-- a tuple without attributes of its own -/
def IsTupN (h : Heap) (a : Addr) (items : Array Value) : Prop := ∃ o, h.get? a = some o ∧ o.cls = .type "tuple" ∧ (∃ n, o.data = .seq items n) ∧ o.dict = none
theorem IsTupN.tup {h : Heap} {a : Addr} {items : Array Value} (x : IsTupN h a items) : IsTup h a items := let ⟨o, e, c, d, _⟩ := x; ⟨o, e, c, d⟩
theorem IsTupN.new (h : Heap) (items : Array Value) : IsTupN (h.push { cls := .type "tuple", data := .seq items }) h.objs.size items := ⟨_, Heap.get?_push_size _ rfl, rfl, ⟨_, rfl⟩, rfl⟩
section
variable (P : Program) (w : World)
def ObjOk (H : Hp) (h : Heap) (a : Addr) : HO → Prop
  | .lst xs => xs.length ≤ sizeLine ∧ ∃ (its : List Value) (n : Nat), Vals xs its ∧ h.get? a = some { cls := .type "list", data := .seq its.toArray n }
  | .tup xs => xs.length ≤ sizeLine ∧ ∃ its : List Value, Vals xs its ∧ IsTupN h a its.toArray
  | .dK kvs => kvs.length ≤ sizeLine ∧ (a == sysModules) = false ∧ ∃ vs, KV kvs vs ∧ h.DictOf (mixKind P w) a vs
  | .dT kvs => kvs.length ≤ sizeLine ∧ (a == sysModules) = false ∧ ∃ xs : List (List Key × Addr × Value),
      Paired (fun (p : List Key × V) (q : List Key × Addr × Value) => p.1 = q.1 ∧ H q.2.1 = some (.tup (p.1.map kV)) ∧ RelV p.2 q.2.2) kvs xs ∧
      ∃ o es ep, h.get? a = some o ∧ o.ExactDict ∧ o.data = .dict es ep ∧ es.toList = xs.map (entryOfKey (tupleKind (mixKind P w))) ∧ (xs.map (·.1)).Nodup
  | .set S n => h.SetOf (intKind P w) a S n
  | .ins C dx fs => H dx = some (.own a) ∧ fs.length ≤ 1000 ∧ dx ≠ a ∧ h.get? a = some (PySem.W.instObj C dx) ∧
      ∃ mA, h.Ns1 dx mA ∧ (∀ f, RelO (fs.lookup f) (mA f)) ∧ PySem.Within mA (fs.map (·.1))
  | .own _ => ∃ o, h.get? a = some o
  | .xd fs => ∃ mA, h.Ns1 a mA ∧ ∀ f, RelO (fs.lookup f) (mA f)
  | .rng lo hi => ∃ t u v, h.get? a = some { cls := .type "range", data := .fields #[.int lo t, .int hi u, .int 1 v] }
  | .frz o u => h.get? a = some o ∧ ObjOk H h a u
  | .tbl ps => h.get? a = some { cls := .none, data := .fields ps }
  | .met f x => h.get? a = some (PySem.W.methodObj (.ref f) (.ref x))
  | .ext φ => φ h ∧ (∃ o, h.get? a = some o) ∧ ∀ h1 h2 : Heap, φ h1 → (∀ o, h1.get? a = some o → h2.get? a = some o) → φ h2
/-- the abstract heap is held -/
def HOk (H : Hp) (h : Heap) : Prop := ∀ a o, H a = some o → ObjOk P w H h a o
end

section
variable {P : Program} {w : World} {H H' : Hp} {h h' : Heap} {a : Addr} {o : HO}
theorem ObjOk.lt (x : ObjOk P w H h a o) : a < h.objs.size := by
  cases o with
  | lst xs => obtain ⟨_, _, _, _, e⟩ := x; exact Heap.lt_size e
  | tup xs => obtain ⟨_, _, _, p⟩ := x; exact p.tup.lt
  | dK kvs => obtain ⟨_, _, _, _, o, _, _, e, _⟩ := x; exact Heap.lt_size e
  | dT kvs => obtain ⟨_, _, _, _, o, _, _, e, _⟩ := x; exact Heap.lt_size e
  | set S n => obtain ⟨o, _, _, _, e, _⟩ := x; exact Heap.lt_size e
  | ins C dx fs => obtain ⟨_, _, _, e, _⟩ := x; exact Heap.lt_size e
  | own y => obtain ⟨_, e⟩ := x; exact Heap.lt_size e
  | xd fs => obtain ⟨_, ⟨_, _, _, e, _⟩, _⟩ := x; exact Heap.lt_size e
  | rng lo hi => obtain ⟨_, _, _, e⟩ := x; exact Heap.lt_size e
  | frz ob u => obtain ⟨e, _⟩ := x; exact Heap.lt_size e
  | tbl ps => exact Heap.lt_size (show h.get? a = some _ from x)
  | met f y => exact Heap.lt_size (show h.get? a = some _ from x)
  | ext φ => obtain ⟨_, ⟨_, e⟩, _⟩ := x; exact Heap.lt_size e
theorem Paired.mapP {α β : Type} {F G : α → β → Prop} : ∀ {l₁ : List α} {l₂ : List β}, Paired F l₁ l₂ → (∀ a b, F a b → G a b) → Paired G l₁ l₂
  | _, _, .nil, _ => .nil
  | _, _, .cons r t, f => .cons (f _ _ r) (Paired.mapP t f)
/-- what an object's description leans on: its own object, its own dict, the tuples -/
theorem ObjOk.stay (x : ObjOk P w H h a o) (k : ∀ b u, (b = a ∨ H b = some (.own a)) → h.get? b = some u → h'.get? b = some u)
    (ho : ∀ b, H b = some (.own a) → H' b = some (.own a)) (ht : ∀ b xs, H b = some (.tup xs) → H' b = some (.tup xs)) : ObjOk P w H' h' a o := by
  induction o with
  | lst xs => obtain ⟨z, its, n, r, e⟩ := x; exact ⟨z, its, n, r, k _ _ (.inl rfl) e⟩
  | tup xs => obtain ⟨z, its, r, ob, e, c⟩ := x; exact ⟨z, its, r, ob, k _ _ (.inl rfl) e, c⟩
  | dK kvs => obtain ⟨z, y, vs, r, ob, es, ep, e, c⟩ := x; exact ⟨z, y, vs, r, ob, es, ep, k _ _ (.inl rfl) e, c⟩
  | dT kvs =>
    obtain ⟨z, y, xs, r, ob, es, ep, e, c⟩ := x
    exact ⟨z, y, xs, Paired.mapP r fun p q z => ⟨z.1, ht _ _ z.2.1, z.2.2⟩, ob, es, ep, k _ _ (.inl rfl) e, c⟩
  | set S n => obtain ⟨ob, es, ep, t, e, c⟩ := x; exact ⟨ob, es, ep, t, k _ _ (.inl rfl) e, c⟩
  | ins C dx fs =>
    obtain ⟨d, z, ne, e, mA, ⟨od, es, ep, e2, c⟩, r⟩ := x
    exact ⟨ho _ d, z, ne, k _ _ (.inl rfl) e, mA, ⟨od, es, ep, k _ _ (.inr d) e2, c⟩, r⟩
  | own y => obtain ⟨ob, e⟩ := x; exact ⟨ob, k _ _ (.inl rfl) e⟩
  | xd fs => obtain ⟨mA, ⟨od, es, ep, e, c⟩, r⟩ := x; exact ⟨mA, ⟨od, es, ep, k _ _ (.inl rfl) e, c⟩, r⟩
  | rng lo hi => obtain ⟨t, u, v, e⟩ := x; exact ⟨t, u, v, k _ _ (.inl rfl) e⟩
  | frz ob u ih => obtain ⟨e, q⟩ := x; exact ⟨k _ _ (.inl rfl) e, ih q⟩
  | tbl ps =>
    have e : h.get? a = some { cls := .none, data := .fields ps } := x
    show h'.get? a = some { cls := .none, data := .fields ps }
    exact k a _ (.inl rfl) e
  | met f y =>
    have e : h.get? a = some (PySem.W.methodObj (.ref f) (.ref y)) := x
    show h'.get? a = some (PySem.W.methodObj (.ref f) (.ref y))
    exact k a _ (.inl rfl) e
  | ext φ => obtain ⟨p, ⟨o, e⟩, st⟩ := x; exact ⟨st _ _ p fun o q => k _ _ (.inl rfl) q, ⟨o, k _ _ (.inl rfl) e⟩, st⟩
theorem HOk.lt (x : HOk P w H h) (e : H a = some o) : a < h.objs.size := (x a o e).lt
theorem HOk.fresh (x : HOk P w H h) (e : h.objs.size ≤ a) : H a = none := by
  cases q : H a with
  | none => rfl
  | some u => exact absurd (Nat.lt_of_lt_of_le (x.lt q) e) (Nat.lt_irrefl _)
/-- every object of the heap is kept -/
theorem HOk.kept (x : HOk P w H h) (k : ∀ b u, h.get? b = some u → h'.get? b = some u) : HOk P w H h' := fun a o e =>
  (x a o e).stay (fun b u _ q => k b u q) (fun _ q => q) fun _ _ q => q
/-- a new object is laid and tracked -/
theorem HOk.laid (x : HOk P w H h) (k : ∀ b u, h.get? b = some u → h'.get? b = some u) (hp : h.objs.size ≤ a) (new : ObjOk P w (upd H a o) h' a o) : HOk P w (upd H a o) h' := fun b u e => by
  have hn := x.fresh hp
  by_cases hb : b = a
  · subst hb; rw [upd_same] at e; cases e; exact new
  · rw [upd_ne hb] at e
    exact (x b u e).stay (fun c v _ q => k c v q) (fun c q => by rw [upd_ne (ne_of_none q hn)]; exact q) fun c xs q => by rw [upd_ne (ne_of_none q hn)]; exact q
end

/-- what may be read as u: it is u, or a known u -/
def Rd (H : Hp) (a : Addr) (u : HO) : Prop := H a = some u ∨ ∃ o, H a = some (.frz o u)
theorem Rd.of {H : Hp} {a : Addr} {u : HO} (h : H a = some u) : Rd H a u := .inl h
theorem Rd.ok {P : Program} {w : World} {H : Hp} {h : Heap} {a : Addr} {u : HO} (r : Rd H a u) (x : HOk P w H h) : ObjOk P w H h a u := by
  rcases r with r | ⟨o, r⟩
  · exact x a u r
  · obtain ⟨_, q⟩ := x a _ r
    exact q
/-- what may be written -/
def Mut : Option HO → Prop
  | some (.lst _) => True
  | some (.dK _) => True
  | some (.dT _) => True
  | some (.set _ _) => True
  | some (.ins _ _ _) => True
  | some (.ext _) => True
  | _ => False
section
variable {P : Program} {w : World} {H : Hp} {h h' : Heap} {x e : Addr} {o' : HO}
/-- the object at e is changed: x itself, or the dict of the instance x -/
theorem HOk.write (ok : HOk P w H h) (mu : Mut (H x)) (he : e = x ∨ H e = some (.own x)) (k : ∀ b u, b ≠ e → h.get? b = some u → h'.get? b = some u) (heo : ∃ u, h'.get? e = some u)
    (new : ObjOk P w (upd H x o') h' x o') : HOk P w (upd H x o') h' := fun b u q => by
  have nown : ∀ c y, H c = some (.own y) → c ≠ x := fun c y r z => by subst z; rw [r] at mu; exact mu
  have ntup : ∀ c xs, H c = some (.tup xs) → c ≠ x := fun c xs r z => by subst z; rw [r] at mu; exact mu
  by_cases hb : b = x
  · subst hb; rw [upd_same] at q; cases q; exact new
  · rw [upd_ne hb] at q
    by_cases hbe : b = e
    · have q' : H b = some (.own x) := by
        rcases he with z | z
        · exact absurd (hbe.trans z) hb
        · rw [hbe]; exact z
      rw [q] at q'; cases q'
      obtain ⟨v, hv⟩ := heo
      exact ⟨v, by rw [hbe]; exact hv⟩
    · refine (ok b u q).stay (fun c v hc r => k c v ?_ r) (fun c r => by rw [upd_ne (nown c b r)]; exact r) fun c xs r => by rw [upd_ne (ntup c xs r)]; exact r
      rcases hc with rfl | hc
      · exact hbe
      · rintro rfl
        rcases he with z | z
        · exact nown c b hc z
        · rw [hc] at z; cases z; exact hb rfl
end

/-! ### kept unless tracked; of the frames at fs (the callers') the slots may change (an exception that passes writes there); of the records at ex (iterators) nothing is said -/
structure Un (fs ex : List Addr) (H H' : Hp) (h h' : Heap) : Prop where
  keep : ∀ b o, h.get? b = some o → H b = none → b ∉ fs → b ∉ ex → h'.get? b = some o
  slot : ∀ b o, h.get? b = some o → H b = none → b ∈ fs → b ∉ ex → ∃ sl, h'.get? b = some { o with slots := sl }
  free : ∀ b o, h.get? b = some o → H b = none → b ∉ ex → H' b = none
  there : ∀ b o, h.get? b = some o → b ∉ ex → ∃ o', h'.get? b = some o'
  tups : ∀ b xs, H b = some (.tup xs) → H' b = some (.tup xs)
  frzs : ∀ b o u, H b = some (.frz o u) → H' b = some (.frz o u)
  tbls : ∀ b ps, H b = some (.tbl ps) → ∃ more, H' b = some (.tbl (ps ++ more))
section
variable {fs fs' ex ex' : List Addr} {H H1 H2 : Hp} {h h1 h2 h' : Heap} {a x e : Addr} {o : HO}
theorem Un.any (u : Un fs ex H H1 h h1) {b : Addr} {ob : Obj} (q : h.get? b = some ob) (n : H b = none) (hx : b ∉ ex) : ∃ sl, h1.get? b = some { ob with slots := sl } := by
  by_cases hb : b ∈ fs
  · exact u.slot b ob q n hb hx
  · exact ⟨ob.slots, u.keep b ob q n hb hx⟩
theorem Un.trans (a : Un fs ex H H1 h h1) (b : Un fs ex H1 H2 h1 h2) : Un fs ex H H2 h h2 where
  keep := fun c ob q n hc hx => b.keep c ob (a.keep c ob q n hc hx) (a.free c ob q n hx) hc hx
  slot := fun c ob q n hc hx => by
    obtain ⟨sl, e1⟩ := a.slot c ob q n hc hx
    obtain ⟨sl', e2⟩ := b.slot c _ e1 (a.free c ob q n hx) hc hx
    exact ⟨sl', e2⟩
  free := fun c ob q n hx => by
    obtain ⟨o', e1⟩ := a.there c ob q hx
    exact b.free c o' e1 (a.free c ob q n hx) hx
  there := fun c ob q hx => by
    obtain ⟨o', e1⟩ := a.there c ob q hx
    exact b.there c o' e1 hx
  tups := fun c xs q => b.tups c xs (a.tups c xs q)
  frzs := fun c ob xs q => b.frzs c ob xs (a.frzs c ob xs q)
  tbls := fun c ps q => by
    obtain ⟨m1, e1⟩ := a.tbls c ps q
    obtain ⟨m2, e2⟩ := b.tbls c _ e1
    exact ⟨m1 ++ m2, by rw [e2, Array.append_assoc]⟩
theorem Un.kept (k : ∀ b u, h.get? b = some u → h'.get? b = some u) : Un fs ex H H h h' :=
  ⟨fun b ob q _ _ _ => k b ob q, fun b ob q _ _ _ => ⟨ob.slots, k b ob q⟩, fun _ _ _ n _ => n, fun b ob q _ => ⟨ob, k b ob q⟩, fun _ _ q => q, fun _ _ _ q => q, fun _ ps q => ⟨#[], by rw [q]; simp⟩⟩
theorem Un.refl : Un fs ex H H h h := Un.kept fun _ _ q => q
theorem Un.laid (k : ∀ b u, h.get? b = some u → h'.get? b = some u) (hp : h.objs.size ≤ a) (hn : H a = none) : Un fs ex H (upd H a o) h h' where
  keep := fun b u q _ _ _ => k b u q
  slot := fun b u q _ _ _ => ⟨u.slots, k b u q⟩
  free := fun b u q n _ => by rw [upd_ne (Nat.ne_of_lt (Nat.lt_of_lt_of_le (Heap.lt_size q) hp))]; exact n
  there := fun b u q _ => ⟨u, k b u q⟩
  tups := fun b xs q => by rw [upd_ne (ne_of_none q hn)]; exact q
  frzs := fun b u xs q => by rw [upd_ne (ne_of_none q hn)]; exact q
  tbls := fun b ps q => ⟨#[], by rw [upd_ne (ne_of_none q hn), q]; simp⟩
theorem Un.write (mu : Mut (H x)) (he : e = x ∨ H e = some (.own x)) (k : ∀ b u, b ≠ e → h.get? b = some u → h'.get? b = some u) (heo : ∃ u, h'.get? e = some u) : Un fs ex H (upd H x o) h h' := by
  have hx : ∀ b, H b = none → b ≠ x := fun b n z => by subst z; rw [n] at mu; exact mu
  have hb : ∀ b, H b = none → b ≠ e := fun b n z => by
    subst z
    rcases he with r | r
    · exact hx b n r
    · rw [n] at r; cases r
  have hm : ∀ b u, H b = some u → ¬ Mut (some u) → b ≠ x := fun b u q nm z => by subst z; rw [q] at mu; exact nm mu
  refine ⟨fun b u q n _ _ => k b u (hb b n) q, fun b u q n _ _ => ⟨u.slots, k b u (hb b n) q⟩, fun b u q n _ => by rw [upd_ne (hx b n)]; exact n, fun b u q _ => ?_,
    fun b xs q => by rw [upd_ne (hm b _ q fun z => z)]; exact q, fun b u xs q => by rw [upd_ne (hm b _ q fun z => z)]; exact q, fun b ps q => ⟨#[], by rw [upd_ne (hm b _ q fun z => z), q]; simp⟩⟩
  by_cases hbe : b = e
  · subst hbe; exact heo
  · exact ⟨u, k b u hbe q⟩
theorem Un.mono (u : Un fs ex H H1 h h1) (hs : ∀ b ∈ fs, b ∈ fs') (hx : ∀ b ∈ ex, b ∈ ex') : Un fs' ex' H H1 h h1 :=
  ⟨fun b ob q n hb he => u.keep b ob q n (fun z => hb (hs b z)) fun z => he (hx b z), fun _ _ q n _ he => u.any q n fun z => he (hx _ z), fun b ob q n he => u.free b ob q n fun z => he (hx b z), fun b ob q he => u.there b ob q fun z => he (hx b z), u.tups, u.frzs, u.tbls⟩
end

/-! ### the heap without what is tracked -/
def trk (h : Heap) (H : Hp) : List Addr := (List.range h.objs.size).filter fun a => (H a).isSome
def hidT (h : Heap) (H : Hp) : Heap := PySem.W.hideAll h (trk h H)
theorem hidT_size (h : Heap) (H : Hp) : (hidT h H).objs.size = h.objs.size := PySem.W.hideAll_size _ _
theorem hidT_get {h : Heap} {H : Hp} {b : Addr} {o : Obj} (e : h.get? b = some o) (n : H b = none) : (hidT h H).get? b = some o :=
  PySem.W.hideAll_get _ e fun hm => by
    have q : (H b).isSome = true := (List.mem_filter.mp hm).2
    rw [n] at q; simp at q
theorem of_hidT {h : Heap} {H : Hp} {b : Addr} {o : Obj} (e : (hidT h H).get? b = some o) : h.get? b = some o ∧ H b = none := by
  have e' : h.get? b = some o := PySem.W.of_hideAll (trk h H) e
  refine ⟨e', ?_⟩
  cases q : H b with
  | none => rfl
  | some x =>
    have hm : b ∈ trk h H := List.mem_filter.mpr ⟨List.mem_range.mpr (Heap.lt_size e'), by simp [q]⟩
    have z : (hidT h H).get? b = none := PySem.W.hideAll_none (trk h H) hm
    rw [z] at e; cases e

/-! ### OpenK's ledger, filled with every new object but one -/
def allNews (g h : Heap) (L : Addr) : List (Addr × Obj) := (List.range h.objs.size).filterMap fun a => if a = L ∨ (g.get? a).isSome = true then none else (h.get? a).map fun o => (a, o)
def rest (g h : Heap) (L d : Addr) : List (Addr × Obj) := (allNews g h L).filter fun p => decide (p.1 ≠ d)
end L2

namespace L2
open PySem PySem.Spec PyProof.Rows

/-- the module's facts, over the base: the heap at the law's entry without what is tracked there -/
structure Mod (K : PySem.W.Frag) (mg : Str → Option Value) (base : Heap) : Prop where
  kin : K.In base
  glob : base.Ns mainGlobals mg
  blt : ∃ mb, base.Ns builtinsNs mb ∧ ∀ x : Str, x ≠ "__name__" → mb x = bootBuiltins x
  nolimit : base.NoLimit

/-- the context: a def's body (or a comprehension's block) running. base: fixed through the whole law; s₀, H₀: the entry; outer: the frames whose slots others may change (a def's callers); stack: all frames that run;
   ex: iterators that were made ahead of the entry and are walked here (a comprehension's); fn: the names whose cells were made at the entry (a def: all; a comprehension's block: its own); calm: not within an except suite; pn: pins that every state bears; xe: what is wanted of an exception that leaves the code -/
structure Cx where
  prog : Program
  w : World
  K : PySem.W.Frag
  mg : Str → Option Value
  base : Heap
  A : Around
  N : List Str
  s₀ : Shared
  H₀ : Hp
  env : Env
  outer : List Env
  stack : List Env
  ex : List Addr
  fn : Str → Bool
  calm : Bool
  pn : List (Addr × Obj)
  xe : Value → Shared → Prop
/-- the callers' frames -/
def frs (l : List Env) : List Addr := l.filterMap (·.frame)
abbrev Cx.fs (X : Cx) : List Addr := frs X.outer

def Vis (sc : Scope) (x : Str) : Prop := sc.names.lookup x = some .local ∨ sc.names.lookup x = some .cell ∨ sc.names.lookup x = some .free
def Loc (sc : Scope) (x : Str) : Prop := sc.names.lookup x = some .local ∨ sc.names.lookup x = some .cell
def Look (env : Env) (h : Heap) (m : Str → Option Value) (x : Str) (u : Value) : Prop :=
  (env.kindOf x = some .local ∧ m x = some u) ∨ ((env.kindOf x = some .cell ∨ env.kindOf x = some .free) ∧ ∃ c, env.cells.lookup x = some c ∧ h.IsCell c (some u))

structure Cx.Ok (X : Cx) : Prop where
  mod : Mod X.K X.mg X.base
  kind : X.env.scope.kind = .function
  glob : X.env.globals = mainGlobals
  blt : X.env.builtins = builtinsNs
  above : X.s₀.heap.objs.size ≤ X.env.locals
  inj : ∀ x y c, X.env.cells.lookup x = some c → X.env.cells.lookup y = some c → x = y
  has : ∀ x, (X.env.kindOf x = some .cell ∨ X.env.kindOf x = some .free) → ∃ c, X.env.cells.lookup x = some c
  cab : ∀ x c, X.fn x = true → X.env.cells.lookup x = some c → X.s₀.heap.objs.size ≤ c
  hd : X.calm = true → X.A.handled = none
  frames : X.A.frames = some X.stack
  stk : X.stack = X.outer ∨ (X.stack = X.env :: X.outer ∧ X.env.frame = some X.env.locals)
  exf : ∀ b ∈ X.ex, b ≠ X.env.locals ∧ ∀ x c, X.env.cells.lookup x = some c → c ≠ b
  bs : ∀ b o, X.base.get? b = some o → X.s₀.heap.get? b = some o ∧ X.H₀ b = none
  bsz : X.base.objs.size ≤ X.s₀.heap.objs.size
  noex : ∀ b o, X.base.get? b = some o → b ∉ X.ex
  exfs : ∀ b ∈ X.ex, b ∉ X.fs
  funs : X.s₀.heap.FunFrames X.base X.outer
  frf : ∀ b ∈ X.fs, X.H₀ b = none

structure Inv (X : Cx) (pins : List (Addr × Obj)) (σ : List (Option V)) (H : Hp) (s : Shared) : Prop where
  ok : X.Ok
  os : s.os = X.s₀.os
  bare : AllBare s.gens
  base : Un X.fs X.ex X.H₀ H X.s₀.heap s.heap
  loc : ∃ m, s.heap.Ns X.env.locals m ∧ ∀ (i : Nat) (x : Str) (v : V), X.N[i]? = some x → σ[i]? = some (some v) → Vis X.env.scope x → ∃ u, RelV v u ∧ Look X.env s.heap m x u
  cell : ∀ x c, X.env.cells.lookup x = some c → ∃ v, s.heap.IsCell c v
  free : H X.env.locals = none
  freeC : ∀ x c, X.env.cells.lookup x = some c → H c = none
  pin : ∀ p ∈ X.pn ++ pins, s.heap.get? p.1 = some p.2 ∧ H p.1 = none ∧ p.1 ≠ X.env.locals ∧ p.1 ∉ X.fs ∧ ∀ v, p.2.data ≠ .cell v
  hok : HOk X.prog X.w H s.heap
  len : σ.length = X.N.length

section
variable {X : Cx} {pins : List (Addr × Obj)} {σ : List (Option V)} {H H' : Hp} {s : Shared} {h' : Heap}

theorem Cx.Ok.nofr (ok : X.Ok) {b : Addr} {o : Obj} (e : X.base.get? b = some o) : b ∉ X.fs := fun hb => by
  have := (ok.funs.mem hb).1
  rw [e] at this; cases this
theorem Inv.bs (I : Inv X pins σ H s) : ∀ b o, X.base.get? b = some o → s.heap.get? b = some o ∧ H b = none := fun b o e =>
  ⟨I.base.keep b o (I.ok.bs b o e).1 (I.ok.bs b o e).2 (I.ok.nofr e) (I.ok.noex b o e), I.base.free b o (I.ok.bs b o e).1 (I.ok.bs b o e).2 (I.ok.noex b o e)⟩
theorem Inv.bk (I : Inv X pins σ H s) : ∀ b o, X.base.get? b = some o → s.heap.get? b = some o := fun b o e => (I.bs b o e).1
theorem Inv.mod (I : Inv X pins σ H s) : Mod X.K X.mg X.base := I.ok.mod
theorem Inv.kIn (I : Inv X pins σ H s) : X.K.In s.heap := I.ok.mod.kin.keeps I.bk
theorem Inv.nolimit (I : Inv X pins σ H s) : s.heap.NoLimit := I.ok.mod.nolimit.keeps I.bk
/-- the frame over the base: for OpenK's rules (K.In X.base is I.mod.kin) -/
theorem Inv.fr (I : Inv X pins σ H s) : ∃ m, Fr X.base X.env.locals s.heap m :=
  let ⟨m, hn, _⟩ := I.loc
  ⟨m, hn, I.bk, Nat.le_trans I.ok.bsz I.ok.above⟩
theorem Inv.lt (I : Inv X pins σ H s) : X.env.locals < s.heap.objs.size := let ⟨_, hn, _⟩ := I.loc; hn.lt
theorem Inv.sz (I : Inv X pins σ H s) : X.s₀.heap.objs.size ≤ s.heap.objs.size := Nat.le_trans I.ok.above (Nat.le_of_lt I.lt)
theorem Inv.nofs (I : Inv X pins σ H s) {a : Addr} (h : s.heap.objs.size ≤ a) : a ∉ X.fs := fun hb => by
  obtain ⟨_, o, ho, _⟩ := I.ok.funs.mem hb
  exact absurd (Nat.lt_of_lt_of_le (Heap.lt_size ho) (Nat.le_trans I.sz h)) (Nat.lt_irrefl _)
theorem Inv.cne (I : Inv X pins σ H s) : ∀ x c, X.env.cells.lookup x = some c → c ≠ X.env.locals := fun x c e z => by
  obtain ⟨v, o, ho, hd⟩ := I.cell x c e
  obtain ⟨m, ⟨o', es, ep, ho', hd', _⟩, _⟩ := I.loc
  rw [z, ho'] at ho; cases ho; rw [hd'] at hd; cases hd
theorem Inv.funs (I : Inv X pins σ H s) : s.heap.FunFrames X.base X.outer := by
  have all : ∀ (l : List Env), (∀ b ∈ frs l, b ∈ X.fs) → X.s₀.heap.FunFrames X.base l → s.heap.FunFrames X.base l := by
    intro l
    induction l with
    | nil => intro _ _; trivial
    | cons env r ih =>
      intro hs hl
      obtain ⟨hk, ⟨L, o, hf, hn, ho, hd⟩, hr⟩ := hl
      have hL : L ∈ X.fs := hs L (by unfold frs; rw [List.filterMap_cons, hf]; exact List.mem_cons_self)
      obtain ⟨sl, e⟩ := I.base.slot L o ho (I.ok.frf L hL) hL fun z => I.ok.exfs L z hL
      exact ⟨hk, ⟨L, _, hf, hn, e, hd⟩, ih (fun b hb => hs b (by unfold frs; rw [List.filterMap_cons, hf]; exact List.mem_cons_of_mem _ hb)) hr⟩
  exact all X.outer (fun _ hb => hb) I.ok.funs

/-- the frames that run, for a call -/
theorem Inv.stack (I : Inv X pins σ H s) : s.heap.FunFrames X.base X.stack := by
  rcases I.ok.stk with e | ⟨e, hf⟩
  · rw [e]; exact I.funs
  · rw [e]
    obtain ⟨m, hn, _⟩ := I.loc
    refine .cons (by rw [I.ok.kind]; decide) hf hn ?_ I.funs
    exact Heap.get?_none_of_le (Nat.le_trans I.ok.bsz I.ok.above)
theorem Inv.stkSub (I : Inv X pins σ H s) : ∀ b ∈ frs X.stack, b ∈ X.env.locals :: X.fs := fun b hb => by
  rcases I.ok.stk with e | ⟨e, hf⟩
  · rw [e] at hb; exact List.mem_cons_of_mem _ hb
  · rw [e] at hb
    unfold frs at hb
    rw [List.filterMap_cons, hf] at hb
    exact hb
theorem Inv.stkFree (I : Inv X pins σ H s) : ∀ b ∈ frs X.stack, H b = none := fun b hb => by
  rcases List.mem_cons.mp (I.stkSub b hb) with e | hb
  · rw [e]; exact I.free
  · obtain ⟨_, o, ho, _⟩ := I.ok.funs.mem hb
    exact I.base.free b o ho (I.ok.frf b hb) fun z => I.ok.exfs b z hb

/-- THE STEP: the untracked objects but the frame and the records at ch are kept (the callers' frames up to slots), the frame's map is kept, the new abstract heap is held -/
theorem Inv.step {g' : Array GenState} {t' : Nat} {d' : Drawn} {ch : List Addr} (I : Inv X pins σ H s)
    (hch : ∀ b ∈ ch, (b ∈ X.ex ∨ X.s₀.heap.objs.size ≤ b) ∧ b ≠ X.env.locals ∧ (∀ x c, X.env.cells.lookup x = some c → c ≠ b) ∧ ∀ p ∈ X.pn ++ pins, p.1 ≠ b)
    (keep : ∀ b o, b ≠ X.env.locals → b ∉ X.fs → b ∉ ch → s.heap.get? b = some o → H b = none → h'.get? b = some o)
    (slot : ∀ b o, b ≠ X.env.locals → b ∈ X.fs → b ∉ ch → s.heap.get? b = some o → H b = none → ∃ sl, h'.get? b = some { o with slots := sl }) (free : ∀ b o, b ∉ ch → s.heap.get? b = some o → H b = none → H' b = none)
    (there : ∀ b o, b ∉ ch → s.heap.get? b = some o → ∃ o', h'.get? b = some o')
    (tups : ∀ b xs, H b = some (.tup xs) → H' b = some (.tup xs)) (frzs : ∀ b o u, H b = some (.frz o u) → H' b = some (.frz o u)) (tbls : ∀ b ps, H b = some (.tbl ps) → ∃ more, H' b = some (.tbl (ps ++ more)))
    (ns : ∀ m, s.heap.Ns X.env.locals m → h'.Ns X.env.locals m) (hok : HOk X.prog X.w H' h') (hg : AllBare g') :
    Inv X pins σ H' { s with heap := h', gens := g', drawn := d', toks := t' } := by
  have neL : ∀ b o, X.s₀.heap.get? b = some o → b ≠ X.env.locals := fun b o e => Nat.ne_of_lt (Nat.lt_of_lt_of_le (Heap.lt_size e) I.ok.above)
  have neC : ∀ b o, X.s₀.heap.get? b = some o → b ∉ X.ex → b ∉ ch := fun b o e hx hb => by
    rcases (hch b hb).1 with z | z
    · exact hx z
    · exact absurd (Nat.lt_of_lt_of_le (Heap.lt_size e) z) (Nat.lt_irrefl _)
  have cellK : ∀ x c, X.env.cells.lookup x = some c → ∀ v, s.heap.IsCell c v → h'.IsCell c v := fun x c e v ⟨o, ho, hd⟩ => by
    have nch : c ∉ ch := fun z => (hch c z).2.2.1 x c e rfl
    by_cases hc : c ∈ X.fs
    · obtain ⟨sl, q⟩ := slot c o (I.cne x c e) hc nch ho (I.freeC x c e)
      exact ⟨_, q, hd⟩
    · exact ⟨o, keep c o (I.cne x c e) hc nch ho (I.freeC x c e), hd⟩
  refine ⟨I.ok, I.os, hg, ⟨fun b o e n hb hx => ?_, fun b o e n hb hx => ?_, fun b o e n hx => ?_, fun b o e hx => ?_, fun b xs e => tups b xs (I.base.tups b xs e), fun b o xs e => frzs b o xs (I.base.frzs b o xs e), fun b ps e => ?_⟩, ?_, fun x c e => ?_, ?_, fun x c e => ?_, fun p hp => ?_, hok, I.len⟩
  · exact keep b o (neL b o e) hb (neC b o e hx) (I.base.keep b o e n hb hx) (I.base.free b o e n hx)
  · obtain ⟨sl, e1⟩ := I.base.slot b o e n hb hx
    obtain ⟨sl', e2⟩ := slot b _ (neL b o e) hb (neC b o e hx) e1 (I.base.free b o e n hx)
    exact ⟨sl', e2⟩
  · obtain ⟨o', e1⟩ := I.base.there b o e hx
    exact free b o' (neC b o e hx) e1 (I.base.free b o e n hx)
  · obtain ⟨o', e1⟩ := I.base.there b o e hx
    exact there b o' (neC b o e hx) e1
  · obtain ⟨m1, e1⟩ := I.base.tbls b ps e
    obtain ⟨m2, e2⟩ := tbls b _ e1
    exact ⟨m1 ++ m2, by rw [e2, Array.append_assoc]⟩
  · obtain ⟨m, hn, hl⟩ := I.loc
    refine ⟨m, ns m hn, fun i x v e1 e2 e3 => ?_⟩
    obtain ⟨u, r, l⟩ := hl i x v e1 e2 e3
    refine ⟨u, r, ?_⟩
    rcases l with l | ⟨k, c, e, z⟩
    · exact .inl l
    · exact .inr ⟨k, c, e, cellK x c e _ z⟩
  · obtain ⟨v, z⟩ := I.cell x c e
    exact ⟨v, cellK x c e v z⟩
  · obtain ⟨m, ⟨o, _, _, ho, _⟩, _⟩ := I.loc
    exact free _ o (fun z => (hch _ z).2.1 rfl) ho I.free
  · obtain ⟨v, o, ho, hd⟩ := I.cell x c e
    exact free c o (fun z => (hch c z).2.2.1 x c e rfl) ho (I.freeC x c e)
  · obtain ⟨e, n, ne, nf, d⟩ := I.pin p hp
    have nch : p.1 ∉ ch := fun z => (hch p.1 z).2.2.2 p hp rfl
    exact ⟨keep p.1 p.2 ne nf nch e n, free p.1 p.2 nch e n, ne, nf, d⟩
/-- .. where the frame's own object is kept too -/
theorem Inv.un {t' : Nat} (I : Inv X pins σ H s) (u : Un X.fs [] H H' s.heap h') (hok : HOk X.prog X.w H' h') : Inv X pins σ H' { s with heap := h', toks := t' } := by
  obtain ⟨m, ⟨o, es, ep, ho, r⟩, _⟩ := id I.loc
  obtain ⟨sl, hL⟩ := u.any ho I.free (by simp)
  exact I.step (g' := s.gens) (d' := s.drawn) (ch := []) (fun _ z => nomatch z) (fun b o _ hb _ e n => u.keep b o e n hb (by simp)) (fun b o _ hb _ e n => u.slot b o e n hb (by simp)) (fun b o _ e n => u.free b o e n (by simp)) (fun b o _ e => u.there b o e (by simp)) u.tups u.frzs u.tbls (fun m' hm => by
    obtain ⟨o', es', ep', ho', r'⟩ := hm
    rw [ho] at ho'; cases ho'
    exact ⟨_, es', ep', hL, r'⟩) hok I.bare
/-- behind a call (or a comprehension's block): the slots of this frame may have changed too, the records at ch may have turned -/
theorem Inv.call {g' : Array GenState} {t' : Nat} {d' : Drawn} {ch : List Addr} (I : Inv X pins σ H s) (u : Un (frs X.stack) ch H H' s.heap h') (hok : HOk X.prog X.w H' h') (hg : AllBare g')
    (hch : ∀ b ∈ ch, (b ∈ X.ex ∨ X.s₀.heap.objs.size ≤ b) ∧ b ≠ X.env.locals ∧ (∀ x c, X.env.cells.lookup x = some c → c ≠ b) ∧ ∀ p ∈ X.pn ++ pins, p.1 ≠ b) :
    Inv X pins σ H' { s with heap := h', gens := g', drawn := d', toks := t' } := by
  obtain ⟨m, ⟨o, es, ep, ho, r⟩, _⟩ := id I.loc
  obtain ⟨sl, hL⟩ := u.any ho I.free fun z => (hch _ z).2.1 rfl
  exact I.step (ch := ch) hch (fun b o hL hb hc e n => u.keep b o e n (fun z => (List.mem_cons.mp (I.stkSub b z)).elim hL hb) hc) (fun b o _ _ hc e n => u.any e n hc) (fun b o hc e n => u.free b o e n hc) (fun b o hc e => u.there b o e hc) u.tups u.frzs u.tbls (fun m' hm => by
    obtain ⟨o', es', ep', ho', r'⟩ := hm
    rw [ho] at ho'; cases ho'
    exact ⟨_, es', ep', hL, r'⟩) hok hg
/-- an untracked record of ours (an iterator) has turned -/
theorem Inv.turned {t' : Nat} {it : Addr} (I : Inv X pins σ H s) (k : ∀ b o, b ≠ it → s.heap.get? b = some o → h'.get? b = some o) (hn : H it = none) (hL : it ≠ X.env.locals)
    (h1 : it ∈ X.ex ∨ X.s₀.heap.objs.size ≤ it) (h2 : ∀ x c, X.env.cells.lookup x = some c → c ≠ it) (h3 : ∀ p ∈ X.pn ++ pins, p.1 ≠ it) : Inv X pins σ H { s with heap := h', toks := t' } := by
  have nit : ∀ b u, H b = some u → b ≠ it := fun b u e z => by rw [z, hn] at e; cases e
  refine I.step (g' := s.gens) (d' := s.drawn) (ch := [it]) (fun b hb => ?_) (fun b o _ _ hc e _ => k b o (fun z => hc (by simp [z])) e) (fun b o _ _ hc e _ => ⟨o.slots, k b o (fun z => hc (by simp [z])) e⟩) (fun _ _ _ _ n => n)
    (fun b o hc e => ⟨o, k b o (fun z => hc (by simp [z])) e⟩) (fun _ _ e => e) (fun _ _ _ e => e) (fun b ps e => ⟨#[], by rw [e]; simp⟩) (fun m hm => ?_) (fun b u e => ?_) I.bare
  · have e : b = it := by simpa using hb
    subst e
    exact ⟨h1, hL, h2, h3⟩
  · obtain ⟨o, es, ep, ho, r⟩ := hm
    exact ⟨o, es, ep, k _ o (Ne.symm hL) ho, r⟩
  · refine (I.hok b u e).stay (fun c v hc q => k c v ?_ q) (fun _ q => q) fun _ _ q => q
    rcases hc with z | z
    · rw [z]; exact nit b u e
    · exact nit c _ z
theorem Inv.tok (I : Inv X pins σ H s) (t : Nat) : Inv X pins σ H { s with toks := t } := I.un (h' := s.heap) (t' := t) Un.refl I.hok
/-- all objects kept -/
theorem Inv.kept {t' : Nat} (I : Inv X pins σ H s) (k : ∀ b u, s.heap.get? b = some u → h'.get? b = some u) : Inv X pins σ H { s with heap := h', toks := t' } := I.un (Un.kept k) (I.hok.kept k)
/-- a new object laid and tracked -/
theorem Inv.laid {a : Addr} {o : HO} {t' : Nat} (I : Inv X pins σ H s) (k : ∀ b u, s.heap.get? b = some u → h'.get? b = some u) (hp : s.heap.objs.size ≤ a) (new : ObjOk X.prog X.w (upd H a o) h' a o) :
    Inv X pins σ (upd H a o) { s with heap := h', toks := t' } := I.un (Un.laid k hp (I.hok.fresh hp)) (I.hok.laid k hp new)
/-- an object written -/
theorem Inv.write {x e : Addr} {o : HO} {t' : Nat} (I : Inv X pins σ H s) (mu : Mut (H x)) (he : e = x ∨ H e = some (.own x)) (k : ∀ b u, b ≠ e → s.heap.get? b = some u → h'.get? b = some u) (heo : ∃ u, h'.get? e = some u)
    (new : ObjOk X.prog X.w (upd H x o) h' x o) : Inv X pins σ (upd H x o) { s with heap := h', toks := t' } := I.un (Un.write mu he k heo) (I.hok.write mu he k heo new)
/-- forgetting slots, pins -/
theorem Inv.weak {σ' : List (Option V)} (I : Inv X pins σ H s) (hl : σ'.length = σ.length) (w : ∀ (i : Nat) v, σ'[i]? = some (some v) → σ[i]? = some (some v)) : Inv X pins σ' H s :=
  ⟨I.ok, I.os, I.bare, I.base, let ⟨m, hn, hl'⟩ := I.loc; ⟨m, hn, fun i x v e1 e2 e3 => hl' i x v e1 (w i v e2) e3⟩, I.cell, I.free, I.freeC, I.pin, I.hok, hl.trans I.len⟩
theorem Inv.pins_of {pins' : List (Addr × Obj)} (I : Inv X pins σ H s) (h : ∀ p ∈ pins', s.heap.get? p.1 = some p.2 ∧ H p.1 = none ∧ p.1 ≠ X.env.locals ∧ p.1 ∉ X.fs ∧ ∀ v, p.2.data ≠ .cell v) : Inv X pins' σ H s :=
  ⟨I.ok, I.os, I.bare, I.base, I.loc, I.cell, I.free, I.freeC, fun p hp => (List.mem_append.mp hp).elim (fun z => I.pin p (List.mem_append_left _ z)) (h p), I.hok, I.len⟩

theorem nodup_ix {N : List Str} (hN : N.Nodup) {i j : Nat} {x : Str} (a : N[i]? = some x) (b : N[j]? = some x) : i = j := by
  obtain ⟨h1, e1⟩ := List.getElem?_eq_some_iff.mp a
  obtain ⟨h2, e2⟩ := List.getElem?_eq_some_iff.mp b
  exact (List.getElem_inj hN).mp (e1.trans e2.symm)

/-- a name is stored; what changed -/
theorem store_ok2 {M : Model} {A : Around} {E : Value → Shared → Prop} {i : Nat} {x : Str} {v : V} {u : Value} {Q : Unit → Shared → Prop} (I : Inv X pins σ H s) (hN : X.N.Nodup) (hi : X.N[i]? = some x) (hx : Loc X.env.scope x) (r : RelV v u)
    (h : ∀ s', Inv X pins (σ.set i (some v)) H s' → (∃ a, Heap.SameBut a s.heap s'.heap ∧ (a = X.env.locals ∨ X.env.cells.lookup x = some a)) → Q () s') (hf : X.fn x = true ∨ X.env.scope.names.lookup x = some .local := by first | exact .inl rfl | exact .inr rfl | assumption) : wpAny M A (storeName X.env x u) Q E s := by
  obtain ⟨m, hn, hl⟩ := id I.loc
  have hcls : (X.env.scope.kind == .class || (X.env.scope.kind == .module && X.env.locals != X.env.globals)) = false := by rw [I.ok.kind]; rfl
  have hiσ : i < σ.length := by rw [I.len]; exact (List.getElem?_eq_some_iff.mp hi).1
  have cne := I.cne
  have tracked : ∀ {a : Addr} {h' : Heap}, (∃ o, s.heap.get? a = some o ∧ H a = none) → Heap.SameBut a s.heap h' → HOk X.prog X.w H h' := fun {a h'} ha hs b ob e => by
    obtain ⟨_, _, hfree⟩ := ha
    refine (I.hok b ob e).stay (fun c w' hc q => (hs.2 c ?_).trans q) (fun _ q => q) fun _ _ q => q
    rintro rfl
    rcases hc with rfl | hc
    · rw [hfree] at e; cases e
    · rw [hfree] at hc; cases hc
  rcases hx with hk | hk
  · refine wpAny_storeName_local hk hn (fun h' hn' hs => ?_) hcls
    obtain ⟨oL, _, _, hoL, _⟩ := id hn
    refine h _ ⟨I.ok, I.os, I.bare, ⟨fun b o e n hb hx => ?_, fun b o e n hb hx => ?_, I.base.free, fun b o e hx => ?_, I.base.tups, I.base.frzs, I.base.tbls⟩, ⟨_, hn', fun j y v' e1 e2 e3 => ?_⟩, fun y c e => ?_, I.free, I.freeC, fun p hp => ?_, tracked ⟨oL, hoL, I.free⟩ hs, by simpa using I.len⟩ ⟨_, hs, .inl rfl⟩
    · exact (hs.2 b (Nat.ne_of_lt (Nat.lt_of_lt_of_le (Heap.lt_size e) I.ok.above))).trans (I.base.keep b o e n hb hx)
    · obtain ⟨sl, e1⟩ := I.base.slot b o e n hb hx
      exact ⟨sl, (hs.2 b (Nat.ne_of_lt (Nat.lt_of_lt_of_le (Heap.lt_size e) I.ok.above))).trans e1⟩
    · obtain ⟨o', e1⟩ := I.base.there b o e hx
      exact ⟨o', (hs.2 b (Nat.ne_of_lt (Nat.lt_of_lt_of_le (Heap.lt_size e) I.ok.above))).trans e1⟩
    · by_cases hj : j = i
      · subst hj
        rw [hi] at e1; cases e1
        rw [List.getElem?_set_self hiσ] at e2
        cases e2
        exact ⟨u, r, .inl ⟨hk, by simp⟩⟩
      · rw [List.getElem?_set_ne (Ne.symm hj)] at e2
        obtain ⟨u', r', q⟩ := hl j y v' e1 e2 e3
        refine ⟨u', r', ?_⟩
        rcases q with ⟨k, e⟩ | ⟨k, c, e, z⟩
        · refine .inl ⟨k, ?_⟩
          have : y ≠ x := fun e => hj (nodup_ix hN e1 (e ▸ hi))
          simp [this, e]
        · exact .inr ⟨k, c, e, z.sameBut hs (cne y c e)⟩
    · obtain ⟨w', z⟩ := I.cell y c e
      exact ⟨w', z.sameBut hs (cne y c e)⟩
    · obtain ⟨e, n, ne, nf, d⟩ := I.pin p hp
      exact ⟨(hs.2 p.1 ne).trans e, n, ne, nf, d⟩
  · have hfn : X.fn x = true := by
      rcases hf with z | z
      · exact z
      · rw [z] at hk; cases hk
    obtain ⟨c, hc⟩ := I.ok.has x (.inl hk)
    obtain ⟨w', z⟩ := I.cell x c hc
    refine wpAny_storeName_cell I.ok.kind hk hc z (fun h' hc' hs => ?_)
    obtain ⟨oc, hoc, hocd⟩ := id z
    refine h { s with heap := h' } ⟨I.ok, I.os, I.bare, ⟨fun b o e n hb hx => ?_, fun b o e n hb hx => ?_, I.base.free, fun b o e hx => ?_, I.base.tups, I.base.frzs, I.base.tbls⟩, ⟨m, hn.sameBut hs (Ne.symm (cne x c hc)), fun j y v' e1 e2 e3 => ?_⟩, fun y c' e => ?_, I.free, I.freeC, fun p hp => ?_, tracked ⟨oc, hoc, I.freeC x c hc⟩ hs, by simpa using I.len⟩ ⟨c, hs, .inr hc⟩
    · exact (hs.2 b (Nat.ne_of_lt (Nat.lt_of_lt_of_le (Heap.lt_size e) (I.ok.cab x c hfn hc)))).trans (I.base.keep b o e n hb hx)
    · obtain ⟨sl, e1⟩ := I.base.slot b o e n hb hx
      exact ⟨sl, (hs.2 b (Nat.ne_of_lt (Nat.lt_of_lt_of_le (Heap.lt_size e) (I.ok.cab x c hfn hc)))).trans e1⟩
    · obtain ⟨o', e1⟩ := I.base.there b o e hx
      exact ⟨o', (hs.2 b (Nat.ne_of_lt (Nat.lt_of_lt_of_le (Heap.lt_size e) (I.ok.cab x c hfn hc)))).trans e1⟩
    · by_cases hj : j = i
      · subst hj
        rw [hi] at e1; cases e1
        rw [List.getElem?_set_self hiσ] at e2
        cases e2
        exact ⟨u, r, .inr ⟨.inl hk, c, hc, hc'⟩⟩
      · rw [List.getElem?_set_ne (Ne.symm hj)] at e2
        obtain ⟨u', r', q⟩ := hl j y v' e1 e2 e3
        refine ⟨u', r', ?_⟩
        rcases q with q | ⟨k, c', e, z'⟩
        · exact .inl q
        · refine .inr ⟨k, c', e, z'.sameBut hs ?_⟩
          rintro rfl
          exact hj (nodup_ix hN e1 (I.ok.inj _ _ _ e hc ▸ hi))
    · by_cases hcc : c' = c
      · subst hcc; exact ⟨_, hc'⟩
      · obtain ⟨w2, z2⟩ := I.cell y c' e
        exact ⟨w2, z2.sameBut hs hcc⟩
    · obtain ⟨e, n, ne, nf, d⟩ := I.pin p hp
      refine ⟨(hs.2 p.1 ?_).trans e, n, ne, nf, d⟩
      intro q
      rw [q, hoc] at e
      have q' : oc = p.2 := Option.some.inj e
      exact d w' (by rw [← q']; exact hocd)
theorem store_ok {M : Model} {A : Around} {E : Value → Shared → Prop} {i : Nat} {x : Str} {v : V} {u : Value} {Q : Unit → Shared → Prop} (I : Inv X pins σ H s) (hN : X.N.Nodup) (hi : X.N[i]? = some x) (hx : Loc X.env.scope x) (r : RelV v u)
    (h : ∀ s', Inv X pins (σ.set i (some v)) H s' → Q () s') (hf : X.fn x = true ∨ X.env.scope.names.lookup x = some .local := by first | exact .inl rfl | exact .inr rfl | assumption) : wpAny M A (storeName X.env x u) Q E s :=
  store_ok2 I hN hi hx r (fun s' I' _ => h s' I') hf
/-- behind a call or a block, the state as it is -/
theorem Inv.call' {s' : Shared} {ch : List Addr} (I : Inv X pins σ H s) (ho : s'.os = s.os) (u : Un (frs X.stack) ch H H' s.heap s'.heap) (hok : HOk X.prog X.w H' s'.heap) (hg : AllBare s'.gens)
    (hch : ∀ b ∈ ch, (b ∈ X.ex ∨ X.s₀.heap.objs.size ≤ b) ∧ b ≠ X.env.locals ∧ (∀ x c, X.env.cells.lookup x = some c → c ≠ b) ∧ ∀ p ∈ X.pn ++ pins, p.1 ≠ b) : Inv X pins σ H' s' := by
  obtain ⟨h', g', d', t', o'⟩ := s'
  have e : o' = s.os := ho
  subst e
  exact I.call (g' := g') (t' := t') (d' := d') u hok hg hch
end

/-! ### the judgements -/
/-- an exception: its class, its own dict's address (where it has one), the abstract heap behind it -/
abbrev XK := Value → Option Addr → Hp → Prop
abbrev St := List (Option V)
abbrev VK := V → Hp → Prop
/-- an expression's reading; a test's; an argument list's -/
abbrev TE := St → Hp → VK → Prop
abbrev TT := St → Hp → (Bool → Hp → Prop) → Prop
abbrev TA := St → Hp → (List V → Hp → Prop) → Prop
/-- what is wanted behind a statement -/
structure Ends where
  nx : St → Hp → Prop
  rt : VK
  bk : St → Hp → Prop := fun _ _ => False
  ct : St → Hp → Prop := fun _ _ => False
abbrev TS := Ends → St → Hp → Prop

def EP (X : Cx) (pins : List (Addr × Obj)) (σ : St) (Q : VK) (u : Value) (s' : Shared) : Prop := ∃ v H', Inv X pins σ H' s' ∧ RelV v u ∧ Q v H'
def TP (X : Cx) (pins : List (Addr × Obj)) (σ : St) (Q : Bool → Hp → Prop) (b : Bool) (s' : Shared) : Prop := ∃ H', Inv X pins σ H' s' ∧ Q b H'
def AP (X : Cx) (pins : List (Addr × Obj)) (σ : St) (Q : List V → Hp → Prop) (us : List Value) (s' : Shared) : Prop := ∃ vs H', Inv X pins σ H' s' ∧ Vals vs us ∧ Q vs H'
def SP (X : Cx) (pins : List (Addr × Obj)) (D : Ends) (f : Flow) (s' : Shared) : Prop :=
  match f with
  | .next => ∃ σ' H', Inv X pins σ' H' s' ∧ D.nx σ' H'
  | .brk => ∃ σ' H', Inv X pins σ' H' s' ∧ D.bk σ' H'
  | .cont => ∃ σ' H', Inv X pins σ' H' s' ∧ D.ct σ' H'
  | .ret u => ∃ v σ' H', Inv X pins σ' H' s' ∧ RelV v u ∧ D.rt v H'

def PE (X : Cx) (e : Expr) (t : TE) : Prop :=
  ∀ (pins : List (Addr × Obj)) (s : Shared) (σ : St) (H : Hp) (Q : VK), Inv X pins σ H s → t σ H Q → wpAny (model X.prog X.w) X.A (eval e X.env) (EP X pins σ Q) X.xe s
def PT (X : Cx) (e : Expr) (t : TT) : Prop :=
  ∀ (pins : List (Addr × Obj)) (s : Shared) (σ : St) (H : Hp) (Q : Bool → Hp → Prop), Inv X pins σ H s → t σ H Q → wpAny (model X.prog X.w) X.A (isTrue e X.env (eval e X.env)) (TP X pins σ Q) X.xe s
/-- a test whatever its 'whole' is (and, or) -/
def PW (X : Cx) (e : Expr) (t : TT) : Prop :=
  ∀ (whole : Sem Value) (pins : List (Addr × Obj)) (s : Shared) (σ : St) (H : Hp) (Q : Bool → Hp → Prop), Inv X pins σ H s → t σ H Q → wpAny (model X.prog X.w) X.A (isTrue e X.env whole) (TP X pins σ Q) X.xe s
theorem PW.pt {X : Cx} {e : Expr} {t : TT} (h : PW X e t) : PT X e t := h _
/-- an argument list (no star), from the left -/
def PA (X : Cx) (es : List Expr) (t : TA) : Prop :=
  ∀ (pos : Pos) (pins : List (Addr × Obj)) (s : Shared) (σ : St) (H : Hp) (Q : List V → Hp → Prop), Inv X pins σ H s → t σ H Q → wpAny (model X.prog X.w) X.A (spliced (backTo pos (starEach es X.env))) (AP X pins σ Q) X.xe s
def PS (X : Cx) (st : Stmt) (t : TS) : Prop :=
  ∀ (pins : List (Addr × Obj)) (s : Shared) (σ : St) (H : Hp) (D : Ends), Inv X pins σ H s → t D σ H → wpAny (model X.prog X.w) X.A (exec st X.env) (SP X pins D) X.xe s
def PSs (X : Cx) (st : List Stmt) (t : TS) : Prop :=
  ∀ (pins : List (Addr × Obj)) (s : Shared) (σ : St) (H : Hp) (D : Ends), Inv X pins σ H s → t D σ H → wpAny (model X.prog X.w) X.A (execs st X.env) (SP X pins D) X.xe s
/-- weaken the end -/
theorem thn {α : Type} {t : Sem α} {Q Q' : α → Shared → Prop} {M : Model} {A : Around} {E : Value → Shared → Prop} {s : Shared} (h : wpAny M A t Q E s) (hQ : ∀ a s, Q a s → Q' a s) : wpAny M A t Q' E s := wpAny_mono h hQ fun _ _ x => x
end L2

namespace L2
open PySem PySem.Spec PyProof.Rows
section
variable {X : Cx}

/-! ### names and constants -/
def tVar (i : Nat) : TE := fun σ H Q => ∃ v, σ[i]? = some (some v) ∧ Q v H
def tC (v : V) : TE := fun _ H Q => Q v H
theorem pe_var {i : Nat} {x : Str} {pos : Pos} (hN : X.N[i]? = some x) (hv : Vis X.env.scope x) (hd : (x == ("__debug__" : Str)) = false := by decide) (hcd : (x == ("__classdict__" : Str)) = false := by decide) : PE X (.Name x pos) (tVar i) := by
  intro pins s σ H Q I h
  obtain ⟨v, e, h⟩ := h
  obtain ⟨m, hn, hl⟩ := I.loc
  obtain ⟨u, r, l⟩ := hl i x v hN e hv
  have fin : EP X pins σ Q u s := ⟨v, H, I, r, h⟩
  rcases l with ⟨hk, hm⟩ | ⟨hk, c, hc, hcell⟩
  · exact wpAny_Name (wpAny_loadName_local I.ok.kind hk hn hm fin) hd
  · rcases hk with hk | hk
    · exact wpAny_Name (wpAny_loadName_cell I.ok.kind hk hc hcell fin) hd
    · exact wpAny_Name (wpAny_loadName_free I.ok.kind hk hc hcell fin hcd) hd
theorem pe_int {i j pos} : PE X (.Constant (.int i) j pos) (tC (.int i)) := fun _ _ _ H _ I h => wpAny_Constant_int ⟨.int i, H, I.tok _, ⟨_, rfl⟩, h⟩
theorem pe_bl {b j pos} : PE X (.Constant (.bool b) j pos) (tC (.bl b)) := fun _ _ _ H _ I h => Constant_bool ⟨.bl b, H, I, rfl, h⟩
theorem pe_non {j pos} : PE X (.Constant .none j pos) (tC .non) := fun _ _ _ H _ I h => Constant_none ⟨.non, H, I, rfl, h⟩
theorem pe_str {x j pos} : PE X (.Constant (.str x) j pos) (tC (.str x)) := fun _ _ _ H _ I h => Calls.Constant_str ⟨.str x, H, I.tok _, ⟨_, rfl⟩, h⟩

/-- a global name of the def -/
def Gl (X : Cx) (x : Str) : Prop := X.env.kindOf x = some .globalImplicit
theorem ld_glob {E : Value → Shared → Prop} {pins : List (Addr × Obj)} {s : Shared} {σ : St} {H : Hp} {x : Str} {u : Value} {pos : Pos} {Q : Value → Shared → Prop} (I : Inv X pins σ H s) (hg : Gl X x) (hm : X.mg x = some u) (h : Q u s)
    (hd : (x == ("__debug__" : Str)) = false := by decide) : wpAny (model X.prog X.w) X.A (eval (.Name x pos) X.env) Q E s :=
  Calls.Name_function_global I.ok.kind hg (Calls.loadGlobal_global (by rw [I.ok.glob]; exact I.mod.glob.keeps I.bk) hm h) hd
theorem ld_blt {E : Value → Shared → Prop} {pins : List (Addr × Obj)} {s : Shared} {σ : St} {H : Hp} {x : Str} {u : Value} {pos : Pos} {Q : Value → Shared → Prop} (I : Inv X pins σ H s) (hg : Gl X x) (hm : X.mg x = none) (hv : bootBuiltins x = some u) (h : Q u s)
    (hn : x ≠ "__name__" := by decide) (hd : (x == ("__debug__" : Str)) = false := by decide) : wpAny (model X.prog X.w) X.A (eval (.Name x pos) X.env) Q E s := by
  obtain ⟨mb, h1, h2⟩ := I.mod.blt
  exact Calls.Name_function_global I.ok.kind hg (Calls.loadGlobal_builtin (by rw [I.ok.glob]; exact I.mod.glob.keeps I.bk) hm (by rw [I.ok.blt]; exact h1.keeps I.bk) ((h2 x hn).trans hv) h) hd
/-- a module's constant, a class, a function, as a value -/
theorem pe_glob {x : Str} {v : V} {u : Value} {pos : Pos} (hg : Gl X x) (hm : X.mg x = some u) (r : RelV v u) (hd : (x == ("__debug__" : Str)) = false := by decide) : PE X (.Name x pos) (tC v) :=
  fun _ _ _ H _ I h => ld_glob I hg hm ⟨v, H, I, r, h⟩ hd
theorem pe_bltn {x : Str} {v : V} {u : Value} {pos : Pos} (hg : Gl X x) (hm : X.mg x = none) (hv : bootBuiltins x = some u) (r : RelV v u) (hn : x ≠ "__name__" := by decide) (hd : (x == ("__debug__" : Str)) = false := by decide) : PE X (.Name x pos) (tC v) :=
  fun _ _ _ H _ I h => ld_blt I hg hm hv ⟨v, H, I, r, h⟩ hn hd

/-! ### arithmetic -/
variable {a b : Expr} {ta tb : TE} {pos : Pos}
/-! ### comparisons -/
/-- a comparison as a value, as a test -/
def tB (t : TE) : TT := fun σ H Q => t σ H fun x H1 => ∃ c, x = .bl c ∧ Q c H1
/-- an expression whose value is a bool, as a test -/
theorem pt_val {e : Expr} {t : TE} (h : PE X e t) (he : ∀ whole, isTrue e X.env whole = (do let v ← whole; standAt e.pos; holding [v] (truthy v)) := by intro _; rfl) : PT X e (tB t) := by
  intro pins s σ H Q I hw
  refine isTrue_plain (thn (h pins s σ H _ I hw) fun v s1 ⟨x, H1, I1, r1, q1⟩ => ?_) (he _)
  obtain ⟨d, rfl, q⟩ := q1
  cases r1
  exact wpAny_truthy_bool ⟨H1, I1, q⟩

/-! ### and, or, not -/
variable {tA tB' : TT} {rest : List Expr}
def tAnd (t u : TT) : TT := fun σ H Q => t σ H fun c H1 => if c = true then u σ H1 Q else Q false H1
def tOr (t u : TT) : TT := fun σ H Q => t σ H fun c H1 => if c = true then Q true H1 else u σ H1 Q
def tNot (t : TT) : TT := fun σ H Q => t σ H fun c H1 => Q (!c) H1
theorem pw_and1 (ha : PT X a tA) : PW X (.BoolOp .And [a] pos) tA := by
  intro wh pins s σ H Q I h
  refine isTrue_and (thn (ha pins s σ H Q I h) fun c s1 e => ?_)
  cases c with
  | true => exact isTrue_and_nil e
  | false => exact e
theorem pw_or1 (ha : PT X a tA) : PW X (.BoolOp .Or [a] pos) tA := by
  intro wh pins s σ H Q I h
  refine isTrue_or (thn (ha pins s σ H Q I h) fun c s1 e => ?_)
  cases c with
  | false => exact isTrue_or_nil e
  | true => exact e
theorem pw_and (ha : PT X a tA) (hb : PW X (.BoolOp .And (b :: rest) pos) tB') : PW X (.BoolOp .And (a :: b :: rest) pos) (tAnd tA tB') := by
  intro wh pins s σ H Q I h
  refine isTrue_and (thn (ha pins s σ H _ I h) fun c s1 ⟨H1, I1, q1⟩ => ?_)
  cases c with
  | true => exact hb wh pins s1 σ H1 Q I1 q1
  | false => exact ⟨H1, I1, q1⟩
theorem pw_or (ha : PT X a tA) (hb : PW X (.BoolOp .Or (b :: rest) pos) tB') : PW X (.BoolOp .Or (a :: b :: rest) pos) (tOr tA tB') := by
  intro wh pins s σ H Q I h
  refine isTrue_or (thn (ha pins s σ H _ I h) fun c s1 ⟨H1, I1, q1⟩ => ?_)
  cases c with
  | true => exact ⟨H1, I1, q1⟩
  | false => exact hb wh pins s1 σ H1 Q I1 q1
theorem pt_not (ha : PT X a tA) : PT X (.UnaryOp .Not a pos) (tNot tA) := by
  intro pins s σ H Q I h
  exact isTrue_not (ha pins s σ H (fun c H1 => Q (!c) H1) I h)
/-- .. as values (bools) -/
def tAndV (ta tb : TE) : TE := fun σ H Q => ta σ H fun x H1 => ∃ c, x = .bl c ∧ if c = true then tb σ H1 Q else Q (.bl false) H1
def tOrV (ta tb : TE) : TE := fun σ H Q => ta σ H fun x H1 => ∃ c, x = .bl c ∧ if c = true then Q (.bl true) H1 else tb σ H1 Q
def tNotV (ta : TE) : TE := fun σ H Q => ta σ H fun x H1 => ∃ c, x = .bl c ∧ Q (.bl (!c)) H1
theorem pe_one {op} {t : TE} (h : PE X a t) : PE X (.BoolOp op [a] pos) t := fun pins s σ H Q I hw => BoolOp_one (h pins s σ H Q I hw)
theorem pe_and (ha : PE X a ta) (hb : PE X (.BoolOp .And (b :: rest) pos) tb) : PE X (.BoolOp .And (a :: b :: rest) pos) (tAndV ta tb) := by
  intro pins s σ H Q I h
  refine BoolOp_and (thn (ha pins s σ H _ I h) fun v s1 ⟨x, H1, I1, r1, q1⟩ => ?_)
  obtain ⟨c, rfl, q1⟩ := q1
  cases r1
  refine wpAny_truthy_bool ?_
  cases c with
  | true => exact hb pins s1 σ H1 Q I1 q1
  | false => exact ⟨.bl false, H1, I1, rfl, q1⟩
theorem pe_or (ha : PE X a ta) (hb : PE X (.BoolOp .Or (b :: rest) pos) tb) : PE X (.BoolOp .Or (a :: b :: rest) pos) (tOrV ta tb) := by
  intro pins s σ H Q I h
  refine BoolOp_or (thn (ha pins s σ H _ I h) fun v s1 ⟨x, H1, I1, r1, q1⟩ => ?_)
  obtain ⟨c, rfl, q1⟩ := q1
  cases r1
  refine wpAny_truthy_bool ?_
  cases c with
  | false => exact hb pins s1 σ H1 Q I1 q1
  | true => exact ⟨.bl true, H1, I1, rfl, q1⟩
theorem pe_not (ha : PE X a ta) : PE X (.UnaryOp .Not a pos) (tNotV ta) := by
  intro pins s σ H Q I h
  refine UnaryOp_ (thn (ha pins s σ H _ I h) fun v s1 ⟨x, H1, I1, r1, q1⟩ => ?_)
  obtain ⟨c, rfl, q1⟩ := q1
  cases r1
  exact not_of (wpAny_truthy_bool ⟨.bl (!c), H1, I1, rfl, q1⟩)
/-- a if t else b -/
def tIf (t : TT) (ta tb : TE) : TE := fun σ H Q => t σ H fun c H1 => if c = true then ta σ H1 Q else tb σ H1 Q
theorem pe_ifExp {c : Expr} (hc : PT X c tA) (ha : PE X a ta) (hb : PE X b tb) : PE X (.IfExp c a b pos) (tIf tA ta tb) := by
  intro pins s σ H Q I h
  refine wpAny_IfExp (thn (hc pins s σ H _ I h) fun d s1 ⟨H1, I1, q1⟩ => ?_)
  cases d with
  | true => exact ha pins s1 σ H1 Q I1 q1
  | false => exact hb pins s1 σ H1 Q I1 q1
end
end L2

namespace L2
open PySem PySem.Spec PyProof.Rows

/-! ### a list, a tuple that is read: tracked, frozen, or an object of the module -/
def SqL (K : PySem.W.Frag) (H : Hp) (a : Addr) (xs : List V) : Prop :=
  Rd H a (.lst xs) ∨
    ∃ (o : Obj) (its : Array Value) (n : Nat), K.lookup a = some o ∧ o.cls = .type "list" ∧ o.dict = none ∧ o.data = .seq its n ∧ its.size ≤ sizeLine ∧ Vals xs its.toList
def SqT (K : PySem.W.Frag) (H : Hp) (a : Addr) (xs : List V) : Prop :=
  Rd H a (.tup xs) ∨
    ∃ (o : Obj) (its : Array Value) (n : Nat), K.lookup a = some o ∧ o.cls = .type "tuple" ∧ o.dict = none ∧ o.data = .seq its n ∧ its.size ≤ sizeLine ∧ Vals xs its.toList
def absV : Value → Option V
  | .none => some .non
  | .bool b => some (.bl b)
  | .int i _ => some (.int i)
  | .str x _ => some (.str x)
  | .bytes b _ => some (.byt b)
  | .float b _ => some (.flt b)
  | .ref a => some (.ref a)
  | .type n => some (.ty n)
  | _ => none
theorem RelV.abs {x : V} {u : Value} (r : RelV x u) : absV u = some x := by
  cases x with
  | non => cases r; rfl
  | bl _ => cases r; rfl
  | int _ => obtain ⟨t, rfl⟩ := r; rfl
  | str _ => obtain ⟨t, rfl⟩ := r; rfl
  | byt _ => obtain ⟨t, rfl⟩ := r; rfl
  | flt _ => obtain ⟨t, rfl⟩ := r; rfl
  | ref _ => cases r; rfl
  | ty _ => cases r; rfl
theorem RelV.inj {x y : V} {u : Value} (r : RelV x u) (q : RelV y u) : x = y := Option.some.inj (r.abs.symm.trans q.abs)
theorem Vals.inj : ∀ {xs ys : List V} {us : List Value}, Vals xs us → Vals ys us → xs = ys
  | _, _, _, .nil, .nil => rfl
  | _, _, _, .cons r t, .cons r' t' => by rw [r.inj r', Vals.inj t t']
section
variable {X : Cx} {pins : List (Addr × Obj)} {σ : St} {H : Hp} {s : Shared} {a : Addr} {xs ys : List V}
theorem SqL.of {K : PySem.W.Frag} (h : H a = some (.lst xs)) : SqL K H a xs := .inl (.inl h)
theorem SqT.of {K : PySem.W.Frag} (h : H a = some (.tup xs)) : SqT K H a xs := .inl (.inl h)
theorem Inv.list (I : Inv X pins σ H s) (h : SqL X.K H a xs) : ∃ its : List Value, Vals xs its ∧ PlainL s.heap a its.toArray ∧ xs.length ≤ sizeLine := by
  rcases h with h | ⟨o, its, n, hk, hc, hd, hs, hz, r⟩
  · obtain ⟨z, its, n, r, e⟩ := h.ok I.hok
    exact ⟨its, r, ⟨_, n, e, rfl, rfl, rfl⟩, z⟩
  · refine ⟨its.toList, r, ⟨o, n, I.kIn a o hk, hc, hd, by simpa using hs⟩, ?_⟩
    have e := r.length
    simp only [Array.length_toList] at e
    omega
theorem Inv.tupleN (I : Inv X pins σ H s) (h : SqT X.K H a xs) : ∃ its : List Value, Vals xs its ∧ IsTupN s.heap a its.toArray ∧ xs.length ≤ sizeLine := by
  rcases h with h | ⟨o, its, n, hk, hc, hn, hs, hz, r⟩
  · obtain ⟨z, its, r, p⟩ := h.ok I.hok
    exact ⟨its, r, p, z⟩
  · refine ⟨its.toList, r, ⟨o, I.kIn a o hk, hc, ⟨n, by simpa using hs⟩, hn⟩, ?_⟩
    have e := r.length
    simp only [Array.length_toList] at e
    omega
theorem Inv.tuple (I : Inv X pins σ H s) (h : SqT X.K H a xs) : ∃ its : List Value, Vals xs its ∧ IsTup s.heap a its.toArray ∧ xs.length ≤ sizeLine := by
  obtain ⟨its, r, p, z⟩ := I.tupleN h
  exact ⟨its, r, p.tup, z⟩
theorem Inv.list_inj (I : Inv X pins σ H s) (h : SqL X.K H a xs) (h' : SqL X.K H a ys) : xs = ys := by
  obtain ⟨its, r, ⟨o, n, e, _, _, d⟩, _⟩ := I.list h
  obtain ⟨its', r', ⟨o', n', e', _, _, d'⟩, _⟩ := I.list h'
  rw [e] at e'; cases e'
  rw [d] at d'
  injection d' with d1 _
  have : its = its' := by simpa using congrArg Array.toList d1
  subst this
  exact r.inj r'
theorem Inv.tuple_inj (I : Inv X pins σ H s) (h : SqT X.K H a xs) (h' : SqT X.K H a ys) : xs = ys := by
  obtain ⟨its, r, ⟨o, e, _, n, d⟩, _⟩ := I.tuple h
  obtain ⟨its', r', ⟨o', e', _, n', d'⟩, _⟩ := I.tuple h'
  rw [e] at e'; cases e'
  rw [d] at d'
  injection d' with d1 _
  have : its = its' := by simpa using congrArg Array.toList d1
  subst this
  exact r.inj r'
end

/-! ### another wish about exceptions -/
abbrev Cx.wish (X : Cx) (E : Value → Shared → Prop) : Cx := { X with xe := E }
/-- no exception leaves -/
abbrev Cx.nox (X : Cx) : Cx := X.wish fun _ _ => False
theorem Cx.Ok.wish {X : Cx} (ok : X.Ok) (E : Value → Shared → Prop) : (X.wish E).Ok :=
  ⟨ok.mod, ok.kind, ok.glob, ok.blt, ok.above, ok.inj, ok.has, ok.cab, ok.hd, ok.frames, ok.stk, ok.exf, ok.bs, ok.bsz, ok.noex, ok.exfs, ok.funs, ok.frf⟩
theorem Cx.Ok.unwish {X : Cx} {E : Value → Shared → Prop} (ok : (X.wish E).Ok) : X.Ok :=
  ⟨ok.mod, ok.kind, ok.glob, ok.blt, ok.above, ok.inj, ok.has, ok.cab, ok.hd, ok.frames, ok.stk, ok.exf, ok.bs, ok.bsz, ok.noex, ok.exfs, ok.funs, ok.frf⟩
section
variable {X : Cx} {pins : List (Addr × Obj)} {σ : St} {H : Hp} {s : Shared} {E : Value → Shared → Prop}
theorem Inv.wish (I : Inv X pins σ H s) (E : Value → Shared → Prop) : Inv (X.wish E) pins σ H s := ⟨I.ok.wish E, I.os, I.bare, I.base, I.loc, I.cell, I.free, I.freeC, I.pin, I.hok, I.len⟩
theorem Inv.unwish (I : Inv (X.wish E) pins σ H s) : Inv X pins σ H s := ⟨I.ok.unwish, I.os, I.bare, I.base, I.loc, I.cell, I.free, I.freeC, I.pin, I.hok, I.len⟩
theorem SP.unwish {D : Ends} {f : Flow} {s' : Shared} (h : SP (X.wish E) pins D f s') : SP X pins D f s' := by
  cases f with
  | next => obtain ⟨σ', H', I, q⟩ := h; exact ⟨σ', H', I.unwish, q⟩
  | brk => obtain ⟨σ', H', I, q⟩ := h; exact ⟨σ', H', I.unwish, q⟩
  | cont => obtain ⟨σ', H', I, q⟩ := h; exact ⟨σ', H', I.unwish, q⟩
  | ret u => obtain ⟨v, σ', H', I, r, q⟩ := h; exact ⟨v, σ', H', I.unwish, r, q⟩
theorem PE.nox {e : Expr} {t : TE} (h : PE X.nox e t) : PE X e t := fun pins s σ H Q I hw =>
  wpAny_mono (h pins s σ H Q (I.wish _) hw) (fun _ _ ⟨v, H', I', r, q⟩ => ⟨v, H', I'.unwish, r, q⟩) fun _ _ z => False.elim z
theorem PT.nox {e : Expr} {t : TT} (h : PT X.nox e t) : PT X e t := fun pins s σ H Q I hw =>
  wpAny_mono (h pins s σ H Q (I.wish _) hw) (fun _ _ ⟨H', I', q⟩ => ⟨H', I'.unwish, q⟩) fun _ _ z => False.elim z
theorem PSs.nox {st : List Stmt} {t : TS} (h : PSs X.nox st t) : PSs X st t := fun pins s σ H D I hw =>
  wpAny_mono (h pins s σ H D (I.wish _) hw) (fun _ _ q => q.unwish) fun _ _ z => False.elim z
end

/-! ### blocks and small statements -/
section
variable {X : Cx} {st : Stmt} {rest : List Stmt} {t u : TS} {e : Expr} {te : TE} {pos : Pos}
def tNext : TS := fun D σ H => D.nx σ H
def tSeq (t u : TS) : TS := fun D σ H => t { D with nx := u D } σ H
theorem pss_nil : PSs X [] tNext := fun _ _ σ H _ I h => wpAny_execs_nil ⟨σ, H, I, h⟩
theorem pss_cons (h1 : PS X st t) (h2 : PSs X rest u) : PSs X (st :: rest) (tSeq t u) := by
  intro pins s σ H D I h
  refine wpAny_execs_cons (thn (h1 pins s σ H { D with nx := u D } I h) fun f s1 q => ?_)
  cases f with
  | next =>
    obtain ⟨σ', H', I', q⟩ := q
    exact h2 pins s1 σ' H' D I' q
  | ret v => exact q
  | brk => exact q
  | cont => exact q
theorem pss_one (h1 : PS X st t) : PSs X [st] t := by
  intro pins s σ H D I h
  refine wpAny_execs_cons (thn (h1 pins s σ H D I h) fun f s1 q => ?_)
  cases f with
  | next => exact wpAny_execs_nil q
  | ret v => exact q
  | brk => exact q
  | cont => exact q
/-- in a def's body nothing is shown -/
theorem Inv.quiet {pins : List (Addr × Obj)} {σ : St} {H : Hp} {s : Shared} (I : Inv X pins σ H s) : interactive X.env = false := by simp [interactive, I.ok.kind]
/-- an expression whose value is dropped -/
def tDrop (te : TE) : TS := fun D σ H => te σ H fun _ H1 => D.nx σ H1
theorem ps_expr (he : PE X e te) (hs : swapsWith e none pos.line X.env = pure false := by rfl) : PS X (.Expr e pos) (tDrop te) := by
  intro pins s σ H D I h
  exact wpAny_Expr_any (thn (he pins s σ H _ I h) fun v s1 ⟨x, H1, I1, r1, q1⟩ => ⟨σ, H1, I1, q1⟩) I.quiet hs
def tRet (te : TE) : TS := fun D σ H => te σ H D.rt
theorem ps_ret (he : PE X e te) : PS X (.Return (some e) pos) (tRet te) := by
  intro pins s σ H D I h
  exact wpAny_Return_some (thn (he pins s σ H _ I h) fun v s1 ⟨x, H1, I1, r1, q1⟩ => ⟨x, σ, H1, I1, r1, q1⟩)
def tIfS (c : TT) (t u : TS) : TS := fun D σ H => c σ H fun b H1 => if b = true then t D σ H1 else u D σ H1
theorem ps_if {c : Expr} {a b : List Stmt} {tc : TT} (hc : PT X c tc) (ha : PSs X a t) (hb : PSs X b u) : PS X (.If c a b pos) (tIfS tc t u) := by
  intro pins s σ H D I h
  refine wpAny_If (thn (hc pins s σ H _ I h) fun d s1 ⟨H1, I1, q1⟩ => ?_)
  cases d with
  | true => exact ha pins s1 σ H1 D I1 q1
  | false => exact hb pins s1 σ H1 D I1 q1
end

/-! ### targets -/
abbrev TG := V → St → Hp → (St → Hp → Prop) → Prop
abbrev TGs := List V → St → Hp → (St → Hp → Prop) → Prop
def PG (X : Cx) (target : Expr) (t : TG) : Prop :=
  ∀ (pins : List (Addr × Obj)) (s : Shared) (σ : St) (H : Hp) (v : V) (u : Value) (Q : St → Hp → Prop), Inv X pins σ H s → RelV v u → t v σ H Q →
    wpAny (model X.prog X.w) X.A (assign target X.env u) (fun _ s' => ∃ σ' H', Inv X pins σ' H' s' ∧ Q σ' H') X.xe s
/-- several targets, one after another -/
def PGs (X : Cx) (ts : List Expr) (t : TGs) : Prop :=
  ∀ (pins : List (Addr × Obj)) (s : Shared) (σ : St) (H : Hp) (vs : List V) (us : List Value) (Q : St → Hp → Prop), Inv X pins σ H s → Vals vs us → t vs σ H Q →
    wpAny (model X.prog X.w) X.A (assignInOrder ((assignEach ts X.env).map (·.2)) us) (fun _ s' => ∃ σ' H', Inv X pins σ' H' s' ∧ Q σ' H') X.xe s
section
variable {X : Cx} {pos : Pos}
def gName (i : Nat) : TG := fun v σ H Q => Q (σ.set i (some v)) H
theorem pg_name {i : Nat} {x : Str} (hN : X.N.Nodup) (hi : X.N[i]? = some x) (hx : Loc X.env.scope x) (hf : X.fn x = true ∨ X.env.scope.names.lookup x = some .local := by first | exact .inl rfl | exact .inr rfl | assumption) : PG X (.Name x pos) (gName i) := by
  intro pins s σ H v u Q I r h
  exact wpAny_assign_Name (store_ok I hN hi hx r (fun s' I' => ⟨_, H, I', h⟩) hf)
def gNil : TGs := fun vs σ H Q => vs = [] ∧ Q σ H
def gCons (t : TG) (u : TGs) : TGs := fun vs σ H Q => ∃ v r, vs = v :: r ∧ t v σ H fun σ' H' => u r σ' H' Q
theorem pgs_nil : PGs X [] gNil := by
  intro pins s σ H vs us Q I r h
  obtain ⟨e, h⟩ := h
  subst e
  cases r
  exact assignInOrder_nil ⟨σ, H, I, h⟩
theorem pgs_cons {e : Expr} {es : List Expr} {t : TG} {u : TGs} (h1 : PG X e t) (h2 : PGs X es u)
    (hs : (assignEach (e :: es) X.env).map (·.2) = assign e X.env :: (assignEach es X.env).map (·.2) := by rfl) : PGs X (e :: es) (gCons t u) := by
  intro pins s σ H vs us Q I r h
  obtain ⟨v, vr, e1, h⟩ := h
  subst e1
  cases r with
  | cons r rr =>
    rw [hs]
    refine assignInOrder_cons (thn (h1 pins s σ H _ _ _ I r h) fun _ s1 ⟨σ1, H1, I1, q1⟩ => ?_)
    exact h2 pins s1 σ1 H1 _ _ Q I1 rr q1
/-- (a, b, ..) = a tuple of that length -/
def gTup (K : PySem.W.Frag) (n : Nat) (t : TGs) : TG := fun v σ H Q => ∃ a xs, v = .ref a ∧ SqT K H a xs ∧ xs.length = n ∧ t xs σ H Q
theorem pg_tup {es : List Expr} {k : Nat} {t : TGs} {n : Nat} (hc : X.calm = true) (h : PGs X es t)
    (hn : (assignEach es X.env).length = n := by rfl) (hst : (assignEach es X.env).findIdx? (·.1) = none := by rfl) : PG X (.Tuple es k pos) (gTup X.K n t) := by
  intro pins s σ H v u Q I r hw
  obtain ⟨a, xs, e1, hq, hl, hw⟩ := hw
  subst e1
  cases r
  obtain ⟨its, rv, ht, hz⟩ := I.tuple hq
  refine assign_Tuple_tuple (I.ok.hd hc) ht (by simp [hn, ← hl, rv.length]) hst fun h' hx => ?_
  have I1 : Inv X pins σ H { s with heap := h' } := I.kept (t' := s.toks) fun b o e => hx b o (Nat.ne_of_lt (Heap.lt_size e)) e
  exact h pins _ σ H xs _ Q I1 (by simpa using rv) hw
/-- target = value -/
def tAsg (te : TE) (g : TG) : TS := fun D σ H => te σ H fun x H1 => g x σ H1 D.nx
/-- name = value -/
theorem ps_set {i : Nat} {x : Str} {e : Expr} {te : TE} {pos' : Pos} (hN : X.N.Nodup) (hi : X.N[i]? = some x) (hx : Loc X.env.scope x) (he : PE X e te) (hs : swapsWith e (some (.Name x pos')) pos.line X.env = pure false := by rfl) (hf : X.fn x = true ∨ X.env.scope.names.lookup x = some .local := by first | exact .inl rfl | exact .inr rfl | assumption) :
    PS X (.Assign [.Name x pos'] e pos) (tAsg te (gName i)) := by
  intro pins s σ H D I h
  refine wpAny_Assign_Name (thn (he pins s σ H _ I h) fun v s1 ⟨y, H1, I1, r1, q1⟩ => ?_) hs
  exact store_ok I1 hN hi hx r1 (fun s2 I2 => ⟨_, H1, I2, q1⟩) hf
end

/-! ### while -/

/-! ### what a loop or a comprehension walks -/
/-- at turn i: it yields x (the heap may grow), or it stops -/
structure It where
  go : Nat → Hp → Prop
  yld : Nat → Hp → V → Hp → Prop
  stop : Nat → Hp → Prop
/-- the iterator's own objects may turn: they are not the frame's, not pinned, younger than the entry (or a comprehension's own) -/
def FpOk (X : Cx) (pins : List (Addr × Obj)) (H : Hp) (b : Addr) : Prop :=
  H b = none ∧ b ≠ X.env.locals ∧ b ∉ X.fs ∧ (b ∈ X.ex ∨ X.s₀.heap.objs.size ≤ b) ∧ (∀ x c, X.env.cells.lookup x = some c → c ≠ b) ∧ ∀ p ∈ X.pn ++ pins, p.1 ≠ b
theorem Inv.fpOk {X : Cx} {pins : List (Addr × Obj)} {σ : St} {H H' : Hp} {s : Shared} {b : Addr} (I : Inv X pins σ H s) (hb : s.heap.objs.size ≤ b) (hn : H' b = none) : FpOk X pins H' b := by
  refine ⟨hn, Nat.ne_of_gt (Nat.lt_of_lt_of_le I.lt hb), I.nofs hb, .inr (Nat.le_trans I.sz hb), fun x c e z => ?_, fun p hp z => ?_⟩
  · obtain ⟨v, q⟩ := I.cell x c e
    exact absurd (Nat.lt_of_lt_of_le q.lt (by rw [z]; exact hb)) (Nat.lt_irrefl _)
  · exact absurd (Nat.lt_of_lt_of_le (Heap.lt_size (I.pin p hp).1) (by rw [z]; exact hb)) (Nat.lt_irrefl _)
structure Turn (P : Program) (w : World) (K : PySem.W.Frag) (tg : Expr) (J : It) (fp : List Addr) (it : Addr) (tn : Nat → Heap → Prop) : Prop where
  mem : it ∈ fp
  obj : ∀ i h, tn i h → ∀ b ∈ fp, ∃ o, h.get? b = some o ∧ ∀ v, o.data ≠ .cell v
  keep : ∀ i h h', tn i h → (∀ b ∈ fp, ∀ o, h.get? b = some o → h'.get? b = some o) → tn i h'
  item : ∀ (X : Cx), X.prog = P → X.w = w → X.K = K → X.calm = true → ∀ (i : Nat) (pins : List (Addr × Obj)) (s : Shared) (σ : St) (H : Hp) (E : Value → Shared → Prop), Inv X pins σ H s → (∀ b ∈ fp, FpOk X pins H b) → tn i s.heap → J.go i H →
    wpAny (model P w) X.A (pyNext (.ref it)) (fun r s1 => ∃ u, r = some u ∧
      wpAny (model P w) X.A (letOwnedTupleGo tg (.ref it) u) (fun _ s2 => ∃ x H', Inv X pins σ H' s2 ∧ RelV x u ∧ J.yld i H x H' ∧ tn (i + 1) s2.heap ∧ ∀ b ∈ fp, H' b = none) E s1) E s
  done : ∀ (X : Cx), X.prog = P → X.w = w → X.K = K → X.calm = true → ∀ (i : Nat) (pins : List (Addr × Obj)) (s : Shared) (σ : St) (H : Hp) (E : Value → Shared → Prop), Inv X pins σ H s → (∀ b ∈ fp, FpOk X pins H b) → tn i s.heap → J.stop i H →
    wpAny (model P w) X.A (pyNext (.ref it)) (fun r s1 => r = none ∧ Inv X pins σ H s1) E s
  self : ∀ (A : Around) (i : Nat) (s : Shared) (Q : Value → Shared → Prop) (E : Value → Shared → Prop), tn i s.heap → Q (.ref it) s → wpAny (model P w) A (pyIter (.ref it)) Q E s
abbrev TI := St → Hp → (It → Hp → Prop) → Prop
/-- an iterator has come -/
def PIE (X : Cx) (pins : List (Addr × Obj)) (σ : St) (tg : Expr) (R : It → Hp → Prop) (itv : Value) (s2 : Shared) : Prop :=
  ∃ (it : Addr) (fp : List Addr) (tn : Nat → Heap → Prop) (J : It) (H' : Hp), itv = .ref it ∧ Inv X pins σ H' s2 ∧ Turn X.prog X.w X.K tg J fp it tn ∧ tn 0 s2.heap ∧ (∀ b ∈ fp, FpOk X pins H' b) ∧ R J H'
def PI (X : Cx) (tg iter : Expr) (wi : TI) : Prop :=
  ∀ (pins : List (Addr × Obj)) (s : Shared) (σ : St) (H : Hp) (R : It → Hp → Prop), Inv X pins σ H s → wi σ H R →
    wpAny (model X.prog X.w) X.A (eval iter X.env) (fun v s1 => wpAny (model X.prog X.w) X.A (pyIter v) (PIE X pins σ tg R) X.xe s1) X.xe s

/-- the step ahead of the store is nothing for an iterator that keeps no tuple -/
theorem go_of {M : Model} {A : Around} {E : Value → Shared → Prop} {s : Shared} {tg : Expr} {it : Addr} {u : Value} {o : Obj} {n : String} {vs : Array Value} {Q : Unit → Shared → Prop} (ho : s.heap.get? it = some o) (hc : o.cls = .type n) (hd : o.data = .fields vs)
    (hn : ["enumerate", "zip", "dict_itemiterator", "dict_reverseitemiterator", "odict_iterator", "itertools.zip_longest", "itertools.pairwise"].contains n = false) (hQ : Q () s) : wpAny M A (letOwnedTupleGo tg (.ref it) u) Q E s := by
  unfold letOwnedTupleGo
  cases tg <;> first
    | exact wpAny_pure hQ
    | (cases u <;> first
        | exact wpAny_pure hQ
        | (refine wpAny_bind (wpAny_load ho ?_)
           rw [hc, hd]
           show wpAny M A (if (["enumerate", "zip", "dict_itemiterator", "dict_reverseitemiterator", "odict_iterator", "itertools.zip_longest", "itertools.pairwise"].contains n && vs[0]? == some (rawInt _)) = true then _ else _) Q E s
           rw [if_neg (by intro h; rw [hn, Bool.false_and] at h; cases h)]
           exact wpAny_pure hQ))

/-- the list at a, as it stands at each turn (a loop may append to it) -/
def Itl (K : PySem.W.Frag) (a : Addr) : It :=
  ⟨fun i H => ∃ xs x, SqL K H a xs ∧ xs[i]? = some x, fun i H x H' => H' = H ∧ ∀ xs, SqL K H a xs → xs[i]? = some x, fun i H => ∃ xs, SqL K H a xs ∧ xs.length ≤ i⟩
def Itt (K : PySem.W.Frag) (a : Addr) : It :=
  ⟨fun i H => ∃ xs x, SqT K H a xs ∧ xs[i]? = some x, fun i H x H' => H' = H ∧ ∀ xs, SqT K H a xs → xs[i]? = some x, fun i H => ∃ xs, SqT K H a xs ∧ xs.length ≤ i⟩
/-- lo, lo + 1, .. (n of them) -/
def Itr (lo : Int) (n : Nat) : It := ⟨fun i _ => i < n, fun i H x H' => H' = H ∧ x = .int (lo + i), fun i _ => n ≤ i⟩
theorem turn_list {P : Program} {w : World} {K : PySem.W.Frag} {tg : Expr} (a it : Addr) : Turn P w K tg (Itl K a) [it] it (fun i h => h.IsListIter it a i) where
  mem := by simp
  obj := fun i h st b hb => by
    have e : b = it := by simpa using hb
    subst e
    obtain ⟨o, e, c, d⟩ := st
    exact ⟨o, e, fun v z => by rw [d] at z; cases z⟩
  keep := fun i h h' st k => st.at fun o e => k it (by simp) o e
  item := by
    intro X hP hw hK hc i pins s σ H E I hf st hg
    subst hP hw hK
    obtain ⟨xs, x, hq, hx⟩ := hg
    obtain ⟨its, rv, p, hz⟩ := I.list hq
    obtain ⟨u, hu, ru⟩ := rv.get hx
    obtain ⟨f0, f1, f2, f3, f4, f5⟩ := hf it (by simp)
    refine wpAny_pyNext_list_item st p.isList (x := u) (by simpa using hu) fun h' st' sb => ?_
    have I1 : Inv X pins σ H { s with heap := h' } := I.turned (t' := s.toks) (fun b o hb e => (sb.2 b hb).trans e) f0 f1 f3 f4 f5
    obtain ⟨o, e, c, d⟩ := id st'
    exact ⟨u, rfl, go_of (s := { s with heap := h' }) e c d (by decide) ⟨x, H, I1, ru, ⟨rfl, fun ys hy => by rw [I.list_inj hy hq]; exact hx⟩, st', fun b hb => (hf b hb).1⟩⟩
  done := by
    intro X hP hw hK hc i pins s σ H E I hf st hg
    subst hP hw hK
    obtain ⟨xs, hq, hx⟩ := hg
    obtain ⟨its, rv, p, hz⟩ := I.list hq
    obtain ⟨f0, f1, f2, f3, f4, f5⟩ := hf it (by simp)
    have hl := rv.length
    exact wpAny_pyNext_list_end (I.ok.hd hc) st p.isList (by simp; omega) fun h' eb => ⟨rfl, I.turned (t' := s.toks) (fun b o hb e => eb b o hb e) f0 f1 f3 f4 f5⟩
  self := fun _ _ _ _ _ st h => wpAny_pyIter_listiter st h
theorem turn_tuple {P : Program} {w : World} {K : PySem.W.Frag} {tg : Expr} (a it : Addr) : Turn P w K tg (Itt K a) [it] it (fun i h => h.IsTupleIter it a i) where
  mem := by simp
  obj := fun i h st b hb => by
    have e : b = it := by simpa using hb
    subst e
    obtain ⟨o, e, c, d⟩ := st
    exact ⟨o, e, fun v z => by rw [d] at z; cases z⟩
  keep := fun i h h' st k => st.at fun o e => k it (by simp) o e
  item := by
    intro X hP hw hK hc i pins s σ H E I hf st hg
    subst hP hw hK
    obtain ⟨xs, x, hq, hx⟩ := hg
    obtain ⟨its, rv, p, hz⟩ := I.tuple hq
    obtain ⟨u, hu, ru⟩ := rv.get hx
    obtain ⟨f0, f1, f2, f3, f4, f5⟩ := hf it (by simp)
    refine wpAny_pyNext_tuple_item st (show s.heap.IsTuple a its.toArray from p) (x := u) (by simpa using hu) fun h' st' sb => ?_
    have I1 : Inv X pins σ H { s with heap := h' } := I.turned (t' := s.toks) (fun b o hb e => (sb.2 b hb).trans e) f0 f1 f3 f4 f5
    obtain ⟨o, e, c, d⟩ := id st'
    exact ⟨u, rfl, go_of (s := { s with heap := h' }) e c d (by decide) ⟨x, H, I1, ru, ⟨rfl, fun ys hy => by rw [I.tuple_inj hy hq]; exact hx⟩, st', fun b hb => (hf b hb).1⟩⟩
  done := by
    intro X hP hw hK hc i pins s σ H E I hf st hg
    subst hP hw hK
    obtain ⟨xs, hq, hx⟩ := hg
    obtain ⟨its, rv, p, hz⟩ := I.tuple hq
    obtain ⟨f0, f1, f2, f3, f4, f5⟩ := hf it (by simp)
    have hl := rv.length
    exact wpAny_pyNext_tuple_end (I.ok.hd hc) st (show s.heap.IsTuple a its.toArray from p) (by simp; omega) fun h' eb => ⟨rfl, I.turned (t' := s.toks) (fun b o hb e => eb b o hb e) f0 f1 f3 f4 f5⟩
  self := fun _ _ _ _ _ st h => wpAny_pyIter_tupleiter st h
theorem turn_range {P : Program} {w : World} {K : PySem.W.Frag} {tg : Expr} (it : Addr) (lo : Int) (n : Nat) : Turn P w K tg (Itr lo n) [it] it (fun i h => IsRangeIter h it (lo + (i : Nat) * 1) ((n : Int) - (i : Nat)) 1) where
  mem := by simp
  obj := fun i h st b hb => by
    have e : b = it := by simpa using hb
    subst e
    exact ⟨_, st, fun v z => by
      have z' : Data.fields _ = Data.cell v := z
      cases z'⟩
  keep := fun i h h' st k => k it (by simp) _ st
  item := by
    intro X hP hw hK hc i pins s σ H E I hf st hg
    subst hP hw hK
    obtain ⟨f0, f1, f2, f3, f4, f5⟩ := hf it (by simp)
    have W := Walks.range (prog := X.prog) (w := X.w) (I.ok.hd hc) it lo 1 n
    refine W.item i s _ _ hg st fun v h' tk hv st' kk => ?_
    obtain ⟨t, rfl⟩ := hv
    have I1 : Inv X pins σ H { s with heap := h', toks := tk } := I.turned (fun b o hb e => kk b o (by simpa using hb) e) f0 f1 f3 f4 f5
    refine ⟨_, rfl, go_of (s := { s with heap := h', toks := tk }) (n := "range_iterator") st' rfl rfl (by decide) ⟨.int (lo + i), H, I1, ⟨t, ?_⟩, ⟨rfl, rfl⟩, st', fun b hb => (hf b hb).1⟩⟩
    rw [Int.mul_one]
  done := by
    intro X hP hw hK hc i pins s σ H E I hf st hg
    subst hP hw hK
    obtain ⟨f0, f1, f2, f3, f4, f5⟩ := hf it (by simp)
    exact wpAny_pyNext_range_end (I.ok.hd hc) st (by have : n ≤ i := hg; omega) fun h' eb => ⟨rfl, I.turned (t' := s.toks) (fun b o hb e => eb b o hb e) f0 f1 f3 f4 f5⟩
  self := fun _ _ _ _ _ st h => wpAny_pyIter_rangeiter st h
end L2

namespace L2
open PySem PySem.Spec PyProof.Rows
section
variable {X : Cx} {tg : Expr}
/-- a range object just made, walked -/
theorem range_it {pins : List (Addr × Obj)} {σ : St} {H : Hp} {s : Shared} {R : It → Hp → Prop} {E : Value → Shared → Prop} {lo hi : Int} {t u v : Tok} {tk : Nat} (I : Inv X pins σ H s) (h1 : -(2 ^ 62) ≤ lo) (h2 : lo < 2 ^ 62) (h3 : -(2 ^ 62) ≤ hi) (h4 : hi < 2 ^ 62)
    (q : R (Itr lo (hi - lo).toNat) H) : wpAny (model X.prog X.w) X.A (pyIter (.ref s.heap.objs.size)) (PIE X pins σ tg R) E { s with heap := s.heap.push { cls := .type "range", data := .fields #[.int lo t, .int hi u, .int 1 v] }, toks := tk } := by
  refine wpAny_pyIter_range (IsRange.new ..) (small_one h1 h2 h3 h4) ?_
  have I1 : Inv X pins σ H { s with heap := s.heap.push { cls := .type "range", data := .fields #[.int lo t, .int hi u, .int 1 v] }, toks := tk } := I.kept fun b o e => Heap.get?_push_of_some _ e
  refine ⟨(s.heap.push { cls := .type "range", data := .fields #[.int lo t, .int hi u, .int 1 v] }).objs.size, [(s.heap.push { cls := .type "range", data := .fields #[.int lo t, .int hi u, .int 1 v] }).objs.size], _, _, H, rfl,
    I1.kept (t' := tk) fun b o e => Heap.get?_push_of_some _ e, turn_range _ lo (hi - lo).toNat, ?_, fun b hb => ?_, q⟩
  · have e1 : lo + ((0 : Nat) : Int) * 1 = lo := by simp
    have e2 : (((hi - lo).toNat : Nat) : Int) - ((0 : Nat) : Int) = Builtin.Range.rangeSize lo hi 1 := by rw [rangeSize_one]; split <;> omega
    show IsRangeIter _ _ (lo + ((0 : Nat) : Int) * 1) ((((hi - lo).toNat : Nat) : Int) - ((0 : Nat) : Int)) 1
    rw [e1, e2]
    exact Heap.get?_push_size _ rfl
  · have e : b = (s.heap.push { cls := .type "range", data := .fields #[.int lo t, .int hi u, .int 1 v] }).objs.size := by simpa using hb
    subst e
    exact I1.fpOk (Nat.le_refl _) (I1.hok.fresh (Nat.le_refl _))
def iRng1 (ta : TA) : TI := fun σ H R => ta σ H fun vs H1 => ∃ j : Int, vs = [.int j] ∧ -(2 ^ 62) ≤ j ∧ j < 2 ^ 62 ∧ R (Itr 0 j.toNat) H1
theorem pi_range1 {a : Expr} {ta : TA} {p pos : Pos} (hg : Gl X "range") (hm : X.mg "range" = none) (ha : PA X [a] ta) (hs : starEach [a] X.env = [(false, eval a X.env)] := by rfl) : PI X tg (.Call (.Name "range" p) [a] [] pos) (iRng1 ta) := by
  intro pins s σ H R I h
  refine Call_ (ld_blt I hg hm boot_range (PyProof.Rows.callWith_type1 (thn (ha pos pins s σ H _ I h) fun us s1 ⟨vs, H1, I1, r1, q1⟩ => ?_) hs rfl))
  obtain ⟨j, e, q1, q2, q⟩ := q1
  subst e
  cases r1 with
  | cons r rr =>
    cases rr
    obtain ⟨t, rfl⟩ := r
    exact call_range_1 (range_it I1 (by omega) (by omega) q1 q2 (by simpa using q))
/-! ### for -/
/-- W: the invariant by the turn and a measure; N: what the body is to reach -/
def tFor (wi : TI) (g : TG) (tb : TS) : TS := fun D σ H => wi σ H fun J H1 => ∃ W : Nat → Nat → St → Hp → Prop, (∃ m, W 0 m σ H1) ∧ ∀ i m σ H, W i m σ H →
  (J.stop i H ∧ D.nx σ H) ∨ (J.go i H ∧ ∃ N : St → Hp → Prop, (∀ σ' H', N σ' H' → ∃ m', m' < m ∧ W (i + 1) m' σ' H') ∧ ∀ x H', J.yld i H x H' → g x σ H' fun σ2 H2 => tb { D with nx := N, ct := N, bk := D.nx } σ2 H2)
/-- the records at fp as they stand -/
def pinsAt (fp : List Addr) (h : Heap) : List (Addr × Obj) := fp.filterMap fun b => (h.get? b).map fun o => (b, o)
theorem mem_pinsAt {fp : List Addr} {h : Heap} {b : Addr} {o : Obj} (hb : b ∈ fp) (e : h.get? b = some o) : (b, o) ∈ pinsAt fp h := List.mem_filterMap.mpr ⟨b, hb, by rw [e]; rfl⟩
theorem of_pinsAt {fp : List Addr} {h : Heap} {p : Addr × Obj} (hp : p ∈ pinsAt fp h) : p.1 ∈ fp ∧ h.get? p.1 = some p.2 := by
  obtain ⟨b, hb, e⟩ := List.mem_filterMap.mp hp
  cases q : h.get? b with
  | none => rw [q] at e; cases e
  | some o =>
    rw [q] at e
    have e' : (b, o) = p := Option.some.inj e
    subst e'
    exact ⟨hb, q⟩
theorem Inv.pinned {pins : List (Addr × Obj)} {σ : St} {H : Hp} {s : Shared} {fp : List Addr} (I : Inv X pins σ H s) (hf : ∀ b ∈ fp, FpOk X pins H b) (ho : ∀ b ∈ fp, ∃ o, s.heap.get? b = some o ∧ ∀ v, o.data ≠ .cell v) : Inv X (pins ++ pinsAt fp s.heap) σ H s :=
  I.pins_of fun p hp => (List.mem_append.mp hp).elim (fun z => I.pin p (List.mem_append_right _ z)) fun z => by
    obtain ⟨hb, e⟩ := of_pinsAt z
    obtain ⟨f0, f1, f2, _⟩ := hf p.1 hb
    obtain ⟨o, e', d⟩ := ho p.1 hb
    rw [e] at e'; cases e'
    exact ⟨e, f0, f1, f2, d⟩
theorem Inv.unpinned {pins pl : List (Addr × Obj)} {σ : St} {H : Hp} {s : Shared} (I : Inv X (pins ++ pl) σ H s) : Inv X pins σ H s := I.pins_of fun p hp => I.pin p (List.mem_append_right _ (List.mem_append_left _ hp))
theorem ps_for {iter : Expr} {body : List Stmt} {wi : TI} {g : TG} {tb : TS} {pos : Pos} (hp : PassesOwn (model X.prog X.w) X.A X.env X.xe) (hc : X.calm = true) (hi : PI X tg iter wi) (hg : PG X tg g) (hb : PSs X body tb)
    (hs : ∀ x, foldedSetIterable iter X.env x = pure x := by intro _; rfl) : PS X (.For tg iter body [] pos) (tFor wi g tb) := by
  intro pins s σ H D I h
  refine wpAny_For (thn (hi pins s σ H _ I h) fun v s1 h1 => thn h1 fun itv s2 h2 => ?_) hs
  obtain ⟨it, fp, tn, J, H2, e, I2, T, st2, f2, W, ⟨m0, w0⟩, turn⟩ := h2
  subst e
  -- what stays true of the iterator's objects through the loop
  have stat : ∀ {H' : Hp}, (∀ b ∈ fp, H' b = none) → ∀ b ∈ fp, FpOk X pins H' b := fun hn b hb => ⟨hn b hb, (f2 b hb).2⟩
  refine codeAny_forLoop_any (fun n s' => ∃ i σ' H', Inv X pins σ' H' s' ∧ tn i s'.heap ∧ (∀ b ∈ fp, H' b = none) ∧ W i n σ' H') ?_ m0 ⟨0, σ, H2, I2, st2, fun b hb => (f2 b hb).1, w0⟩
  rintro n s3 ⟨i, σ3, H3, I3, st3, fr3, w3⟩
  rcases turn i n σ3 H3 w3 with ⟨stop, qn⟩ | ⟨go, N, hN, step⟩
  · refine wpAny_passesOwn hp (thn (T.done X rfl rfl rfl hc i pins s3 σ3 H3 X.xe I3 (stat fr3) st3 stop) fun r s4 ⟨hr, I4⟩ => ?_)
    subst hr
    exact wpAny_execs_nil ⟨σ3, H3, I4, qn⟩
  · refine wpAny_passesOwn hp (thn (T.item X rfl rfl rfl hc i pins s3 σ3 H3 X.xe I3 (stat fr3) st3 go) fun r s4 ⟨u, hr, h4⟩ => ?_)
    subst hr
    refine wpAny_passesOwn hp (thn h4 fun _ s5 ⟨x, H5, I5, r5, y5, st5, fr5⟩ => ?_)
    have I5' := I5.pinned (stat fr5) (T.obj _ _ st5)
    refine wpAny_passesOwn hp (thn (hg _ s5 σ3 H5 x u _ I5' r5 (step x H5 y5)) fun _ s6 ⟨σ6, H6, I6, q6⟩ => ?_)
    refine wpAny_passesOwn hp (thn (hb _ s6 σ6 H6 _ I6 q6) fun f s7 q7 => ?_)
    have again : ∀ {σ7 : St} {H7 : Hp}, Inv X (pins ++ pinsAt fp s5.heap) σ7 H7 s7 → N σ7 H7 → ∃ m, m < n ∧ ∃ i σ' H', Inv X pins σ' H' s7 ∧ tn i s7.heap ∧ (∀ b ∈ fp, H' b = none) ∧ W i m σ' H' := fun {σ7 H7} I7 n7 => by
      obtain ⟨m', hm, w7⟩ := hN σ7 H7 n7
      refine ⟨m', hm, i + 1, σ7, H7, I7.unpinned, T.keep _ _ _ st5 fun b hb o e => (I7.pin (b, o) (List.mem_append_right _ (List.mem_append_right _ (mem_pinsAt hb e)))).1, fun b hb => ?_, w7⟩
      obtain ⟨o, e, d⟩ := T.obj _ _ st5 b hb
      exact (I7.pin (b, o) (List.mem_append_right _ (List.mem_append_right _ (mem_pinsAt hb e)))).2.1
    cases f with
    | next => obtain ⟨σ7, H7, I7, n7⟩ := q7; exact again I7 n7
    | cont => obtain ⟨σ7, H7, I7, n7⟩ := q7; exact again I7 n7
    | brk => obtain ⟨σ7, H7, I7, q7⟩ := q7; exact ⟨σ7, H7, I7.unpinned, q7⟩
    | ret v => obtain ⟨x7, σ7, H7, I7, r7, q7⟩ := q7; exact ⟨x7, σ7, H7, I7.unpinned, r7, q7⟩
end

/-! ### the forms one uses -/
end L2

namespace L2
open PySem PySem.Spec PyProof.Rows

abbrev R2 := V → V → Hp → VK → Prop
/-- a two-place operation on values: f is binaryOp op, inplaceOp op or compareOp op -/
def OpR (X : Cx) (f : Value → Value → Sem Value) (r : R2) : Prop :=
  ∀ (pins : List (Addr × Obj)) (s : Shared) (σ : St) (H : Hp) (x y : V) (v u : Value) (Q : VK), Inv X pins σ H s → RelV x v → RelV y u → r x y H Q →
    wpAny (model X.prog X.w) X.A (f v u) (EP X pins σ Q) X.xe s
/-- a call of a value that is known (a builtin, a type) with values -/
def CallR (X : Cx) (f : Value) (r : List V → Hp → VK → Prop) : Prop :=
  ∀ (pins : List (Addr × Obj)) (s : Shared) (σ : St) (H : Hp) (xs : List V) (us : List Value) (Q : VK), Inv X pins σ H s → Vals xs us → r xs H Q →
    wpAny (model X.prog X.w) X.A (call f us) (EP X pins σ Q) X.xe s
/-- a value's truth -/
def TruR (X : Cx) (r : V → Hp → (Bool → Hp → Prop) → Prop) : Prop :=
  ∀ (pins : List (Addr × Obj)) (s : Shared) (σ : St) (H : Hp) (x : V) (v : Value) (Q : Bool → Hp → Prop), Inv X pins σ H s → RelV x v → r x H Q →
    wpAny (model X.prog X.w) X.A (truthy v) (TP X pins σ Q) X.xe s

def tOp (r : R2) (ta tb : TE) : TE := fun σ H Q => ta σ H fun x H1 => tb σ H1 fun y H2 => r x y H2 Q
/-- ints in, under C, and a value out -/
def rI (C : Int → Int → Prop) (g : Int → Int → V) : R2 := fun x y H Q => ∃ i j, x = .int i ∧ y = .int j ∧ C i j ∧ Q (g i j) H
def rI0 (g : Int → Int → V) : R2 := fun x y H Q => ∃ i j, x = .int i ∧ y = .int j ∧ Q (g i j) H
section
variable {X : Cx} {a b c : Expr} {ta tb tc : TE} {pos : Pos}

theorem binT (ha : PE X a ta) (hb : PE X b tb) {pins : List (Addr × Obj)} {s : Shared} {σ : St} {H : Hp} {R : V → V → Hp → Prop} (I : Inv X pins σ H s)
    (h : ta σ H fun x H1 => tb σ H1 fun y H2 => R x y H2) {Q : Value → Shared → Prop} {f : Value → Value → Sem Value}
    (hf : ∀ v u s2 x y H2, Inv X pins σ H2 s2 → RelV x v → RelV y u → R x y H2 → wpAny (model X.prog X.w) X.A (f v u) Q X.xe s2) :
    wpAny (model X.prog X.w) X.A (eval a X.env) (fun v s₁ => wpAny (model X.prog X.w) X.A (eval b X.env) (fun u s₂ => wpAny (model X.prog X.w) X.A (f v u) Q X.xe s₂) X.xe s₁) X.xe s := by
  refine thn (ha pins s σ H _ I h) fun v s1 ⟨x, H1, I1, r1, q1⟩ => ?_
  refine thn (hb pins s1 σ H1 _ I1 q1) fun u s2 ⟨y, H2, I2, r2, q2⟩ => ?_
  exact hf v u s2 x y H2 I2 r1 r2 q2

theorem pe_op {op : Operator} {r : R2} (ho : OpR X (binaryOp op) r) (ha : PE X a ta) (hb : PE X b tb) : PE X (.BinOp a op b pos) (tOp r ta tb) := by
  intro pins s σ H Q I h
  exact wpAny_BinOp (binT ha hb I h fun v u s2 x y H2 I2 rx ry q => ho pins s2 σ H2 x y v u Q I2 rx ry q)
/-! ### ints -/
theorem opI {f : Value → Value → Sem Value} {C : Int → Int → Prop} {g : Int → Int → Int}
    (rule : ∀ (i j : Int) (t u : Tok) (s : Shared) (Q : Value → Shared → Prop) (E : Value → Shared → Prop), C i j → Q (.int (g i j) s.toks) { s with toks := s.toks + 1 } → wpAny (model X.prog X.w) X.A (f (.int i t) (.int j u)) Q E s) :
    OpR X f (rI C fun i j => .int (g i j)) := by
  intro pins s σ H x y v u Q I rx ry h
  obtain ⟨i, j, rfl, rfl, hc, q⟩ := h
  obtain ⟨t, rfl⟩ := rx
  obtain ⟨t', rfl⟩ := ry
  exact rule i j t t' s _ _ hc ⟨.int (g i j), H, I.tok _, ⟨_, rfl⟩, q⟩
theorem opI0 {f : Value → Value → Sem Value} {g : Int → Int → Int}
    (rule : ∀ (i j : Int) (t u : Tok) (s : Shared) (Q : Value → Shared → Prop) (E : Value → Shared → Prop), Q (.int (g i j) s.toks) { s with toks := s.toks + 1 } → wpAny (model X.prog X.w) X.A (f (.int i t) (.int j u)) Q E s) :
    OpR X f (rI0 fun i j => .int (g i j)) := by
  intro pins s σ H x y v u Q I rx ry h
  obtain ⟨i, j, rfl, rfl, q⟩ := h
  obtain ⟨t, rfl⟩ := rx
  obtain ⟨t', rfl⟩ := ry
  exact rule i j t t' s _ _ ⟨.int (g i j), H, I.tok _, ⟨_, rfl⟩, q⟩
theorem opB0 {f : Value → Value → Sem Value} {g : Int → Int → Bool}
    (rule : ∀ (i j : Int) (t u : Tok) (s : Shared) (Q : Value → Shared → Prop) (E : Value → Shared → Prop), Q (.bool (g i j)) s → wpAny (model X.prog X.w) X.A (f (.int i t) (.int j u)) Q E s) :
    OpR X f (rI0 fun i j => .bl (g i j)) := by
  intro pins s σ H x y v u Q I rx ry h
  obtain ⟨i, j, rfl, rfl, q⟩ := h
  obtain ⟨t, rfl⟩ := rx
  obtain ⟨t', rfl⟩ := ry
  exact rule i j t t' s _ _ ⟨.bl (g i j), H, I, rfl, q⟩

def CPow (i j : Int) : Prop := 0 ≤ j ∧ j ≤ 1000000 ∧ i.natAbs < 2 ^ 64
def CMul (i j : Int) : Prop := (-(2 ^ 64) < i ∧ i < 2 ^ 64) ∨ (-(2 ^ 64) < j ∧ j < 2 ^ 64)
theorem CMul.ok {i j : Int} (h : CMul i j) : IntMulOk i j := by
  rcases h with ⟨h1, h2⟩ | ⟨h1, h2⟩
  · exact .of_left (intBits_le_64 h1 h2)
  · exact .of_right (intBits_le_64 h1 h2)
theorem two_pow_nn (k : Nat) : (0 : Int) ≤ 2 ^ k := by
  rw [two_pow_cast]
  exact Int.natCast_nonneg _

theorem op_add : OpR X (binaryOp .Add) (rI0 fun i j => .int (i + j)) := opI0 fun _ _ _ _ _ _ _ q => add_int q
theorem op_sub : OpR X (binaryOp .Sub) (rI0 fun i j => .int (i - j)) := opI0 fun _ _ _ _ _ _ _ q => sub_int q
theorem op_mul : OpR X (binaryOp .Mult) (rI CMul fun i j => .int (i * j)) := opI fun _ _ _ _ _ _ _ hc q => mul_int q hc.ok
/-- % by a positive divisor of any size -/
theorem op_mod : OpR X (binaryOp .Mod) (rI (fun _ j => 0 < j) fun i j => .int (i % j)) := opI fun i j _ _ _ _ _ hc q => by
  have h1 : (0 : Int) < j := hc
  exact mod_int' (by omega) (by rw [Int.fmod_eq_emod_of_nonneg i (by omega)]; exact q)
theorem op_shl : OpR X (binaryOp .LShift) (rI CPow fun i j => .int (i * 2 ^ j.toNat)) := opI fun _ _ _ _ _ _ _ hc q => lshift_int_small hc.1 hc.2.1 hc.2.2 q
theorem op_shr : OpR X (binaryOp .RShift) (rI (fun _ j => 0 ≤ j) fun i j => .int (i / 2 ^ j.toNat)) := opI fun i j _ _ _ _ _ hc q =>
  rshift_int hc (by rw [Int.fdiv_eq_ediv_of_nonneg i (two_pow_nn _)]; exact q)
theorem op_and : OpR X (binaryOp .BitAnd) (rI0 fun i j => .int (Builtin.bitAnd i j)) := opI0 fun _ _ _ _ _ _ _ q => and_int q
/-! ### bools among ints: n += (a < b) -/
end

/-! ### comparisons -/
/-- the scalars that == tells apart as data does -/
def scal : V → V → Bool
  | .non, .non => true | .non, .int _ => true | .int _, .non => true | .non, .bl _ => true | .bl _, .non => true | .non, .str _ => true | .str _, .non => true
  | .int _, .int _ => true | .bl _, .bl _ => true | .str _, .str _ => true | .byt _, .byt _ => true
  | .int _, .str _ => true | .str _, .int _ => true | .bl _, .str _ => true | .str _, .bl _ => true
  | _, _ => false
def rEq : R2 := fun x y H Q => scal x y = true ∧ Q (.bl (decide (x = y))) H
def rNe : R2 := fun x y H Q => scal x y = true ∧ Q (.bl (!decide (x = y))) H

theorem dec_int {i j : Int} : decide (V.int i = V.int j) = (i == j) := by
  rw [Bool.eq_iff_iff]
  simp
theorem dec_bl {i j : Bool} : decide (V.bl i = V.bl j) = (i == j) := by
  rw [Bool.eq_iff_iff]
  simp
theorem dec_str {i j : Str} : decide (V.str i = V.str j) = (i == j) := by
  rw [Bool.eq_iff_iff]
  simp
theorem dec_byt {i j : Array UInt8} : decide (V.byt i = V.byt j) = (i.toList == j.toList) := by
  rw [Bool.eq_iff_iff]
  cases i
  cases j
  simp

section
variable {X : Cx} {a b c : Expr} {ta tb tc : TE} {pos : Pos}
theorem fin_bl {pins : List (Addr × Obj)} {σ : St} {H : Hp} {s : Shared} {Q : VK} {k k' : Bool} (I : Inv X pins σ H s) (q : Q (.bl k) H) (e : k = k') : EP X pins σ Q (.bool k') s := by
  subst e
  exact ⟨.bl k, H, I, rfl, q⟩
theorem op_eq : OpR X (compareOp .Eq) rEq := by
  intro pins s σ H x y v u Q I rx ry h
  obtain ⟨hs, q⟩ := h
  cases x with
  | non =>
    cases rx
    cases y with
    | non => cases ry; exact PySem.EqNone.eq_none_none (fin_bl I q (by simp))
    | bl j => cases ry; exact PySem.EqNone.eq_none_bool (fin_bl I q (by simp))
    | int j => obtain ⟨t', rfl⟩ := ry; exact PySem.EqNone.eq_none_int (fin_bl I q (by simp))
    | str j => obtain ⟨t', rfl⟩ := ry; exact PySem.EqNone.eq_none_str (fin_bl I q (by simp))
    | _ => exact absurd (show false = true from hs) Bool.false_ne_true
  | bl i =>
    cases rx
    cases y with
    | non => cases ry; exact PySem.EqNone.eq_bool_none (fin_bl I q (by simp))
    | bl j => cases ry; exact eq_bool (fin_bl I q dec_bl)
    | str j => obtain ⟨t', rfl⟩ := ry; exact PySem.EqMixed.eq_bool_str (fin_bl I q (by simp))
    | _ => exact absurd (show false = true from hs) Bool.false_ne_true
  | int i =>
    obtain ⟨t, rfl⟩ := rx
    cases y with
    | non => cases ry; exact PySem.EqNone.eq_int_none (fin_bl I q (by simp))
    | int j => obtain ⟨t', rfl⟩ := ry; exact eq_int (fin_bl I q dec_int)
    | str j => obtain ⟨t', rfl⟩ := ry; exact PySem.EqMixed.eq_int_str (fin_bl I q (by simp))
    | _ => exact absurd (show false = true from hs) Bool.false_ne_true
  | str i =>
    obtain ⟨t, rfl⟩ := rx
    cases y with
    | non => cases ry; exact PySem.EqNone.eq_str_none (fin_bl I q (by simp))
    | bl j => cases ry; exact PySem.EqMixed.eq_str_bool (fin_bl I q (by simp))
    | int j => obtain ⟨t', rfl⟩ := ry; exact PySem.EqMixed.eq_str_int (fin_bl I q (by simp))
    | str j => obtain ⟨t', rfl⟩ := ry; exact eq_str (fin_bl I q dec_str)
    | _ => exact absurd (show false = true from hs) Bool.false_ne_true
  | byt i =>
    obtain ⟨t, rfl⟩ := rx
    cases y with
    | byt j => obtain ⟨t', rfl⟩ := ry; exact PySem.W.eq_bytes (fin_bl I q dec_byt)
    | _ => exact absurd (show false = true from hs) Bool.false_ne_true
  | _ => cases y <;> exact absurd (show false = true from hs) Bool.false_ne_true
theorem op_ne : OpR X (compareOp .NotEq) rNe := by
  intro pins s σ H x y v u Q I rx ry h
  obtain ⟨hs, q⟩ := h
  cases x with
  | non =>
    cases rx
    cases y with
    | non => cases ry; exact PySem.EqNone.ne_none_none (fin_bl I q (by simp))
    | bl j => cases ry; exact PySem.EqNone.ne_none_bool (fin_bl I q (by simp))
    | int j => obtain ⟨t', rfl⟩ := ry; exact PySem.EqNone.ne_none_int (fin_bl I q (by simp))
    | str j => obtain ⟨t', rfl⟩ := ry; exact PySem.EqNone.ne_none_str (fin_bl I q (by simp))
    | _ => exact absurd (show false = true from hs) Bool.false_ne_true
  | bl i =>
    cases rx
    cases y with
    | non => cases ry; exact PySem.EqNone.ne_bool_none (fin_bl I q (by simp))
    | bl j => cases ry; exact ne_bool (fin_bl I q (congrArg not dec_bl))
    | str j => obtain ⟨t', rfl⟩ := ry; exact PySem.EqMixed.ne_bool_str (fin_bl I q (by simp))
    | _ => exact absurd (show false = true from hs) Bool.false_ne_true
  | int i =>
    obtain ⟨t, rfl⟩ := rx
    cases y with
    | non => cases ry; exact PySem.EqNone.ne_int_none (fin_bl I q (by simp))
    | int j => obtain ⟨t', rfl⟩ := ry; exact ne_int (fin_bl I q (congrArg not dec_int))
    | str j => obtain ⟨t', rfl⟩ := ry; exact PySem.EqMixed.ne_int_str (fin_bl I q (by simp))
    | _ => exact absurd (show false = true from hs) Bool.false_ne_true
  | str i =>
    obtain ⟨t, rfl⟩ := rx
    cases y with
    | non => cases ry; exact PySem.EqNone.ne_str_none (fin_bl I q (by simp))
    | bl j => cases ry; exact PySem.EqMixed.ne_str_bool (fin_bl I q (by simp))
    | int j => obtain ⟨t', rfl⟩ := ry; exact PySem.EqMixed.ne_str_int (fin_bl I q (by simp))
    | str j => obtain ⟨t', rfl⟩ := ry; exact ne_str (fin_bl I q (congrArg not dec_str))
    | _ => exact absurd (show false = true from hs) Bool.false_ne_true
  | byt i =>
    obtain ⟨t, rfl⟩ := rx
    cases y with
    | byt j => obtain ⟨t', rfl⟩ := ry; exact PySem.W.ne_bytes (fin_bl I q (congrArg not dec_byt))
    | _ => exact absurd (show false = true from hs) Bool.false_ne_true
  | _ => cases y <;> exact absurd (show false = true from hs) Bool.false_ne_true

theorem op_lt : OpR X (compareOp .Lt) (rI0 fun i j => .bl (decide (i < j))) := opB0 fun _ _ _ _ _ _ _ q => lt_int q
theorem op_ge : OpR X (compareOp .GtE) (rI0 fun i j => .bl (decide (j ≤ i))) := opB0 fun _ _ _ _ _ _ _ q => ge_int q
/-- two rules for one operation: by cases -/
theorem OpR.or {f : Value → Value → Sem Value} {r r' : R2} (h : OpR X f r) (h' : OpR X f r') : OpR X f (fun x y H Q => r x y H Q ∨ r' x y H Q) := by
  intro pins s σ H x y v u Q I rx ry q
  rcases q with q | q
  · exact h pins s σ H x y v u Q I rx ry q
  · exact h' pins s σ H x y v u Q I rx ry q

theorem nomark (b : Expr) {op : CmpOp} (h : op ≠ .In := by decide) (h2 : op ≠ .NotIn := by decide) : behindInMarks op b = false := by
  have e1 : (op == CmpOp.In) = false := by cases op <;> first | rfl | exact absurd rfl h
  have e2 : (op == CmpOp.NotIn) = false := by cases op <;> first | rfl | exact absurd rfl h2
  cases b <;> simp [behindInMarks, e1, e2]
/-- a comparison as a value; hm: nomark b, or (for in, not in) by with_unfolding_all rfl -/
theorem pe_cmpR {op : CmpOp} {r : R2} (ho : OpR X (compareOp op) r) (ha : PE X a ta) (hb : PE X b tb) (hm : behindInMarks op b = false) : PE X (.Compare a [op] [b] pos) (tOp r ta tb) := by
  intro pins s σ H Q I h
  exact wpAny_Compare1 (binT ha hb I h fun v u s2 x y H2 I2 rx ry q => ho pins s2 σ H2 x y v u Q I2 rx ry q) hm
/-- a reading of a value as a test -/
def tTest (t : TE) : TT := fun σ H Q => t σ H fun x H' => ∃ k, x = .bl k ∧ Q k H'
theorem pt_cmpR {op : CmpOp} {r : R2} (ho : OpR X (compareOp op) r) (ha : PE X a ta) (hb : PE X b tb) (hm : behindInMarks op b = false) : PT X (.Compare a [op] [b] pos) (tTest (tOp r ta tb)) := by
  intro pins s σ H Q I h
  refine wpAny_isTrue_Compare1 (thn (ha pins s σ H _ I h) fun v s1 ⟨x, H1, I1, r1, q1⟩ => thn (hb pins s1 σ H1 _ I1 q1) fun u s2 ⟨y, H2, I2, r2, q2⟩ =>
    thn (ho pins s2 σ H2 x y v u _ I2 r1 r2 q2) fun c s3 ⟨z, H3, I3, r3, k, e, q3⟩ => ?_) hm
  subst e
  cases r3
  exact wpAny_truthy_bool ⟨H3, I3, q3⟩
/-! ### truth -/
/-- a value's truth by the abstract heap -/
def TruV (K : PySem.W.Frag) (x : V) (H : Hp) (k : Bool) : Prop :=
  match x with
  | .non => k = false
  | .bl b => k = b
  | .int i => k = (i != 0)
  | .str y => y.length ≤ sizeLine ∧ k = ((y.length : Int) != 0)
  | .byt y => y.size ≤ sizeLine ∧ k = ((y.size : Int) != 0)
  | .ref p => (∃ xs, SqL K H p xs ∧ k = !xs.isEmpty) ∨ (∃ xs, SqT K H p xs ∧ k = !xs.isEmpty) ∨ ∃ kvs, H p = some (.dK kvs) ∧ k = !kvs.isEmpty
  | _ => False
theorem isEmpty_kv {κ : Type} {kvs : List (κ × V)} {vs : List (κ × Value)} (r : KV kvs vs) : (!vs.isEmpty) = !kvs.isEmpty := by
  cases r <;> rfl
theorem isEmpty_of {xs : List V} {its : List Value} (r : Vals xs its) : (!its.toArray.isEmpty) = !xs.isEmpty := by
  cases r <;> simp
theorem line63 : (sizeLine : Nat) < 2 ^ 63 := by rw [sizeLine_eq]; decide
theorem tru_ok : TruR X (fun x H Q => ∃ k, TruV X.K x H k ∧ Q k H) := by
  intro pins s σ H x v Q I rx h
  obtain ⟨k, e, q⟩ := h
  have hl := line63
  have hs : sizeLine = 16777216 := sizeLine_eq
  cases x with
  | non =>
    cases rx
    have e' : k = false := e
    subst e'
    exact truthy_none ⟨H, I, q⟩
  | bl b =>
    cases rx
    have e' : k = b := e
    subst e'
    exact wpAny_truthy_bool ⟨H, I, q⟩
  | int i =>
    obtain ⟨t, rfl⟩ := rx
    have e' : k = (i != 0) := e
    subst e'
    exact PySem.P.truthy_int ⟨H, I, q⟩
  | str y =>
    obtain ⟨t, rfl⟩ := rx
    obtain ⟨hy, e'⟩ : y.length ≤ sizeLine ∧ k = ((y.length : Int) != 0) := e
    subst e'
    exact PySem.P.truthy_str (by omega) ⟨H, I.tok _, q⟩
  | byt y =>
    obtain ⟨t, rfl⟩ := rx
    obtain ⟨hy, e'⟩ : y.size ≤ sizeLine ∧ k = ((y.size : Int) != 0) := e
    subst e'
    exact PySem.W.truthy_bytes (by omega) ⟨H, I.tok _, q⟩
  | ref p =>
    cases rx
    have e' : (∃ xs, SqL X.K H p xs ∧ k = !xs.isEmpty) ∨ (∃ xs, SqT X.K H p xs ∧ k = !xs.isEmpty) ∨ ∃ kvs, H p = some (.dK kvs) ∧ k = !kvs.isEmpty := e
    rcases e' with ⟨xs, hx, e'⟩ | ⟨xs, hx, e'⟩ | ⟨kvs, hx, e'⟩
    · subst e'
      obtain ⟨its, r, pl, hz⟩ := I.list hx
      have hlen := r.length
      exact wpAny_truthy_list pl.isList (by simp only [List.size_toArray]; omega) ⟨H, I.tok _, by rw [isEmpty_of r]; exact q⟩
    · subst e'
      obtain ⟨its, r, pl, hz⟩ := I.tuple hx
      have hlen := r.length
      exact truthy_tuple pl (by simp only [List.size_toArray]; omega) ⟨H, I.tok _, by rw [isEmpty_of r]; exact q⟩
    · subst e'
      obtain ⟨hz, hS, vs, r, m⟩ : kvs.length ≤ sizeLine ∧ (p == sysModules) = false ∧ ∃ vs, KV kvs vs ∧ s.heap.DictOf (mixKind X.prog X.w) p vs := I.hok p _ hx
      have hlen : kvs.length = vs.length := Paired.length r
      exact wpAny_truthy_dict hS m (by omega) ⟨H, I.tok _, by rw [isEmpty_kv r]; exact q⟩
  | _ => exact (show False from e).elim
/-- any expression whose test is its value's truth (a name, a call, a subscript, a field ..: he by fun _ => rfl) -/
theorem pt_truth (ha : PE X a ta) (he : ∀ whole, isTrue a X.env whole = (do let v ← whole; standAt a.pos; holding [v] (truthy v))) :
    PT X a (fun σ H Q => ta σ H fun x H' => ∃ k, TruV X.K x H' k ∧ Q k H') := by
  intro pins s σ H Q I h
  exact isTrue_plain (thn (ha pins s σ H _ I h) fun v s1 ⟨x, H1, I1, r1, q1⟩ => tru_ok pins s1 σ H1 x v Q I1 r1 q1) (he _)

/-! ### strs and bytes -/
theorem op_add_str : OpR X (binaryOp .Add) (fun x y H Q => ∃ i j, x = .str i ∧ y = .str j ∧ i.length + j.length ≤ sizeLine ∧ Q (.str (i ++ j)) H) := by
  intro pins s σ H x y v u Q I rx ry h
  obtain ⟨i, j, rfl, rfl, hz, q⟩ := h
  obtain ⟨t, rfl⟩ := rx
  obtain ⟨t', rfl⟩ := ry
  exact add_str (fun t' tk => ⟨.str (i ++ j), H, I.tok _, ⟨_, rfl⟩, q⟩) hz
/-! ### scalar builtins, by CallR -/
theorem vals1 {x : V} {us : List Value} (r : Vals [x] us) : ∃ u, us = [u] ∧ RelV x u := by
  cases r with
  | cons r1 r2 => cases r2; exact ⟨_, rfl, r1⟩
theorem vals2 {x y : V} {us : List Value} (r : Vals [x, y] us) : ∃ u w', us = [u, w'] ∧ RelV x u ∧ RelV y w' := by
  cases r with
  | cons r1 r2 =>
    cases r2 with
    | cons r3 r4 => cases r4; exact ⟨_, _, rfl, r1, r3⟩
theorem call_max2 (hc : X.calm = true) : CallR X (.builtin "max") (fun xs H Q => ∃ i j, xs = [.int i, .int j] ∧ Q (.int (if j > i then j else i)) H) := by
  intro pins s σ H xs us Q I r h
  obtain ⟨i, j, rfl, q⟩ := h
  obtain ⟨u, w', rfl, ⟨t, rfl⟩, ⟨t', rfl⟩⟩ := vals2 r
  refine max_two_ints (I.ok.hd hc) fun h' tk k => ⟨_, H, I.kept k, ?_, q⟩
  by_cases hj : j > i
  · rw [if_pos hj, if_pos hj]; exact ⟨_, rfl⟩
  · rw [if_neg hj, if_neg hj]; exact ⟨_, rfl⟩
theorem call_min2 (hc : X.calm = true) : CallR X (.builtin "min") (fun xs H Q => ∃ i j, xs = [.int i, .int j] ∧ Q (.int (if j < i then j else i)) H) := by
  intro pins s σ H xs us Q I r h
  obtain ⟨i, j, rfl, q⟩ := h
  obtain ⟨u, w', rfl, ⟨t, rfl⟩, ⟨t', rfl⟩⟩ := vals2 r
  refine min_two_ints (I.ok.hd hc) fun h' tk k => ⟨_, H, I.kept k, ?_, q⟩
  by_cases hj : j < i
  · rw [if_pos hj, if_pos hj]; exact ⟨_, rfl⟩
  · rw [if_neg hj, if_neg hj]; exact ⟨_, rfl⟩
theorem call_int1 : CallR X (.type "int") (fun xs H Q => (∃ i, xs = [.int i] ∧ Q (.int i) H) ∨ ∃ k, xs = [.bl k] ∧ Q (.int (if k then 1 else 0)) H) := by
  intro pins s σ H xs us Q I r h
  rcases h with ⟨i, rfl, q⟩ | ⟨k, rfl, q⟩
  · obtain ⟨u, rfl, t, rfl⟩ := vals1 r
    exact call_int_int ⟨.int i, H, I, ⟨_, rfl⟩, q⟩
  · obtain ⟨u, rfl, r1⟩ := vals1 r
    cases r1
    exact call_int_bool ⟨.int (if k then 1 else 0), H, I.tok _, ⟨_, rfl⟩, q⟩
end
end L2

namespace L2
open PySem PySem.Spec PyProof.Rows

/-! ### an instance, its attributes a map -/
section
variable {prog : Program} {w : World} {A : Around} {E : Value → Shared → Prop} {s : Shared} {K : PySem.W.Frag} {x dx C f : Addr} {mA : Str → Option Value} {name : Str} {v : Value}

end

/-! ### the attributes as a list of pairs -/
theorem RelO.some_of {v : V} {o : Option Value} (r : RelO (some v) o) : ∃ u, o = some u ∧ RelV v u := by
  cases o with
  | none => exact (show False from r).elim
  | some u => exact ⟨u, rfl, r⟩

/-! ### what of the text a class must have -/
structure Cls (K : PySem.W.Frag) (C : Addr) : Prop where
  pg : PySem.W.plainGet K C Str.empty = true
  hd : PySem.W.hasDictIn K C = true
  po : PySem.W.plainOver K C = true
  sa : PySem.W.findIn K (.ref C) "__setattr__" = some (some (.builtin "object.__setattr__"))
theorem Cls.get {K : PySem.W.Frag} {C : Addr} (c : Cls K C) (f : Str) : PySem.W.plainGet K C f = true := c.pg
section
variable {X : Cx} {pins : List (Addr × Obj)} {σ : St} {H : Hp} {s : Shared} {a C dx : Addr} {fs : List (Str × V)} {f : Str} {v : V} {A : Around} {E : Value → Shared → Prop}

/-- a new instance, tracked, without attributes -/
theorem Inv.made (I : Inv X pins σ H s) : Inv X pins σ (upd (upd H s.heap.objs.size (.own (s.heap.objs.size + 1))) (s.heap.objs.size + 1) (.ins C s.heap.objs.size []))
    { s with heap := (s.heap.push PySem.W.emptyDict).push (PySem.W.instObj C s.heap.objs.size) } := by
  have e1 : (s.heap.push PySem.W.emptyDict).get? s.heap.objs.size = some PySem.W.emptyDict := Heap.get?_push_size s.heap rfl
  have e2 : ((s.heap.push PySem.W.emptyDict).push (PySem.W.instObj C s.heap.objs.size)).get? (s.heap.objs.size + 1) = some (PySem.W.instObj C s.heap.objs.size) := by
    have := Heap.get?_push_size (s.heap.push PySem.W.emptyDict) (o := PySem.W.instObj C s.heap.objs.size) rfl
    rwa [Heap.size_push] at this
  have e3 : (s.heap.push PySem.W.emptyDict).Ns s.heap.objs.size (fun _ => none) := ⟨PySem.W.emptyDict, #[], _, e1, rfl, (fun e he => absurd he (by simp)), fun _ => rfl⟩
  have I1 := I.laid (a := s.heap.objs.size) (o := .own (s.heap.objs.size + 1)) (h' := s.heap.push PySem.W.emptyDict) (t' := s.toks) (fun b u q => Heap.get?_push_of_some _ q) (Nat.le_refl _) ⟨_, e1⟩
  refine I1.laid (a := s.heap.objs.size + 1) (o := .ins C s.heap.objs.size []) (t' := s.toks) (fun b u q => Heap.get?_push_of_some _ q) (Nat.le_of_eq (Heap.size_push _ _)) ?_
  have ne : s.heap.objs.size ≠ s.heap.objs.size + 1 := Nat.ne_of_lt (Nat.lt_succ_self _)
  refine ⟨by rw [upd_ne ne, upd_same], Nat.zero_le _, ne, e2, fun _ => none, (Heap.Ns1.of_empty e3).at fun o q => Heap.get?_push_of_some _ q, fun _ => True.intro, fun y hy => absurd rfl hy⟩

end

/-! ### readings and rules -/

/-! ### isinstance -/
end L2

namespace L2
open PySem PySem.Spec PyProof.Rows

/-! ### room -/
structure Room (k : Nat) (A : Around) : Prop where
  hd : A.handled = none
  dp : A.depth + 3 * k + 5 < recursionLimit
  un : A.units + 16 * k + 200 < cLine
theorem Room.mono {j k : Nat} {A : Around} (r : Room k A) (h : j ≤ k) : Room j A := ⟨r.hd, by have := r.dp; omega, by have := r.un; omega⟩
theorem Room.deeper {k : Nat} {A : Around} (r : Room (k + 1) A) (env : Env) : Room k (A.deeper env) :=
  ⟨r.hd, by have := r.dp; show A.depth + 1 + 3 * k + 5 < _; omega, by have := r.un; show A.units + 3 + 16 * k + 200 < _; omega⟩
theorem Room.in1 {k : Nat} {A : Around} (r : Room (k + 1) A) : Room k A.in1 :=
  ⟨r.hd, by have := r.dp; show A.depth + 3 * k + 5 < _; omega, by have := r.un; show A.units + 1 + 16 * k + 200 < _; omega⟩
theorem Room.depth {k : Nat} {A : Around} (r : Room k A) : A.depth < recursionLimit := by have := r.dp; omega
theorem Room.units {k : Nat} {A : Around} (r : Room k A) : A.units + 64 < cLine := by have := r.un; omega
/-! ### argument lists and displays -/
def tNil : TA := fun _ H Q => Q [] H
def tCons (ta : TE) (tr : TA) : TA := fun σ H Q => ta σ H fun x H1 => tr σ H1 fun xs H2 => Q (x :: xs) H2
section
variable {X : Cx} {e : Expr} {es : List Expr} {te : TE} {t : TA} {pos : Pos}
theorem pa_nil : PA X [] tNil := fun _ _ _ _ H Q I h => Calls.spliced_nil ⟨[], H, I, .nil, h⟩
theorem pa_cons (ha : PE X e te) (hr : PA X es t) (hs : starEach (e :: es) X.env = (false, eval e X.env) :: starEach es X.env := by rfl) : PA X (e :: es) (tCons te t) := by
  intro pos pins s σ H Q I h
  rw [hs]
  show wpAny _ _ (spliced ((false, eval e X.env) :: backTo pos (starEach es X.env))) _ _ s
  refine Calls.spliced_cons (thn (ha pins s σ H _ I h) fun u s1 ⟨x, H1, I1, r1, q1⟩ => ?_)
  exact thn (hr pos pins s1 σ H1 _ I1 q1) fun us s2 ⟨xs, H2, I2, r2, q2⟩ => ⟨x :: xs, H2, I2, .cons r1 r2, q2⟩

/-- a tuple, a list of written items -/
def tTup (t : TA) : TE := fun σ H Q => t σ H fun xs H1 => xs.length ≤ sizeLine ∧ ∀ p, H1 p = none → Q (.ref p) (upd H1 p (.tup xs))
def tLst (t : TA) : TE := fun σ H Q => t σ H fun xs H1 => xs.length ≤ sizeLine ∧ ∀ p, H1 p = none → Q (.ref p) (upd H1 p (.lst xs))
theorem pe_tup {x1} (h : PA X es t) : PE X (.Tuple es x1 pos) (tTup t) := by
  intro pins s σ H Q I hq
  refine wpAny_Tuple_spliced (thn (h pos pins s σ H _ I hq) fun us s1 ⟨xs, H1, I1, r, z, q⟩ => ⟨by rw [← r.length]; exact z, ?_⟩)
  have hf : H1 s1.heap.objs.size = none := I1.hok.fresh (Nat.le_refl _)
  refine ⟨.ref s1.heap.objs.size, upd H1 s1.heap.objs.size (.tup xs), I1.laid (t' := s1.toks) (fun b u e => Heap.get?_push_of_some _ e) (Nat.le_refl _) ?_, rfl, q _ hf⟩
  exact ⟨z, us, r, ⟨_, Heap.get?_push_size _ rfl, rfl, ⟨_, rfl⟩, rfl⟩⟩
theorem pe_lst (h : PA X es t) : PE X (.List es pos) (tLst t) := by
  intro pins s σ H Q I hq
  refine wpAny_List_spliced (thn (h pos pins s σ H _ I hq) fun us s1 ⟨xs, H1, I1, r, z, q⟩ => ⟨by rw [← r.length]; exact z, ?_⟩)
  have hf : H1 s1.heap.objs.size = none := I1.hok.fresh (Nat.le_refl _)
  refine ⟨.ref s1.heap.objs.size, upd H1 s1.heap.objs.size (.lst xs), I1.laid (t' := s1.toks) (fun b u e => Heap.get?_push_of_some _ e) (Nat.le_refl _) ?_, rfl, q _ hf⟩
  exact ⟨z, us, 0, r, Heap.get?_push_size _ rfl⟩
end

/-! ### what a def promises -/
/-- a def's promise: the bound arguments in the parameters' order, the heap, the wanted end, the wanted exception -/
abbrev Sp := List V → Hp → VK → XK → Prop
/-- how an exception lies behind a call (file 08 gives it): the callers' frames, abstract heap and state ahead of the call, the wish, the exception, the state -/
abbrev CXT := List Env → Hp → Shared → XK → Value → Shared → Prop

/-- the state at a call -/
structure Env0 (P : Program) (w : World) (K : PySem.W.Frag) (mg : Str → Option Value) (base : Heap) (A : Around) (outer : List Env) (s : Shared) (H : Hp) : Prop where
  frames : A.frames = some outer
  mod : Mod K mg base
  bs : ∀ b o, base.get? b = some o → s.heap.get? b = some o ∧ H b = none
  bsz : base.objs.size ≤ s.heap.objs.size
  funs : s.heap.FunFrames base outer
  frf : ∀ b ∈ frs outer, H b = none
  hok : HOk P w H s.heap
  bare : AllBare s.gens
/-- a call's end -/
def CE (outer : List Env) (P : Program) (w : World) (H : Hp) (s : Shared) (Q : VK) (u : Value) (s' : Shared) : Prop :=
  ∃ v H', s'.os = s.os ∧ AllBare s'.gens ∧ Un (frs outer) [] H H' s.heap s'.heap ∧ HOk P w H' s'.heap ∧ RelV v u ∧ Q v H'
def CR (CX : CXT) (outer : List Env) (P : Program) (w : World) (H : Hp) (s : Shared) (Q : VK) (E : XK) (r : Result) (s' : Shared) : Prop :=
  match r with
  | .ok (.ret u) => CE outer P w H s Q u s'
  | .ok _ => False
  | .error e => CX outer H s E e s'
structure FnOk (P : Program) (w : World) (K : PySem.W.Frag) (mg : Str → Option Value) (base : Heap) (CX : CXT) (k : Nat) (f : Addr) (fd : FuncData) (ps : List Str) (sp : Sp) : Prop where
  len : ∀ vs H Q E, sp vs H Q E → vs.length = ps.length
  run : ∀ (A : Around) (outer : List Env) (s : Shared) (H : Hp) (args : Args) (us : List Value) (vs : List V) (Q : VK) (E : XK), Room k A → Env0 P w K mg base A outer s H → BindsTo s fd args (ps.zip us) → Vals vs us → sp vs H Q E →
    codeAny (model P w) A (.call (.ref f) args) (CR CX outer P w H s Q E) s
theorem FnOk.mono {P : Program} {w : World} {K : PySem.W.Frag} {mg : Str → Option Value} {base : Heap} {CX : CXT} {j k : Nat} {f : Addr} {fd : FuncData} {ps : List Str} {sp : Sp} (F : FnOk P w K mg base CX j f fd ps sp) (h : j ≤ k) :
    FnOk P w K mg base CX k f fd ps sp := ⟨F.len, fun A outer s H args us vs Q E hr => F.run A outer s H args us vs Q E (hr.mono h)⟩
/-- a weaker promise -/
theorem FnOk.imp {P : Program} {w : World} {K : PySem.W.Frag} {mg : Str → Option Value} {base : Heap} {CX : CXT} {k : Nat} {f : Addr} {fd : FuncData} {ps : List Str} {sp sp' : Sp} (F : FnOk P w K mg base CX k f fd ps sp)
    (h : ∀ vs H Q E, sp' vs H Q E → sp vs H Q E) : FnOk P w K mg base CX k f fd ps sp' :=
  ⟨fun vs H Q E q => F.len vs H Q E (h _ _ _ _ q), fun A outer s H args us vs Q E hr he hb hv hs => F.run A outer s H args us vs Q E hr he hb hv (h _ _ _ _ hs)⟩

theorem Env0.in1 {P : Program} {w : World} {K : PySem.W.Frag} {mg : Str → Option Value} {base : Heap} {A : Around} {outer : List Env} {s : Shared} {H : Hp} (e : Env0 P w K mg base A outer s H) :
    Env0 P w K mg base A.in1 outer s H := ⟨e.frames, e.mod, e.bs, e.bsz, e.funs, e.frf, e.hok, e.bare⟩

section
variable {X : Cx} {pins : List (Addr × Obj)} {σ : St} {H : Hp} {s s' : Shared}
/-- from a body: what a callee wants -/
theorem Inv.env0 (I : Inv X pins σ H s) : Env0 X.prog X.w X.K X.mg X.base X.A X.stack s H :=
  ⟨I.ok.frames, I.ok.mod, I.bs, Nat.le_trans I.ok.bsz I.sz, I.stack, I.stkFree, I.hok, I.bare⟩
/-- behind a call -/
theorem Inv.after {Q : VK} {u : Value} (I : Inv X pins σ H s) (h : CE X.stack X.prog X.w H s Q u s') : EP X pins σ Q u s' := by
  obtain ⟨v, H', os, bare, un, hok, r, q⟩ := h
  obtain ⟨hh, g, d, t, os'⟩ := s'
  obtain rfl : os' = s.os := os
  exact ⟨v, H', I.call (h' := hh) (g' := g) (d' := d) (t' := t) (ch := []) un hok bare (fun b z => absurd z (by simp)), r, q⟩
end

/-! ### calls -/
/-- f(..): the written arguments, then the defaults dvs; E: what is wanted of an exception -/
def tCall (sp : Sp) (dvs : List V) (E : XK) (t : TA) : TE := fun σ H Q => t σ H fun vs H1 => sp (vs ++ dvs) H1 Q E
/-- how the parameters are bound: us the positional arguments, kw the keywords' values by name, ds the defaults that fill up -/
def Binds (K : PySem.W.Frag) (fd : FuncData) (ps : List Str) (ds : List Value) : Prop :=
  ∀ (s : Shared) (us : List Value), K.In s.heap → (us ++ ds).length = ps.length → BindsTo s fd ⟨us, []⟩ (ps.zip (us ++ ds))
/-- every parameter is given -/
theorem Binds.all {K : PySem.W.Frag} {fd : FuncData} {ps : List Str} (h : ∀ us : List Value, us.length = ps.length → bindArgs fd ⟨us, []⟩ = pure (ps.zip us)) : Binds K fd ps [] := fun s us _ hl => by
  rw [List.append_nil] at hl ⊢
  exact .of_eq (h us hl)

/-- an exception of a callee reaches what this body wants of exceptions -/
def Passes (CX : CXT) (X : Cx) (E : XK) : Prop := ∀ (pins : List (Addr × Obj)) (σ : St) (H : Hp) (s : Shared) (e : Value) (s' : Shared), Inv X pins σ H s → CX X.stack H s E e s' → X.xe e s'

section
variable {X : Cx} {CX : CXT} {k : Nat} {f C : Addr} {fd : FuncData} {ps : List Str} {sp : Sp} {dvs : List V} {ds : List Value} {E : XK} {x m : Str} {p pos apos : Pos} {e o : Expr} {es : List Expr} {ta : TE} {t : TA}

/-- the callee runs -/
theorem run_fn {pins : List (Addr × Obj)} {σ : St} {H : Hp} {s : Shared} {Q : VK} {us : List Value} {vs : List V} (F : FnOk X.prog X.w X.K X.mg X.base CX k f fd ps sp) (hr : Room k X.A) (hb : Binds X.K fd ps ds) (hd : Vals dvs ds) (hx : Passes CX X E)
    (I : Inv X pins σ H s) (r : Vals vs us) (h : sp (vs ++ dvs) H Q E) : wpAny (model X.prog X.w) X.A (call (.ref f) us) (EP X pins σ Q) X.xe s := by
  have r2 : Vals (vs ++ dvs) (us ++ ds) := r.append hd
  have hl : (us ++ ds).length = ps.length := by rw [← r2.length]; exact F.len _ _ _ _ h
  refine wpAny_call (codeAny_mono (F.run X.A X.stack s H ⟨us, []⟩ (us ++ ds) (vs ++ dvs) Q E hr I.env0 (hb s us I.kIn hl) r2 h) fun r s' hq => ?_)
  cases r with
  | error e => exact hx pins σ H s e s' I hq
  | ok fl =>
    cases fl with
    | ret u => exact I.after hq
    | next => exact False.elim hq
    | brk => exact False.elim hq
    | cont => exact False.elim hq

theorem pe_call (F : FnOk X.prog X.w X.K X.mg X.base CX k f fd ps sp) (hr : Room k X.A) (hg : Gl X x) (hm : X.mg x = some (.ref f)) (hk : PySem.W.keepIn X.K (.ref f) = true) (hb : Binds X.K fd ps ds) (hd : Vals dvs ds) (hx : Passes CX X E)
    (ha : PA X (e :: es) t) (hdb : (x == ("__debug__" : Str)) = false := by decide) (he : starEach (e :: es) X.env = (false, eval e X.env) :: starEach es X.env := by rfl) (hpl : (backTo pos (starEach es X.env)).any (·.1) = false := by rfl) :
    PE X (.Call (.Name x p) (e :: es) [] pos) (tCall sp dvs E t) := by
  intro pins s σ H Q I h
  refine wpAny_Call_Name_kw (ld_glob I hg hm ?_ hdb)
  refine PySem.W.callWith_K (h₀ := X.base) I.ok.mod.kin hk (thn (ha pos pins s σ H _ I h) fun us s1 ⟨vs, H1, I1, r, q⟩ => ⟨I1.kIn, ?_⟩) he hpl
  exact run_fn F hr hb hd hx I1 r q
end

/-! ### keywords -/

/-! ### a def's body keeps its promise -/
/-- names: the parameters first -/
structure FnScope (N P : List Str) (sc : Scope) : Prop where
  kind : sc.kind = .function
  co : sc.isCoroutine = false
  gen : sc.isGenerator = false
  nd : N.Nodup
  pre : N.take P.length = P
  par : ∀ x ∈ P, sc.names.lookup x = some .local ∨ sc.names.lookup x = some .cell
  nofree : ∀ y ∈ sc.names, y.2 ≠ .free

theorem bindL_out {kindOf : Str → Option NameKind} {x : Str} : ∀ {binds : List (Str × Value)} {m : Str → Option Value}, (∀ v, (x, v) ∉ binds) → bindL kindOf binds m x = m x
  | [], _, _ => rfl
  | (n, v) :: r, m, h => by
    unfold bindL
    rw [bindL_out fun w hw => h w (List.mem_cons_of_mem _ hw)]
    split
    · have : x ≠ n := by rintro rfl; exact h v List.mem_cons_self
      simp [this]
    · rfl
theorem bindC_out {kindOf : Str → Option NameKind} {x : Str} : ∀ {binds : List (Str × Value)} {m : Str → Option Value}, (∀ v, (x, v) ∉ binds) → bindC kindOf binds m x = m x
  | [], _, _ => rfl
  | (n, v) :: r, m, h => by
    unfold bindC
    rw [bindC_out fun w hw => h w (List.mem_cons_of_mem _ hw)]
    split
    · rfl
    · have : x ≠ n := by rintro rfl; exact h v List.mem_cons_self
      simp [this]
theorem bindL_get {kindOf : Str → Option NameKind} {x : Str} {v : Value} : ∀ {P : List Str} {vs : List Value} {i : Nat} {m : Str → Option Value}, P.Nodup → P[i]? = some x → vs[i]? = some v → kindOf x = some .local →
    bindL kindOf (P.zip vs) m x = some v
  | [], _, _, _, _, h, _, _ => by simp at h
  | _ :: _, [], _, _, _, _, h, _ => by simp at h
  | p :: P, w :: vs, 0, m, nd, h1, h2, hk => by
    simp at h1 h2; subst h1; subst h2
    show bindL kindOf ((p, w) :: P.zip vs) m p = _
    unfold bindL
    rw [bindL_out fun v hv => (List.nodup_cons.mp nd).1 (List.of_mem_zip hv).1, if_pos hk]
    simp
  | p :: P, w :: vs, i + 1, m, nd, h1, h2, hk => by
    show bindL kindOf ((p, w) :: P.zip vs) m x = _
    unfold bindL
    exact bindL_get (i := i) (List.nodup_cons.mp nd).2 (by simpa using h1) (by simpa using h2) hk
theorem bindC_get {kindOf : Str → Option NameKind} {x : Str} {v : Value} : ∀ {P : List Str} {vs : List Value} {i : Nat} {m : Str → Option Value}, P.Nodup → P[i]? = some x → vs[i]? = some v → kindOf x ≠ some .local →
    bindC kindOf (P.zip vs) m x = some v
  | [], _, _, _, _, h, _, _ => by simp at h
  | _ :: _, [], _, _, _, _, h, _ => by simp at h
  | p :: P, w :: vs, 0, m, nd, h1, h2, hk => by
    simp at h1 h2; subst h1; subst h2
    show bindC kindOf ((p, w) :: P.zip vs) m p = _
    unfold bindC
    rw [bindC_out fun v hv => (List.nodup_cons.mp nd).1 (List.of_mem_zip hv).1, if_neg hk]
    simp
  | p :: P, w :: vs, i + 1, m, nd, h1, h2, hk => by
    show bindC kindOf ((p, w) :: P.zip vs) m x = _
    unfold bindC
    exact bindC_get (i := i) (List.nodup_cons.mp nd).2 (by simpa using h1) (by simpa using h2) hk

/-- the names' values at the entry -/
def start (N : List Str) (vs : List V) : St := vs.map some ++ List.replicate (N.length - vs.length) none

/-- the context of a def's body, at its entry; an exception leaves the frame, then lies as CX says -/
def cxOf (CX : CXT) (P : Program) (w : World) (K : PySem.W.Frag) (mg : Str → Option Value) (base : Heap) (N : List Str) (qual : Str) (scope : Scope) (f : Addr) (cd : Value) (A : Around) (outer : List Env) (s : Shared) (H : Hp) (E : XK) : Cx where
  prog := P
  w := w
  K := K
  mg := mg
  base := base
  A := A.deeper (envOfC qual scope s.heap.objs.size f cd)
  N := N
  s₀ := s
  H₀ := H
  env := envOfC qual scope s.heap.objs.size f cd
  outer := outer
  stack := envOfC qual scope s.heap.objs.size f cd :: outer
  ex := []
  calm := true
  fn := fun _ => true
  pn := []
  xe := fun e s' => wpAny (model P w) (A.deeper (envOfC qual scope s.heap.objs.size f cd)) (leaving (envOfC qual scope s.heap.objs.size f cd) e) (fun _ s'' => CX outer H s E e s'') (fun e' s'' => CX outer H s E e' s'') s'

theorem cell_has {sc : Scope} {n : Nat} {x : Str} (h : sc.names.lookup x = some .cell) : ∃ c, (cellsFrom n sc.names []).lookup x = some c := by
  have q := PySem.W.cellsFrom_some sc.names n [] (.inl h)
  exact Option.isSome_iff_exists.mp q

theorem inv_start {CX : CXT} {P : Program} {w : World} {K : PySem.W.Frag} {mg : Str → Option Value} {base : Heap} {N ps : List Str} {qual : Str} {scope : Scope} {f : Addr} {cd : Value} {A : Around} {outer : List Env} {s s1 : Shared} {H : Hp} {E : XK} {us : List Value} {vs : List V}
    (S : FnScope N ps scope) (hd : A.handled = none) (e0 : Env0 P w K mg base A outer s H) (hl : vs.length = ps.length) (r : Vals vs us)
    (x : InCallC s s.heap.objs.size (bindL (envOfC qual scope s.heap.objs.size f cd).kindOf (ps.zip us) fun _ => none) (cellsFrom (s.heap.objs.size + 1) scope.names []) (bindC (envOfC qual scope s.heap.objs.size f cd).kindOf (ps.zip us) fun _ => none) s1) :
    Inv (cxOf CX P w K mg base N qual scope f cd A outer s H E) [] (start N vs) H s1 := by
  have hpl : ps.length ≤ N.length := by have := congrArg List.length S.pre; rw [List.length_take] at this; omega
  obtain ⟨h1, tk, rfl, hk⟩ := x.done
  have noA : ∀ b : Addr, b ∉ (cxOf CX P w K mg base N qual scope f cd A outer s H E).ex := fun b z => absurd (show b ∈ ([] : List Addr) from z) (by simp)
  refine ⟨⟨e0.mod, S.kind, rfl, rfl, Nat.le_refl _, fun y z c h1 h2 => ?_, fun y hy => ?_, fun y c _ h => ?_, fun _ => hd, Around.frames_deeper e0.frames, .inr ⟨rfl, rfl⟩, fun b z => absurd z (noA b), e0.bs, e0.bsz, fun b _ _ => noA b, fun b z => absurd z (noA b), e0.funs, e0.frf⟩,
    rfl, e0.bare, Un.kept hk, ⟨_, x.toInCall.ns, fun i y v h1 h2 h3 => ?_⟩, fun y c h => ⟨_, x.cell y c h⟩, e0.hok.fresh (Nat.le_refl _), fun y c h => ?_, fun p hp => absurd (show p ∈ ([] : List (Addr × Obj)) from hp) (by simp), e0.hok.kept hk, ?_⟩
  · exact name_of_addr x.apart (PySem.mem_of_lookup h1) (PySem.mem_of_lookup h2)
  · have hy : scope.names.lookup y = some .cell ∨ scope.names.lookup y = some .free := hy
    rcases hy with hy | hy
    · exact cell_has hy
    · exact absurd rfl (S.nofree _ (PySem.mem_of_lookup hy))
  · exact Nat.le_of_lt (x.above y c (PySem.mem_of_lookup h))
  · have hi : i < vs.length := by
      unfold start at h2
      by_cases hi : i < vs.length
      · exact hi
      · rw [List.getElem?_append_right (by simpa using hi)] at h2
        rw [List.getElem?_replicate] at h2
        split at h2 <;> cases h2
    have ha : vs[i]? = some v := by
      unfold start at h2
      rw [List.getElem?_append_left (by simpa using hi), List.getElem?_map] at h2
      cases e : vs[i]? with
      | none => rw [e] at h2; cases h2
      | some a => rw [e] at h2; cases h2; rfl
    obtain ⟨u, hu, rv⟩ := r.get ha
    have hp : ps[i]? = some y := by
      rw [← S.pre, List.getElem?_take_of_lt (by omega)]; exact h1
    have ndP : ps.Nodup := by rw [← S.pre]; exact S.nd.sublist (List.take_sublist _ _)
    refine ⟨u, rv, ?_⟩
    rcases S.par y (List.mem_of_getElem? hp) with k | k
    · exact .inl ⟨k, bindL_get ndP hp hu k⟩
    · obtain ⟨c, e⟩ := cell_has (n := s.heap.objs.size + 1) k
      refine .inr ⟨.inl k, c, e, ?_⟩
      have q := x.cell y c e
      rw [bindC_get ndP hp hu (by show scope.names.lookup y ≠ _; rw [k]; decide)] at q
      exact q
  · exact e0.hok.fresh (Nat.le_of_lt (x.above y c (PySem.mem_of_lookup h)))
  · unfold start
    show _ = N.length
    rw [List.length_append, List.length_map, List.length_replicate]
    omega

/-- THE RULE: a def (or a method) of the text, by its body. The body's reading t is chosen for each entry; it is run at the parameters' values -/
theorem fn_of {CX : CXT} {P : Program} {w : World} {K : PySem.W.Frag} {mg : Str → Option Value} {base : Heap} {k : Nat} {f : Addr} {name qual : Str} {params : Arguments} {body : List Stmt} {scope : Scope} {dV kV doc pm cdv ct oc : Value} {an od : Option Addr}
    {osl : Array (Option Value)} {N ps : List Str} {sp : Sp} (lk : K.lookup f = some ⟨oc, od, .func (PySem.W.fnOf name qual params body scope dV kV doc pm an cdv ct), osl⟩) (hcd : PySem.W.codeIn K cdv qual = true) (S : FnScope N ps scope)
    (len : ∀ vs H Q E, sp vs H Q E → vs.length = ps.length)
    (hbody : ∀ (A : Around) (outer : List Env) (s : Shared) (H : Hp) (vs : List V) (Q : VK) (E : XK), Room k (A.deeper (envOfC qual scope s.heap.objs.size f cdv)) → sp vs H Q E →
      ∃ t, PSs (cxOf CX P w K mg base N qual scope f cdv A outer s H E) body t ∧ t { nx := fun _ H' => Q .non H', rt := Q } (start N vs) H) :
    FnOk P w K mg base CX (k + 1) f (PySem.W.fnOf name qual params body scope dV kV doc pm an cdv ct) ps sp := by
  refine ⟨len, fun A outer s H args us vs Q E hr e0 hb r hsp => ?_⟩
  have hl := len _ _ _ _ hsp
  have KX : K.In s.heap := e0.mod.kin.keeps fun b o e => (e0.bs b o e).1
  have lim : s.heap.NoLimit := e0.mod.nolimit.keeps fun b o e => (e0.bs b o e).1
  have hkind : ∀ y ∈ ps.zip us, scope.names.lookup y.1 = some .local ∨ (scope.names.lookup y.1 = some .cell ∧ ((cellsFrom (s.heap.objs.size + 1) scope.names []).lookup y.1).isSome = true) := fun ⟨n, v⟩ hy => by
    rcases S.par n (List.of_mem_zip hy).1 with q | q
    · exact .inl q
    · exact .inr ⟨q, PySem.W.cellsFrom_some _ _ _ (.inl q)⟩
  refine codeAny_call_function hr.depth (KX _ _ lk) rfl S.co S.gen rfl (PySem.W.codeRec_of KX hcd) (hb _ _ _ _ ?_)
  refine wpAny_newFunctionEnv_cells S.kind hkind fun env he s1 x => ?_
  subst he
  refine ⟨lim.keeps x.toInCall.keep, codeAny_func ?_⟩
  obtain ⟨t, ht, hq⟩ := hbody A outer s H vs Q E (hr.deeper _) hsp
  have I : Inv (cxOf CX P w K mg base N qual scope f cdv A outer s H E) [] (start N vs) H s1 := inv_start S hr.hd e0 hl r x
  refine wpAny_mono (ht [] s1 (start N vs) H _ I hq) (fun fl s' hs => ?_) fun e s' hs => hs
  have fin : ∀ {σ' : St} {H' : Hp} {v : V} {u : Value}, Inv (cxOf CX P w K mg base N qual scope f cdv A outer s H E) [] σ' H' s' → RelV v u → Q v H' → CE outer P w H s Q u s' :=
    fun {σ' H' v u} J rv q => ⟨v, H', J.os, J.bare, J.base, J.hok, rv, q⟩
  cases fl with
  | ret u =>
    obtain ⟨v, σ', H', J, rv, q⟩ := hs
    exact fin J rv q
  | next =>
    obtain ⟨σ', H', J, q⟩ := hs
    exact fin (v := V.non) (u := Value.none) J rfl q
  | brk =>
    obtain ⟨_, _, _, q⟩ := hs
    exact False.elim q
  | cont =>
    obtain ⟨_, _, _, q⟩ := hs
    exact False.elim q
end L2

namespace L2
open PySem PySem.Spec PyProof.Rows
section
variable {X : Cx} {x : Str} {p pos : Pos} {e : Expr} {es : List Expr} {t : TA} {id T : String} {r : List V → Hp → VK → Prop}

def tCB (r : List V → Hp → VK → Prop) (t : TA) : TE := fun σ H Q => t σ H fun vs H1 => r vs H1 Q
/-- f(e, ..), f a built-in function -/
theorem pe_callB (hc : CallR X (.builtin id) r) (hg : Gl X x) (hm : X.mg x = none) (hv : bootBuiltins x = some (.builtin id)) (ha : PA X (e :: es) t) (hn : x ≠ "__name__" := by decide) (hdb : (x == ("__debug__" : Str)) = false := by decide)
    (he : starEach (e :: es) X.env = (false, eval e X.env) :: starEach es X.env := by rfl) (hpl : (backTo pos (starEach es X.env)).any (·.1) = false := by rfl) : PE X (.Call (.Name x p) (e :: es) [] pos) (tCB r t) := by
  intro pins s σ H Q I h
  refine wpAny_Call_Name_kw (ld_blt I hg hm hv ?_ hn hdb)
  exact PyProof.Rows.callWith_builtin1 (thn (ha pos pins s σ H _ I h) fun us s1 ⟨vs, H1, I1, r1, q1⟩ => hc pins s1 σ H1 vs us Q I1 r1 q1) he hpl
/-- T(e, ..), T a built-in type -/
theorem pe_callTy (hc : CallR X (.type T) r) (hg : Gl X x) (hm : X.mg x = none) (hv : bootBuiltins x = some (.type T)) (ha : PA X (e :: es) t) (hn : x ≠ "__name__" := by decide) (hdb : (x == ("__debug__" : Str)) = false := by decide)
    (he : starEach (e :: es) X.env = (false, eval e X.env) :: starEach es X.env := by rfl) (hpl : (backTo pos (starEach es X.env)).any (·.1) = false := by rfl) : PE X (.Call (.Name x p) (e :: es) [] pos) (tCB r t) := by
  intro pins s σ H Q I h
  refine wpAny_Call_Name_kw (ld_blt I hg hm hv ?_ hn hdb)
  exact PyProof.Rows.callWith_type1 (thn (ha pos pins s σ H _ I h) fun us s1 ⟨vs, H1, I1, r1, q1⟩ => hc pins s1 σ H1 vs us Q I1 r1 q1) he hpl
end
end L2

namespace HT
open PySem PyProof.Rows

section
open PySem.SeqAt
open PySem.AutoSeq1 (wpAny_loadPart')
open PySem.MeetsSeq PySem.MeetsSeq2 PySem.MeetsSeq3

end

section
variable {prog : Program} {w : World} {A : Around} {E : Value → Shared → Prop} {s : Shared}

/-- t + u, t not empty -/
theorem cat_tup {t b : Addr} {vs ws : List Value} {Q : Value → Shared → Prop} (ht : IsTup s.heap t vs.toArray) (hb : IsTup s.heap b ws.toArray) (hv : vs ≠ [])
    (h1 : ws = [] → Q (.ref t) s) (h2 : ws ≠ [] → Q (.ref s.heap.objs.size) { s with heap := s.heap.push { cls := .type "tuple", data := .seq (vs ++ ws).toArray } })
    (hsz : vs.length + ws.length ≤ sizeLine) : wpAny (model prog w) A (binaryOp .Add (.ref t) (.ref b)) Q E s := by
  obtain ⟨⟨cls, dd, data, sl⟩, ho, hc, n, hd⟩ := id ht
  obtain ⟨⟨cls2, dd2, data2, sl2⟩, ho2, hc2, n2, hd2⟩ := id hb
  simp only at hc hd hc2 hd2
  subst hc hd hc2 hd2
  have e : vs.toArray ++ ws.toArray = (vs ++ ws).toArray := by simp
  by_cases hw : ws = []
  · exact concat_meets ⟨_, ho, rfl⟩ ⟨_, ho2, rfl⟩ noFill_tuple_add seq_tuple_add PySem.F.slot_tuple_add PySem.F.entry_tuple_add (PySem.F.args_tuple_add_2 _ _)
      (tuple_addW1 t b vs.toArray ws.toArray n n2 dd dd2 sl sl2 (by simpa using hv) (by simp [hw])) ⟨ho, ho2, h1 hw⟩
  · refine concat_meets ⟨_, ho, rfl⟩ ⟨_, ho2, rfl⟩ noFill_tuple_add seq_tuple_add PySem.F.slot_tuple_add PySem.F.entry_tuple_add (PySem.F.args_tuple_add_2 _ _)
      (tuple_addW2 t b vs.toArray ws.toArray n n2 dd dd2 sl sl2 (by simpa using hv) (by simpa using hw) (by rw [List.size_toArray, List.size_toArray]; exact hsz)) ⟨ho, ho2, ?_⟩
    rw [e]
    exact h2 hw

/-! ### t[a:b], not the whole -/
/-- a slice's bound as a place among n (d where it is left out) -/
def sIx (n d : Nat) : Option Int → Nat
  | none => d
  | some v => if v < 0 then (v + (n : Int)).toNat else min v.toNat n
end
end HT

namespace L2
open PySem PySem.Spec PyProof.Rows

/-! ### the parts of a slice -/
abbrev TO := St → Hp → (Option Int → Hp → Prop) → Prop
/-- a slice's part (left out, or an int) -/
def PO (X : Cx) (e : Option Expr) (t : TO) : Prop :=
  ∀ (pins : List (Addr × Obj)) (s : Shared) (σ : St) (H : Hp) (Q : Option Int → Hp → Prop), Inv X pins σ H s → t σ H Q →
    wpAny (model X.prog X.w) X.A (evalPart e X.env) (fun u s' => ∃ o H', Inv X pins σ H' s' ∧ IsPart u o ∧ Q o H') X.xe s
theorem intsAre_of {ns : List Int} : ∀ {us : List Value}, Vals (ns.map V.int) us → IntsAre us ns := by
  induction ns with
  | nil => intro us r; rw [List.map_nil] at r; cases r; exact .nil
  | cons n ns ih =>
    intro us r
    rw [List.map_cons] at r
    cases r with
    | cons r1 r2 =>
      obtain ⟨t, e⟩ := r1
      subst e
      exact .cons n t (ih r2)

section
variable {X : Cx} {e : Expr} {te : TE} {lo hi : Option Expr} {tl th : TO} {pos p2 : Pos}

/-- what a slice of a value is, by values: the slice object stands at sl -/
def SlR (X : Cx) (r : V → Option Int → Option Int → Hp → VK → Prop) : Prop :=
  ∀ (pins : List (Addr × Obj)) (s : Shared) (σ : St) (H : Hp) (x : V) (v vl vu : Value) (lo hi : Option Int) (sl : Addr) (Q : VK), Inv X pins σ H s → RelV x v → s.heap.IsSliceOf sl vl vu .none → IsPart vl lo → IsPart vu hi → r x lo hi H Q →
    ∃ T id, typeLookup (.type T) "__getitem__" = pure (some (.builtin id)) ∧ s.TypeIs v T ∧ wpAny (model X.prog X.w) X.A (getItem v (.ref sl)) (EP X pins σ Q) X.xe s
theorem SlR.or {r r' : V → Option Int → Option Int → Hp → VK → Prop} (h : SlR X r) (h' : SlR X r') : SlR X (fun x lo hi H Q => r x lo hi H Q ∨ r' x lo hi H Q) := by
  intro pins s σ H x v vl vu lo hi sl Q I rx hs pl pu q
  rcases q with q | q
  · exact h pins s σ H x v vl vu lo hi sl Q I rx hs pl pu q
  · exact h' pins s σ H x v vl vu lo hi sl Q I rx hs pl pu q
/-! ### t < u, t + u -/
/-- t + u, t not empty: u empty gives t itself -/
def rCatT (K : PySem.W.Frag) : R2 := fun x y H Q => ∃ a b xs ys, x = .ref a ∧ y = .ref b ∧ SqT K H a xs ∧ SqT K H b ys ∧ xs ≠ [] ∧ xs.length + ys.length ≤ sizeLine ∧
  (ys = [] → Q (.ref a) H) ∧ (ys ≠ [] → ∀ p, H p = none → Q (.ref p) (upd H p (.tup (xs ++ ys))))
theorem Vals.nil_iff {xs : List V} {us : List Value} (r : Vals xs us) : us = [] ↔ xs = [] := by
  cases r with
  | nil => simp
  | cons _ _ => simp
theorem op_catT : OpR X (binaryOp .Add) (rCatT X.K) := by
  intro pins s σ H x y v u Q I rx ry h
  obtain ⟨a, b, xs, ys, rfl, rfl, ha, hb, hx, hz, q1, q2⟩ := h
  cases rx
  cases ry
  obtain ⟨its, r1, p1, _⟩ := I.tuple ha
  obtain ⟨its2, r2, p2, _⟩ := I.tuple hb
  refine HT.cat_tup p1 p2 (fun z => hx (r1.nil_iff.mp z)) (fun z => ⟨.ref a, H, I, rfl, q1 (r2.nil_iff.mp z)⟩) (fun z => ?_) (by rw [← r1.length, ← r2.length]; exact hz)
  refine ⟨.ref s.heap.objs.size, _, I.laid (t' := s.toks) (o := .tup (xs ++ ys)) (fun b ob q => Heap.get?_push_of_some _ q) (Nat.le_refl _) ?_, rfl, q2 (fun w => z (r2.nil_iff.mpr w)) _ (I.hok.fresh (Nat.le_refl _))⟩
  exact ⟨by rw [List.length_append]; exact hz, _, r1.append r2, IsTupN.new _ _⟩
end
end L2

namespace L2
open PySem PySem.Spec PyProof.Rows

/-! ### places -/
/-- the place that an index of any sign means -/
def ixN (n : Nat) (i : Int) : Option Nat := if 0 ≤ i then (if i < n then some i.toNat else none) else if -(n : Int) ≤ i then some (i + n).toNat else none
def atI {α : Type} (xs : List α) (i : Int) : Option α := (ixN xs.length i).bind fun j => xs[j]?
theorem ixN_seq {n : Nat} {i : Int} {j : Nat} (h : ixN n i = some j) : seqIndex? i n = some j ∧ j < n ∧ -(n : Int) ≤ i ∧ i < n := by
  unfold ixN at h
  by_cases h0 : 0 ≤ i
  · rw [if_pos h0] at h
    by_cases h1 : i < n
    · rw [if_pos h1] at h
      have e : i.toNat = j := Option.some.inj h
      exact ⟨by rw [seqIndex_of h0 h1, e], by omega, by omega, h1⟩
    · rw [if_neg h1] at h; cases h
  · rw [if_neg h0] at h
    by_cases h1 : -(n : Int) ≤ i
    · rw [if_pos h1] at h
      have e : (i + n).toNat = j := Option.some.inj h
      exact ⟨by rw [seqIndex_neg (by omega) h1, e], by omega, h1, by omega⟩
    · rw [if_neg h1] at h; cases h
theorem atI_get {α : Type} {xs : List α} {i : Int} {v : α} (h : atI xs i = some v) : ∃ j, seqIndex? i xs.length = some j ∧ xs[j]? = some v ∧ j < xs.length ∧ -(xs.length : Int) ≤ i ∧ i < xs.length := by
  unfold atI at h
  cases e : ixN xs.length i with
  | none => rw [e] at h; cases h
  | some j =>
    rw [e] at h
    obtain ⟨h1, h2, h3, h4⟩ := ixN_seq e
    exact ⟨j, h1, h, h2, h3, h4⟩
theorem atI_nat {α : Type} {xs : List α} {j : Nat} {v : α} (h : xs[j]? = some v) : atI xs (j : Int) = some v := by
  have hj : j < xs.length := (List.getElem?_eq_some_iff.mp h).1
  have e : ixN xs.length (j : Int) = some j := by
    unfold ixN
    rw [if_pos (by omega), if_pos (by omega)]; simp
  unfold atI; rw [e]; exact h
/-! ### what may be subscripted -/
/-- what stands as an index of a plain subscript -/
def PlainIx (b : Expr) : Prop := ∀ o i, subscripted b false o i = operate [o, i] (getItem o i)
/-- a subscript by values -/
def IxR (X : Cx) (r : R2) : Prop :=
  ∀ (value slice : Expr) (pins : List (Addr × Obj)) (s : Shared) (σ : St) (H : Hp) (x y : V) (v u : Value) (Q : VK), Inv X pins σ H s → RelV x v → RelV y u → r x y H Q →
    subscripted slice false v u = operate [v, u] (getItem v u) → wpAny (model X.prog X.w) X.A (subscriptTail value slice v u) (EP X pins σ Q) X.xe s
/-- a call of a builtin's method by values: the receiver, the arguments -/
def MtR (X : Cx) (id : String) (r : V → List V → Hp → VK → Prop) : Prop :=
  ∀ (pins : List (Addr × Obj)) (s : Shared) (σ : St) (H : Hp) (x : V) (xs : List V) (v : Value) (us : List Value) (Q : VK), Inv X pins σ H s → RelV x v → Vals xs us → r x xs H Q →
    wpAny (model X.prog X.w) X.A (call (.builtin id) (v :: us)) (EP X pins σ Q) X.xe s
section
variable {X : Cx} {a b : Expr} {ta tb : TE} {pos : Pos}
theorem IxR.or {r r' : R2} (h : IxR X r) (h' : IxR X r') : IxR X (fun x y H Q => r x y H Q ∨ r' x y H Q) := by
  intro value slice pins s σ H x y v u Q I rx ry q hs
  rcases q with q | q
  · exact h value slice pins s σ H x y v u Q I rx ry q hs
  · exact h' value slice pins s σ H x y v u Q I rx ry q hs
theorem MtR.or {id : String} {r r' : V → List V → Hp → VK → Prop} (h : MtR X id r) (h' : MtR X id r') : MtR X id (fun x xs H Q => r x xs H Q ∨ r' x xs H Q) := by
  intro pins s σ H x xs v us Q I rx rs q
  rcases q with q | q
  · exact h pins s σ H x xs v us Q I rx rs q
  · exact h' pins s σ H x xs v us Q I rx rs q
/-- a[b] -/
theorem pe_ix {r : R2} (hr : IxR X r) (ha : PE X a ta) (hb : PE X b tb) (hs : PlainIx b) : PE X (.Subscript a b pos) (tOp r ta tb) := by
  intro pins s σ H Q I h
  exact Subscript_ (binT ha hb I h fun v u s2 x y H2 I2 rx ry q => hr a b pins s2 σ H2 x y v u Q I2 rx ry q (hs _ _))

def rIxL (K : PySem.W.Frag) : R2 := fun x y H Q => ∃ p xs i v, x = .ref p ∧ y = .int i ∧ SqL K H p xs ∧ atI xs i = some v ∧ Q v H
def rIxT (K : PySem.W.Frag) : R2 := fun x y H Q => ∃ p xs i v, x = .ref p ∧ y = .int i ∧ SqT K H p xs ∧ atI xs i = some v ∧ Q v H
def rIxS : R2 := fun x y H Q => ∃ z i c, x = .str z ∧ y = .int i ∧ z.length ≤ sizeLine ∧ atI z.cps.toList i = some c ∧ Q (.str ⟨#[c]⟩) H
theorem ix_list : IxR X (rIxL X.K) := by
  intro value slice pins s σ H x y v u Q I rx ry h hs
  obtain ⟨p, xs, i, z, rfl, rfl, hq, he, q⟩ := h
  cases rx
  obtain ⟨t, rfl⟩ := ry
  obtain ⟨its, r, pl, hz⟩ := I.list hq
  obtain ⟨j, h1, h2, h3, h4, h5⟩ := atI_get he
  obtain ⟨w, ew, rw'⟩ := r.get h2
  have hl := r.length
  have hn := line63
  have fin : EP X pins σ Q w s := ⟨z, H, I, rw', q⟩
  by_cases h0 : 0 ≤ i
  · have hj : i.toNat = j := by
      rw [seqIndex_of h0 h5] at h1
      exact Option.some.inj h1
    exact item_listR pl.isList h0 (by omega) (by rw [hj]; simpa using ew) fin hs
  · have hj : (i + (its.toArray.size : Int)).toNat = j := by
      rw [seqIndex_neg (by omega) h4] at h1
      rw [List.size_toArray, ← hl]
      exact Option.some.inj h1
    exact subscriptTail_builtinR (x := w) pl.isList.typeIs slot_list_getitem.lookup
      (wpAny_getItem_list_neg (Q := fun r s' => r = w ∧ EP X pins σ Q r s') pl.isList (by omega) (by rw [List.size_toArray] <;> omega) (by omega) (by rw [hj]; simpa using ew) ⟨rfl, fin⟩) hs
theorem ix_tup : IxR X (rIxT X.K) := by
  intro value slice pins s σ H x y v u Q I rx ry h hs
  obtain ⟨p, xs, i, z, rfl, rfl, hq, he, q⟩ := h
  cases rx
  obtain ⟨t, rfl⟩ := ry
  obtain ⟨its, r, pl, hz⟩ := I.tuple hq
  obtain ⟨j, h1, h2, h3, h4, h5⟩ := atI_get he
  obtain ⟨w, ew, rw'⟩ := r.get h2
  have hl := r.length
  have hn := line63
  have fin : EP X pins σ Q w s := ⟨z, H, I, rw', q⟩
  exact subscriptTail_builtinR (x := w) pl.typeIs slot_tuple_getitem.lookup
    (getItem_tuple (j := j) (Q := fun r s' => r = w ∧ EP X pins σ Q r s') pl (by omega) (by omega) (by rw [List.size_toArray, ← hl]; exact h1) (by simpa using ew) ⟨rfl, fin⟩) hs
theorem ix_str : IxR X rIxS := by
  intro value slice pins s σ H x y v u Q I rx ry h hs
  obtain ⟨z, i, c, rfl, rfl, hz, he, q⟩ := h
  obtain ⟨t, rfl⟩ := rx
  obtain ⟨t', rfl⟩ := ry
  obtain ⟨j, h1, h2, h3, h4, h5⟩ := atI_get he
  have hl : z.cps.toList.length = z.length := by simp [Str.length]
  rw [hl] at h1 h4 h5
  have hn := line63
  exact tail_any (typeIs_str s z t) slot_str_getitem.lookup (getItem_str (c := c) (by
    have e1 : decide (i < -(2 ^ 63 : Int)) = false := decide_eq_false (by omega)
    have e2 : decide (i ≥ 2 ^ 63) = false := decide_eq_false (by omega)
    rw [e1, e2, Bool.or_false]) (by rw [h1]; simpa using h2) ⟨.str ⟨#[c]⟩, H, I.tok _, ⟨_, rfl⟩, q⟩) hs
/-- list, tuple or str -/
def rIx (K : PySem.W.Frag) : R2 := fun x y H Q => rIxL K x y H Q ∨ rIxT K x y H Q ∨ rIxS x y H Q
theorem ix_seq : IxR X (rIx X.K) := ix_list.or (ix_tup.or ix_str)

/-! ### xs[i] = v, any sign -/
theorem Inv.lst {pins : List (Addr × Obj)} {σ : St} {H : Hp} {s : Shared} {p : Addr} {xs : List V} (I : Inv X pins σ H s) (h : H p = some (.lst xs)) :
    ∃ (its : List Value) (n : Nat), Vals xs its ∧ s.heap.get? p = some { cls := .type "list", data := .seq its.toArray n } ∧ xs.length ≤ sizeLine := by
  obtain ⟨z, its, n, r, e⟩ := I.hok p _ h
  exact ⟨its, n, r, e, z⟩
/-! ### slices -/
/-! ### in, not in: flat items -/
def flatV : V → Bool
  | .non => true
  | .bl _ => true
  | .int _ => true
  | .str _ => true
  | _ => false
/-- == of flat values -/
def eqV : V → V → Bool
  | .non, .non => true
  | .bl a, .bl b => a == b
  | .bl a, .int b => (if a then 1 else 0) == b
  | .int a, .bl b => a == (if b then 1 else 0)
  | .int a, .int b => a == b
  | .str a, .str b => a == b
  | _, _ => false
theorem eqAt_V {A : Around} {s : Shared} {y x : V} {u v : Value} (ry : RelV y u) (rx : RelV x v) (fy : flatV y = true) (fx : flatV x = true) : SeqAt.EqAt A s u v (eqV y x) := by
  cases y with
  | non =>
    cases ry
    cases x with
    | non => cases rx; exact SeqAt.EqAt.same _
    | bl b => cases rx; exact SeqAt.EqAt.none_bool b
    | int b => obtain ⟨t, rfl⟩ := rx; exact SeqAt.EqAt.none_int b t
    | str b => obtain ⟨t, rfl⟩ := rx; exact SeqAt.EqAt.none_str b t
    | _ => exact absurd (show false = true from fx) Bool.false_ne_true
  | bl a =>
    cases ry
    cases x with
    | non => cases rx; exact SeqAt.EqAt.bool_none a
    | bl b => cases rx; exact SeqAt.EqAt.bool_bool a b
    | int b => obtain ⟨t, rfl⟩ := rx; exact SeqAt.EqAt.bool_int a b t
    | str b => obtain ⟨t, rfl⟩ := rx; exact SeqAt.EqAt.bool_str a b t
    | _ => exact absurd (show false = true from fx) Bool.false_ne_true
  | int a =>
    obtain ⟨t', rfl⟩ := ry
    cases x with
    | non => cases rx; exact SeqAt.EqAt.int_none a t'
    | bl b => cases rx; exact SeqAt.EqAt.int_bool a t' b
    | int b => obtain ⟨t, rfl⟩ := rx; exact SeqAt.EqAt.int_int a t' b t
    | str b => obtain ⟨t, rfl⟩ := rx; exact SeqAt.EqAt.int_str a t' b t
    | _ => exact absurd (show false = true from fx) Bool.false_ne_true
  | str a =>
    obtain ⟨t', rfl⟩ := ry
    cases x with
    | non => cases rx; exact SeqAt.EqAt.str_none a t'
    | bl b => cases rx; exact SeqAt.EqAt.str_bool a t' b
    | int b => obtain ⟨t, rfl⟩ := rx; exact SeqAt.EqAt.str_int a t' b t
    | str b => obtain ⟨t, rfl⟩ := rx; exact SeqAt.EqAt.str_str a t' b t
    | _ => exact absurd (show false = true from fx) Bool.false_ne_true
  | _ => exact absurd (show false = true from fy) Bool.false_ne_true
/-- the items' answers, read off the values (a value's own answer does not lean on its token) -/
def eqU (x : V) (u : Value) : Bool := match u with
  | .none => eqV .non x
  | .bool b => eqV (.bl b) x
  | .int i _ => eqV (.int i) x
  | .str z _ => eqV (.str z) x
  | _ => false
theorem eqU_of {x y : V} {u : Value} (r : RelV y u) (f : flatV y = true) : eqU x u = eqV y x := by
  cases y with
  | non => cases r; rfl
  | bl b => cases r; rfl
  | int i => obtain ⟨t, rfl⟩ := r; rfl
  | str z => obtain ⟨t, rfl⟩ := r; rfl
  | _ => exact absurd (show false = true from f) Bool.false_ne_true
theorem mem_eqAt {A : Around} {s : Shared} {x : V} {v : Value} (rx : RelV x v) (fx : flatV x = true) : ∀ {xs : List V} {us : List Value}, Vals xs us → xs.all flatV = true → ∀ u ∈ us, SeqAt.EqAt A s u v (eqU x u)
  | _, _, .nil, _ => fun u hu => by cases hu
  | y :: xs, u :: us, .cons r t, f => fun u' hu => by
    rw [List.all_cons, Bool.and_eq_true] at f
    rcases List.mem_cons.mp hu with rfl | hu
    · rw [eqU_of r f.1]; exact eqAt_V r rx f.1 fx
    · exact mem_eqAt rx fx t f.2 u' hu
/-! ### len, list(x), tuple(x) of any list or tuple that is read -/
theorem call_len_seq : CallR X (.builtin "len") (fun xs H Q => ∃ p ys, xs = [.ref p] ∧ (SqL X.K H p ys ∨ SqT X.K H p ys) ∧ Q (.int ys.length) H) := by
  intro pins s σ H xs us Q I r h
  obtain ⟨p, ys, rfl, hq, q⟩ := h
  obtain ⟨u, rfl, rx⟩ := vals1 r
  cases rx
  have hn := line63
  rcases hq with hq | hq
  · obtain ⟨its, r', pl, hz⟩ := I.list hq
    have hlen := r'.length
    exact Calls.call_len_list pl.isList (by simp only [List.size_toArray] <;> omega) ⟨.int ys.length, H, I.tok _, ⟨s.toks + 1, by rw [List.size_toArray, hlen]⟩, q⟩
  · obtain ⟨its, r', pl, hz⟩ := I.tuple hq
    have hlen := r'.length
    exact len_tuple pl (by simp only [List.size_toArray] <;> omega) ⟨.int ys.length, H, I.tok _, ⟨s.toks + 1, by rw [List.size_toArray, hlen]⟩, q⟩
theorem CallR.or {f : Value} {r r' : List V → Hp → VK → Prop} (h : CallR X f r) (h' : CallR X f r') : CallR X f (fun xs H Q => r xs H Q ∨ r' xs H Q) := by
  intro pins s σ H xs us Q I rs q
  rcases q with q | q
  · exact h pins s σ H xs us Q I rs q
  · exact h' pins s σ H xs us Q I rs q
theorem call_list_of : CallR X (.type "list") (fun xs H Q => ∃ p ys, xs = [.ref p] ∧ (SqL X.K H p ys ∨ SqT X.K H p ys) ∧ ∀ l, H l = none → Q (.ref l) (upd H l (.lst ys))) := by
  intro pins s σ H xs us Q I r h
  obtain ⟨p, ys, rfl, hq, q⟩ := h
  obtain ⟨u, rfl, rx⟩ := vals1 r
  cases rx
  have fin : ∀ (its : List Value), Vals ys its → ys.length ≤ sizeLine → ∀ (h' : Heap) (c' : Nat), (∀ b o', s.heap.get? b = some o' → h'.get? b = some o') →
      h'.get? s.heap.objs.size = some { cls := .type "list", dict := none, data := .seq its.toArray c', slots := #[] } → EP X pins σ Q (.ref s.heap.objs.size) { s with heap := h' } := fun its r' hz h' c' kp e =>
    ⟨.ref s.heap.objs.size, _, I.laid (t' := s.toks) kp (Nat.le_refl _) (show ObjOk X.prog X.w _ h' _ (.lst ys) from ⟨hz, its, c', r', e⟩), rfl, q _ (I.hok.fresh (Nat.le_refl _))⟩
  rcases hq with hq | hq
  · obtain ⟨its, r', pl, hz⟩ := I.list hq
    have hlen := r'.length
    obtain ⟨o, ho, hc, n, hd⟩ := pl.isList
    exact call_list_seq p (.inl rfl) ho hc hd (fun h' c' kp e => fin its r' hz h' c' kp e) (by simp only [List.size_toArray] <;> omega)
  · obtain ⟨its, r', pl, hz⟩ := I.tuple hq
    have hlen := r'.length
    obtain ⟨o, ho, hc, n, hd⟩ := pl
    exact call_list_seq p (.inr rfl) ho hc hd (fun h' c' kp e => fin its r' hz h' c' kp e) (by simp only [List.size_toArray] <;> omega)
theorem call_tuple_of : CallR X (.type "tuple") (fun xs H Q => ∃ p ys, xs = [.ref p] ∧ ((SqL X.K H p ys ∧ ∀ l, H l = none → Q (.ref l) (upd H l (.tup ys))) ∨ (SqT X.K H p ys ∧ Q (.ref p) H))) := by
  intro pins s σ H xs us Q I r h
  obtain ⟨p, ys, rfl, h⟩ := h
  obtain ⟨u, rfl, rx⟩ := vals1 r
  cases rx
  rcases h with ⟨hq, q⟩ | ⟨hq, q⟩
  · obtain ⟨its, r', pl, hz⟩ := I.list hq
    have hlen := r'.length
    refine call_tuple_list pl.isList (fun h' kp => ?_) (by simp only [List.size_toArray] <;> omega)
    have I1 : Inv X pins σ H { s with heap := h' } := I.kept (t' := s.toks) kp
    have I2 : Inv X pins σ (upd H h'.objs.size (.tup ys)) { s with heap := h'.push { cls := .type "tuple", data := .seq its.toArray } } :=
      I1.laid (t' := s.toks) (fun b o e => Heap.get?_push_of_some _ e) (Nat.le_refl _) (show ObjOk X.prog X.w _ _ _ (.tup ys) from ⟨hz, its, r', IsTupN.new _ _⟩)
    exact ⟨.ref h'.objs.size, _, I2, rfl, q _ (I1.hok.fresh (Nat.le_refl _))⟩
  · obtain ⟨its, r', pl, hz⟩ := I.tuple hq
    exact call_tuple_same pl ⟨.ref p, H, I, rfl, q⟩

/-! ### the call of a builtin's method: o.m(..) -/
/-- the value is of that builtin type -/
def tyV (K : PySem.W.Frag) (T : String) (x : V) (H : Hp) : Prop := match x with
  | .str _ => T = "str"
  | .int _ => T = "int"
  | .ref p => (T = "list" ∧ ∃ xs, SqL K H p xs) ∨ (T = "tuple" ∧ ∃ xs, SqT K H p xs) ∨
      (T = "dict" ∧ ((∃ kvs, H p = some (.dK kvs)) ∨ ∃ kvs, H p = some (.dT kvs))) ∨ (T = "set" ∧ ∃ S n, H p = some (.set S n))
  | _ => False
theorem tyV_is {pins : List (Addr × Obj)} {σ : St} {H : Hp} {s : Shared} {T : String} {x : V} {v : Value} (I : Inv X pins σ H s) (r : RelV x v) (ty : tyV X.K T x H) :
    s.TypeIs v T ∧ ∀ a, v = .ref a → ∃ ob, s.heap.get? a = some ob ∧ ob.dict = none := by
  cases x with
  | str z =>
    obtain ⟨t, rfl⟩ := r
    cases (show T = "str" from ty)
    exact ⟨typeIs_str s z t, fun _ e => nomatch e⟩
  | int i =>
    obtain ⟨t, rfl⟩ := r
    cases (show T = "int" from ty)
    exact ⟨typeIs_int s i t, fun _ e => nomatch e⟩
  | ref p =>
    cases r
    rcases ty with ⟨rfl, xs, hq⟩ | ⟨rfl, xs, hq⟩ | ⟨rfl, hk⟩ | ⟨rfl, S, n, hk⟩
    · obtain ⟨its, _, pl, _⟩ := I.list hq
      refine ⟨pl.isList.typeIs, fun a e => ?_⟩
      cases e
      obtain ⟨o, n, e, c, hd, _⟩ := pl
      exact ⟨o, e, hd⟩
    · obtain ⟨its, _, ⟨o, e, c, _, hd⟩, _⟩ := I.tupleN hq
      refine ⟨⟨o, e, c⟩, fun a z => ?_⟩
      cases z
      exact ⟨o, e, hd⟩
    · have z : ∃ o, s.heap.get? p = some o ∧ o.ExactDict := by
        rcases hk with ⟨kvs, hk⟩ | ⟨kvs, hk⟩
        · obtain ⟨_, _, _, _, o, _, _, e, ex, _⟩ := I.hok p _ hk
          exact ⟨o, e, ex⟩
        · obtain ⟨_, _, _, _, o, _, _, e, ex, _⟩ := I.hok p _ hk
          exact ⟨o, e, ex⟩
      obtain ⟨o, e, ex⟩ := z
      refine ⟨⟨o, e, ex.1⟩, fun a e2 => ?_⟩
      cases e2
      exact ⟨o, e, ex.2.1⟩
    · obtain ⟨o, _, _, _, e, ex, _⟩ := I.hok p _ hk
      refine ⟨⟨o, e, ex.1⟩, fun a e2 => ?_⟩
      cases e2
      exact ⟨o, e, ex.2.1⟩
  | _ => exact False.elim ty
def tBM (K : PySem.W.Frag) (T : String) (r : V → List V → Hp → VK → Prop) (to : TE) (t : TA) : TE := fun σ H Q => to σ H fun x H1 => tyV K T x H1 ∧ t σ H1 fun xs H2 => r x xs H2 Q
variable {o e : Expr} {es : List Expr} {to : TE} {t : TA} {name : Str} {apos cpos : Pos} {T id : String} {r : V → List V → Hp → VK → Prop}
theorem pe_bm (pa : PlainAttrs T) (slot : Slot T name id) (hty : typeOf (.builtin id) = pure (.type "method_descriptor")) (hm : MtR X id r) (ho : PE X o to) (ha : PA X (e :: es) t)
    (hbase : attributeBase o name X.env (eval o X.env) = eval o X.env := by rfl)
    (hfew : ((backTo cpos (starEach (e :: es) X.env)).all (fun x => !x.1) && (backToKw cpos (keywordEach [] X.env)).all (fun x => x.1.isSome)
      && decide ((e :: es).length + ([] : List Keyword).length + (if ([] : List Keyword).isEmpty then 0 else 1) < 30)) = true := by rfl)
    (hline : (apos.endLine == cpos.line) = true := by rfl) (hs : starEach (e :: es) X.env = (false, eval e X.env) :: starEach es X.env := by rfl) (hplain : (backTo cpos (starEach es X.env)).any (·.1) = false := by rfl) :
    PE X (.Call (.Attribute o name apos) (e :: es) [] cpos) (tBM X.K T r to t) := by
  intro pins s σ H Q I h
  refine wpAny_Call_method_late hbase hfew hline rfl (thn (ho pins s σ H _ I h) fun v s1 ⟨x, H1, I1, r1, ty, q1⟩ => ?_)
  obtain ⟨h1, h2⟩ := tyV_is I1 r1 ty
  refine ⟨T, id, pa, slot, hty, h1, h2, ?_⟩
  have hA := ha cpos pins s1 σ H1 _ I1 q1
  rw [hs] at hA ⊢
  refine Calls.callWith_builtin (by show (false || (backTo cpos (starEach es X.env)).any (·.1)) = false; rw [hplain] <;> rfl) (Calls.evalArgs_plain ?_)
  exact thn hA fun us s2 ⟨vs, H2, I2, r2, q2⟩ => hm pins s2 σ H2 x vs v us Q I2 r1 r2 q2
/- xs.append(e), list.index on a module's tuple .. are MtR facts of 06m -/
end
end L2

namespace L2
open PySem PySem.Spec PyProof.Rows

def MtM (X : Cx) (id : String) (r : V → List V → Hp → VK → Prop) : Prop :=
  ∀ (pins : List (Addr × Obj)) (s : Shared) (σ : St) (H : Hp) (x : V) (xs : List V) (v : Value) (us : List Value) (Q : VK), Inv X pins σ H s → RelV x v → Vals xs us → r x xs H Q →
    wpAny (model X.prog X.w) X.A (call (.builtin id) (v :: us)) (EP X pins σ Q) X.xe s

/-! ### lists of values -/
theorem Vals.one : ∀ {x : V} {us : List Value}, Vals [x] us → ∃ u, us = [u] ∧ RelV x u
  | _, _, .cons r .nil => ⟨_, rfl, r⟩
theorem Vals.two : ∀ {x y : V} {us : List Value}, Vals [x, y] us → ∃ u v, us = [u, v] ∧ RelV x u ∧ RelV y v
  | _, _, _, .cons r (.cons q .nil) => ⟨_, _, rfl, r, q⟩
theorem Vals.zero : ∀ {us : List Value}, Vals [] us → us = []
  | _, .nil => rfl
theorem Vals.dropLast {xs : List V} {us : List Value} (h : Vals xs us) : Vals xs.dropLast us.dropLast := by
  induction h with
  | nil => exact .nil
  | cons r t ih =>
    cases t with
    | nil => exact .nil
    | cons q t' => exact .cons r ih
theorem Vals.eraseIdx : ∀ {xs : List V} {us : List Value} (i : Nat), Vals xs us → Vals (xs.eraseIdx i) (us.eraseIdx i)
  | _, _, _, .nil => .nil
  | _, _, 0, .cons _ t => t
  | _, _, i + 1, .cons r t => .cons r (Vals.eraseIdx i t)
theorem Vals.reverse {xs : List V} {us : List Value} (h : Vals xs us) : Vals xs.reverse us.reverse := by
  induction h with
  | nil => exact .nil
  | cons r t ih => rw [List.reverse_cons, List.reverse_cons]; exact Vals.append ih (.cons r .nil)
theorem Vals.rep {xs : List V} {us : List Value} (h : Vals xs us) : ∀ k : Nat, Vals (List.replicate k xs).flatten (List.replicate k us).flatten
  | 0 => .nil
  | k + 1 => by
    rw [List.replicate_succ, List.replicate_succ, List.flatten_cons, List.flatten_cons]
    exact Vals.append h (Vals.rep h k)
theorem foldl_rep (its : List Value) : ∀ (k : Nat) (acc : List Value),
    List.foldl (fun x1 x2 => x1 ++ x2) acc.toArray (List.replicate k its.toArray) = (acc ++ (List.replicate k its).flatten).toArray
  | 0, acc => by simp
  | k + 1, acc => by
    have e : acc.toArray ++ its.toArray = (acc ++ its).toArray := by simp
    have e2 : (acc ++ its) ++ (List.replicate k its).flatten = acc ++ (List.replicate (k + 1) its).flatten := by
      rw [List.replicate_succ, List.flatten_cons, List.append_assoc]
    rw [← e2, ← foldl_rep its k (acc ++ its), ← e, List.replicate_succ, List.foldl_cons]

section
variable {X : Cx} {pins : List (Addr × Obj)} {σ : St} {H : Hp} {s : Shared} {l b : Addr} {xs ys zs : List V}

/-! ### the two steps: a tracked list is rewritten, a new list is laid -/
theorem Inv.lset {its its' : List Value} {n : Nat} {f : Array Value → Array Value} {t' : Nat} (I : Inv X pins σ H s) (hH : H l = some (.lst xs))
    (e : s.heap.get? l = some { cls := .type "list", data := .seq its.toArray n }) (hf : f its.toArray = its'.toArray) (hv : Vals ys its') (hz : ys.length ≤ sizeLine) :
    Inv X pins σ (upd H l (.lst ys)) { s with heap := s.heap.update l (Obj.mapSeq f), toks := t' } := by
  have q := PySem.IsL.update e f
  rw [hf] at q
  refine I.write (x := l) (e := l) (by rw [hH]; exact trivial) (.inl rfl) (fun b' u hb hu => (Heap.get?_update_other s.heap (Obj.mapSeq f) (Ne.symm hb)).trans hu) ⟨_, q⟩ ?_
  exact ⟨hz, its', _, hv, q⟩
theorem Inv.lnew {its : List Value} {t' : Nat} (I : Inv X pins σ H s) (hv : Vals ys its) (hz : ys.length ≤ sizeLine) :
    Inv X pins σ (upd H s.heap.objs.size (.lst ys)) { s with heap := s.heap.push { cls := .type "list", data := .seq its.toArray }, toks := t' } :=
  I.laid (fun _ _ q => Heap.get?_push_of_some _ q) (Nat.le_refl _) ⟨hz, its, 0, hv, Heap.get?_push_size _ rfl⟩
theorem Inv.fresh (I : Inv X pins σ H s) : H s.heap.objs.size = none := I.hok.fresh (Nat.le_refl _)
theorem Inv.lstM (I : Inv X pins σ H s) (hH : H l = some (.lst xs)) : xs.length ≤ sizeLine ∧ ∃ (its : List Value) (n : Nat), Vals xs its ∧ xs.length = its.length ∧ s.heap.get? l = some { cls := .type "list", data := .seq its.toArray n } := by
  obtain ⟨z, its, n, r, e⟩ := I.hok l _ hH
  exact ⟨z, its, n, r, r.length, e⟩

end

section
variable {X : Cx}

/-! ### methods -/
def rAppend : V → List V → Hp → VK → Prop := fun x vs H Q => ∃ l xs y, x = .ref l ∧ vs = [y] ∧ H l = some (.lst xs) ∧ xs.length < sizeLine ∧ Q .non (upd H l (.lst (xs ++ [y])))
theorem mt_append : MtM X "list.append" rAppend := by
  intro pins s σ H x vs v us Q I rx rv h
  obtain ⟨l, xs, y, rfl, rfl, hH, hz, q⟩ := h
  cases rx
  obtain ⟨u, rfl, ru⟩ := rv.one
  obtain ⟨z, its, n, r, hl, e⟩ := I.lstM hH
  refine call_meets F.slot_list_append ⟨_, e, rfl⟩ F.entry_list_append (F.args_list_append_2 _ _) (PySem.list_append l its.toArray n u (by rw [List.size_toArray]; omega)) ⟨e, ?_⟩
  refine ⟨.non, _, I.lset (its' := its ++ [u]) hH e (by simp) (r.append (.cons ru .nil)) ?_, rfl, q⟩
  rw [List.length_append, List.length_singleton]
  omega

/-! ### list + list, list += list, list * int -/
def rCat : R2 := fun x y H Q => ∃ l b xs zs, x = .ref l ∧ y = .ref b ∧ H l = some (.lst xs) ∧ H b = some (.lst zs) ∧ xs.length + zs.length ≤ sizeLine ∧ ∀ p, H p = none → Q (.ref p) (upd H p (.lst (xs ++ zs)))
theorem op_cat : OpR X (binaryOp .Add) rCat := by
  intro pins s σ H x y v u Q I rx ry h
  obtain ⟨l, b, xs, zs, rfl, rfl, hH, hB, hz, q⟩ := h
  cases rx
  cases ry
  obtain ⟨z, its, n, r, hl, e⟩ := I.lstM hH
  obtain ⟨z2, its2, n2, r2, hl2, e2⟩ := I.lstM hB
  refine PySem.P.add_list e e2 ?_ (by rw [List.size_toArray, List.size_toArray]; omega)
  have ea : its.toArray ++ its2.toArray = (its ++ its2).toArray := by simp
  rw [ea]
  exact ⟨.ref _, _, I.lnew (t' := s.toks) (r.append r2) (by rw [List.length_append]; omega), rfl, q _ I.fresh⟩
theorem len_rep {α : Type} (xs : List α) (k : Nat) : (List.replicate k xs).flatten.length = k * xs.length := by
  induction k with
  | zero => simp
  | succ k ih => rw [List.replicate_succ, List.flatten_cons, List.length_append, ih, Nat.succ_mul, Nat.add_comm]
/-! ### del xs[i] -/
end

/-! ### xs[a:b] = ys -/

end L2

namespace Att
open PySem PySem.W PySem.Calls PyProof.Rows

/-! ### the script -/
theorem ints_of_wellAll {P : Params} {h : Heap} : ∀ (ns : List Int) (vs : List Value), WellAll P h vs (ns.map WData.int) → IntsAre vs ns := by
  intro ns
  induction ns with
  | nil =>
    intro vs w
    rw [List.map_nil] at w
    cases w
    exact .nil
  | cons n ns ih =>
    intro vs w
    rw [List.map_cons] at w
    cases w with
    | cons a b =>
      cases a
      exact .cons _ _ (ih _ b)

theorem script_of {l : OpenLaw} {n : Nat} (hn : l.most = some n) {P : Params} {h : Heap} {args : List WData} {vals : List Value}
    (hpre : l.row.toRowW.claim.pre args = true) (hwl : WellAll P h vals args) :
    ∃ a vs ns, vals = [Value.ref a] ∧ args = [WData.list (ns.map WData.int)] ∧ h.get? a = some { cls := .type "list", data := .seq vs.toArray } ∧ IntsAre vs ns ∧ ns.length ≤ n := by
  have hsh : WShape.hasAll [] args [.list .int] = true := (pre_splitW hpre).1
  have hc : l.pre.holds [] { args := args } = true := (pre_splitW hpre).2
  obtain ⟨d, r, rfl, h1, h2⟩ := hasAllW_cons hsh
  obtain rfl := hasAllW_nil h2
  obtain ⟨xs, rfl, h3⟩ := hasW_list h1
  obtain ⟨ns, rfl⟩ := items_int h3
  have hlen : ns.length ≤ n := by
    unfold OpenLaw.pre at hc
    have h4 : (WTm.not (.lt (.lit (.int (n : Int))) (.len (.arg 0)))).holds [] { args := [.list (ns.map .int)] } = true := by
      have h4 := (holds_andW hc).1
      rw [hn] at h4
      exact h4
    have h5 := condW_of h4 (w_not (w_lt w_lit (w_len_list (w_arg rfl))))
    rw [List.length_map] at h5
    refine Nat.le_of_not_lt fun q => ?_
    have q' : (n : Int) < ((ns.length : Nat) : Int) := by omega
    first
      | (rw [decide_eq_true q'] at h5; exact absurd h5 (by decide))
      | (simp at h5; omega)
  cases hwl with
  | cons w1 w2 =>
    cases w2
    cases w1 with
    | list ho hall => exact ⟨_, _, ns, rfl, rfl, ho, ints_of_wellAll ns _ hall, hlen⟩

theorem post_true (l : OpenLaw) (args : List WData) : l.row.toRowW.claim.post args (.bool true) args = true :=
  postW_of (r := l.row.toRowW) (X := (true == true))
    (show WShape.has [] (.bool true) .bool = true by first | rfl | decide | simp [WShape.has, WShape.arms, WShape.armsAll])
    (show (WTm.eq .res (.lit (.bool true))).value [] { args := args, res := some (.bool true), after := args } = some (.bool (true == true)) from w_eq_bool (w_res rfl) w_lit) rfl

/-! ### the attachment: holds_open's last premise (the goal 'hc' behind k_head) from a wpAny of the law's body -/
/-- the same from a codeAny of the CALL (for a layer whose function contracts speak of calls) -/
theorem attach_call {l : OpenLaw} {n : Nat} {q : Program} {loose : List Str} {XP : (Str → Option Value) → Heap → Prop} {YP : World → Heap → Prop} {d : DefRec}
    (hn : l.most = some n) (hdf : d.params.defaults = [])
    (call : ∀ (w : World) (s₀ s₁ : Shared) (mg mb : Str → Option Value) (fa : Addr) (o : Obj) (pm cd doc : Value) (a : Addr) (vs : List Value) (ns : List Int),
      Ground q loose [] XP w s₀ mg mb s₁.heap → YP w s₁.heap →
      s₁.heap.get? fa = some o → o.data = .func (docDef d.name d.params d.body d.scope pm cd doc) → s₁.heap.CodeRec cd d.name → mg d.name = some (.ref fa) →
      s₁.heap.get? a = some { cls := .type "list", data := .seq vs.toArray } → IntsAre vs ns → ns.length ≤ n → s₁.gens = #[] →
      codeAny (model l.prog w) callerA (.call (.ref fa) ⟨[.ref a], []⟩) (fun r s' => r = .ok (.ret (.bool true)) ∧ OldK s₁.heap s'.heap ∧ s'.os = s₁.os ∧ AllBare s'.gens) s₁) :
    WalkO q loose XP YP l.row.toRowW d [] (fun f vs => PySem.call f vs) := by
  intro w s₀ s₁ mg mb G Y fa o pm cd doc dV kV ho hd hcd hD hmg hg args vals as hpre hlay hrd hwl hlo
  obtain rfl : dV = .none := Dflts.none hD hdf
  obtain rfl : kV = .none := Dflts.noKw hD
  obtain ⟨a, vs, ns, rfl, rfl, hobj, hints, hlen⟩ := script_of hn hpre hwl
  refine enter_call (codeAny_mono (call w s₀ s₁ mg mb fa o pm cd doc a vs ns G Y ho (fd_plain hd) hcd hmg hobj hints hlen hg) fun r s' hq => ?_)
  obtain ⟨rfl, h2, h3, h4⟩ := hq
  exact ⟨.inl ⟨.bool true, .bool true, [], rfl, fun _ => rfl, .bool true, post_true l _, fun _ => ⟨List.Pairwise.nil, fun _ hm => (nomatch hm)⟩⟩, h2, h3, h4⟩

/-! ### rules over ANY heap (no ledger) from facts about the written part K: the library's own take a ledger (News) for what they write -/
section
variable {prog : Program} {w : World} {A : Around} {E : Value → Shared → Prop} {s : Shared} {K : Frag}

/-! the whole heap as the ledger: makes every rule that writes through a ledger a rule over any heap -/
end
end Att

namespace L2
open PySem PySem.Spec PyProof.Rows

theorem vals_ints : ∀ {vs : List Value} {ns : List Int}, IntsAre vs ns → Vals (ns.map V.int) vs
  | _, _, .nil => .nil
  | _, _, .cons n t h => .cons ⟨t, rfl⟩ (vals_ints h)

/-- nothing is tracked but the script, known to the object (or it is an object of the module) -/
def Only (H : Hp) : Prop := ∀ b, H b = none ∨ ∃ o xs, H b = some (.frz o (.lst xs))

/-- THE HEAD: the law's promise, at the heap behind the top. F, the promise of the law's def, may use that base is part of the heap (so K.In base, base.Ns mainGlobals mg stand in Mod) -/
theorem law_call {P : Program} {w : World} {K : PySem.W.Frag} {mg mb : Str → Option Value} {CX : CXT} {k : Nat} {fa a : Addr} {fd : FuncData} {x : Str} {sp : Sp} {s₁ : Shared} {vs : List Value} {ns : List Int}
    (KX : K.In s₁.heap) (hns : s₁.heap.Ns mainGlobals mg) (hb : s₁.heap.Ns builtinsNs mb) (hbb : ∀ x : Str, x ≠ "__name__" → mb x = bootBuiltins x) (hlim : s₁.heap.NoLimit) (hg : s₁.gens = #[])
    (ha : s₁.heap.get? a = some { cls := .type "list", data := .seq vs.toArray }) (hi : IntsAre vs ns) (hl : ns.length ≤ sizeLine) (hr : Room k callerA)
    (F : ∀ base : Heap, K.In base → base.Ns mainGlobals mg → FnOk P w K mg base CX k fa fd [x] sp) (hbind : ∀ (s : Shared) (u : Value), BindsTo s fd ⟨[u], []⟩ [(x, u)])
    (hsp : ∀ H : Hp, Only H → SqL K H a (ns.map V.int) → sp [.ref a] H (fun v _ => v = .bl true) fun _ _ _ => False)
    (hCX : ∀ H e s', CX [] H s₁ (fun _ _ _ => False) e s' → False) :
    codeAny (model P w) callerA (.call (.ref fa) ⟨[.ref a], []⟩) (fun r s' => r = .ok (.ret (.bool true)) ∧ OldK s₁.heap s'.heap ∧ s'.os = s₁.os ∧ AllBare s'.gens) s₁ := by
  have rv := vals_ints hi
  have lenV := hi.length
  -- from an abstract heap in which nothing but the script may be tracked
  have core : ∀ H : Hp, Only H → SqL K H a (ns.map V.int) → HOk P w H s₁.heap → (∀ b, H b ≠ none → b = a) → (H a ≠ none → K.lookup a = none) →
      codeAny (model P w) callerA (.call (.ref fa) ⟨[.ref a], []⟩) (fun r s' => r = .ok (.ret (.bool true)) ∧ OldK s₁.heap s'.heap ∧ s'.os = s₁.os ∧ AllBare s'.gens) s₁ := by
    intro H hO hS hok hA hK
    have base_of : ∀ {b : Addr} {o : Obj}, s₁.heap.get? b = some o → H b = none → (hidT s₁.heap H).get? b = some o := fun e n => hidT_get e n
    have noA : ∀ {b : Addr} {o : Obj} {es : Array DictEntry} {ep : Nat}, s₁.heap.get? b = some o → o.data = .dict es ep → H b = none := fun {b o es ep} e d => by
      cases q : H b with
      | none => rfl
      | some u =>
        have e' : b = a := hA b (by rw [q]; simp)
        subst e'
        rw [ha] at e; cases e
        have d' : Data.seq vs.toArray _ = Data.dict es ep := d
        cases d'
    have nsK : ∀ {b : Addr} {m : Str → Option Value}, s₁.heap.Ns b m → (hidT s₁.heap H).Ns b m := fun {b m} ⟨o, es, ep, e, d, r⟩ => ⟨o, es, ep, base_of e (noA e d), d, r⟩
    have hKb : K.In (hidT s₁.heap H) := fun b o e => base_of (KX b o e) (by
      cases q : H b with
      | none => rfl
      | some u =>
        have e' : b = a := hA b (by rw [q]; simp)
        subst e'
        rw [hK (by rw [q]; simp)] at e; cases e)
    have hM : Mod K mg (hidT s₁.heap H) := ⟨hKb, nsK hns, ⟨mb, nsK hb, hbb⟩, let ⟨mc, h1, h2⟩ := hlim; ⟨mc, nsK h1, h2⟩⟩
    have e0 : Env0 P w K mg (hidT s₁.heap H) callerA [] s₁ H := ⟨rfl, hM, fun b o e => of_hidT e, Nat.le_of_eq (hidT_size _ _), trivial, fun b hb => absurd (show b ∈ ([] : List Addr) from hb) (by simp), hok, .of_eq hg⟩
    refine codeAny_mono ((F _ hKb (nsK hns)).run callerA [] s₁ H ⟨[.ref a], []⟩ [.ref a] [.ref a] _ _ hr e0 (hbind s₁ (.ref a)) (.cons rfl .nil) (hsp H hO hS)) fun r s' h => ?_
    cases r with
    | error e => exact (hCX H e s' h).elim
    | ok fl =>
      cases fl with
      | next => exact False.elim h
      | brk => exact False.elim h
      | cont => exact False.elim h
      | ret u =>
        obtain ⟨v, H', os, bare, un, hok', r', q⟩ := h
        have q' : v = .bl true := q
        subst q'
        obtain rfl : u = Value.bool true := r'
        refine ⟨rfl, OldK.of_keep fun b o e => ?_, os, bare⟩
        cases q : H b with
        | none => exact un.keep b o e q (by intro z; exact absurd (show b ∈ ([] : List Addr) from z) (by simp)) (by simp)
        | some u =>
          rcases hO b with z | ⟨ob, xs, z⟩
          · rw [q] at z; cases z
          · have z2 := un.frzs b ob _ z
            obtain ⟨e1, _⟩ := hok b _ z
            obtain ⟨e2, _⟩ := hok' b _ z2
            rw [e] at e1; cases e1
            exact e2
  cases hk : K.lookup a with
  | some o =>
    -- the script is one of the module's own objects
    have e := KX a o hk
    rw [ha] at e
    cases e
    refine core (fun _ => none) (fun _ => .inl rfl) (.inr ⟨_, vs.toArray, _, hk, rfl, rfl, rfl, by rw [List.size_toArray, lenV]; exact hl, by simpa using rv⟩) (fun b u z => by have z' : (none : Option HO) = some u := z; cases z') (fun b z => absurd rfl z) fun z => absurd rfl z
  | none =>
    refine core (fun b => if b = a then some (.frz { cls := .type "list", data := .seq vs.toArray } (.lst (ns.map V.int))) else none) (fun b => ?_) (.inl (.inr ⟨{ cls := .type "list", data := .seq vs.toArray }, if_pos rfl⟩)) (fun b u z => ?_) (fun b z => ?_) fun _ => hk
    · by_cases hb : b = a
      · exact .inr ⟨_, _, if_pos hb⟩
      · exact .inl (if_neg hb)
    · by_cases hb : b = a
      · have z' := (if_pos hb).symm.trans z
        cases z'
        subst hb
        exact ⟨ha, by rw [List.length_map]; exact hl, vs, _, rv, ha⟩
      · have z' := (if_neg hb).symm.trans z
        cases z'
    · by_cases hb : b = a
      · exact hb
      · exact absurd (if_neg hb) z
end L2

namespace L2
open PySem PySem.Spec PyProof.Rows

abbrev KOf {K : PySem.W.Frag} {h : Heap} (_ : K.In h) : PySem.W.Frag := K

/-- the goal that k_head leaves (case hc), from the law's promise. F gives the function object fd (K's own) once, then the promise over every base -/
theorem walk_of {l : PySem.W.OpenLaw} {n k : Nat} {q : Program} {loose : List Str} {XP : (Str → Option Value) → Heap → Prop} {YP : World → Heap → Prop} {d : DefRec} {K : Params → PySem.W.Frag} {CX : World → CXT} {sp : World → Sp} {x : Str}
    (hn : l.most = some n) (hn2 : n ≤ sizeLine) (hdf : d.params.defaults = []) (hr : Room k callerA)
    (hY : ∀ (w : World) (h : Heap), YP w h → (K w.params).In h)
    (F : ∀ (w : World) (mg : Str → Option Value) (fa : Addr) (h : Heap), (K w.params).In h → h.Ns mainGlobals mg → mg d.name = some (.ref fa) →
      ∃ fd : FuncData, (∀ (s : Shared) (u : Value), BindsTo s fd ⟨[u], []⟩ [(x, u)]) ∧
        ∀ base : Heap, (K w.params).In base → base.Ns mainGlobals mg → FnOk l.prog w (K w.params) mg base (CX w) k fa fd [x] (sp w))
    (hsp : ∀ (w : World) (H : Hp) (a : Addr) (ns : List Int), ns.length ≤ n → Only H → SqL (K w.params) H a (ns.map V.int) → sp w [.ref a] H (fun v _ => v = .bl true) fun _ _ _ => False)
    (hCX : ∀ (w : World) (H : Hp) (s : Shared) (e : Value) (s' : Shared), CX w [] H s (fun _ _ _ => False) e s' → False) :
    PySem.W.WalkO q loose XP YP l.row.toRowW d [] (fun f vs => PySem.call f vs) := by
  refine Att.attach_call hn hdf fun w s₀ s₁ mg mb fa o pm cd doc a vs ns G Y ho hd hcd hmg hobj hints hlen hg => ?_
  have KX := hY w _ Y
  obtain ⟨fd, hb, hF⟩ := F w mg fa _ KX G.T.g hmg
  exact law_call KX G.T.g G.T.b G.T.builtins G.T.nolimit hg hobj hints (Nat.le_trans hlen hn2) hr hF hb (fun H hO hS => hsp w H a ns hlen hO hS) fun H e s' => hCX w H s₁ e s'
end L2

/- THE LAST THEOREM (shape; LID, My.* are yours):
   My.Adr: a structure of the addresses that your layer names (classes, functions); My.Txt K t: a structure (Prop) of the equations over K;
   My.txt_mk : {K} {implicit addresses ..} (e1 : nsIn K mainGlobals "law" = some (some (.ref f))) (e2 : K.lookup f = some ⟨oc, od, .func (fnOf "law" "law" params body scope dV kV doc pm an cdv ct), sl⟩) (e3 : codeIn K cdv "law" = true) .. : ∃ t, My.Txt K t

set_option maxRecDepth 100000 in
set_option maxHeartbeats 0 in
theorem PySem.Challenge.cw_LID_holds : PySem.Challenge.rw_LID.Holds := by
  w_on; o_law; k_head; (case hw => w_witness2)
  k_fill
  refine L2.walk_of (l := PySem.Challenge.rw_LID) (n := 63) (k := 40) (x := "script") (CX := fun w => ..) (sp := fun _ => My.sp_law) rfl (by decide) rfl ⟨rfl, by decide, by decide⟩ (fun w h Y => PySem.W.kIn_of Y) ?F ?S ?C
  case F =>
    intro w mg fa h KX G hmg
    have T : ∃ t, My.Txt (L2.KOf KX) t := by
      dsimp only [L2.KOf]                          -- K must stand as «<heap const> w.params» for k_is
      refine' My.txt_mk ?e1 ?e2 ?e3 ..
      (case e1 => PySem.W.k_is)                    -- in the order: a name -> its address -> its object -> its parts
      (case e2 => PySem.W.k_is)
      ..
    obtain ⟨t, T⟩ := T
    have e0 := hmg.symm.trans (PySem.W.mg_of KX G T.law)
    cases e0                                       -- fa is the law's own address
    exact ⟨_, fun s u => .of_eq rfl, fun base kb nb => My.law_fn T kb nb⟩     -- if «.of_eq rfl» comes too early: refine' ⟨_, ?b, fun base kb nb => My.law_fn T kb nb⟩; exact fun s u => .of_eq rfl
  case S => exact fun w H a ns hl hO hS => ..
  case C => exact ..
(the tactic k_is has no namespace: write k_is) -/

/-! SHORT WORDS over the layer: a def of the text, its body, what a loop and a test want. -/
namespace L2
open PySem PySem.Spec PyProof.Rows

/-! ### the text by places -/
def defArgs (s : Stmt) : Arguments := match s with
  | .FunctionDef _ a _ _ _ _ _ _ _ _ => a
  | _ => { posonlyargs := [], args := [], vararg := none, kwonlyargs := [], kw_defaults := [], kwarg := none, defaults := [] }
def defBody (s : Stmt) : List Stmt := match s with
  | .FunctionDef _ _ b _ _ _ _ _ _ _ => b
  | _ => []
def defScope (s : Stmt) : Scope := match s with
  | .FunctionDef _ _ _ _ _ _ sc _ _ _ => sc
  | _ => { kind := .function, names := [], isGenerator := false, isCoroutine := false }

/-! ### no exception leaves a def -/
abbrev CX0 : CXT := fun _ _ _ _ _ _ => False
abbrev E0 : XK := fun _ _ _ => False
theorem pass0 {X : Cx} : Passes CX0 X E0 := fun _ _ _ _ _ _ _ h => h.elim

/-! ### a def (or method) of the text as it stands behind the top -/
structure Fun (K : PySem.W.Frag) (x qual : Str) (st : Stmt) (f : Addr) (fd : FuncData) : Prop where
  ex : ∃ (oc : Value) (od : Option Addr) (kV doc pm : Value) (an : Option Addr) (cdv ct : Value) (osl : Array (Option Value)),
    fd = PySem.W.fnOf x qual (defArgs st) (defBody st) (defScope st) .none kV doc pm an cdv ct ∧ K.lookup f = some ⟨oc, od, .func fd, osl⟩ ∧ PySem.W.codeIn K cdv qual = true
  kp : PySem.W.keepIn K (.ref f) = true
section
variable {P : Program} {w : World} {K : PySem.W.Frag} {mg : Str → Option Value} {base : Heap}
/-- THE RULE for a def: its body as a term of rules, and the reading of that term -/
theorem Fun.ok {x qual : Str} {st : Stmt} {f : Addr} {fd : FuncData} {N ps : List Str} {k : Nat} {sp : Sp} (F : Fun K x qual st f fd) (S : FnScope N ps (defScope st)) (len : ∀ vs H Q E, sp vs H Q E → vs.length = ps.length)
    (hbody : ∀ (cdv : Value) (A : Around) (outer : List Env) (s : Shared) (H : Hp) (vs : List V) (Q : VK) (E : XK), Room k (A.deeper (envOfC qual (defScope st) s.heap.objs.size f cdv)) → sp vs H Q E →
      ∃ t, PSs (cxOf CX0 P w K mg base N qual (defScope st) f cdv A outer s H E).nox (defBody st) t ∧ t { nx := fun _ H' => Q .non H', rt := Q } (start N vs) H) : FnOk P w K mg base CX0 (k + 1) f fd ps sp := by
  obtain ⟨oc, od, kV, doc, pm, an, cdv, ct, osl, rfl, lk, hcd⟩ := F.ex
  refine fn_of lk hcd S len fun A outer s H vs Q E hr hsp => ?_
  obtain ⟨t, h, q⟩ := hbody cdv A outer s H vs Q E hr hsp
  exact ⟨t, h.nox, q⟩
/-- how its arguments bind (no defaults): h is «fun _ _ _ _ _ _ us hl => match us, hl with | [_, _], _ => rfl», one _ a parameter -/
theorem Fun.binds {x qual : Str} {st : Stmt} {f : Addr} {fd : FuncData} {ps : List Str} (F : Fun K x qual st f fd)
    (h : ∀ (kV doc pm : Value) (an : Option Addr) (cdv ct : Value) (us : List Value), us.length = ps.length → bindArgs (PySem.W.fnOf x qual (defArgs st) (defBody st) (defScope st) .none kV doc pm an cdv ct) ⟨us, []⟩ = pure (ps.zip us)) : Binds K fd ps [] := by
  obtain ⟨oc, od, kV, doc, pm, an, cdv, ct, osl, rfl, lk, hcd⟩ := F.ex
  exact .all (h kV doc pm an cdv ct)
theorem fun_mk {x qual : Str} {st : Stmt} {f : Addr} {oc : Value} {od an : Option Addr} {osl : Array (Option Value)} {kV doc pm cdv ct : Value} (l : K.lookup f = some ⟨oc, od, .func (PySem.W.fnOf x qual (defArgs st) (defBody st) (defScope st) .none kV doc pm an cdv ct), osl⟩)
    (c : PySem.W.codeIn K cdv qual = true) (k : PySem.W.keepIn K (.ref f) = true) : Fun K x qual st f (PySem.W.fnOf x qual (defArgs st) (defBody st) (defScope st) .none kV doc pm an cdv ct) := ⟨⟨oc, od, kV, doc, pm, an, cdv, ct, osl, rfl, l, c⟩, k⟩
end
theorem hu_of {A : Around} {k : Nat} (hr : Room k A) : A.units + 1 < cLine := Nat.lt_of_le_of_lt (Nat.add_le_add_left (by decide : 1 ≤ 64) _) hr.units
/-! ### expressions in short: the name that stands in the i-th slot -/

/-! ### tests -/
theorem iteF {A B : Prop} (h : B) : if false = true then A else B := by
  rw [if_neg Bool.false_ne_true]
  exact h
theorem iteT {A B : Prop} (h : A) : if true = true then A else B := by
  rw [if_pos rfl]
  exact h
/-! ### heaps -/
/-- all that was tracked is as it was -/
def Same (H H' : Hp) : Prop := ∀ b o, H b = some o → H' b = some o
theorem Same.refl (H : Hp) : Same H H := fun _ _ h => h
theorem Same.trans {H H1 H2 : Hp} (a : Same H H1) (b : Same H1 H2) : Same H H2 := fun c o h => b c o (a c o h)
theorem Same.free {H H' : Hp} (e : Same H H') {l : Addr} (h : H' l = Option.none) : H l = Option.none := by
  cases q : H l with
  | none => rfl
  | some o =>
    rw [e l o q] at h
    cases h
theorem Same.seq {K : PySem.W.Frag} {H H' : Hp} {a : Addr} {xs : List V} (e : Same H H') (h : SqL K H a xs) : SqL K H' a xs := by
  rcases h with (h | ⟨o, h⟩) | h
  · exact .inl (.inl (e _ _ h))
  · exact .inl (.inr ⟨o, e _ _ h⟩)
  · exact .inr h

end L2

namespace L2
open PySem PySem.Spec PyProof.Rows

/-! ### lists of pairs as tables -/
section
variable {κ : Type} [DecidableEq κ]
def valV (kvs : List (κ × V)) (k : κ) : Option V := (kvs.find? fun kv => decide (kv.1 = k)).map (·.2)
/-- in its place, or at the end -/
def putK (kvs : List (κ × V)) (k : κ) (v : V) : List (κ × V) :=
  if (kvs.any fun kv => decide (kv.1 = k)) = true then kvs.map (fun kv => if kv.1 = k then (kv.1, v) else kv) else kvs ++ [(k, v)]
def dropK (kvs : List (κ × V)) (k : κ) : List (κ × V) := kvs.filter fun kv => decide (kv.1 ≠ k)

theorem valV_pos {p : κ × V} {r : List (κ × V)} {k : κ} (e : p.1 = k) : valV (p :: r) k = some p.2 := by simp [valV, List.find?_cons, e]
theorem valV_neg {p : κ × V} {r : List (κ × V)} {k : κ} (e : ¬ p.1 = k) : valV (p :: r) k = valV r k := by simp [valV, List.find?_cons, e]
theorem valV_any (k : κ) : ∀ kvs : List (κ × V), (kvs.any fun kv => decide (kv.1 = k)) = (valV kvs k).isSome
  | [] => rfl
  | p :: r => by
    rw [List.any_cons]
    by_cases e : p.1 = k
    · simp only [valV_pos e, decide_eq_true e, Bool.true_or, Option.isSome_some]
    · rw [valV_neg e, decide_eq_false e, Bool.false_or]; exact valV_any k r
theorem RelO.isSome_eq {o : Option V} {u : Option Value} (r : RelO o u) : o.isSome = u.isSome := by
  cases o with
  | none => cases u with
    | none => rfl
    | some _ => exact (show False from r).elim
  | some _ => cases u with
    | none => exact (show False from r).elim
    | some _ => rfl
theorem RelO.getD {o : Option V} {u : Option Value} {d : V} {d' : Value} (r : RelO o u) (rd : RelV d d') : RelV (o.getD d) (u.getD d') := by
  cases o with
  | none => cases u with
    | none => exact rd
    | some _ => exact (show False from r).elim
  | some _ => cases u with
    | none => exact (show False from r).elim
    | some _ => exact r

/-- raw tables of the same keys -/
theorem KV.val {kvs : List (κ × V)} {vs : List (κ × Value)} (r : KV kvs vs) (k : κ) : RelO (valV kvs k) (valueAt vs k) := by
  unfold KV at r
  induction r with
  | nil => exact True.intro
  | @cons p q ps qs h t ih =>
    obtain ⟨h1, h2⟩ := h
    by_cases e : p.1 = k
    · have e' : q.1 = k := h1.symm.trans e
      have b : valueAt (q :: qs) k = some q.2 := by simp [valueAt, List.find?_cons, e']
      rw [valV_pos e, b]; exact h2
    · have e' : ¬ q.1 = k := fun z => e (h1.trans z)
      have b : valueAt (q :: qs) k = valueAt qs k := by simp [valueAt, List.find?_cons, e']
      rw [valV_neg e, b]; exact ih
theorem KV.any {kvs : List (κ × V)} {vs : List (κ × Value)} (r : KV kvs vs) (k : κ) : (kvs.any fun kv => decide (kv.1 = k)) = vs.any fun kv => decide (kv.1 = k) := by
  unfold KV at r
  induction r with
  | nil => rfl
  | cons h t ih => rw [List.any_cons, List.any_cons, ih, h.1]
theorem KV.repl {kvs : List (κ × V)} {vs : List (κ × Value)} (r : KV kvs vs) (k : κ) {y : V} {u : Value} (ry : RelV y u) :
    KV (kvs.map fun kv => if kv.1 = k then (kv.1, y) else kv) (vs.map fun kv => if kv.1 = k then (kv.1, u) else kv) := by
  unfold KV at r ⊢
  induction r with
  | nil => exact .nil
  | @cons p q ps qs h t ih =>
    rw [List.map_cons, List.map_cons]
    refine .cons ?_ ih
    obtain ⟨h1, h2⟩ := h
    by_cases e : p.1 = k
    · rw [if_pos e, if_pos (h1.symm.trans e)]; exact ⟨h1, ry⟩
    · rw [if_neg e, if_neg (fun z => e (h1.trans z))]; exact ⟨h1, h2⟩
theorem KV.put {kvs : List (κ × V)} {vs : List (κ × Value)} (r : KV kvs vs) (k : κ) {y : V} {u : Value} (ry : RelV y u) : KV (putK kvs k y) (stored vs k u) := by
  unfold putK stored
  rw [r.any k]
  by_cases e : (vs.any fun kv => decide (kv.1 = k)) = true
  · rw [if_pos e, if_pos e]; exact r.repl k ry
  · rw [if_neg e, if_neg e]; exact Paired.snoc r ⟨rfl, ry⟩
theorem KV.drop {kvs : List (κ × V)} {vs : List (κ × Value)} (r : KV kvs vs) (k : κ) : KV (dropK kvs k) (without vs k) := by
  unfold KV at r ⊢
  unfold dropK without
  induction r with
  | nil => exact .nil
  | @cons p q ps qs h t ih =>
    obtain ⟨h1, h2⟩ := h
    rw [List.filter_cons, List.filter_cons]
    by_cases e : p.1 = k
    · have a : ¬ decide (p.1 ≠ k) = true := by simp [e]
      have b : ¬ decide (q.1 ≠ k) = true := by simp [h1.symm.trans e]
      rw [if_neg a, if_neg b]; exact ih
    · have e' : ¬ q.1 = k := fun z => e (h1.trans z)
      have a : decide (p.1 ≠ k) = true := by simp [e]
      have b : decide (q.1 ≠ k) = true := by simp [e']
      rw [if_pos a, if_pos b]; exact .cons ⟨h1, h2⟩ ih
theorem KV.length {kvs : List (κ × V)} {vs : List (κ × Value)} (r : KV kvs vs) : kvs.length = vs.length := Paired.length r
end


/-! ### a tracked dict, its keys ints and texts or tuples of these -/
theorem kV_is {P : Program} {w : World} {k : Key} {u : Value} (r : RelV (kV k) u) : (mixKind P w).is k u = true := by
  cases k with
  | inl i => obtain ⟨t, e⟩ := (show ∃ t, u = Value.int i t from r); subst e; exact mixKind_int P w i t
  | inr x => obtain ⟨t, e⟩ := (show ∃ t, u = Value.str x t from r); subst e; exact mixKind_str P w x t
theorem items_are {P : Program} {w : World} : ∀ {ks : List Key} {us : List Value}, Vals (ks.map kV) us → ItemsAre (mixKind P w) ks us
  | [], _, r => by rw [List.map_nil] at r; cases r; exact .nil
  | k :: ks, _, r => by
    rw [List.map_cons] at r
    cases r with
    | cons h t => exact .cons (kV_is h) (items_are t)

/-- raw entries of a dict with tuple keys -/
abbrev KT (H : Hp) : List (List Key × V) → List (List Key × Addr × Value) → Prop := Paired fun p q => p.1 = q.1 ∧ H q.2.1 = some (.tup (p.1.map kV)) ∧ RelV p.2 q.2.2
theorem KT.val {H : Hp} {kvs : List (List Key × V)} {xs : List (List Key × Addr × Value)} (r : KT H kvs xs) (k : List Key) : RelO (valV kvs k) ((atKey xs k).map (·.2)) := by
  induction r with
  | nil => exact True.intro
  | @cons p q ps qs h t ih =>
    obtain ⟨h1, _, h2⟩ := h
    by_cases e : p.1 = k
    · have e' : q.1 = k := h1.symm.trans e
      have b : atKey (q :: qs) k = some q.2 := by simp [atKey, List.find?_cons, e']
      rw [valV_pos e, b]; exact h2
    · have e' : ¬ q.1 = k := fun z => e (h1.trans z)
      have b : atKey (q :: qs) k = atKey qs k := by simp [atKey, List.find?_cons, e']
      rw [valV_neg e, b]; exact ih
theorem KT.repl {H : Hp} {kvs : List (List Key × V)} {xs : List (List Key × Addr × Value)} (r : KT H kvs xs) (k : List Key) {y : V} {u : Value} (ry : RelV y u) :
    KT H (kvs.map fun kv => if kv.1 = k then (kv.1, y) else kv) (xs.map (putAt k u)) := by
  induction r with
  | nil => exact .nil
  | @cons p q ps qs h t ih =>
    rw [List.map_cons, List.map_cons]
    refine .cons ?_ ih
    obtain ⟨h1, h2, h3⟩ := h
    unfold putAt
    by_cases e : p.1 = k
    · rw [if_pos e, if_pos (h1.symm.trans e)]; exact ⟨h1, h2, ry⟩
    · rw [if_neg e, if_neg (fun z => e (h1.trans z))]; exact ⟨h1, h2, h3⟩
theorem KT.put {H : Hp} {kvs : List (List Key × V)} {xs : List (List Key × Addr × Value)} (r : KT H kvs xs) (k : List Key) {b : Addr} {y : V} {u : Value} (hb : H b = some (.tup (k.map kV))) (ry : RelV y u) :
    KT H (putK kvs k y) (storedH xs k b u) := by
  have e : (kvs.any fun kv => decide (kv.1 = k)) = (atKey xs k).isSome := by
    rw [valV_any, (r.val k).isSome_eq, Option.isSome_map]
  unfold putK storedH
  rw [e]
  by_cases q : (atKey xs k).isSome = true
  · rw [if_pos q, if_pos q]; exact r.repl k ry
  · rw [if_neg q, if_neg q]; exact Paired.snoc r ⟨rfl, hb, ry⟩
theorem KT.keeps {H H' : Hp} {kvs : List (List Key × V)} {xs : List (List Key × Addr × Value)} (r : KT H kvs xs) (ht : ∀ b ys, H b = some (.tup ys) → H' b = some (.tup ys)) : KT H' kvs xs :=
  Paired.mapP r fun _ _ z => ⟨z.1, ht _ _ z.2.1, z.2.2⟩

section
variable {P : Program} {w : World} {H : Hp} {h : Heap} {a : Addr}
theorem rd_of {u : HO} (ok : HOk P w H h) (e : Rd H a u) : ObjOk P w H h a u := e.ok ok
theorem dk_rd {kvs : List (Key × V)} (ok : HOk P w H h) (e : Rd H a (.dK kvs)) : kvs.length ≤ sizeLine ∧ (a == sysModules) = false ∧ ∃ vs, KV kvs vs ∧ h.DictOf (mixKind P w) a vs :=
  show ObjOk P w H h a (.dK kvs) from rd_of ok e
/-- a tracked tuple of ints and texts is a key -/
theorem key_of {ks : List Key} (ok : HOk P w H h) (e : H a = some (.tup (ks.map kV))) : (tupleKind (mixKind P w)).is h ks a := by
  obtain ⟨_, its, r, o, h1, h2, ⟨n, h3⟩, _⟩ := (show ObjOk P w H h a (.tup (ks.map kV)) from ok a _ e)
  exact ⟨o, its.toArray, n, h1, h2, h3, by simpa using items_are r⟩
theorem dt_rd {kvs : List (List Key × V)} (ok : HOk P w H h) (e : Rd H a (.dT kvs)) : kvs.length ≤ sizeLine ∧ (a == sysModules) = false ∧
    ∃ xs, KT H kvs xs ∧ h.DictOfH (tupleKind (mixKind P w)) a xs := by
  obtain ⟨z, y, xs, r, o, es, ep, h1, h2, h3, h4, h5⟩ := (show ObjOk P w H h a (.dT kvs) from rd_of ok e)
  refine ⟨z, y, xs, r, o, es, ep, h1, h2, h3, h4, fun x hx => ?_, h5⟩
  have all : ∀ {l : List (List Key × V)} {m : List (List Key × Addr × Value)}, KT H l m → ∀ x ∈ m, (tupleKind (mixKind P w)).is h x.1 x.2.1 := by
    intro l m q
    induction q with
    | nil => intro x hx; exact nomatch hx
    | @cons p q ps qs hq t ih =>
      intro x hx
      rcases List.mem_cons.mp hx with e | hx
      · subst e
        exact key_of ok (by rw [← hq.1]; exact hq.2.1)
      · exact ih x hx
  exact all r x hx
end

/-- what the dict at a holds at the key y -/
def DGet (H : Hp) (a : Addr) (y : V) (r : Option V) : Prop :=
  (∃ kvs k, Rd H a (.dK kvs) ∧ y = kV k ∧ r = valV kvs k) ∨ ∃ kvs k b, Rd H a (.dT kvs) ∧ y = .ref b ∧ H b = some (.tup (k.map kV)) ∧ r = valV kvs k
/-- the heap behind a[y] = v -/
def DPut (H : Hp) (a : Addr) (y v : V) (H' : Hp) : Prop :=
  (∃ kvs k, H a = some (.dK kvs) ∧ y = kV k ∧ kvs.length < sizeLine ∧ H' = upd H a (.dK (putK kvs k v))) ∨
  ∃ kvs k b, H a = some (.dT kvs) ∧ y = .ref b ∧ H b = some (.tup (k.map kV)) ∧ kvs.length < sizeLine ∧ H' = upd H a (.dT (putK kvs k v))
theorem DGet.k {H : Hp} {a : Addr} {kvs : List (Key × V)} {k : Key} (e : H a = some (.dK kvs)) : DGet H a (kV k) (valV kvs k) := .inl ⟨kvs, k, .inl e, rfl, rfl⟩
theorem DGet.t {H : Hp} {a b : Addr} {kvs : List (List Key × V)} {k : List Key} (e : H a = some (.dT kvs)) (eb : H b = some (.tup (k.map kV))) : DGet H a (.ref b) (valV kvs k) := .inr ⟨kvs, k, b, .inl e, rfl, eb, rfl⟩
theorem DPut.k {H : Hp} {a : Addr} {kvs : List (Key × V)} {k : Key} {v : V} (e : H a = some (.dK kvs)) (hl : kvs.length < sizeLine) : DPut H a (kV k) v (upd H a (.dK (putK kvs k v))) := .inl ⟨kvs, k, e, rfl, hl, rfl⟩
theorem DPut.t {H : Hp} {a b : Addr} {kvs : List (List Key × V)} {k : List Key} {v : V} (e : H a = some (.dT kvs)) (eb : H b = some (.tup (k.map kV))) (hl : kvs.length < sizeLine) :
    DPut H a (.ref b) v (upd H a (.dT (putK kvs k v))) := .inr ⟨kvs, k, b, e, rfl, eb, hl, rfl⟩


section
variable {X : Cx} {pins : List (Addr × Obj)} {σ : St} {H : Hp} {s : Shared} {a : Addr} {y v : V} {u r : Value} {o : Option V} {A : Around} {E : Value → Shared → Prop}

/-- d[y], there -/
theorem d_getItem {Q : Value → Shared → Prop} (hu : A.units + 1 < cLine) (I : Inv X pins σ H s) (g : DGet H a y (some v)) (ry : RelV y u) (h : ∀ w' s', Inv X pins σ H s' → RelV v w' → Q w' s') :
    wpAny (model X.prog X.w) A (getItem (.ref a) u) Q E s := by
  rcases g with ⟨kvs, k, e, ey, l⟩ | ⟨kvs, k, b, e, ey, eb, l⟩
  · subst ey
    obtain ⟨z, hd, vs, rel, dd⟩ := dk_rd I.hok e
    obtain ⟨w', hw, rw'⟩ := RelO.some_of (v := v) (o := valueAt vs k) (by rw [l]; exact rel.val k)
    exact wpAny_getItem_of (kV_is ry) dd.mapOf hw (h w' _ (I.tok _) rw')
  · subst ey
    cases (show u = Value.ref b from ry)
    obtain ⟨z, hd, xs, rel, dd⟩ := dt_rd I.hok e
    obtain ⟨w', hw, rw'⟩ := RelO.some_of (v := v) (o := (atKey xs k).map (·.2)) (by rw [l]; exact rel.val k)
    obtain ⟨p, hp, hp2⟩ := Option.map_eq_some_iff.mp hw
    refine wpAny_getItem_heap (tupleKind_room_in1 hu) (key_of I.hok eb) dd hp ?_
    rw [hp2]
    exact h w' _ (I.tok _) rw'
end

section
variable {X : Cx} {pins : List (Addr × Obj)} {σ : St} {H : Hp} {s : Shared} {a : Addr} {kvs : List (Key × V)} {k : Key} {u : Value} {A : Around} {E : Value → Shared → Prop}
/-- len(d) -/
theorem d_len {Q : Value → Shared → Prop} (I : Inv X pins σ H s) (e : Rd H a (.dK kvs)) (h : ∀ t s', Inv X pins σ H s' → Q (.int kvs.length t) s') : wpAny (model X.prog X.w) A (call (.builtin "len") [.ref a]) Q E s := by
  obtain ⟨z, hd, vs, rel, dd⟩ := dk_rd I.hok e
  refine call_len_dict hd dd (by rw [← rel.length]; rw [sizeLine_eq] at z; omega) ?_
  rw [← rel.length]
  exact h _ _ (I.tok _)
end


/-! ### readings and rules -/
theorem dict_typeIs {X : Cx} {pins : List (Addr × Obj)} {σ : St} {H : Hp} {s : Shared} {a : Addr} {y : V} {o : Option V} (I : Inv X pins σ H s) (g : DGet H a y o) : s.TypeIs (.ref a) "dict" := by
  rcases g with ⟨kvs, k, e, _, _⟩ | ⟨kvs, k, b, e, _, _, _⟩
  · obtain ⟨_, _, vs, _, dd⟩ := dk_rd I.hok e
    exact dd.typeIs
  · obtain ⟨_, _, xs, _, dd⟩ := dt_rd I.hok e
    exact dd.typeIs


/-! ### displays -/

/-! ### methods -/


/-! ### dict(d): a copy -/


end L2
namespace L2
open PySem PySem.Spec PyProof.Rows
end L2
namespace ZT
open PySem
section
variable {prog : Program} {w : World} {A : Around} {E : Value → Shared → Prop} {s : Shared}
theorem nextOf_tuple_item {it l : Addr} {i : Nat} {items : Array Value} {x : Value} {Q : Value → Shared → Prop} (hit : s.heap.IsTupleIter it l i)
    (hl : s.heap.IsTuple l items) (hx : items[i]? = some x) (hQ : ∀ h', h'.IsTupleIter it l (i + 1) → Heap.SameBut it s.heap h' → Q x { s with heap := h' }) :
    wpAny (model prog w) A (Builtin.SmallTypes.nextOf (.ref it)) Q E s := by
  obtain ⟨o, ho, hc, hd⟩ := id hit
  obtain ⟨ol, hol, _, nl, hdl⟩ := hl
  unfold Builtin.SmallTypes.nextOf
  refine wpAny_bind (wpAny_callSpecial?_slot (name := Str.ofString "__next__") hit.typeIs F.slot_tuple_iterator_next
    (wpAny_call_entry F.slot_tuple_iterator_next hit.typeIs F.entry_tuple_iterator_next ?_ (F.args_tuple_iterator_next_1 _)))
  show wpAny _ _ (field (.ref it) 0 >>= _) _ _ s
  refine wpAny_bind (wpAny_field ho hd (x := .ref l) rfl ?_)
  show wpAny _ _ (if (Value.ref l == Value.none) = true then _ else _) _ _ s
  rw [if_neg (show ¬ ((Value.ref l == Value.none) = true) from Bool.false_ne_true)]
  show wpAny _ _ (field (.ref it) 1 >>= _) _ _ s
  refine wpAny_bind (wpAny_field ho hd (x := .int i 0) rfl ?_)
  show wpAny _ _ (seqItems? (.ref l) >>= _) _ _ s
  refine wpAny_bind (wpAny_seqItems hol hdl ?_)
  simp only [Int.toNat_natCast, hx]
  refine wpAny_bind (wpAny_setField ho hd (by simp) (wpAny_pure ⟨x, rfl, wpAny_pure (hQ _ ?_ (Heap.SameBut.update ..))⟩))
  exact ⟨_, Heap.get?_update_self _ ho (Obj.isFreed_of_fields (Obj.data_mapFields hd _)), (Obj.cls_mapFields ..).trans hc, by
    rw [Obj.data_mapFields hd]; simp [rawInt]⟩
theorem nextOf_tuple_end {it l : Addr} {i : Nat} {items : Array Value} {Q : Value → Shared → Prop} (hh : A.handled = none)
    (hit : s.heap.IsTupleIter it l i) (hl : s.heap.IsTuple l items) (hx : items[i]? = none)
    (hE : ∀ h' e, Heap.ExtBut it s.heap h' → (∃ o, h'.get? e = some o ∧ o.cls = .type "StopIteration") → E (.ref e) { s with heap := h' }) :
    wpAny (model prog w) A (Builtin.SmallTypes.nextOf (.ref it)) Q E s := by
  obtain ⟨o, ho, hc, hd⟩ := id hit
  obtain ⟨ol, hol, _, nl, hdl⟩ := hl
  unfold Builtin.SmallTypes.nextOf
  refine wpAny_bind (wpAny_callSpecial?_slot (name := Str.ofString "__next__") hit.typeIs F.slot_tuple_iterator_next
    (wpAny_call_entry F.slot_tuple_iterator_next hit.typeIs F.entry_tuple_iterator_next ?_ (F.args_tuple_iterator_next_1 _)))
  show wpAny _ _ (field (.ref it) 0 >>= _) _ _ s
  refine wpAny_bind (wpAny_field ho hd (x := .ref l) rfl ?_)
  show wpAny _ _ (if (Value.ref l == Value.none) = true then _ else _) _ _ s
  rw [if_neg (show ¬ ((Value.ref l == Value.none) = true) from Bool.false_ne_true)]
  show wpAny _ _ (field (.ref it) 1 >>= _) _ _ s
  refine wpAny_bind (wpAny_field ho hd (x := .int i 0) rfl ?_)
  show wpAny _ _ (seqItems? (.ref l) >>= _) _ _ s
  refine wpAny_bind (wpAny_seqItems hol hdl ?_)
  simp only [Int.toNat_natCast, hx]
  refine wpAny_bind (wpAny_rule (wpAny_bind (wpAny_setField ho hd (by simp) ?_)))
  show wpAny _ _ (newExc (.type "StopIteration") [] >>= _) _ _ _
  refine wpAny_bind ?_
  simp only [newExc, newTuple]
  refine wpAny_bind (wpAny_newObj_type ?_ (by size_fits))
  refine wpAny_bind (m := firstArgMember _ _) (wpAny_of_eq (a := Value.none) (by first | rfl | (simp only [firstArgMember]; rfl)) ?_)
  refine wpAny_newObj_type ?_ (by size_fits)
  simp only [raiseNew]
  refine wpAny_bind (wpAny_handled ?_)
  first | rw [show A.in1.handled = none from hh] | rw [hh]
  refine wpAny_bind (wpAny_pure (wpAny_throw ?_))
  exact hE _ _ (((Heap.SameBut.update ..).extBut.push _).push _) ⟨_, Heap.get?_push_size _ rfl, rfl⟩

/-- an iterator that a zip walks: over a list or a tuple -/
inductive Kd where
  | lst | tup
def Kd.It (k : Kd) (h : Heap) (it l : Addr) (i : Nat) : Prop := match k with
  | .lst => h.IsListIter it l i
  | .tup => h.IsTupleIter it l i
def Kd.Sr (k : Kd) (h : Heap) (l : Addr) (xs : Array Value) : Prop := match k with
  | .lst => h.IsList l xs
  | .tup => h.IsTuple l xs
theorem Kd.It.at {k : Kd} {h h' : Heap} {it l : Addr} {i : Nat} (x : k.It h it l i) (e : ∀ o, h.get? it = some o → h'.get? it = some o) : k.It h' it l i := by
  cases k
  · exact Heap.IsListIter.at (show h.IsListIter it l i from x) e
  · exact Heap.IsTupleIter.at (show h.IsTupleIter it l i from x) e
theorem Kd.Sr.at {k : Kd} {h h' : Heap} {l : Addr} {xs : Array Value} (x : k.Sr h l xs) (e : ∀ o, h.get? l = some o → h'.get? l = some o) : k.Sr h' l xs := by
  cases k
  · exact Heap.IsList.at (show h.IsList l xs from x) e
  · obtain ⟨o, ho, r⟩ := (show h.IsTuple l xs from x)
    exact ⟨o, e o ho, r⟩
theorem Kd.It.extBut {k : Kd} {h h' : Heap} {it l b : Addr} {i : Nat} (x : k.It h it l i) (hs : Heap.ExtBut b h h') (hab : it ≠ b) : k.It h' it l i := x.at fun o e => hs _ o hab e
theorem Kd.Sr.extBut {k : Kd} {h h' : Heap} {l b : Addr} {xs : Array Value} (x : k.Sr h l xs) (hs : Heap.ExtBut b h h') (hab : l ≠ b) : k.Sr h' l xs := x.at fun o e => hs _ o hab e
theorem Kd.It.lt {k : Kd} {h : Heap} {it l : Addr} {i : Nat} (x : k.It h it l i) : it < h.objs.size := by
  cases k
  · obtain ⟨_, e, _⟩ := (show h.IsListIter it l i from x); exact Heap.lt_size e
  · obtain ⟨_, e, _⟩ := (show h.IsTupleIter it l i from x); exact Heap.lt_size e
theorem Kd.Sr.lt {k : Kd} {h : Heap} {l : Addr} {xs : Array Value} (x : k.Sr h l xs) : l < h.objs.size := by
  cases k
  · obtain ⟨_, e, _⟩ := (show h.IsList l xs from x); exact Heap.lt_size e
  · obtain ⟨_, e, _⟩ := (show h.IsTuple l xs from x); exact Heap.lt_size e
theorem Kd.item {k : Kd} {it l : Addr} {i : Nat} {items : Array Value} {x : Value} {Q : Value → Shared → Prop} (hit : k.It s.heap it l i)
    (hl : k.Sr s.heap l items) (hx : items[i]? = some x) (hQ : ∀ h', k.It h' it l (i + 1) → Heap.SameBut it s.heap h' → Q x { s with heap := h' }) :
    wpAny (model prog w) A (Builtin.SmallTypes.nextOf (.ref it)) Q E s := by
  cases k
  · exact wpAny_nextOf_list_item hit hl hx hQ
  · exact nextOf_tuple_item hit hl hx hQ
theorem Kd.end {k : Kd} {it l : Addr} {i : Nat} {items : Array Value} {Q : Value → Shared → Prop} (hh : A.handled = none)
    (hit : k.It s.heap it l i) (hl : k.Sr s.heap l items) (hx : items[i]? = none)
    (hE : ∀ h' e, Heap.ExtBut it s.heap h' → (∃ o, h'.get? e = some o ∧ o.cls = .type "StopIteration") → E (.ref e) { s with heap := h' }) :
    wpAny (model prog w) A (Builtin.SmallTypes.nextOf (.ref it)) Q E s := by
  cases k
  · exact wpAny_nextOf_list_end hh hit hl hx hE
  · exact nextOf_tuple_end hh hit hl hx hE
variable {K1 K2 : Kd}
def Kd.name : Kd → String
  | .lst => "list_iterator"
  | .tup => "tuple_iterator"
def Kd.obj (k : Kd) (l : Addr) : Obj := { cls := .type k.name, data := .fields #[.ref l, .int 0 0] }
theorem Kd.iter {k : Kd} {l : Addr} {xs : Array Value} {Q : Value → Shared → Prop} (hl : k.Sr s.heap l xs) (hQ : Q (.ref s.heap.objs.size) { s with heap := s.heap.push (k.obj l) }) : wpAny (model prog w) A (pyIter (.ref l)) Q E s := by
  cases k
  · exact wpAny_pyIter_list hl hQ
  · exact wpAny_pyIter_tuple hl hQ
theorem Kd.Sr.push {k : Kd} {h : Heap} {l : Addr} {xs : Array Value} (x : k.Sr h l xs) (o : Obj) : k.Sr (h.push o) l xs := x.at fun _ e => Heap.get?_push_of_some _ e
end
end ZT
namespace TM
open PySem PyProof.Rows
open PySem.AutoSeq1 (wpAny_loadPart')
theorem noFill_tuple_mul : fillsNumberSlot (.type "tuple") "mul" = pure false :=
  PySem.fillsNumberSlot_seq (id := "tuple.__mul__") (r := some (.builtin "tuple.__rmul__")) F.slot_tuple_mul.lookup (by decide +kernel) F.slot_tuple_rmul.lookup (by decide +kernel)
theorem repeat_tuple : seqRepeat? (.type "tuple") = pure (some (.builtin "tuple.__mul__")) := by
  unfold seqRepeat?
  rw [PySem.seqSlot_of (T := "tuple") (name := "__mul__") (id := "tuple.__mul__") F.slot_tuple_mul.lookup (by decide +kernel), PySem.seqSlot_of (T := "tuple") (name := "__rmul__") (id := "tuple.__rmul__") F.slot_tuple_rmul.lookup (by decide +kernel)]
  rfl
theorem int_rmul_tuple (a : Int) (t : Tok) (l : Addr) (items : Array Value) (n : Nat) (dd : Option Addr) (sl : Array (Option Value)) :
    Meets (Builtin.«int.__rmul__» ⟨[.int a t, .ref l], []⟩) (fun _ R s => s.heap.get? l = some { cls := .type "tuple", dict := dd, data := .seq items n, slots := sl } ∧ R (.ok (.ret Value.notImplemented)) s) :=
  .of_wp fun prog w A R s h => by obtain ⟨hp, g, d, tk, os⟩ := s; obtain ⟨hl, h⟩ := h; wp_walk using wpAny_loadPart' hl; exact ⟨_, rfl, h⟩
theorem tuple_mul (l : Addr) (items : Array Value) (n : Nat) (dd : Option Addr) (sl : Array (Option Value)) (x : Int) (u : Tok) (h0 : ¬ (x < -(2 ^ 63) || x ≥ 2 ^ 63) = true) (h1 : ¬ (items.isEmpty || x == 1) = true) (h2 : ¬ (x ≤ 0 || items.isEmpty) = true)
    (h3 : ¬ (items.size : Int) * x > (2 ^ 63 - 1) / 8) (h4 : ¬ Builtin.Tuple.tupleTooMany (items.size * x) = true) (h5 : (List.foldl (fun x1 x2 => x1 ++ x2) #[] (List.replicate x.toNat items)).size ≤ sizeLine) :
    Meets (Builtin.«tuple.__mul__» ⟨[.ref l, .int x u], []⟩) (fun _ R s => s.heap.get? l = some { cls := .type "tuple", dict := dd, data := .seq items n, slots := sl } ∧ R (.ok (.ret (Value.ref s.heap.objs.size))) { s with heap := s.heap.push { cls := Value.type "tuple", data := Data.seq (List.foldl (fun x1 x2 => x1 ++ x2) #[] (List.replicate x.toNat items)) }, toks := s.toks }) :=
  .of_wp fun prog w A R s h => by
    obtain ⟨hp, g, d, tk, os⟩ := s; obtain ⟨hl, h⟩ := h
    have f1 := AutoSeq1.idx_int
    wp_walk using wpAny_loadPart' hl
    rw [if_neg h0]
    refine wpAny_bind (m := Builtin.Tuple.tupleItemsOf (.ref l)) (tupleItemsOf_ (show IsTup hp l items from ⟨_, hl, rfl, n, rfl⟩) ?_)
    dsimp only
    rw [if_neg h1, if_neg h2, if_neg h3, if_neg h4]
    exact wpAny_bind (m := Builtin.Tuple.tupleExact _) (wpAny_newObj_type (wpAny_pure ⟨_, rfl, h⟩) h5)
section
variable {prog : Program} {w : World} {A : Around} {E : Value → Shared → Prop} {s : Shared}
theorem foldl_rep (its : List Value) : ∀ (k : Nat) (acc : List Value), List.foldl (fun x1 x2 => x1 ++ x2) acc.toArray (List.replicate k its.toArray) = (acc ++ (List.replicate k its).flatten).toArray
  | 0, acc => by simp
  | k + 1, acc => by
    rw [List.replicate_succ, List.foldl_cons, List.replicate_succ, List.flatten_cons]
    have e : acc.toArray ++ its.toArray = (acc ++ its).toArray := by simp
    rw [e, foldl_rep its k (acc ++ its), List.append_assoc]
theorem len_rep {α : Type} (xs : List α) (k : Nat) : (List.replicate k xs).flatten.length = k * xs.length := by
  induction k with
  | zero => simp
  | succ k ih => rw [List.replicate_succ, List.flatten_cons, List.length_append, ih, Nat.succ_mul, Nat.add_comm]
theorem mul_tup {t : Addr} {its : List Value} {k : Int} {u : Tok} {Q : Value → Shared → Prop} (ht : IsTup s.heap t its.toArray) (hne : its ≠ []) (h2 : 2 ≤ k) (hz : its.length * k.toNat ≤ sizeLine)
    (h : Q (.ref s.heap.objs.size) { s with heap := s.heap.push { cls := .type "tuple", data := .seq (List.replicate k.toNat its).flatten.toArray } }) : wpAny (model prog w) A (binaryOp .Mult (.ref t) (.int k u)) Q E s := by
  obtain ⟨⟨cls, dd, data, sl⟩, ho, hc, n, hd⟩ := id ht
  simp only at hc hd
  subst hc hd
  have hs : sizeLine = 16777216 := sizeLine_eq
  have hl : 1 ≤ its.length := List.length_pos_iff.mpr hne
  have hk : k.toNat ≤ 16777216 := by
    have : 1 * k.toNat ≤ its.length * k.toNat := Nat.mul_le_mul_right _ hl
    omega
  have ek : ((its.length * k.toNat : Nat) : Int) = (its.length : Int) * k := by
    rw [Int.natCast_mul]
    have : ((k.toNat : Nat) : Int) = k := by omega
    rw [this]
  have hem : its.toArray.isEmpty = false := by cases its with | nil => exact absurd rfl hne | cons a r => rfl
  have e0 : List.foldl (fun x1 x2 => x1 ++ x2) #[] (List.replicate k.toNat its.toArray) = (List.replicate k.toNat its).flatten.toArray := by
    have := foldl_rep its k.toNat []
    simpa using this
  refine wpAny_binaryOp_repeat_ref (T := "tuple") (U := "int") (by decide) ⟨_, ho, rfl⟩ (fun s' => typeIs_int s' k u) noFill_tuple_mul F.fills_int_mul F.slot_int_rmul repeat_tuple F.slot_int_index.lookup
    (call_meets F.slot_int_rmul (typeIs_int s k u) F.entry_int_rmul (F.args_int_rmul_2 _ _) (int_rmul_tuple k u t its.toArray n dd sl)
      ⟨ho, rfl, ⟨_, ho, rfl⟩, call_meets F.slot_tuple_mul ⟨_, ho, rfl⟩ F.entry_tuple_mul (F.args_tuple_mul_2 _ _) (tuple_mul t its.toArray n dd sl k u ?_ ?_ ?_ ?_ ?_ ?_) ⟨ho, ?_⟩⟩)
  · simp; omega
  · rw [hem]; simp; omega
  · rw [hem]; simp; omega
  · rw [List.size_toArray, ← ek]; omega
  · unfold Builtin.Tuple.tupleTooMany
    rw [List.size_toArray, ← ek]
    intro z
    have z' := of_decide_eq_true z
    omega
  · rw [e0, List.size_toArray, len_rep, Nat.mul_comm]; exact hz
  · rw [e0]; exact h
end
end TM
namespace ZT
open PySem
end ZT
/-! DATA: values as trees, lists and dicts as numbered cells; a reading over these for each piece of the text. -/
namespace DL
open PySem PySem.Spec L2
open PyProof.Rows hiding St

/-- a value: tuples whole, lists and dicts by the number of their cell -/
inductive Dt where
  | non
  | bl (b : Bool)
  | int (i : Int)
  | str (x : Str)
  | tup (xs : List Dt)
  | ref (i : Nat)
/-- a cell: a list, a list that nobody changes, a dict -/
inductive Cl where
  | lst (xs : List Dt)
  | fz (xs : List Dt)
  | dct (kvs : List (Key × Dt))
def Cl.mu : Cl → Bool
  | .fz _ => false
  | _ => true
abbrev SD := List (Option Dt)
abbrev GD := List Cl
abbrev KD := Dt → GD → Prop

section
variable (K : PySem.W.Frag) (H : Hp) (ι : List Addr)
mutual
def Rp : Dt → V → Prop
  | .non, v => v = V.non
  | .bl b, v => v = V.bl b
  | .int i, v => v = V.int i
  | .str x, v => v = V.str x
  | .tup ds, v => ∃ a vs, v = V.ref a ∧ SqT K H a vs ∧ Rps ds vs
  | .ref i, v => ∃ a, v = V.ref a ∧ ι[i]? = some a
def Rps : List Dt → List V → Prop
  | [], vs => vs = []
  | d :: ds, vs => ∃ v r, vs = v :: r ∧ Rp d v ∧ Rps ds r
end
end

structure Gr (K : PySem.W.Frag) (H : Hp) (ι : List Addr) (H' : Hp) (ι' : List Addr) : Prop where
  pre : ∃ r, ι' = ι ++ r
  tup : ∀ a xs, SqT K H a xs → SqT K H' a xs

section
variable {K : PySem.W.Frag} {H H' H'' : Hp} {ι ι' ι'' : List Addr}
theorem Gr.refl : Gr K H ι H ι := ⟨⟨[], by simp⟩, fun _ _ h => h⟩
theorem Gr.trans (a : Gr K H ι H' ι') (b : Gr K H' ι' H'' ι'') : Gr K H ι H'' ι'' := by
  obtain ⟨r, e⟩ := a.pre
  obtain ⟨r', e'⟩ := b.pre
  exact ⟨⟨r ++ r', by rw [e', e, List.append_assoc]⟩, fun c xs h => b.tup c xs (a.tup c xs h)⟩
theorem Gr.at (g : Gr K H ι H' ι') {i : Nat} {a : Addr} (h : ι[i]? = some a) : ι'[i]? = some a := by
  obtain ⟨r, e⟩ := g.pre
  rw [e, List.getElem?_append_left (by have := (List.getElem?_eq_some_iff.mp h).1; exact this)]
  exact h
theorem Gr.le (g : Gr K H ι H' ι') : ι.length ≤ ι'.length := by
  obtain ⟨r, e⟩ := g.pre
  rw [e, List.length_append]; omega
mutual
theorem Rp.mono (g : Gr K H ι H' ι') : ∀ (d : Dt) (v : V), Rp K H ι d v → Rp K H' ι' d v
  | .non, _, h => h
  | .bl _, _, h => h
  | .int _, _, h => h
  | .str _, _, h => h
  | .tup ds, v, h => by
    obtain ⟨a, vs, e, s, r⟩ := h
    exact ⟨a, vs, e, g.tup _ _ s, Rps.mono g ds vs r⟩
  | .ref i, v, h => by
    obtain ⟨a, e, q⟩ := h
    exact ⟨a, e, g.at q⟩
theorem Rps.mono (g : Gr K H ι H' ι') : ∀ (ds : List Dt) (vs : List V), Rps K H ι ds vs → Rps K H' ι' ds vs
  | [], _, h => h
  | d :: ds, vs, h => by
    obtain ⟨v, r, e, a, b⟩ := h
    exact ⟨v, r, e, Rp.mono g d v a, Rps.mono g ds r b⟩
end
theorem Rp.up (g : Gr K H ι H' ι') {d : Dt} {v : V} (h : Rp K H ι d v) : Rp K H' ι' d v := Rp.mono g d v h
theorem Rps.up (g : Gr K H ι H' ι') {d : List Dt} {v : List V} (h : Rps K H ι d v) : Rps K H' ι' d v := Rps.mono g d v h

theorem Rps.len : ∀ {ds : List Dt} {vs : List V}, Rps K H ι ds vs → ds.length = vs.length
  | [], vs, h => by have e : vs = [] := h; rw [e]; rfl
  | d :: ds, vs, h => by
    obtain ⟨v, r, e, a, b⟩ := h
    rw [e, List.length_cons, List.length_cons, Rps.len b]
theorem Rps.nil : Rps K H ι [] [] := rfl
theorem Rps.cons {d : Dt} {v : V} {ds : List Dt} {vs : List V} (a : Rp K H ι d v) (b : Rps K H ι ds vs) : Rps K H ι (d :: ds) (v :: vs) := ⟨v, vs, rfl, a, b⟩
theorem Rps.app : ∀ {ds es : List Dt} {vs ws : List V}, Rps K H ι ds vs → Rps K H ι es ws → Rps K H ι (ds ++ es) (vs ++ ws)
  | [], es, vs, ws, h, h2 => by have e : vs = [] := h; rw [e]; exact h2
  | d :: ds, es, vs, ws, h, h2 => by
    obtain ⟨v, r, e, a, b⟩ := h
    rw [e]
    exact ⟨v, r ++ ws, rfl, a, Rps.app b h2⟩
theorem Rps.take : ∀ (n : Nat) {ds : List Dt} {vs : List V}, Rps K H ι ds vs → Rps K H ι (ds.take n) (vs.take n)
  | 0, _, _, _ => rfl
  | n + 1, [], vs, h => by have e : vs = [] := h; rw [e]; rfl
  | n + 1, d :: ds, vs, h => by
    obtain ⟨v, r, e, a, b⟩ := h
    rw [e]
    exact ⟨v, r.take n, rfl, a, Rps.take n b⟩
theorem Rps.drop : ∀ (n : Nat) {ds : List Dt} {vs : List V}, Rps K H ι ds vs → Rps K H ι (ds.drop n) (vs.drop n)
  | 0, _, _, h => h
  | n + 1, [], vs, h => by have e : vs = [] := h; rw [e]; rfl
  | n + 1, d :: ds, vs, h => by
    obtain ⟨v, r, e, a, b⟩ := h
    rw [e]
    exact Rps.drop n b
theorem Rps.get : ∀ {i : Nat} {ds : List Dt} {vs : List V} {d : Dt}, Rps K H ι ds vs → ds[i]? = some d → ∃ v, vs[i]? = some v ∧ Rp K H ι d v
  | i, [], vs, d, h, q => by simp at q
  | 0, d' :: ds, vs, d, h, q => by
    obtain ⟨v, r, e, a, b⟩ := h
    rw [e]
    simp at q
    subst q
    exact ⟨v, rfl, a⟩
  | i + 1, d' :: ds, vs, d, h, q => by
    obtain ⟨v, r, e, a, b⟩ := h
    rw [e]
    obtain ⟨v', e', r'⟩ := Rps.get (i := i) (d := d) b (by simpa using q)
    exact ⟨v', by simpa using e', r'⟩
theorem Rps.set {d : Dt} {v : V} (a : Rp K H ι d v) : ∀ (i : Nat) {ds : List Dt} {vs : List V}, Rps K H ι ds vs → Rps K H ι (ds.set i d) (vs.set i v)
  | i, [], vs, h => by have e : vs = [] := h; rw [e]; rfl
  | 0, d' :: ds, vs, h => by
    obtain ⟨v', r, e, _, b⟩ := h
    rw [e]
    exact ⟨v, r, rfl, a, b⟩
  | i + 1, d' :: ds, vs, h => by
    obtain ⟨v', r, e, q, b⟩ := h
    rw [e]
    exact ⟨v', r.set i v, rfl, q, Rps.set a i b⟩
theorem Rps.dropLast {ds : List Dt} {vs : List V} (h : Rps K H ι ds vs) : Rps K H ι ds.dropLast vs.dropLast := by
  have e1 : ds.dropLast = ds.take (ds.length - 1) := by simp [List.dropLast_eq_take]
  have e2 : vs.dropLast = vs.take (vs.length - 1) := by simp [List.dropLast_eq_take]
  rw [e1, e2, h.len]
  exact h.take _
theorem Rps.eraseIdx : ∀ (i : Nat) {ds : List Dt} {vs : List V}, Rps K H ι ds vs → Rps K H ι (ds.eraseIdx i) (vs.eraseIdx i)
  | i, [], vs, h => by have e : vs = [] := h; rw [e]; rfl
  | 0, d' :: ds, vs, h => by
    obtain ⟨v', r, e, _, b⟩ := h
    rw [e]
    exact b
  | i + 1, d' :: ds, vs, h => by
    obtain ⟨v', r, e, q, b⟩ := h
    rw [e]
    exact ⟨v', r.eraseIdx i, rfl, q, Rps.eraseIdx i b⟩
theorem Rps.reverse : ∀ {ds : List Dt} {vs : List V}, Rps K H ι ds vs → Rps K H ι ds.reverse vs.reverse
  | [], vs, h => by have e : vs = [] := h; rw [e]; rfl
  | d :: ds, vs, h => by
    obtain ⟨v', r, e, q, b⟩ := h
    rw [e, List.reverse_cons, List.reverse_cons]
    exact (Rps.reverse b).app (Rps.cons q Rps.nil)
theorem Rps.rep {ds : List Dt} {vs : List V} (h : Rps K H ι ds vs) : ∀ k : Nat, Rps K H ι (List.replicate k ds).flatten (List.replicate k vs).flatten
  | 0 => rfl
  | k + 1 => by
    rw [List.replicate_succ, List.replicate_succ, List.flatten_cons, List.flatten_cons]
    exact h.app (Rps.rep h k)
end

/-! ### bounded references -/
mutual
def bnd (n : Nat) : Dt → Prop
  | .tup ds => bnds n ds
  | .ref i => i < n
  | _ => True
def bnds (n : Nat) : List Dt → Prop
  | [] => True
  | d :: ds => bnd n d ∧ bnds n ds
end
def bndC (n : Nat) : Cl → Prop
  | .lst xs => bnds n xs
  | .fz xs => bnds n xs
  | .dct kvs => bnds n (kvs.map (·.2))
def bndG (n : Nat) (G : GD) : Prop := ∀ c ∈ G, bndC n c
section
variable {K : PySem.W.Frag} {H H' H'' : Hp} {ι ι' ι'' : List Addr}
mutual
theorem Rp.bd : ∀ (d : Dt) (v : V), Rp K H ι d v → bnd ι.length d
  | .non, _, _ => trivial
  | .bl _, _, _ => trivial
  | .int _, _, _ => trivial
  | .str _, _, _ => trivial
  | .tup ds, v, h => by
    obtain ⟨a, vs, e, s, r⟩ := h
    exact Rps.bd ds vs r
  | .ref i, v, h => by
    obtain ⟨a, e, q⟩ := h
    exact (List.getElem?_eq_some_iff.mp q).1
theorem Rps.bd : ∀ (ds : List Dt) (vs : List V), Rps K H ι ds vs → bnds ι.length ds
  | [], _, _ => trivial
  | d :: ds, vs, h => by
    obtain ⟨v, r, e, a, b⟩ := h
    exact ⟨Rp.bd d v a, Rps.bd ds r b⟩
end
mutual
theorem Rp.cut (n : Nat) : ∀ (d : Dt) (v : V), Rp K H ι d v → bnd n d → Rp K H (ι.take n) d v
  | .non, _, h, _ => h
  | .bl _, _, h, _ => h
  | .int _, _, h, _ => h
  | .str _, _, h, _ => h
  | .tup ds, v, h, hb => by
    obtain ⟨a, vs, e, s, r⟩ := h
    exact ⟨a, vs, e, s, Rps.cut n ds vs r hb⟩
  | .ref i, v, h, hb => by
    obtain ⟨a, e, q⟩ := h
    have hb' : i < n := hb
    exact ⟨a, e, by rw [List.getElem?_take_of_lt hb']; exact q⟩
theorem Rps.cut (n : Nat) : ∀ (ds : List Dt) (vs : List V), Rps K H ι ds vs → bnds n ds → Rps K H (ι.take n) ds vs
  | [], _, h, _ => h
  | d :: ds, vs, h, hb => by
    obtain ⟨v, r, e, a, b⟩ := h
    exact ⟨v, r, e, Rp.cut n d v a hb.1, Rps.cut n ds r b hb.2⟩
end
mutual
theorem bnd_mono {n m : Nat} (h : n ≤ m) : ∀ (d : Dt), bnd n d → bnd m d
  | .non, _ => trivial
  | .bl _, _ => trivial
  | .int _, _ => trivial
  | .str _, _ => trivial
  | .tup ds, q => bnds_mono h ds q
  | .ref i, q => Nat.lt_of_lt_of_le (show i < n from q) h
theorem bnds_mono {n m : Nat} (h : n ≤ m) : ∀ (ds : List Dt), bnds n ds → bnds m ds
  | [], _ => trivial
  | d :: ds, q => ⟨bnd_mono h d q.1, bnds_mono h ds q.2⟩
end
end

/-! ### the cells -/
/-- a list of the module -/
def KL (K : PySem.W.Frag) (a : Addr) (xs : List V) : Prop :=
  ∃ (o : Obj) (its : Array Value) (n : Nat), K.lookup a = some o ∧ o.cls = .type "list" ∧ o.dict = none ∧ o.data = .seq its n ∧ its.size ≤ sizeLine ∧ Vals xs its.toList
def RpK (K : PySem.W.Frag) (H : Hp) (ι : List Addr) : List (Key × Dt) → List (Key × V) → Prop
  | [], vs => vs = []
  | p :: ds, vs => ∃ v r, vs = (p.1, v) :: r ∧ Rp K H ι p.2 v ∧ RpK K H ι ds r
def CellOk (K : PySem.W.Frag) (H : Hp) (ι : List Addr) : Cl → Addr → Prop
  | .lst ds, a => ∃ vs, H a = some (.lst vs) ∧ Rps K H ι ds vs
  | .fz ds, a => ∃ vs, ((∃ o, H a = some (.frz o (.lst vs))) ∨ KL K a vs) ∧ Rps K H ι ds vs
  | .dct kds, a => ∃ kvs, H a = some (.dK kvs) ∧ RpK K H ι kds kvs
structure HG (K : PySem.W.Frag) (G : GD) (H : Hp) (ι : List Addr) : Prop where
  len : ι.length = G.length
  cel : ∀ (i : Nat) (c : Cl) (a : Addr), G[i]? = some c → ι[i]? = some a → CellOk K H ι c a
  nd : ∀ (i j : Nat) (ci cj : Cl) (a : Addr), G[i]? = some ci → G[j]? = some cj → ci.mu = true → cj.mu = true → ι[i]? = some a → ι[j]? = some a → i = j

section
variable {K : PySem.W.Frag} {H H' H'' : Hp} {ι ι' ι'' : List Addr} {G G' : GD}
theorem RpK.up (g : Gr K H ι H' ι') : ∀ {ds : List (Key × Dt)} {vs : List (Key × V)}, RpK K H ι ds vs → RpK K H' ι' ds vs
  | [], _, h => h
  | p :: ds, vs, h => by
    obtain ⟨v, r, e, a, b⟩ := h
    exact ⟨v, r, e, a.up g, RpK.up g b⟩
theorem RpK.vals : ∀ {ds : List (Key × Dt)} {vs : List (Key × V)}, RpK K H ι ds vs → Rps K H ι (ds.map (·.2)) (vs.map (·.2)) ∧ ds.map (·.1) = vs.map (·.1)
  | [], vs, h => by have e : vs = [] := h; rw [e]; exact ⟨rfl, rfl⟩
  | p :: ds, vs, h => by
    obtain ⟨v, r, e, a, b⟩ := h
    obtain ⟨x, y⟩ := RpK.vals b
    rw [e]
    exact ⟨⟨v, _, rfl, a, x⟩, by simp [y]⟩
theorem RpK.cut (n : Nat) : ∀ {ds : List (Key × Dt)} {vs : List (Key × V)}, RpK K H ι ds vs → bnds n (ds.map (·.2)) → RpK K H (ι.take n) ds vs
  | [], _, h, _ => h
  | p :: ds, vs, h, hb => by
    obtain ⟨v, r, e, a, b⟩ := h
    exact ⟨v, r, e, Rp.cut n _ _ a hb.1, RpK.cut n b hb.2⟩
/-- a cell whose own object is as it was -/
theorem CellOk.up {c : Cl} {a : Addr} (h : CellOk K H ι c a) (g : Gr K H ι H' ι') (e : ∀ o, H a = some o → H' a = some o) : CellOk K H' ι' c a := by
  cases c with
  | lst ds => obtain ⟨vs, q, r⟩ := h; exact ⟨vs, e _ q, r.up g⟩
  | fz ds =>
    obtain ⟨vs, q, r⟩ := h
    refine ⟨vs, ?_, r.up g⟩
    rcases q with ⟨o, q⟩ | q
    · exact .inl ⟨o, e _ q⟩
    · exact .inr q
  | dct kds => obtain ⟨kvs, q, r⟩ := h; exact ⟨kvs, e _ q, r.up g⟩
theorem CellOk.mu {c : Cl} {a : Addr} (h : CellOk K H ι c a) (m : c.mu = true) : (∃ vs, H a = some (.lst vs)) ∨ ∃ kvs, H a = some (.dK kvs) := by
  cases c with
  | lst ds => obtain ⟨vs, q, r⟩ := h; exact .inl ⟨vs, q⟩
  | fz ds => cases m
  | dct kds => obtain ⟨kvs, q, r⟩ := h; exact .inr ⟨kvs, q⟩
theorem CellOk.bd {c : Cl} {a : Addr} (h : CellOk K H ι c a) : bndC ι.length c := by
  cases c with
  | lst ds => obtain ⟨vs, q, r⟩ := h; exact Rps.bd _ _ r
  | fz ds => obtain ⟨vs, q, r⟩ := h; exact Rps.bd _ _ r
  | dct kds => obtain ⟨kvs, q, r⟩ := h; exact Rps.bd _ _ r.vals.1
theorem CellOk.cut (n : Nat) {c : Cl} {a : Addr} (h : CellOk K H ι c a) (b : bndC n c) : CellOk K H (ι.take n) c a := by
  cases c with
  | lst ds => obtain ⟨vs, q, r⟩ := h; exact ⟨vs, q, Rps.cut n _ _ r b⟩
  | fz ds => obtain ⟨vs, q, r⟩ := h; exact ⟨vs, q, Rps.cut n _ _ r b⟩
  | dct kds => obtain ⟨kvs, q, r⟩ := h; exact ⟨kvs, q, r.cut n b⟩
theorem HG.at (h : HG K G H ι) {i : Nat} {c : Cl} (e : G[i]? = some c) : ∃ a, ι[i]? = some a ∧ CellOk K H ι c a := by
  have hi : i < ι.length := by rw [h.len]; exact (List.getElem?_eq_some_iff.mp e).1
  exact ⟨ι[i], by simp [hi], h.cel i c _ e (by simp [hi])⟩
theorem HG.bd (h : HG K G H ι) : bndG G.length G := fun c hc => by
  obtain ⟨i, e⟩ := List.getElem?_of_mem hc
  obtain ⟨a, _, q⟩ := h.at e
  have := q.bd
  rw [h.len] at this
  exact this
/-- an object that is no cell is laid -/
theorem Gr.free {p : Addr} {o : HO} (hp : H p = none) {r : List Addr} : Gr K H ι (upd H p o) (ι ++ r) :=
  ⟨⟨r, rfl⟩, fun a xs h => by
    rcases h with (h | ⟨ob, h⟩) | h
    · exact .inl (.inl (by rw [upd_ne (ne_of_none h hp)]; exact h))
    · exact .inl (.inr ⟨ob, by rw [upd_ne (ne_of_none h hp)]; exact h⟩)
    · exact .inr h⟩
theorem Gr.free0 {p : Addr} {o : HO} (hp : H p = none) : Gr K H ι (upd H p o) ι := by
  have := Gr.free (K := K) (ι := ι) (o := o) hp (r := [])
  rw [List.append_nil] at this
  exact this
theorem HG.free {p : Addr} {o : HO} (h : HG K G H ι) (hp : H p = none) : HG K G (upd H p o) ι :=
  ⟨h.len, fun i c a e q => (h.cel i c a e q).up (Gr.free0 hp) fun ob z => by rw [upd_ne (ne_of_none z hp)]; exact z, h.nd⟩
/-- a new cell -/
theorem HG.new {p : Addr} {o : HO} {c : Cl} (h : HG K G H ι) (hp : H p = none) (hc : CellOk K (upd H p o) (ι ++ [p]) c p) : HG K (G ++ [c]) (upd H p o) (ι ++ [p]) := by
  have gl := h.len
  have at1 : ∀ {i : Nat} {c' : Cl}, (G ++ [c])[i]? = some c' → (i < G.length ∧ G[i]? = some c') ∨ (i = G.length ∧ c' = c) := fun {i c'} e => by
    by_cases hi : i < G.length
    · rw [List.getElem?_append_left hi] at e; exact .inl ⟨hi, e⟩
    · rw [List.getElem?_append_right (by omega)] at e
      by_cases h0 : i = G.length
      · subst h0; simp at e; exact .inr ⟨rfl, e.symm⟩
      · have : i - G.length = (i - G.length - 1) + 1 := by omega
        rw [this] at e; simp at e
  have at2 : ∀ {i : Nat} {a : Addr}, i < G.length → (ι ++ [p])[i]? = some a → ι[i]? = some a := fun {i a} hi e => by
    rw [List.getElem?_append_left (by omega)] at e; exact e
  have at3 : ∀ {a : Addr}, (ι ++ [p])[G.length]? = some a → a = p := fun {a} e => by
    rw [← gl, List.getElem?_append_right (Nat.le_refl _)] at e; simp at e; exact e.symm
  refine ⟨by simp [gl], fun i c' a e q => ?_, fun i j ci cj a e1 e2 m1 m2 q1 q2 => ?_⟩
  · rcases at1 e with ⟨hi, e⟩ | ⟨rfl, rfl⟩
    · exact (h.cel i c' a e (at2 hi q)).up (Gr.free hp) fun ob z => by rw [upd_ne (ne_of_none z hp)]; exact z
    · rw [at3 q]; exact hc
  · rcases at1 e1 with ⟨hi, f1⟩ | ⟨hi, _⟩
    · rcases at1 e2 with ⟨hj, f2⟩ | ⟨hj, _⟩
      · exact h.nd i j ci cj a f1 f2 m1 m2 (at2 hi q1) (at2 hj q2)
      · rw [hj] at q2
        have e3 := at3 q2
        subst e3
        rcases (h.cel i ci a f1 (at2 hi q1)).mu m1 with ⟨x, z⟩ | ⟨x, z⟩ <;> (rw [hp] at z; cases z)
    · rcases at1 e2 with ⟨hj, f2⟩ | ⟨hj, _⟩
      · rw [hi] at q1
        have e3 := at3 q1
        subst e3
        rcases (h.cel j cj a f2 (at2 hj q2)).mu m2 with ⟨x, z⟩ | ⟨x, z⟩ <;> (rw [hp] at z; cases z)
      · rw [hi, hj]
/-- a cell is changed -/
theorem Gr.put {i : Nat} {c : Cl} {a : Addr} {o : HO} (h : HG K G H ι) (e : G[i]? = some c) (m : c.mu = true) (q : ι[i]? = some a) : Gr K H ι (upd H a o) ι := by
  have hm := (h.cel i c a e q).mu m
  refine ⟨⟨[], by simp⟩, fun b xs hb => ?_⟩
  rcases hb with (hb | ⟨ob, hb⟩) | hb
  · refine .inl (.inl ?_)
    rw [upd_ne]
    · exact hb
    · rintro rfl
      rcases hm with ⟨x, z⟩ | ⟨x, z⟩ <;> (rw [hb] at z; cases z)
  · refine .inl (.inr ⟨ob, ?_⟩)
    rw [upd_ne]
    · exact hb
    · rintro rfl
      rcases hm with ⟨x, z⟩ | ⟨x, z⟩ <;> (rw [hb] at z; cases z)
  · exact .inr hb
theorem HG.put {i : Nat} {c c' : Cl} {a : Addr} {o : HO} (h : HG K G H ι) (e : G[i]? = some c) (m : c.mu = true) (q : ι[i]? = some a) (m' : c'.mu = true) (hc : CellOk K (upd H a o) ι c' a) : HG K (G.set i c') (upd H a o) ι := by
  have g : Gr K H ι (upd H a o) ι := Gr.put h e m q
  have hi : i < G.length := (List.getElem?_eq_some_iff.mp e).1
  have hm := (h.cel i c a e q).mu m
  have at1 : ∀ {j : Nat} {d : Cl}, (G.set i c')[j]? = some d → (j ≠ i ∧ G[j]? = some d) ∨ (j = i ∧ d = c') := fun {j d} z => by
    by_cases hj : j = i
    · subst hj; rw [List.getElem?_set_self hi] at z; cases z; exact .inr ⟨rfl, rfl⟩
    · rw [List.getElem?_set_ne (Ne.symm hj)] at z; exact .inl ⟨hj, z⟩
  refine ⟨by simpa using h.len, fun j d b z w => ?_, fun j k cj ck b e1 e2 m1 m2 q1 q2 => ?_⟩
  · rcases at1 z with ⟨hj, z⟩ | ⟨rfl, rfl⟩
    · have hb := h.cel j d b z w
      have far : d.mu = true → b ≠ a := fun hd z' => by
        subst z'
        exact hj (h.nd j i d c b z e hd m w q)
      cases d with
      | lst ds => exact hb.up g fun ob y => by rw [upd_ne (far rfl)]; exact y
      | dct ds => exact hb.up g fun ob y => by rw [upd_ne (far rfl)]; exact y
      | fz ds =>
        obtain ⟨vs, zz, r⟩ := hb
        refine ⟨vs, ?_, r.up g⟩
        rcases zz with ⟨o', zz⟩ | zz
        · refine .inl ⟨o', ?_⟩
          rw [upd_ne]
          · exact zz
          · rintro rfl
            rcases hm with ⟨x, hm⟩ | ⟨x, hm⟩ <;> (rw [zz] at hm; cases hm)
        · exact .inr zz
    · rw [q] at w; cases w; exact hc
  · have back : ∀ {j : Nat} {d : Cl}, (G.set i c')[j]? = some d → d.mu = true → ∃ d', G[j]? = some d' ∧ d'.mu = true := fun {j d} z md => by
      rcases at1 z with ⟨_, z⟩ | ⟨rfl, _⟩
      · exact ⟨d, z, md⟩
      · exact ⟨c, e, m⟩
    obtain ⟨d1, x1, y1⟩ := back e1 m1
    obtain ⟨d2, x2, y2⟩ := back e2 m2
    exact h.nd j k d1 d2 b x1 x2 y1 y2 q1 q2
end
end DL
namespace DL
open PySem PySem.Spec L2
open PyProof.Rows hiding St

/-! ### arguments without a star -/
def plainE : Expr → Bool
  | .Starred _ _ => false
  | _ => true
theorem star_cons {e : Expr} {es : List Expr} {env : Env} (h : plainE e = true) : starEach (e :: es) env = (false, eval e env) :: starEach es env := by
  cases e <;> first | rfl | cases h
theorem star_one {e : Expr} {env : Env} (h : plainE e = true) : starEach [e] env = [(false, eval e env)] := star_cons h
theorem back_any {pos : Pos} {env : Env} : ∀ {es : List Expr}, es.all plainE = true → (backTo pos (starEach es env)).any (·.1) = false
  | [], _ => rfl
  | e :: es, h => by
    simp only [List.all_cons, Bool.and_eq_true] at h
    rw [star_cons h.1]
    show (false || (backTo pos (starEach es env)).any (·.1)) = false
    rw [back_any h.2]; rfl
/-! ### the state of a body: slots, cells, what stood at the entry -/
structure Fx where
  H : Hp
  ι : List Addr
structure Ok (K : PySem.W.Frag) (F : Fx) (σd : SD) (G : GD) (σ : St) (H : Hp) (ι : List Addr) : Prop where
  hg : HG K G H ι
  slt : ∀ (i : Nat) (d : Dt), σd[i]? = some (some d) → ∃ v, σ[i]? = some (some v) ∧ Rp K H ι d v
  gr : Gr K F.H F.ι H ι
  ln : σd.length = σ.length
theorem Ok.to {K : PySem.W.Frag} {F : Fx} {σd : SD} {G G' : GD} {σ : St} {H H' : Hp} {ι ι' : List Addr} (ok : Ok K F σd G σ H ι) (h : HG K G' H' ι') (g : Gr K H ι H' ι') : Ok K F σd G' σ H' ι' :=
  ⟨h, fun i d e => let ⟨v, q, r⟩ := ok.slt i d e; ⟨v, q, r.up g⟩, ok.gr.trans g, ok.ln⟩
theorem Ok.set {K : PySem.W.Frag} {F : Fx} {σd : SD} {G : GD} {σ : St} {H : Hp} {ι : List Addr} (ok : Ok K F σd G σ H ι) {i : Nat} {d : Dt} {v : V} (r : Rp K H ι d v) : Ok K F (σd.set i (some d)) G (σ.set i (some v)) H ι := by
  refine ⟨ok.hg, fun j d' e => ?_, ok.gr, by simpa using ok.ln⟩
  by_cases hj : j = i
  · subst hj
    have hl : j < σd.length := by
      have := (List.getElem?_eq_some_iff.mp e).1
      simpa using this
    rw [List.getElem?_set_self hl] at e
    cases e
    exact ⟨v, List.getElem?_set_self (by rw [← ok.ln]; exact hl), r⟩
  · rw [List.getElem?_set_ne (Ne.symm hj)] at e
    obtain ⟨v', q, r'⟩ := ok.slt j d' e
    exact ⟨v', by rw [List.getElem?_set_ne (Ne.symm hj)]; exact q, r'⟩
/-- slots forgotten, cells beyond n let go -/
theorem Ok.weak {K : PySem.W.Frag} {F : Fx} {σd σd' : SD} {G : GD} {σ : St} {H : Hp} {ι : List Addr} (ok : Ok K F σd G σ H ι) (n : Nat) (hn : F.ι.length ≤ n) (hl : σd'.length = σd.length)
    (hs : ∀ (i : Nat) (d : Dt), σd'[i]? = some (some d) → σd[i]? = some (some d) ∧ bnd n d) (hG : bndG n (G.take n)) : Ok K F σd' (G.take n) σ H (ι.take n) := by
  have at1 : ∀ {i : Nat} {c : Cl}, (G.take n)[i]? = some c → i < n ∧ G[i]? = some c := fun {i c} e => by
    have hi : i < n := by
      have := (List.getElem?_eq_some_iff.mp e).1
      rw [List.length_take] at this
      omega
    exact ⟨hi, by rw [List.getElem?_take_of_lt hi] at e; exact e⟩
  refine ⟨⟨by rw [List.length_take, List.length_take, ok.hg.len], fun i c a e q => ?_, fun i j ci cj a e1 e2 m1 m2 q1 q2 => ?_⟩, fun i d e => ?_, ⟨?_, ok.gr.tup⟩, hl.trans ok.ln⟩
  · obtain ⟨hi, e'⟩ := at1 e
    rw [List.getElem?_take_of_lt hi] at q
    exact (ok.hg.cel i c a e' q).cut n (hG c (List.mem_of_getElem? e))
  · obtain ⟨hi, e1'⟩ := at1 e1
    obtain ⟨hj, e2'⟩ := at1 e2
    rw [List.getElem?_take_of_lt hi] at q1
    rw [List.getElem?_take_of_lt hj] at q2
    exact ok.hg.nd i j ci cj a e1' e2' m1 m2 q1 q2
  · obtain ⟨e', b⟩ := hs i d e
    obtain ⟨v, q, r⟩ := ok.slt i d e'
    exact ⟨v, q, Rp.cut n _ _ r b⟩
  · obtain ⟨r, e⟩ := ok.gr.pre
    refine ⟨r.take (n - F.ι.length), ?_⟩
    rw [e, List.take_append, List.take_of_length_le hn]

/-! ### readings over data -/
abbrev TDE := SD → GD → KD → Prop
abbrev TDT := SD → GD → (Bool → GD → Prop) → Prop
abbrev TDA := SD → GD → (List Dt → GD → Prop) → Prop
structure EndsD where
  nx : SD → GD → Prop
  rt : KD
  bk : SD → GD → Prop := fun _ _ => False
  ct : SD → GD → Prop := fun _ _ => False
abbrev TDS := EndsD → SD → GD → Prop

section
variable (K : PySem.W.Frag) (F : Fx)
def liE (t : TDE) : TE := fun σ H Qv => ∃ σd G ι Q, Ok K F σd G σ H ι ∧ t σd G Q ∧
  ∀ v H' d G' ι', HG K G' H' ι' → Gr K H ι H' ι' → Rp K H' ι' d v → Q d G' → Qv v H'
def liT (t : TDT) : TT := fun σ H Qv => ∃ σd G ι Q, Ok K F σd G σ H ι ∧ t σd G Q ∧
  ∀ b H' G' ι', HG K G' H' ι' → Gr K H ι H' ι' → Q b G' → Qv b H'
def liA (t : TDA) : TA := fun σ H Qv => ∃ σd G ι Q, Ok K F σd G σ H ι ∧ t σd G Q ∧
  ∀ vs H' ds G' ι', HG K G' H' ι' → Gr K H ι H' ι' → Rps K H' ι' ds vs → Q ds G' → Qv vs H'
structure LiEnds (Dd : EndsD) (D : Ends) : Prop where
  nx : ∀ σ' H' σd' G' ι', Ok K F σd' G' σ' H' ι' → Dd.nx σd' G' → D.nx σ' H'
  bk : ∀ σ' H' σd' G' ι', Ok K F σd' G' σ' H' ι' → Dd.bk σd' G' → D.bk σ' H'
  ct : ∀ σ' H' σd' G' ι', Ok K F σd' G' σ' H' ι' → Dd.ct σd' G' → D.ct σ' H'
  rt : ∀ v H' d G' ι', HG K G' H' ι' → Gr K F.H F.ι H' ι' → Rp K H' ι' d v → Dd.rt d G' → D.rt v H'
def liS (t : TDS) : TS := fun D σ H => ∃ σd G ι Dd, Ok K F σd G σ H ι ∧ t Dd σd G ∧ LiEnds K F Dd D
end

def DE (X : Cx) (F : Fx) (e : Expr) (t : TDE) : Prop := PE X e (liE X.K F t)
structure DE' (X : Cx) (F : Fx) (e : Expr) (t : TDE) : Prop where
  p : DE X F e t
def DT (X : Cx) (F : Fx) (e : Expr) (t : TDT) : Prop := PT X e (liT X.K F t)
structure DT' (X : Cx) (F : Fx) (e : Expr) (t : TDT) : Prop where
  p : DT X F e t
def DW (X : Cx) (F : Fx) (e : Expr) (t : TDT) : Prop := PW X e (liT X.K F t)
structure DW' (X : Cx) (F : Fx) (e : Expr) (t : TDT) : Prop where
  p : DW X F e t
def DA (X : Cx) (F : Fx) (es : List Expr) (t : TDA) : Prop := PA X es (liA X.K F t)
structure DA' (X : Cx) (F : Fx) (es : List Expr) (t : TDA) : Prop where
  p : DA X F es t
def DS (X : Cx) (F : Fx) (st : Stmt) (t : TDS) : Prop := PS X st (liS X.K F t)
structure DS' (X : Cx) (F : Fx) (st : Stmt) (t : TDS) : Prop where
  p : DS X F st t
def DSs (X : Cx) (F : Fx) (st : List Stmt) (t : TDS) : Prop := PSs X st (liS X.K F t)

structure DSs' (X : Cx) (F : Fx) (st : List Stmt) (t : TDS) : Prop where
  p : DSs X F st t
section
variable {X : Cx} {F : Fx} {e a b c : Expr} {t ta tb tc : TDE} {pos : Pos}
theorem PE.imp {t t' : TE} (h : PE X e t) (i : ∀ σ H Q, t' σ H Q → t σ H Q) : PE X e t' := fun pins s σ H Q I q => h pins s σ H Q I (i σ H Q q)
theorem PT.imp {t t' : TT} (h : PT X e t) (i : ∀ σ H Q, t' σ H Q → t σ H Q) : PT X e t' := fun pins s σ H Q I q => h pins s σ H Q I (i σ H Q q)
theorem PW.imp {t t' : TT} (h : PW X e t) (i : ∀ σ H Q, t' σ H Q → t σ H Q) : PW X e t' := fun wh pins s σ H Q I q => h wh pins s σ H Q I (i σ H Q q)
theorem PA.imp {es : List Expr} {t t' : TA} (h : PA X es t) (i : ∀ σ H Q, t' σ H Q → t σ H Q) : PA X es t' := fun pos pins s σ H Q I q => h pos pins s σ H Q I (i σ H Q q)
theorem PS.imp {st : Stmt} {t t' : TS} (h : PS X st t) (i : ∀ D σ H, t' D σ H → t D σ H) : PS X st t' := fun pins s σ H D I q => h pins s σ H D I (i D σ H q)
theorem PSs.imp {st : List Stmt} {t t' : TS} (h : PSs X st t) (i : ∀ D σ H, t' D σ H → t D σ H) : PSs X st t' := fun pins s σ H D I q => h pins s σ H D I (i D σ H q)

/-! ### names and constants -/
def dVar (i : Nat) : TDE := fun σ G Q => match σ[i]? with
  | some (some d) => Q d G
  | _ => False
def dC (d : Dt) : TDE := fun _ G Q => Q d G
theorem de_var (i : Nat) {x : Str} {pos : Pos} (hN : X.N[i]? = some x := by rfl) (hv : Vis X.env.scope x := by first | exact Or.inl rfl | exact Or.inr (Or.inl rfl) | exact Or.inr (Or.inr rfl)) (hd : (x == ("__debug__" : Str)) = false := by decide)
    (hcd : (x == ("__classdict__" : Str)) = false := by decide) : DE X F (.Name x pos) (dVar i) := by
  refine PE.imp (pe_var hN hv hd hcd) fun σ H Qv ⟨σd, G, ι, Q, ok, ht, hq⟩ => ?_
  unfold dVar at ht
  split at ht
  · rename_i d e
    obtain ⟨v, q, r⟩ := ok.slt i d e
    exact ⟨v, q, hq v H d G ι ok.hg Gr.refl r ht⟩
  · exact ht.elim
theorem de_var' (i : Nat) {x : Str} {pos : Pos} (hN : X.N[i]? = some x := by rfl) (hv : Vis X.env.scope x := by first | exact Or.inl rfl | exact Or.inr (Or.inl rfl) | exact Or.inr (Or.inr rfl)) (hd : (x == ("__debug__" : Str)) = false := by decide)
    (hcd : (x == ("__classdict__" : Str)) = false := by decide) : DE' X F (.Name x pos) (dVar i) :=
  ⟨de_var (i := i) (hN := hN) (hv := hv) (hd := hd) (hcd := hcd)⟩
/-- a value without parts -/
def plainD : Dt → Option V
  | .non => some .non
  | .bl b => some (.bl b)
  | .int i => some (.int i)
  | .str x => some (.str x)
  | _ => none
theorem plainD_rp {K : PySem.W.Frag} {H : Hp} {ι : List Addr} {d : Dt} {v : V} (h : plainD d = some v) : Rp K H ι d v := by
  cases d <;> (first | (cases h; rfl) | cases h)
theorem de_c {d : Dt} {v : V} (h : PE X e (tC v)) (p : plainD d = some v) : DE X F e (dC d) :=
  PE.imp h fun σ H Qv ⟨σd, G, ι, Q, ok, ht, hq⟩ => hq v H d G ι ok.hg Gr.refl (plainD_rp p) ht
theorem de_int {i j pos} : DE X F (.Constant (.int i) j pos) (dC (.int i)) := de_c pe_int rfl
theorem de_int' {i j pos} : DE' X F (.Constant (.int i) j pos) (dC (.int i)) :=
  ⟨de_int ⟩
theorem de_bl {b j pos} : DE X F (.Constant (.bool b) j pos) (dC (.bl b)) := de_c pe_bl rfl
theorem de_bl' {b j pos} : DE' X F (.Constant (.bool b) j pos) (dC (.bl b)) :=
  ⟨de_bl ⟩
theorem de_non {j pos} : DE X F (.Constant .none j pos) (dC .non) := de_c pe_non rfl
theorem de_non' {j pos} : DE' X F (.Constant .none j pos) (dC .non) :=
  ⟨de_non ⟩
theorem de_str {x j pos} : DE X F (.Constant (.str x) j pos) (dC (.str x)) := de_c pe_str rfl
theorem de_str' {x j pos} : DE' X F (.Constant (.str x) j pos) (dC (.str x)) :=
  ⟨de_str ⟩
/-! ### two operands -/
abbrev RD2 := Dt → Dt → GD → KD → Prop
def dOp (r : RD2) (ta tb : TDE) : TDE := fun σ G Q => ta σ G fun x G1 => tb σ G1 fun y G2 => r x y G2 Q
/-- the V-level wish r follows from the data's -/
def L2R (K : PySem.W.Frag) (r : R2) (rd : RD2) : Prop :=
  ∀ (G : GD) (H : Hp) (ι : List Addr) (d1 d2 : Dt) (v1 v2 : V) (Q : KD) (Qv : VK), HG K G H ι → Rp K H ι d1 v1 → Rp K H ι d2 v2 → rd d1 d2 G Q →
    (∀ v H' d G' ι', HG K G' H' ι' → Gr K H ι H' ι' → Rp K H' ι' d v → Q d G' → Qv v H') → r v1 v2 H Qv
theorem li2 {r : R2} {rd : RD2} (hr : L2R X.K r rd) (h : PE X e (tOp r (liE X.K F ta) (liE X.K F tb))) : DE X F e (dOp rd ta tb) := by
  refine PE.imp h fun σ H Qv ⟨σd, G, ι, Q, ok, ht, hq⟩ => ?_
  refine ⟨σd, G, ι, _, ok, ht, fun v1 H1 d1 G1 ι1 h1 g1 r1 q1 => ⟨σd, G1, ι1, _, ok.to h1 g1, q1, fun v2 H2 d2 G2 ι2 h2 g2 r2 q2 => ?_⟩⟩
  exact hr G2 H2 ι2 d1 d2 v1 v2 Q Qv h2 (r1.up g2) r2 q2 fun v H' d G' ι' h3 g3 r3 q3 => hq v H' d G' ι' h3 (g1.trans (g2.trans g3)) r3 q3
def dTest (t : TDE) : TDT := fun σ G Q => t σ G fun x G' => match x with
  | .bl k => Q k G'
  | _ => False
theorem li2T {r : R2} {rd : RD2} (hr : L2R X.K r rd) (h : PT X e (tTest (tOp r (liE X.K F ta) (liE X.K F tb)))) : DT X F e (dTest (dOp rd ta tb)) := by
  refine PT.imp h fun σ H Qv ⟨σd, G, ι, Q, ok, ht, hq⟩ => ?_
  refine ⟨σd, G, ι, _, ok, ht, fun v1 H1 d1 G1 ι1 h1 g1 r1 q1 => ⟨σd, G1, ι1, _, ok.to h1 g1, q1, fun v2 H2 d2 G2 ι2 h2 g2 r2 q2 => ?_⟩⟩
  refine hr G2 H2 ι2 d1 d2 v1 v2 _ _ h2 (r1.up g2) r2 q2 fun v H' d G' ι' h3 g3 r3 q3 => ?_
  cases d with
  | bl k => exact ⟨k, r3, hq k H' G' ι' h3 (g1.trans (g2.trans g3)) q3⟩
  | _ => exact q3.elim
/-- one operand -/
def dUn (r : Dt → GD → KD → Prop) (ta : TDE) : TDE := fun σ G Q => ta σ G fun x G1 => r x G1 Q

/-! ### ints -/
def rdI (C : Int → Int → Prop) (g : Int → Int → Dt) : RD2 := fun x y G Q => match x, y with
  | .int i, .int j => C i j ∧ Q (g i j) G
  | _, _ => False
def rdI0 (g : Int → Int → Dt) : RD2 := fun x y G Q => match x, y with
  | .int i, .int j => Q (g i j) G
  | _, _ => False
theorem l2_rI {K : PySem.W.Frag} {C : Int → Int → Prop} {g : Int → Int → V} {gd : Int → Int → Dt} (hg : ∀ i j, plainD (gd i j) = some (g i j)) : L2R K (rI C g) (rdI C gd) := by
  intro G H ι d1 d2 v1 v2 Q Qv hG r1 r2 h hq
  unfold rdI at h
  split at h
  · rename_i i j
    exact ⟨i, j, r1, r2, h.1, hq _ _ _ _ _ hG Gr.refl (plainD_rp (hg i j)) h.2⟩
  · exact h.elim
theorem l2_rI0 {K : PySem.W.Frag} {g : Int → Int → V} {gd : Int → Int → Dt} (hg : ∀ i j, plainD (gd i j) = some (g i j)) : L2R K (rI0 g) (rdI0 gd) := by
  intro G H ι d1 d2 v1 v2 Q Qv hG r1 r2 h hq
  unfold rdI0 at h
  split at h
  · rename_i i j
    exact ⟨i, j, r1, r2, hq _ _ _ _ _ hG Gr.refl (plainD_rp (hg i j)) h⟩
  · exact h.elim
theorem de_sub (ha : DE X F a ta) (hb : DE X F b tb) : DE X F (.BinOp a .Sub b pos) (dOp (rdI0 fun i j => .int (i - j)) ta tb) := li2 (l2_rI0 fun _ _ => rfl) (pe_op op_sub ha hb)
theorem de_sub' (ha : DE' X F a ta) (hb : DE' X F b tb) : DE' X F (.BinOp a .Sub b pos) (dOp (rdI0 fun i j => .int (i - j)) ta tb) :=
  ⟨de_sub (ha := ha.p) (hb := hb.p)⟩
theorem de_mod (ha : DE X F a ta) (hb : DE X F b tb) : DE X F (.BinOp a .Mod b pos) (dOp (rdI (fun _ j => 0 < j) fun i j => .int (i % j)) ta tb) := li2 (l2_rI fun _ _ => rfl) (pe_op op_mod ha hb)
theorem de_mod' (ha : DE' X F a ta) (hb : DE' X F b tb) : DE' X F (.BinOp a .Mod b pos) (dOp (rdI (fun _ j => 0 < j) fun i j => .int (i % j)) ta tb) :=
  ⟨de_mod (ha := ha.p) (hb := hb.p)⟩
theorem de_ge (ha : DE X F a ta) (hb : DE X F b tb) : DE X F (.Compare a [.GtE] [b] pos) (dOp (rdI0 fun i j => .bl (decide (j ≤ i))) ta tb) := li2 (l2_rI0 fun _ _ => rfl) (pe_cmpR op_ge ha hb (nomark _))
theorem de_ge' (ha : DE' X F a ta) (hb : DE' X F b tb) : DE' X F (.Compare a [.GtE] [b] pos) (dOp (rdI0 fun i j => .bl (decide (j ≤ i))) ta tb) :=
  ⟨de_ge (ha := ha.p) (hb := hb.p)⟩
theorem dt_lt (ha : DE X F a ta) (hb : DE X F b tb) : DT X F (.Compare a [.Lt] [b] pos) (dTest (dOp (rdI0 fun i j => .bl (decide (i < j))) ta tb)) := li2T (l2_rI0 fun _ _ => rfl) (pt_cmpR op_lt ha hb (nomark _))
theorem dt_lt' (ha : DE' X F a ta) (hb : DE' X F b tb) : DT' X F (.Compare a [.Lt] [b] pos) (dTest (dOp (rdI0 fun i j => .bl (decide (i < j))) ta tb)) :=
  ⟨dt_lt (ha := ha.p) (hb := hb.p)⟩
theorem dt_ge (ha : DE X F a ta) (hb : DE X F b tb) : DT X F (.Compare a [.GtE] [b] pos) (dTest (dOp (rdI0 fun i j => .bl (decide (j ≤ i))) ta tb)) := li2T (l2_rI0 fun _ _ => rfl) (pt_cmpR op_ge ha hb (nomark _))
theorem dt_ge' (ha : DE' X F a ta) (hb : DE' X F b tb) : DT' X F (.Compare a [.GtE] [b] pos) (dTest (dOp (rdI0 fun i j => .bl (decide (j ≤ i))) ta tb)) :=
  ⟨dt_ge (ha := ha.p) (hb := hb.p)⟩
/-! ### is, is not, beside None, True, False -/
def isD : Dt → Dt → Bool
  | .non, .non => true
  | .bl a, .bl b => a == b
  | _, _ => false
/-- the right side: None or a truth -/
def rdIs (neg : Bool) : RD2 := fun x y G Q => match y with
  | .non => Q (.bl (neg ^^ isD x .non)) G
  | .bl b => Q (.bl (neg ^^ isD x (.bl b))) G
  | _ => False
theorem is_val {K : PySem.W.Frag} {H : Hp} {ι : List Addr} {x y : Dt} {v w : V} {u z : Value} (r1 : Rp K H ι x v) (r2 : Rp K H ι y w) (q1 : RelV v u) (q2 : RelV w z) (hy : y = .non ∨ ∃ b, y = .bl b) : plainIs u z = true ∧ (u == z) = isD x y := by
  rcases hy with rfl | ⟨b, rfl⟩
  · have e2 : w = V.non := r2
    subst e2
    cases q2
    cases x with
    | non => have e : v = V.non := r1; subst e; cases q1; exact ⟨rfl, rfl⟩
    | bl a => have e : v = V.bl a := r1; subst e; cases q1; exact ⟨rfl, rfl⟩
    | int a => have e : v = V.int a := r1; subst e; obtain ⟨t, rfl⟩ := q1; exact ⟨rfl, rfl⟩
    | str a => have e : v = V.str a := r1; subst e; obtain ⟨t, rfl⟩ := q1; exact ⟨rfl, rfl⟩
    | tup a => obtain ⟨p, _, e, _⟩ := r1; subst e; cases q1; exact ⟨rfl, rfl⟩
    | ref a => obtain ⟨p, e, _⟩ := r1; subst e; cases q1; exact ⟨rfl, rfl⟩
  · have e2 : w = V.bl b := r2
    subst e2
    cases q2
    cases x with
    | non => have e : v = V.non := r1; subst e; cases q1; exact ⟨rfl, rfl⟩
    | bl a => have e : v = V.bl a := r1; subst e; cases q1; exact ⟨rfl, by cases a <;> cases b <;> rfl⟩
    | int a => have e : v = V.int a := r1; subst e; obtain ⟨t, rfl⟩ := q1; exact ⟨rfl, rfl⟩
    | str a => have e : v = V.str a := r1; subst e; obtain ⟨t, rfl⟩ := q1; exact ⟨rfl, rfl⟩
    | tup a => obtain ⟨p, _, e, _⟩ := r1; subst e; cases q1; exact ⟨rfl, rfl⟩
    | ref a => obtain ⟨p, e, _⟩ := r1; subst e; cases q1; exact ⟨rfl, rfl⟩
/-- the same over V: what is said of the truth value -/
def rIsV (neg : Bool) : R2 := fun x y H Q => ∃ k, (∀ u z, RelV x u → RelV y z → plainIs u z = true ∧ (u == z) = k) ∧ Q (.bl (neg ^^ k)) H
theorem op_isV : OpR X (compareOp .Is) (rIsV false) := by
  intro pins s σ H x y v u Q I rx ry h
  obtain ⟨k, hk, q⟩ := h
  obtain ⟨p, e⟩ := hk v u rx ry
  refine wpAny_is_plain p (fin_bl I q ?_)
  rw [e]; cases k <;> rfl
theorem l2_is {K : PySem.W.Frag} {neg : Bool} : L2R K (rIsV neg) (rdIs neg) := by
  intro G H ι d1 d2 v1 v2 Q Qv hG r1 r2 h hq
  have go : (d2 = .non ∨ ∃ b, d2 = .bl b) → Q (.bl (neg ^^ isD d1 d2)) G → rIsV neg v1 v2 H Qv := fun hy q =>
    ⟨isD d1 d2, fun u z q1 q2 => is_val r1 r2 q1 q2 hy, hq _ H (.bl (neg ^^ isD d1 d2)) G ι hG Gr.refl rfl q⟩
  cases d2 with
  | non => exact go (.inl rfl) h
  | bl b => exact go (.inr ⟨b, rfl⟩) h
  | _ => exact h.elim
theorem de_is (ha : DE X F a ta) (hb : DE X F b tb) : DE X F (.Compare a [.Is] [b] pos) (dOp (rdIs false) ta tb) := li2 l2_is (pe_cmpR op_isV ha hb (nomark _))
theorem de_is' (ha : DE' X F a ta) (hb : DE' X F b tb) : DE' X F (.Compare a [.Is] [b] pos) (dOp (rdIs false) ta tb) :=
  ⟨de_is (ha := ha.p) (hb := hb.p)⟩
/-! ### == of ints, texts, truths, None (the kinds that one meets) -/
def eqS : Dt → Dt → Option Bool
  | .int i, .int j => some (decide (i = j))
  | .str x, .str y => some (decide (x = y))
  | .bl x, .bl y => some (decide (x = y))
  | .non, .non => some true
  | .non, .int _ => some false
  | .int _, .non => some false
  | .non, .str _ => some false
  | .str _, .non => some false
  | .non, .bl _ => some false
  | .bl _, .non => some false
  | .int _, .str _ => some false
  | .str _, .int _ => some false
  | _, _ => none
def rdEq0 (neg : Bool) : RD2 := fun x y G Q => match eqS x y with
  | some k => Q (.bl (neg ^^ k)) G
  | none => False
structure rdEq (neg : Bool) (x y : Dt) (G : GD) (Q : KD) : Prop where
  p : rdEq0 neg x y G Q
theorem rdEq_eq {neg : Bool} {x y : Dt} {G : GD} {Q : KD} : rdEq neg x y G Q = rdEq0 neg x y G Q := propext ⟨fun h => h.p, fun h => ⟨h⟩⟩
theorem rdEq_of {neg k : Bool} {x y : Dt} {G : GD} {Q : KD} (h : eqS x y = some k) (hq : Q (.bl (neg ^^ k)) G) : rdEq neg x y G Q := by
  rw [rdEq_eq]; unfold rdEq0
  rw [h]
  exact hq
theorem rdEq_int {neg : Bool} {i j : Int} {G : GD} {Q : KD} (hq : Q (.bl (neg ^^ decide (i = j))) G) : rdEq neg (.int i) (.int j) G Q := rdEq_of rfl hq
theorem rdEq_str {neg : Bool} {i j : Str} {G : GD} {Q : KD} (hq : Q (.bl (neg ^^ decide (i = j))) G) : rdEq neg (.str i) (.str j) G Q := rdEq_of rfl hq
theorem rdEq_bl {neg : Bool} {i j : Bool} {G : GD} {Q : KD} (hq : Q (.bl (neg ^^ decide (i = j))) G) : rdEq neg (.bl i) (.bl j) G Q := rdEq_of rfl hq
theorem eqS_val {K : PySem.W.Frag} {H : Hp} {ι : List Addr} {x y : Dt} {v w : V} {k : Bool} (r1 : Rp K H ι x v) (r2 : Rp K H ι y w) (e : eqS x y = some k) : scal v w = true ∧ decide (v = w) = k := by
  cases x <;> cases y <;> (first | (cases e; done) | skip)
  all_goals (try (have e1 := r1; have e2 := r2; simp only [Rp] at e1 e2; subst e1; subst e2; simp only [eqS, Option.some.injEq] at e; subst e; simp [scal]))
theorem l2_eq {K : PySem.W.Frag} : L2R K rEq (rdEq false) := by
  intro G H ι d1 d2 v1 v2 Q Qv hG r1 r2 h hq
  replace h := h.p; unfold rdEq0 at h
  split at h
  · rename_i k e
    obtain ⟨s, q⟩ := eqS_val r1 r2 e
    refine ⟨s, ?_⟩
    rw [q]
    exact hq _ H (.bl k) G ι hG Gr.refl rfl (by simpa using h)
  · exact h.elim
theorem l2_ne {K : PySem.W.Frag} : L2R K rNe (rdEq true) := by
  intro G H ι d1 d2 v1 v2 Q Qv hG r1 r2 h hq
  replace h := h.p; unfold rdEq0 at h
  split at h
  · rename_i k e
    obtain ⟨s, q⟩ := eqS_val r1 r2 e
    refine ⟨s, ?_⟩
    rw [q]
    exact hq _ H (.bl (!k)) G ι hG Gr.refl rfl (by simpa using h)
  · exact h.elim
theorem de_eq (ha : DE X F a ta) (hb : DE X F b tb) : DE X F (.Compare a [.Eq] [b] pos) (dOp (rdEq false) ta tb) := li2 l2_eq (pe_cmpR op_eq ha hb (nomark _))
theorem de_eq' (ha : DE' X F a ta) (hb : DE' X F b tb) : DE' X F (.Compare a [.Eq] [b] pos) (dOp (rdEq false) ta tb) :=
  ⟨de_eq (ha := ha.p) (hb := hb.p)⟩
theorem dt_eq (ha : DE X F a ta) (hb : DE X F b tb) : DT X F (.Compare a [.Eq] [b] pos) (dTest (dOp (rdEq false) ta tb)) := li2T l2_eq (pt_cmpR op_eq ha hb (nomark _))
theorem dt_eq' (ha : DE' X F a ta) (hb : DE' X F b tb) : DT' X F (.Compare a [.Eq] [b] pos) (dTest (dOp (rdEq false) ta tb)) :=
  ⟨dt_eq (ha := ha.p) (hb := hb.p)⟩
theorem dt_ne (ha : DE X F a ta) (hb : DE X F b tb) : DT X F (.Compare a [.NotEq] [b] pos) (dTest (dOp (rdEq true) ta tb)) := li2T l2_ne (pt_cmpR op_ne ha hb (nomark _))

theorem dt_ne' (ha : DE' X F a ta) (hb : DE' X F b tb) : DT' X F (.Compare a [.NotEq] [b] pos) (dTest (dOp (rdEq true) ta tb)) :=
  ⟨dt_ne (ha := ha.p) (hb := hb.p)⟩
/-! ### a op1 b op2 c of ints -/
def dChain (r r' : RD2) (ta tb tc : TDE) : TDE := fun σ G Q => ta σ G fun x G1 => tb σ G1 fun y G2 => r x y G2 fun z G3 => match z with
  | .bl k => if k = true then tc σ G3 fun w' G4 => r' y w' G4 Q else Q (.bl false) G3
  | _ => False
/-! ### and, or, not -/
variable {rest : List Expr} {tA tB' : TDT}
def dAnd (t u : TDT) : TDT := fun σ G Q => t σ G fun c G1 => if c = true then u σ G1 Q else Q false G1
def dOr (t u : TDT) : TDT := fun σ G Q => t σ G fun c G1 => if c = true then Q true G1 else u σ G1 Q
def dNot (t : TDT) : TDT := fun σ G Q => t σ G fun c G1 => Q (!c) G1
theorem dw_or1 (ha : DT X F a tA) : DW X F (.BoolOp .Or [a] pos) tA := pw_or1 ha
theorem dw_or1' (ha : DT' X F a tA) : DW' X F (.BoolOp .Or [a] pos) tA :=
  ⟨dw_or1 (ha := ha.p)⟩
theorem dw_or (ha : DT X F a tA) (hb : DW X F (.BoolOp .Or (b :: rest) pos) tB') : DW X F (.BoolOp .Or (a :: b :: rest) pos) (dOr tA tB') := by
  refine PW.imp (pw_or ha hb) fun σ H Qv ⟨σd, G, ι, Q, ok, ht, hq⟩ => ?_
  refine ⟨σd, G, ι, _, ok, ht, fun k H1 G1 ι1 h1 g1 q1 => ?_⟩
  cases k with
  | true => exact iteT (hq true H1 G1 ι1 h1 g1 q1)
  | false => exact iteF ⟨σd, G1, ι1, Q, ok.to h1 g1, q1, fun k H2 G2 ι2 h2 g2 q2 => hq k H2 G2 ι2 h2 (g1.trans g2) q2⟩
theorem dw_or' (ha : DT' X F a tA) (hb : DW' X F (.BoolOp .Or (b :: rest) pos) tB') : DW' X F (.BoolOp .Or (a :: b :: rest) pos) (dOr tA tB') :=
  ⟨dw_or (ha := ha.p) (hb := hb.p)⟩
theorem dt_w (h : DW X F e tA) : DT X F e tA := PW.pt h
theorem dt_w' (h : DW' X F e tA) : DT' X F e tA :=
  ⟨dt_w (h := h.p)⟩
theorem dt_not (ha : DT X F a tA) : DT X F (.UnaryOp .Not a pos) (dNot tA) := by
  refine PT.imp (pt_not ha) fun σ H Qv ⟨σd, G, ι, Q, ok, ht, hq⟩ => ?_
  exact ⟨σd, G, ι, _, ok, ht, fun k H1 G1 ι1 h1 g1 q1 => hq _ H1 G1 ι1 h1 g1 q1⟩
theorem dt_not' (ha : DT' X F a tA) : DT' X F (.UnaryOp .Not a pos) (dNot tA) :=
  ⟨dt_not (ha := ha.p)⟩
/-- .. as values (truths) -/
def dAndV (ta tb : TDE) : TDE := fun σ G Q => ta σ G fun x G1 => match x with
  | .bl c => if c = true then tb σ G1 Q else Q (.bl false) G1
  | _ => False
def dOrV (ta tb : TDE) : TDE := fun σ G Q => ta σ G fun x G1 => match x with
  | .bl c => if c = true then Q (.bl true) G1 else tb σ G1 Q
  | _ => False
def dNotV (ta : TDE) : TDE := fun σ G Q => ta σ G fun x G1 => match x with
  | .bl c => Q (.bl (!c)) G1
  | _ => False
theorem de_one {op} (h : DE X F a t) : DE X F (.BoolOp op [a] pos) t := pe_one h
theorem de_one' {op} (h : DE' X F a t) : DE' X F (.BoolOp op [a] pos) t :=
  ⟨de_one (h := h.p)⟩
theorem de_and (ha : DE X F a ta) (hb : DE X F (.BoolOp .And (b :: rest) pos) tb) : DE X F (.BoolOp .And (a :: b :: rest) pos) (dAndV ta tb) := by
  refine PE.imp (pe_and ha hb) fun σ H Qv ⟨σd, G, ι, Q, ok, ht, hq⟩ => ?_
  refine ⟨σd, G, ι, _, ok, ht, fun v H1 d G1 ι1 h1 g1 r1 q1 => ?_⟩
  cases d with
  | bl k =>
    refine ⟨k, r1, ?_⟩
    cases k with
    | true => exact iteT ⟨σd, G1, ι1, Q, ok.to h1 g1, q1, fun v H2 d G2 ι2 h2 g2 r2 q2 => hq v H2 d G2 ι2 h2 (g1.trans g2) r2 q2⟩
    | false => exact iteF (hq _ H1 (.bl false) G1 ι1 h1 g1 rfl q1)
  | _ => exact q1.elim
theorem de_and' (ha : DE' X F a ta) (hb : DE' X F (.BoolOp .And (b :: rest) pos) tb) : DE' X F (.BoolOp .And (a :: b :: rest) pos) (dAndV ta tb) :=
  ⟨de_and (ha := ha.p) (hb := hb.p)⟩
theorem de_or (ha : DE X F a ta) (hb : DE X F (.BoolOp .Or (b :: rest) pos) tb) : DE X F (.BoolOp .Or (a :: b :: rest) pos) (dOrV ta tb) := by
  refine PE.imp (pe_or ha hb) fun σ H Qv ⟨σd, G, ι, Q, ok, ht, hq⟩ => ?_
  refine ⟨σd, G, ι, _, ok, ht, fun v H1 d G1 ι1 h1 g1 r1 q1 => ?_⟩
  cases d with
  | bl k =>
    refine ⟨k, r1, ?_⟩
    cases k with
    | true => exact iteT (hq _ H1 (.bl true) G1 ι1 h1 g1 rfl q1)
    | false => exact iteF ⟨σd, G1, ι1, Q, ok.to h1 g1, q1, fun v H2 d G2 ι2 h2 g2 r2 q2 => hq v H2 d G2 ι2 h2 (g1.trans g2) r2 q2⟩
  | _ => exact q1.elim
theorem de_or' (ha : DE' X F a ta) (hb : DE' X F (.BoolOp .Or (b :: rest) pos) tb) : DE' X F (.BoolOp .Or (a :: b :: rest) pos) (dOrV ta tb) :=
  ⟨de_or (ha := ha.p) (hb := hb.p)⟩
theorem de_not (ha : DE X F a ta) : DE X F (.UnaryOp .Not a pos) (dNotV ta) := by
  refine PE.imp (pe_not ha) fun σ H Qv ⟨σd, G, ι, Q, ok, ht, hq⟩ => ?_
  refine ⟨σd, G, ι, _, ok, ht, fun v H1 d G1 ι1 h1 g1 r1 q1 => ?_⟩
  cases d with
  | bl k => exact ⟨k, r1, hq _ H1 (.bl (!k)) G1 ι1 h1 g1 rfl q1⟩
  | _ => exact q1.elim
theorem de_not' (ha : DE' X F a ta) : DE' X F (.UnaryOp .Not a pos) (dNotV ta) :=
  ⟨de_not (ha := ha.p)⟩
def dIf (t : TDT) (ta tb : TDE) : TDE := fun σ G Q => t σ G fun c G1 => if c = true then ta σ G1 Q else tb σ G1 Q
theorem de_if (hc : DT X F c tA) (ha : DE X F a ta) (hb : DE X F b tb) : DE X F (.IfExp c a b pos) (dIf tA ta tb) := by
  refine PE.imp (pe_ifExp hc ha hb) fun σ H Qv ⟨σd, G, ι, Q, ok, ht, hq⟩ => ?_
  refine ⟨σd, G, ι, _, ok, ht, fun k H1 G1 ι1 h1 g1 q1 => ?_⟩
  cases k with
  | true => exact iteT ⟨σd, G1, ι1, Q, ok.to h1 g1, q1, fun v H2 d G2 ι2 h2 g2 r2 q2 => hq v H2 d G2 ι2 h2 (g1.trans g2) r2 q2⟩
  | false => exact iteF ⟨σd, G1, ι1, Q, ok.to h1 g1, q1, fun v H2 d G2 ι2 h2 g2 r2 q2 => hq v H2 d G2 ι2 h2 (g1.trans g2) r2 q2⟩

theorem de_if' (hc : DT' X F c tA) (ha : DE' X F a ta) (hb : DE' X F b tb) : DE' X F (.IfExp c a b pos) (dIf tA ta tb) :=
  ⟨de_if (hc := hc.p) (ha := ha.p) (hb := hb.p)⟩
/-! ### truth -/
def truD (G : GD) : Dt → Option Bool
  | .non => some false
  | .bl b => some b
  | .int i => some (i != 0)
  | .str _ => none
  | .tup xs => some (!xs.isEmpty)
  | .ref i => match G[i]? with
    | some (.lst xs) => some (!xs.isEmpty)
    | some (.fz xs) => some (!xs.isEmpty)
    | some (.dct kvs) => some (!kvs.isEmpty)
    | none => none
def dTru (t : TDE) : TDT := fun σ G Q => t σ G fun x G1 => match truD G1 x with
  | some k => Q k G1
  | none => False
theorem isEmpty_len {α β : Type} {xs : List α} {ys : List β} (h : xs.length = ys.length) : xs.isEmpty = ys.isEmpty := by
  cases xs <;> cases ys <;> simp_all
theorem RpK.len {K : PySem.W.Frag} {H : Hp} {ι : List Addr} {ds : List (Key × Dt)} {vs : List (Key × V)} (h : RpK K H ι ds vs) : ds.length = vs.length := by
  have := congrArg List.length h.vals.2
  simpa using this
theorem tru_val {K : PySem.W.Frag} {H : Hp} {ι : List Addr} {G : GD} {x : Dt} {v : V} {k : Bool} (hG : HG K G H ι) (r : Rp K H ι x v) (e : truD G x = some k) : TruV K v H k := by
  cases x with
  | non => have e1 : v = V.non := r; subst e1; cases e; rfl
  | bl b => have e1 : v = V.bl b := r; subst e1; cases e; rfl
  | int b => have e1 : v = V.int b := r; subst e1; cases e; rfl
  | str b => cases e
  | tup b =>
    obtain ⟨a, vs, e1, s, q⟩ := r
    subst e1
    cases e
    exact .inr (.inl ⟨vs, s, by rw [isEmpty_len q.len]⟩)
  | ref i =>
    obtain ⟨a, e1, q⟩ := r
    subst e1
    simp only [truD] at e
    split at e
    · rename_i xs z
      cases e
      obtain ⟨vs, w, rr⟩ := hG.cel i _ a z q
      exact .inl ⟨vs, .inl (.inl w), by rw [isEmpty_len rr.len]⟩
    · rename_i xs z
      cases e
      obtain ⟨vs, w, rr⟩ := hG.cel i _ a z q
      refine .inl ⟨vs, ?_, by rw [isEmpty_len rr.len]⟩
      rcases w with ⟨o, w⟩ | w
      · exact .inl (.inr ⟨o, w⟩)
      · exact .inr w
    · rename_i kvs z
      cases e
      obtain ⟨vs, w, rr⟩ := hG.cel i _ a z q
      exact .inr (.inr ⟨vs, w, by rw [isEmpty_len rr.len]⟩)
    · cases e
theorem dt_tru (ha : DE X F a ta) (he : ∀ whole, isTrue a X.env whole = (do let v ← whole; standAt a.pos; holding [v] (truthy v)) := by intro _; rfl) : DT X F a (dTru ta) := by
  refine PT.imp (pt_truth ha he) fun σ H Qv ⟨σd, G, ι, Q, ok, ht, hq⟩ => ?_
  refine ⟨σd, G, ι, _, ok, ht, fun v H1 d G1 ι1 h1 g1 r1 q1 => ?_⟩
  revert q1
  cases e : truD G1 d with
  | none => exact fun q1 => q1.elim
  | some k => exact fun q1 => ⟨k, tru_val h1 r1 e, hq k H1 G1 ι1 h1 g1 q1⟩

theorem dt_tru' (ha : DE' X F a ta) (he : ∀ whole, isTrue a X.env whole = (do let v ← whole; standAt a.pos; holding [v] (truthy v)) := by intro _; rfl) : DT' X F a (dTru ta) :=
  ⟨dt_tru (ha := ha.p) (he := he)⟩
/-! ### argument lists -/
def dNil : TDA := fun _ G Q => Q [] G
def dCons (ta : TDE) (tr : TDA) : TDA := fun σ G Q => ta σ G fun x G1 => tr σ G1 fun xs G2 => Q (x :: xs) G2
theorem da_nil : DA X F [] dNil := PA.imp pa_nil fun σ H Qv ⟨σd, G, ι, Q, ok, ht, hq⟩ => hq [] H [] G ι ok.hg Gr.refl rfl ht
theorem da_nil' : DA' X F [] dNil :=
  ⟨da_nil ⟩
theorem da_cons {es : List Expr} {tr : TDA} (ha : DE X F e ta) (hr : DA X F es tr) (hs : starEach (e :: es) X.env = (false, eval e X.env) :: starEach es X.env := by exact star_cons rfl) : DA X F (e :: es) (dCons ta tr) := by
  refine PA.imp (pa_cons ha hr hs) fun σ H Qv ⟨σd, G, ι, Q, ok, ht, hq⟩ => ?_
  refine ⟨σd, G, ι, _, ok, ht, fun v H1 d G1 ι1 h1 g1 r1 q1 => ⟨σd, G1, ι1, _, ok.to h1 g1, q1, fun vs H2 ds G2 ι2 h2 g2 r2 q2 => ?_⟩⟩
  exact hq _ H2 (d :: ds) G2 ι2 h2 (g1.trans g2) (Rps.cons (r1.up g2) r2) q2

theorem da_cons' {es : List Expr} {tr : TDA} (ha : DE' X F e ta) (hr : DA' X F es tr) (hs : starEach (e :: es) X.env = (false, eval e X.env) :: starEach es X.env := by exact star_cons rfl) : DA' X F (e :: es) (dCons ta tr) :=
  ⟨da_cons (ha := ha.p) (hr := hr.p) (hs := hs)⟩
/-! ### displays -/
def dTup (t : TDA) : TDE := fun σ G Q => t σ G fun xs G1 => xs.length ≤ sizeLine ∧ Q (.tup xs) G1
def dLst (t : TDA) : TDE := fun σ G Q => t σ G fun xs G1 => xs.length ≤ sizeLine ∧ Q (.ref G1.length) (G1 ++ [.lst xs])
/-- a new tuple at V's level -/
theorem rp_newTup {K : PySem.W.Frag} {H : Hp} {ι : List Addr} {G : GD} {ds : List Dt} {vs : List V} {p : Addr} (hG : HG K G H ι) (r : Rps K H ι ds vs) (hp : H p = none) :
    HG K G (upd H p (.tup vs)) ι ∧ Gr K H ι (upd H p (.tup vs)) ι ∧ Rp K (upd H p (.tup vs)) ι (.tup ds) (.ref p) :=
  ⟨hG.free hp, Gr.free0 hp, p, vs, rfl, .inl (.inl upd_same), r.up (Gr.free0 hp)⟩
theorem rp_newLst {K : PySem.W.Frag} {H : Hp} {ι : List Addr} {G : GD} {ds : List Dt} {vs : List V} {p : Addr} (hG : HG K G H ι) (r : Rps K H ι ds vs) (hp : H p = none) :
    HG K (G ++ [.lst ds]) (upd H p (.lst vs)) (ι ++ [p]) ∧ Gr K H ι (upd H p (.lst vs)) (ι ++ [p]) ∧ Rp K (upd H p (.lst vs)) (ι ++ [p]) (.ref G.length) (.ref p) :=
  ⟨hG.new hp ⟨vs, upd_same, r.up (Gr.free hp)⟩, Gr.free hp, p, rfl, by rw [← hG.len, List.getElem?_append_right (Nat.le_refl _)]; simp⟩
theorem de_tup {es : List Expr} {x1} {tr : TDA} (h : DA X F es tr) : DE X F (.Tuple es x1 pos) (dTup tr) := by
  refine PE.imp (pe_tup h) fun σ H Qv ⟨σd, G, ι, Q, ok, ht, hq⟩ => ?_
  refine ⟨σd, G, ι, _, ok, ht, fun vs H1 ds G1 ι1 h1 g1 r1 q1 => ⟨by rw [← r1.len]; exact q1.1, fun p hp => ?_⟩⟩
  obtain ⟨x, y, z⟩ := rp_newTup h1 r1 hp
  exact hq _ _ (.tup ds) G1 ι1 x (g1.trans y) z q1.2
theorem de_tup' {es : List Expr} {x1} {tr : TDA} (h : DA' X F es tr) : DE' X F (.Tuple es x1 pos) (dTup tr) :=
  ⟨de_tup (h := h.p)⟩
theorem de_lst {es : List Expr} {tr : TDA} (h : DA X F es tr) : DE X F (.List es pos) (dLst tr) := by
  refine PE.imp (pe_lst h) fun σ H Qv ⟨σd, G, ι, Q, ok, ht, hq⟩ => ?_
  refine ⟨σd, G, ι, _, ok, ht, fun vs H1 ds G1 ι1 h1 g1 r1 q1 => ⟨by rw [← r1.len]; exact q1.1, fun p hp => ?_⟩⟩
  obtain ⟨x, y, z⟩ := rp_newLst h1 r1 hp
  exact hq _ _ _ _ _ x (g1.trans y) z q1.2
theorem de_lst' {es : List Expr} {tr : TDA} (h : DA' X F es tr) : DE' X F (.List es pos) (dLst tr) :=
  ⟨de_lst (h := h.p)⟩
end

/-! ### blocks -/
section
variable {X : Cx} {F : Fx} {st : Stmt} {rest : List Stmt} {t u : TDS} {pos : Pos} {e : Expr} {te : TDE}
def dNext : TDS := fun D σ G => D.nx σ G
def dSeq (t u : TDS) : TDS := fun D σ G => t { D with nx := u D } σ G
theorem dss_nil : DSs X F [] dNext := PSs.imp pss_nil fun D σ H ⟨σd, G, ι, Dd, ok, ht, L⟩ => L.nx σ H σd G ι ok ht
theorem dss_nil' : DSs' X F [] dNext :=
  ⟨dss_nil ⟩
theorem dss_cons (h1 : DS X F st t) (h2 : DSs X F rest u) : DSs X F (st :: rest) (dSeq t u) := by
  refine PSs.imp (pss_cons h1 h2) fun D σ H ⟨σd, G, ι, Dd, ok, ht, L⟩ => ?_
  exact ⟨σd, G, ι, { Dd with nx := u Dd }, ok, ht, ⟨fun σ' H' σd' G' ι' ok' q => ⟨σd', G', ι', Dd, ok', q, L⟩, L.bk, L.ct, L.rt⟩⟩
theorem dss_cons' (h1 : DS' X F st t) (h2 : DSs' X F rest u) : DSs' X F (st :: rest) (dSeq t u) :=
  ⟨dss_cons (h1 := h1.p) (h2 := h2.p)⟩
theorem dss_one (h1 : DS X F st t) : DSs X F [st] t := pss_one h1
theorem dss_one' (h1 : DS' X F st t) : DSs' X F [st] t :=
  ⟨dss_one (h1 := h1.p)⟩
def dDrop (te : TDE) : TDS := fun D σ G => te σ G fun _ G1 => D.nx σ G1
theorem ds_expr (he : DE X F e te) (hs : swapsWith e none pos.line X.env = pure false := by rfl) : DS X F (.Expr e pos) (dDrop te) := by
  refine PS.imp (ps_expr he hs) fun D σ H ⟨σd, G, ι, Dd, ok, ht, L⟩ => ?_
  exact ⟨σd, G, ι, _, ok, ht, fun v H1 d G1 ι1 h1 g1 r1 q1 => L.nx σ H1 σd G1 ι1 (ok.to h1 g1) q1⟩
theorem ds_expr' (he : DE' X F e te) (hs : swapsWith e none pos.line X.env = pure false := by rfl) : DS' X F (.Expr e pos) (dDrop te) :=
  ⟨ds_expr (he := he.p) (hs := hs)⟩
def dRet (te : TDE) : TDS := fun D σ G => te σ G D.rt
theorem ds_ret (he : DE X F e te) : DS X F (.Return (some e) pos) (dRet te) := by
  refine PS.imp (ps_ret he) fun D σ H ⟨σd, G, ι, Dd, ok, ht, L⟩ => ?_
  exact ⟨σd, G, ι, _, ok, ht, fun v H1 d G1 ι1 h1 g1 r1 q1 => L.rt v H1 d G1 ι1 h1 (ok.gr.trans g1) r1 q1⟩
theorem ds_ret' (he : DE' X F e te) : DS' X F (.Return (some e) pos) (dRet te) :=
  ⟨ds_ret (he := he.p)⟩
def dIfS (c : TDT) (t u : TDS) : TDS := fun D σ G => c σ G fun b G1 => if b = true then t D σ G1 else u D σ G1
theorem ds_if {c : Expr} {a b : List Stmt} {tc : TDT} (hc : DT X F c tc) (ha : DSs X F a t) (hb : DSs X F b u) : DS X F (.If c a b pos) (dIfS tc t u) := by
  refine PS.imp (ps_if hc ha hb) fun D σ H ⟨σd, G, ι, Dd, ok, ht, L⟩ => ?_
  refine ⟨σd, G, ι, _, ok, ht, fun k H1 G1 ι1 h1 g1 q1 => ?_⟩
  cases k with
  | true => exact iteT ⟨σd, G1, ι1, Dd, ok.to h1 g1, q1, L⟩
  | false => exact iteF ⟨σd, G1, ι1, Dd, ok.to h1 g1, q1, L⟩
theorem ds_if' {c : Expr} {a b : List Stmt} {tc : TDT} (hc : DT' X F c tc) (ha : DSs' X F a t) (hb : DSs' X F b u) : DS' X F (.If c a b pos) (dIfS tc t u) :=
  ⟨ds_if (hc := hc.p) (ha := ha.p) (hb := hb.p)⟩
def dSet (i : Nat) (te : TDE) : TDS := fun D σ G => te σ G fun x G1 => D.nx (σ.set i (some x)) G1
theorem ds_set {i : Nat} {x : Str} {pos' : Pos} (hN : X.N.Nodup) (he : DE X F e te) (hi : X.N[i]? = some x := by rfl) (hx : Loc X.env.scope x := by first | exact Or.inl rfl | exact Or.inr rfl) (hs : swapsWith e (some (.Name x pos')) pos.line X.env = pure false := by rfl)
    (hf : X.fn x = true ∨ X.env.scope.names.lookup x = some .local := by first | exact .inl rfl | exact .inr rfl | assumption) : DS X F (.Assign [.Name x pos'] e pos) (dSet i te) := by
  refine PS.imp (ps_set hN hi hx he hs hf) fun D σ H ⟨σd, G, ι, Dd, ok, ht, L⟩ => ?_
  exact ⟨σd, G, ι, _, ok, ht, fun v H1 d G1 ι1 h1 g1 r1 q1 => L.nx _ H1 _ G1 ι1 ((ok.to h1 g1).set r1) q1⟩
theorem ds_set' {i : Nat} {x : Str} {pos' : Pos} (hN : X.N.Nodup) (he : DE' X F e te) (hi : X.N[i]? = some x := by rfl) (hx : Loc X.env.scope x := by first | exact Or.inl rfl | exact Or.inr rfl) (hs : swapsWith e (some (.Name x pos')) pos.line X.env = pure false := by rfl)
    (hf : X.fn x = true ∨ X.env.scope.names.lookup x = some .local := by first | exact .inl rfl | exact .inr rfl | assumption) : DS' X F (.Assign [.Name x pos'] e pos) (dSet i te) :=
  ⟨ds_set (hN := hN) (he := he.p) (hi := hi) (hx := hx) (hs := hs) (hf := hf)⟩
/-! ### targets -/
abbrev TDG := Dt → SD → GD → (SD → GD → Prop) → Prop
abbrev TDGs := List Dt → SD → GD → (SD → GD → Prop) → Prop
def liG (K : PySem.W.Frag) (F : Fx) (t : TDG) : TG := fun v σ H Qv => ∃ d σd G ι Q, Ok K F σd G σ H ι ∧ Rp K H ι d v ∧ t d σd G Q ∧ ∀ σ' H' σd' G' ι', Ok K F σd' G' σ' H' ι' → Q σd' G' → Qv σ' H'
def liGs (K : PySem.W.Frag) (F : Fx) (t : TDGs) : TGs := fun v σ H Qv => ∃ d σd G ι Q, Ok K F σd G σ H ι ∧ Rps K H ι d v ∧ t d σd G Q ∧ ∀ σ' H' σd' G' ι', Ok K F σd' G' σ' H' ι' → Gr K H ι H' ι' → Q σd' G' → Qv σ' H'
def DG (X : Cx) (F : Fx) (target : Expr) (t : TDG) : Prop := PG X target (liG X.K F t)
structure DG' (X : Cx) (F : Fx) (target : Expr) (t : TDG) : Prop where
  p : DG X F target t
/-- names alone, in order -/
def DGs (X : Cx) (F : Fx) (ts : List Expr) (t : TDGs) : Prop := PGs X ts (liGs X.K F t)
structure DGs' (X : Cx) (F : Fx) (ts : List Expr) (t : TDGs) : Prop where
  p : DGs X F ts t
theorem PG.imp {tg : Expr} {t t' : TG} (h : PG X tg t) (i : ∀ v σ H Q, t' v σ H Q → t v σ H Q) : PG X tg t' := fun pins s σ H v u Q I r q => h pins s σ H v u Q I r (i v σ H Q q)
theorem PGs.imp {tg : List Expr} {t t' : TGs} (h : PGs X tg t) (i : ∀ v σ H Q, t' v σ H Q → t v σ H Q) : PGs X tg t' := fun pins s σ H v u Q I r q => h pins s σ H v u Q I r (i v σ H Q q)
def dgName (i : Nat) : TDG := fun d σ G Q => Q (σ.set i (some d)) G
theorem dg_name {i : Nat} {x : Str} (hN : X.N.Nodup) (hi : X.N[i]? = some x := by rfl) (hx : Loc X.env.scope x := by first | exact Or.inl rfl | exact Or.inr rfl) (hf : X.fn x = true ∨ X.env.scope.names.lookup x = some .local := by first | exact .inl rfl | exact .inr rfl | assumption) : DG X F (.Name x pos) (dgName i) := by
  refine PG.imp (pg_name hN hi hx hf) fun v σ H Qv ⟨d, σd, G, ι, Q, ok, r, ht, hq⟩ => ?_
  exact hq _ H _ G ι (ok.set r) ht
theorem dg_name' {i : Nat} {x : Str} (hN : X.N.Nodup) (hi : X.N[i]? = some x := by rfl) (hx : Loc X.env.scope x := by first | exact Or.inl rfl | exact Or.inr rfl) (hf : X.fn x = true ∨ X.env.scope.names.lookup x = some .local := by first | exact .inl rfl | exact .inr rfl | assumption) : DG' X F (.Name x pos) (dgName i) :=
  ⟨dg_name (hN := hN) (hi := hi) (hx := hx) (hf := hf)⟩
def dgNil : TDGs := fun vs σ G Q => vs = [] ∧ Q σ G
def dgCons (i : Nat) (u : TDGs) : TDGs := fun vs σ G Q => match vs with
  | d :: r => u r (σ.set i (some d)) G Q
  | [] => False
theorem dgs_nil : DGs X F [] dgNil := by
  refine PGs.imp pgs_nil fun v σ H Qv ⟨d, σd, G, ι, Q, ok, r, ht, hq⟩ => ?_
  obtain ⟨e, ht⟩ := ht
  subst e
  exact ⟨r, hq σ H σd G ι ok Gr.refl ht⟩
theorem dgs_nil' : DGs' X F [] dgNil :=
  ⟨dgs_nil ⟩
theorem dgs_cons {i : Nat} {x : Str} {es : List Expr} {u : TDGs} {pos' : Pos} (hN : X.N.Nodup) (h2 : DGs X F es u) (hi : X.N[i]? = some x := by rfl) (hx : Loc X.env.scope x := by first | exact Or.inl rfl | exact Or.inr rfl) (hf : X.fn x = true ∨ X.env.scope.names.lookup x = some .local := by first | exact .inl rfl | exact .inr rfl | assumption)
    (hs : (assignEach (Expr.Name x pos' :: es) X.env).map (·.2) = assign (Expr.Name x pos') X.env :: (assignEach es X.env).map (·.2) := by rfl) : DGs X F (Expr.Name x pos' :: es) (dgCons i u) := by
  refine PGs.imp (pgs_cons (pg_name hN hi hx hf) h2 hs) fun vs σ H Qv ⟨ds, σd, G, ι, Q, ok, r, ht, hq⟩ => ?_
  cases ds with
  | nil => exact ht.elim
  | cons d dr =>
    obtain ⟨v, vr, e, r1, r2⟩ := r
    exact ⟨v, vr, e, dr, _, G, ι, Q, ok.set r1, r2, ht, hq⟩
theorem dgs_cons' {i : Nat} {x : Str} {es : List Expr} {u : TDGs} {pos' : Pos} (hN : X.N.Nodup) (h2 : DGs' X F es u) (hi : X.N[i]? = some x := by rfl) (hx : Loc X.env.scope x := by first | exact Or.inl rfl | exact Or.inr rfl) (hf : X.fn x = true ∨ X.env.scope.names.lookup x = some .local := by first | exact .inl rfl | exact .inr rfl | assumption)
    (hs : (assignEach (Expr.Name x pos' :: es) X.env).map (·.2) = assign (Expr.Name x pos') X.env :: (assignEach es X.env).map (·.2) := by rfl) : DGs' X F (Expr.Name x pos' :: es) (dgCons i u) :=
  ⟨dgs_cons (hN := hN) (h2 := h2.p) (hi := hi) (hx := hx) (hf := hf) (hs := hs)⟩
def dgTup (n : Nat) (t : TDGs) : TDG := fun d σ G Q => match d with
  | .tup xs => xs.length = n ∧ t xs σ G Q
  | _ => False
theorem dg_tup {es : List Expr} {k : Nat} {t : TDGs} {n : Nat} (h : DGs X F es t) (hc : X.calm = true := by rfl) (hn : (assignEach es X.env).length = n := by rfl) (hst : (assignEach es X.env).findIdx? (·.1) = none := by rfl) : DG X F (.Tuple es k pos) (dgTup n t) := by
  refine PG.imp (pg_tup hc h hn hst) fun v σ H Qv ⟨d, σd, G, ι, Q, ok, r, ht, hq⟩ => ?_
  cases d with
  | tup xs =>
    obtain ⟨a, vs, e, s, rr⟩ := r
    exact ⟨a, vs, e, s, by rw [← rr.len]; exact ht.1, xs, σd, G, ι, Q, ok, rr, ht.2, fun σ' H' σd' G' ι' ok' _ q => hq σ' H' σd' G' ι' ok' q⟩
  | _ => exact ht.elim
theorem dg_tup' {es : List Expr} {k : Nat} {t : TDGs} {n : Nat} (h : DGs' X F es t) (hc : X.calm = true := by rfl) (hn : (assignEach es X.env).length = n := by rfl) (hst : (assignEach es X.env).findIdx? (·.1) = none := by rfl) : DG' X F (.Tuple es k pos) (dgTup n t) :=
  ⟨dg_tup (h := h.p) (hc := hc) (hn := hn) (hst := hst)⟩
def dAsg (te : TDE) (g : TDG) : TDS := fun D σ G => te σ G fun x G1 => g x σ G1 D.nx
end
end DL
namespace DL
open PySem PySem.Spec L2
open PyProof.Rows hiding St

/-! ### loops -/
/-- slots forgotten, cells from n0 on let go -/
def Wk (n0 : Nat) (P : SD → GD → Prop) : SD → GD → Prop := fun σ G => P σ G ∨ ∃ n σ', n0 ≤ n ∧ σ'.length = σ.length ∧ (∀ (i : Nat) (d : Dt), σ'[i]? = some (some d) → σ[i]? = some (some d) ∧ bnd n d) ∧ bndG n (G.take n) ∧ P σ' (G.take n)
theorem Wk.here {n0 : Nat} {P : SD → GD → Prop} {σ : SD} {G : GD} (h : P σ G) : Wk n0 P σ G := .inl h
theorem Ok.wk {K : PySem.W.Frag} {F : Fx} {P : SD → GD → Prop} {σd : SD} {G : GD} {σ : St} {H : Hp} {ι : List Addr} (ok : Ok K F σd G σ H ι) (h : Wk F.ι.length P σd G) : ∃ σd' G' ι', Ok K F σd' G' σ H ι' ∧ P σd' G' := by
  rcases h with h | ⟨n, σ', hn, hl, hs, hb, h⟩
  · exact ⟨σd, G, ι, ok, h⟩
  · exact ⟨σ', G.take n, ι.take n, ok.weak n hn hl hs hb, h⟩
theorem Ok.re {K : PySem.W.Frag} {F F' : Fx} {σd : SD} {G : GD} {σ : St} {H : Hp} {ι : List Addr} (ok : Ok K F' σd G σ H ι) (g : Gr K F.H F.ι F'.H F'.ι) : Ok K F σd G σ H ι := ⟨ok.hg, ok.slt, g.trans ok.gr, ok.ln⟩
theorem Ok.here {K : PySem.W.Frag} {F : Fx} {σd : SD} {G : GD} {σ : St} {H : Hp} {ι : List Addr} (ok : Ok K F σd G σ H ι) : Ok K ⟨H, ι⟩ σd G σ H ι := ⟨ok.hg, ok.slt, Gr.refl, ok.ln⟩
def exS (K : PySem.W.Frag) (t : TDS) : TS := fun D σ H => ∃ F, liS K F t D σ H
def exG (K : PySem.W.Frag) (t : TDG) : TG := fun v σ H Q => ∃ F, liG K F t v σ H Q
def exT (K : PySem.W.Frag) (t : TDT) : TT := fun σ H Q => ∃ F, liT K F t σ H Q
section
variable {X : Cx} {F : Fx} {pos : Pos} {tg : Expr}
theorem exS_of {st : List Stmt} {t : TDS} (h : ∀ F, DSs X F st t) : PSs X st (exS X.K t) := fun pins s σ H D I ⟨F, q⟩ => h F pins s σ H D I q
theorem exG_of {t : TDG} (h : ∀ F, DG X F tg t) : PG X tg (exG X.K t) := fun pins s σ H v u Q I r ⟨F, q⟩ => h F pins s σ H v u Q I r q
/-- so many turns are enough -/
def whl (n0 : Nat) (c : TDT) (tb : TDS) (D : EndsD) : Nat → SD → GD → Prop
  | 0, _, _ => False
  | m + 1, σ, G => c σ G fun b G1 => if b = true then tb { D with nx := Wk n0 (whl n0 c tb D m), ct := Wk n0 (whl n0 c tb D m), bk := D.nx } σ G1 else D.nx σ G1
def dWhile (c : TDT) (tb : TDS) : TDS := fun D σ G => ∃ m, whl G.length c tb D m σ G
/-- an iterator over known items; W: what must stay of the cells -/
structure ItD (K : PySem.W.Frag) (J : It) (ds : List Dt) (W : GD → Prop) (H0 : Hp) (ι0 : List Addr) : Prop where
  stop : ∀ G H ι, HG K G H ι → Gr K H0 ι0 H ι → W G → J.stop ds.length H
  go : ∀ (i : Nat) (d : Dt) G H ι, ds[i]? = some d → HG K G H ι → Gr K H0 ι0 H ι → W G → J.go i H ∧ ∀ x H2, J.yld i H x H2 → HG K G H2 ι ∧ Gr K H ι H2 ι ∧ Rp K H2 ι d x
abbrev TDI := SD → GD → (List Dt → (GD → Prop) → GD → Prop) → Prop
def liI (K : PySem.W.Frag) (F : Fx) (t : TDI) : TI := fun σ H R => ∃ σd G ι Q, Ok K F σd G σ H ι ∧ t σd G Q ∧
  ∀ J H' ds W G' ι', HG K G' H' ι' → Gr K H ι H' ι' → ItD K J ds W H' ι' → Q ds W G' → R J H'
def DI (X : Cx) (F : Fx) (tg iter : Expr) (t : TDI) : Prop := PI X tg iter (liI X.K F t)
structure DI' (X : Cx) (F : Fx) (tg iter : Expr) (t : TDI) : Prop where
  p : DI X F tg iter t
theorem PI.imp {it : Expr} {t t' : TI} (h : PI X tg it t) (i : ∀ σ H R, t' σ H R → t σ H R) : PI X tg it t' := fun pins s σ H R I q => h pins s σ H R I (i σ H R q)
def lp (n0 : Nat) (g : TDG) (tb : TDS) (D : EndsD) (W : GD → Prop) : List Dt → SD → GD → Prop
  | [], σ, G => W G ∧ D.nx σ G
  | d :: r, σ, G => W G ∧ g d σ G fun σ2 G2 => tb { D with nx := Wk n0 (lp n0 g tb D W r), ct := Wk n0 (lp n0 g tb D W r), bk := D.nx } σ2 G2
def dFor (ti : TDI) (g : TDG) (tb : TDS) : TDS := fun D σ G => ti σ G fun ds W G1 => lp G1.length g tb D W ds σ G1
theorem ds_for {iter : Expr} {body : List Stmt} {ti : TDI} {g : TDG} {tb : TDS} (hi : DI X F tg iter ti) (hg : ∀ F, DG X F tg g) (hb : ∀ F, DSs X F body tb) (hp : PassesOwn (model X.prog X.w) X.A X.env X.xe := by exact PassesOwn.never) (hc : X.calm = true := by rfl)
    (hs : ∀ x, foldedSetIterable iter X.env x = pure x := by intro _; rfl) : DS X F (.For tg iter body [] pos) (dFor ti g tb) := by
  refine PS.imp (ps_for hp hc hi (exG_of hg) (exS_of hb) hs) fun D σ H ⟨σd, G, ι, Dd, ok, ht, L⟩ => ?_
  refine ⟨σd, G, ι, _, ok, ht, fun J H0 ds W G0 ι0 h0 g0 it q0 => ?_⟩
  have ok0 := ok.to h0 g0
  have gF := ok0.gr
  have hn : G0.length = (Fx.mk H0 ι0).ι.length := h0.len.symm
  rw [hn] at q0
  refine ⟨fun i m σ H => ∃ σd G ι, Ok X.K ⟨H0, ι0⟩ σd G σ H ι ∧ i ≤ ds.length ∧ m = ds.length - i ∧ lp (Fx.mk H0 ι0).ι.length g tb Dd W (ds.drop i) σd G, ⟨ds.length, σd, G0, ι0, ok0.here, Nat.zero_le _, rfl, q0⟩, ?_⟩
  rintro i m σ H ⟨σd, G, ι, ok, hi, rfl, q⟩
  by_cases hlt : i < ds.length
  · rw [List.drop_eq_getElem_cons hlt] at q
    obtain ⟨hW, q⟩ := q
    obtain ⟨go, yl⟩ := it.go i ds[i] G H ι (by simp [hlt]) ok.hg ok.gr hW
    refine .inr ⟨go, fun σ' H' => ∃ σd G ι, Ok X.K ⟨H0, ι0⟩ σd G σ' H' ι ∧ lp (Fx.mk H0 ι0).ι.length g tb Dd W (ds.drop (i + 1)) σd G, fun σ' H' ⟨σd', G', ι', ok', q'⟩ => ⟨ds.length - (i + 1), by omega, σd', G', ι', ok', hlt, rfl, q'⟩, fun x H2 y => ?_⟩
    obtain ⟨h2, g2, r2⟩ := yl x H2 y
    refine ⟨⟨H0, ι0⟩, ds[i], σd, G, ι, _, ok.to h2 g2, r2, q, fun σ3 H3 σd3 G3 ι3 ok3 q3 => ?_⟩
    have nx : ∀ σ' H' σd' G' ι', Ok X.K ⟨H0, ι0⟩ σd' G' σ' H' ι' → Wk (Fx.mk H0 ι0).ι.length (lp (Fx.mk H0 ι0).ι.length g tb Dd W (ds.drop (i + 1))) σd' G' → ∃ σd G ι, Ok X.K ⟨H0, ι0⟩ σd G σ' H' ι ∧ lp (Fx.mk H0 ι0).ι.length g tb Dd W (ds.drop (i + 1)) σd G := fun σ' H' σd' G' ι' ok' q => ok'.wk q
    exact ⟨⟨H0, ι0⟩, σd3, G3, ι3, _, ok3, q3, ⟨nx, fun σ' H' σd' G' ι' ok' q => L.nx σ' H' σd' G' ι' (ok'.re gF) q, nx, fun v H' d G' ι' h' g' r' q' => L.rt v H' d G' ι' h' (gF.trans g') r' q'⟩⟩
  · have e : i = ds.length := by omega
    subst e
    rw [List.drop_eq_nil_of_le (Nat.le_refl _)] at q
    exact .inl ⟨it.stop G H ι ok.hg ok.gr q.1, L.nx σ H σd G ι (ok.re gF) q.2⟩

theorem ds_for' {iter : Expr} {body : List Stmt} {ti : TDI} {g : TDG} {tb : TDS} (hi : DI' X F tg iter ti) (hg : ∀ F, DG' X F tg g) (hb : ∀ F, DSs' X F body tb) (hp : PassesOwn (model X.prog X.w) X.A X.env X.xe := by exact PassesOwn.never) (hc : X.calm = true := by rfl)
    (hs : ∀ x, foldedSetIterable iter X.env x = pure x := by intro _; rfl) : DS' X F (.For tg iter body [] pos) (dFor ti g tb) :=
  ⟨ds_for (hi := hi.p) (hg := fun F => (hg F).p) (hb := fun F => (hb F).p) (hp := hp) (hc := hc) (hs := hs)⟩
/-! what is walked: a tuple, a list, a range -/
def cellL (G : GD) (i : Nat) : Option (List Dt) := match G[i]? with
  | some (.lst xs) => some xs
  | some (.fz xs) => some xs
  | _ => none
theorem cellL_sq {K : PySem.W.Frag} {G : GD} {H : Hp} {ι : List Addr} {i : Nat} {xs : List Dt} {a : Addr} (hG : HG K G H ι) (q : ι[i]? = some a) (e : cellL G i = some xs) : ∃ vs, SqL K H a vs ∧ Rps K H ι xs vs := by
  unfold cellL at e
  split at e
  · rename_i ys z
    cases e
    obtain ⟨vs, w, r⟩ := hG.cel i _ a z q
    exact ⟨vs, .inl (.inl w), r⟩
  · rename_i ys z
    cases e
    obtain ⟨vs, w, r⟩ := hG.cel i _ a z q
    refine ⟨vs, ?_, r⟩
    rcases w with ⟨o, w⟩ | w
    · exact .inl (.inr ⟨o, w⟩)
    · exact .inr w
  · cases e
theorem itt_D {K : PySem.W.Frag} {H0 : Hp} {ι0 : List Addr} {a : Addr} {xs : List Dt} {vs : List V} (s : SqT K H0 a vs) (r : Rps K H0 ι0 xs vs) : ItD K (Itt K a) xs (fun _ => True) H0 ι0 where
  stop := fun G H ι hG g _ => ⟨vs, g.tup _ _ s, by rw [r.len]; exact Nat.le_refl _⟩
  go := fun i d G H ι e hG g _ => by
    obtain ⟨v, q, rv⟩ := r.get e
    refine ⟨⟨vs, v, g.tup _ _ s, q⟩, fun x H2 y => ?_⟩
    obtain ⟨rfl, y⟩ := y
    have y2 := y vs (g.tup _ _ s)
    rw [q] at y2
    cases y2
    exact ⟨hG, Gr.refl, rv.up g⟩
theorem itl_D {K : PySem.W.Frag} {H0 : Hp} {ι0 : List Addr} {a : Addr} {i : Nat} {xs : List Dt} (q : ι0[i]? = some a) : ItD K (Itl K a) xs (fun G => cellL G i = some xs) H0 ι0 where
  stop := fun G H ι hG g w => by
    obtain ⟨vs, s, r⟩ := cellL_sq hG (g.at q) w
    exact ⟨vs, s, by rw [r.len]; exact Nat.le_refl _⟩
  go := fun j d G H ι e hG g w => by
    obtain ⟨vs, s, r⟩ := cellL_sq hG (g.at q) w
    obtain ⟨v, z, rv⟩ := r.get e
    refine ⟨⟨vs, v, s, z⟩, fun x H2 y => ?_⟩
    obtain ⟨rfl, y⟩ := y
    have y2 := y vs s
    rw [z] at y2
    cases y2
    exact ⟨hG, Gr.refl, rv⟩
def rngD (lo : Int) (n : Nat) : List Dt := (List.range n).map fun (i : Nat) => Dt.int (lo + i)
def diRng1 (ta : TDA) : TDI := fun σ G R => ta σ G fun ds G1 => match ds with
  | [.int j] => (-(2 ^ 62) ≤ j ∧ j < 2 ^ 62) ∧ R (rngD 0 j.toNat) (fun _ => True) G1
  | _ => False
theorem itr_D {K : PySem.W.Frag} {H0 : Hp} {ι0 : List Addr} {lo : Int} {n : Nat} : ItD K (Itr lo n) (rngD lo n) (fun _ => True) H0 ι0 where
  stop := fun G H ι hG g _ => by show n ≤ (rngD lo n).length; simp [rngD]
  go := fun i d G H ι e hG g _ => by
    have hi : i < n := by
      have := (List.getElem?_eq_some_iff.mp e).1
      simpa [rngD] using this
    refine ⟨hi, fun x H2 y => ?_⟩
    obtain ⟨rfl, rfl⟩ := y
    have e2 : d = Dt.int (lo + i) := by
      simp [rngD, hi] at e
      exact e.symm
    subst e2
    exact ⟨hG, Gr.refl, rfl⟩
theorem di_rng1 {a : Expr} {ta : TDA} {p pos : Pos} (ha : DA X F [a] ta) (hm : X.mg "range" = none) (hg : Gl X "range" := by rfl) (hs : starEach [a] X.env = [(false, eval a X.env)] := by exact star_one rfl) : DI X F tg (.Call (.Name "range" p) [a] [] pos) (diRng1 ta) := by
  refine PI.imp (pi_range1 hg hm ha hs) fun σ H R ⟨σd, G, ι, Q, ok, ht, hq⟩ => ⟨σd, G, ι, _, ok, ht, fun vs H1 ds G1 ι1 h1 g1 r1 q1 => ?_⟩
  unfold diRng1 at ht
  split at q1
  · rename_i j
    obtain ⟨v, r, e, a1, b1⟩ := r1
    have b2 : r = [] := b1
    subst b2
    have a2 : v = V.int j := a1
    subst a2
    exact ⟨j, e, q1.1.1, q1.1.2, hq _ H1 _ _ G1 ι1 h1 g1 itr_D q1.2⟩
  · exact q1.elim
theorem di_rng1' {a : Expr} {ta : TDA} {p pos : Pos} (ha : DA' X F [a] ta) (hm : X.mg "range" = none) (hg : Gl X "range" := by rfl) (hs : starEach [a] X.env = [(false, eval a X.env)] := by exact star_one rfl) : DI' X F tg (.Call (.Name "range" p) [a] [] pos) (diRng1 ta) :=
  ⟨di_rng1 (ha := ha.p) (hm := hm) (hg := hg) (hs := hs)⟩
end

/-! ### calls of the text's defs -/
abbrev SpD := List Dt → GD → KD → Prop
def liSp (K : PySem.W.Frag) (n : Nat) (sp : SpD) : Sp := fun vs H Q E => ∃ ds G ι Qd, ds.length = n ∧ HG K G H ι ∧ Rps K H ι ds vs ∧ sp ds G Qd ∧
  ∀ v H' d G' ι', HG K G' H' ι' → Gr K H ι H' ι' → Rp K H' ι' d v → Qd d G' → Q v H'
def dCall (n : Nat) (sp : SpD) (t : TDA) : TDE := fun σ G Q => t σ G fun ds G1 => ds.length = n ∧ sp ds G1 Q
/-- what a def's body is to reach: cells beyond n are let go -/
def RetD (G : GD) (Q : KD) : KD := fun d G' => Q d G' ∨ ∃ n, G.length ≤ n ∧ bnd n d ∧ bndG n (G'.take n) ∧ Q d (G'.take n)
def endsD (G : GD) (Q : KD) : EndsD := { nx := fun _ G' => RetD G Q .non G', rt := RetD G Q }
def startD (N : List Str) (ds : List Dt) : SD := ds.map some ++ List.replicate (N.length - ds.length) none
theorem RetD.pure {G J : GD} {Q : KD} {d : Dt} (hG : bndG G.length G) (hb : bnd G.length d) (h : Q d G) : RetD G Q d (G ++ J) :=
  .inr ⟨G.length, Nat.le_refl _, hb, by simpa using hG, by simpa using h⟩
theorem RetD.all {G G' : GD} {Q : KD} {d : Dt} (h : Q d G') : RetD G Q d G' := .inl h
section
variable {X : Cx} {F : Fx} {k : Nat} {f : Addr} {fd : FuncData} {ps : List Str} {sp : SpD} {x : Str} {p pos : Pos} {e : Expr} {es : List Expr} {t : TDA}
theorem de_call (Fk : FnOk X.prog X.w X.K X.mg X.base CX0 k f fd ps (liSp X.K ps.length sp)) (hr : Room k X.A) (hm : X.mg x = some (.ref f)) (hk : PySem.W.keepIn X.K (.ref f) = true) (hb : Binds X.K fd ps []) (ha : DA X F (e :: es) t) (hg : Gl X x := by rfl)
    (hdb : (x == ("__debug__" : Str)) = false := by decide) (he : starEach (e :: es) X.env = (false, eval e X.env) :: starEach es X.env := by exact star_cons rfl) (hpl : (backTo pos (starEach es X.env)).any (·.1) = false := by exact back_any rfl) : DE X F (.Call (.Name x p) (e :: es) [] pos) (dCall ps.length sp t) := by
  refine PE.imp (pe_call (E := E0) Fk hr hg hm hk hb .nil pass0 ha hdb he hpl) fun σ H Qv ⟨σd, G, ι, Q, ok, ht, hq⟩ => ⟨σd, G, ι, _, ok, ht, fun vs H1 ds G1 ι1 h1 g1 r1 q1 => ?_⟩
  exact ⟨ds, G1, ι1, Q, q1.1, h1, by rw [List.append_nil]; exact r1, q1.2, fun v H' d G' ι' h' g' r' q' => hq v H' d G' ι' h' (g1.trans g') r' q'⟩
end
theorem startD_at {N : List Str} {ds : List Dt} {i : Nat} {d : Dt} (h : (startD N ds)[i]? = some (some d)) : ds[i]? = some d := by
  unfold startD at h
  by_cases hi : i < ds.length
  · rw [List.getElem?_append_left (by simpa using hi), List.getElem?_map] at h
    cases e : ds[i]? with
    | none => rw [e] at h; cases h
    | some a => rw [e] at h; cases h; rfl
  · rw [List.getElem?_append_right (by simpa using hi), List.getElem?_replicate] at h
    split at h <;> cases h
theorem start_ok {K : PySem.W.Frag} {N : List Str} {ds : List Dt} {vs : List V} {G : GD} {H : Hp} {ι : List Addr} (hG : HG K G H ι) (r : Rps K H ι ds vs) : Ok K ⟨H, ι⟩ (startD N ds) G (L2.start N vs) H ι := by
  refine ⟨hG, fun i d e => ?_, Gr.refl, ?_⟩
  · obtain ⟨v, q, rv⟩ := r.get (startD_at e)
    refine ⟨v, ?_, rv⟩
    unfold L2.start
    rw [List.getElem?_append_left (by simpa using (List.getElem?_eq_some_iff.mp q).1), List.getElem?_map, q]
    rfl
  · unfold startD L2.start
    simp [r.len]
section
variable {P : Program} {w : World} {K : PySem.W.Frag} {mg : Str → Option Value} {base : Heap}
/-- THE RULE for a def over data -/
theorem okD {x qual : Str} {st : Stmt} {f : Addr} {fd : FuncData} {N ps : List Str} {k : Nat} {sp : SpD} (Fn : Fun K x qual st f fd) (S : FnScope N ps (defScope st))
    (hbody : ∀ (cdv : Value) (A : Around) (outer : List Env) (s : Shared) (H : Hp) (E : XK), Room k (A.deeper (envOfC qual (defScope st) s.heap.objs.size f cdv)) →
      ∃ td, (∀ F, DSs (cxOf CX0 P w K mg base N qual (defScope st) f cdv A outer s H E).nox F (defBody st) td) ∧ ∀ (ds : List Dt) (G : GD) (Q : KD), ds.length = ps.length → sp ds G Q → bnds G.length ds → bndG G.length G → td (endsD G Q) (startD N ds) G) :
    FnOk P w K mg base CX0 (k + 1) f fd ps (liSp K ps.length sp) := by
  refine Fn.ok S (fun vs H Q E ⟨ds, G, ι, Qd, hl, hG, r, _⟩ => by rw [← r.len]; exact hl) fun cdv A outer s H vs Q E hr ⟨ds, G, ι, Qd, hl, hG, r, hsp, hq⟩ => ?_
  obtain ⟨td, ht, hd⟩ := hbody cdv A outer s H E hr
  refine ⟨_, ht ⟨H, ι⟩, startD N ds, G, ι, endsD G Qd, start_ok hG r, hd ds G Qd hl hsp (by rw [← hG.len]; exact Rps.bd _ _ r) hG.bd, ?_⟩
  have fin : ∀ v H' d G' ι', HG K G' H' ι' → Gr K H ι H' ι' → Rp K H' ι' d v → RetD G Qd d G' → Q v H' := fun v H' d G' ι' h' g' r' z => by
    rcases z with q | ⟨n, hn, hb, hbG, q⟩
    · exact hq v H' d G' ι' h' g' r' q
    have ok : Ok K ⟨H, ι⟩ [] G' [] H' ι' := ⟨h', fun i d e => by simp at e, g', rfl⟩
    have ok2 := ok.weak (σd' := []) n (by rw [← hG.len] at hn; exact hn) rfl (fun i d e => by simp at e) hbG
    exact hq v H' d (G'.take n) (ι'.take n) ok2.hg ok2.gr (Rp.cut n _ _ r' hb) q
  exact ⟨fun σ' H' σd' G' ι' ok' q => fin .non H' .non G' ι' ok'.hg ok'.gr rfl q, fun _ _ _ _ _ _ q => q.elim, fun _ _ _ _ _ _ q => q.elim, fun v H' d G' ι' h' g' r' q' => fin v H' d G' ι' h' g' r' q'⟩
end
end DL
namespace DL
open PySem PySem.Spec L2
open PyProof.Rows hiding St

theorem bt_int : bootBuiltins "int" = some (.type "int") := by decide +kernel
theorem bt_bool : bootBuiltins "bool" = some (.type "bool") := by decide +kernel
theorem bt_list : bootBuiltins "list" = some (.type "list") := by decide +kernel
theorem bt_tuple : bootBuiltins "tuple" = some (.type "tuple") := by decide +kernel
theorem bt_isinstance : bootBuiltins "isinstance" = some (.builtin "isinstance") := by decide +kernel
/-! ### built-in functions and types by values -/
abbrev RDA := List Dt → GD → KD → Prop
def LCR (K : PySem.W.Frag) (r : List V → Hp → VK → Prop) (rd : RDA) : Prop :=
  ∀ (G : GD) (H : Hp) (ι : List Addr) (ds : List Dt) (vs : List V) (Q : KD) (Qv : VK), HG K G H ι → Rps K H ι ds vs → rd ds G Q →
    (∀ v H' d G' ι', HG K G' H' ι' → Gr K H ι H' ι' → Rp K H' ι' d v → Q d G' → Qv v H') → r vs H Qv
def dCB (rd : RDA) (t : TDA) : TDE := fun σ G Q => t σ G fun ds G1 => rd ds G1 Q
section
variable {X : Cx} {F : Fx} {e o a b : Expr} {es : List Expr} {t : TDA} {pos p : Pos} {x : Str} {id T : String} {r : List V → Hp → VK → Prop} {rd : RDA} {ta tb to : TDE}
theorem liCB (hr : LCR X.K r rd) (h : PE X e (tCB r (liA X.K F t))) : DE X F e (dCB rd t) := by
  refine PE.imp h fun σ H Qv ⟨σd, G, ι, Q, ok, ht, hq⟩ => ⟨σd, G, ι, _, ok, ht, fun vs H1 ds G1 ι1 h1 g1 r1 q1 => ?_⟩
  exact hr G1 H1 ι1 ds vs Q Qv h1 r1 q1 fun v H' d G' ι' h' g' r' q' => hq v H' d G' ι' h' (g1.trans g') r' q'
theorem de_callB (hc : CallR X (.builtin id) r) (hl : LCR X.K r rd) (hv : bootBuiltins x = some (.builtin id)) (ha : DA X F (e :: es) t) (hm : X.mg x = none) (hg : Gl X x := by rfl) (hn : x ≠ "__name__" := by decide) (hdb : (x == ("__debug__" : Str)) = false := by decide)
    (he : starEach (e :: es) X.env = (false, eval e X.env) :: starEach es X.env := by exact star_cons rfl) (hpl : (backTo pos (starEach es X.env)).any (·.1) = false := by exact back_any rfl) : DE X F (.Call (.Name x p) (e :: es) [] pos) (dCB rd t) :=
  liCB hl (pe_callB hc hg hm hv ha hn hdb he hpl)
theorem de_callTy (hc : CallR X (.type T) r) (hl : LCR X.K r rd) (hv : bootBuiltins x = some (.type T)) (ha : DA X F (e :: es) t) (hm : X.mg x = none) (hg : Gl X x := by rfl) (hn : x ≠ "__name__" := by decide) (hdb : (x == ("__debug__" : Str)) = false := by decide)
    (he : starEach (e :: es) X.env = (false, eval e X.env) :: starEach es X.env := by exact star_cons rfl) (hpl : (backTo pos (starEach es X.env)).any (·.1) = false := by exact back_any rfl) : DE X F (.Call (.Name x p) (e :: es) [] pos) (dCB rd t) :=
  liCB hl (pe_callTy hc hg hm hv ha hn hdb he hpl)
/-! ### len -/
def lenD (G : GD) : Dt → Option Nat
  | .tup xs => some xs.length
  | .ref i => match G[i]? with
    | some (.lst xs) => some xs.length
    | some (.fz xs) => some xs.length
    | some (.dct kvs) => some kvs.length
    | none => none
  | _ => none
def rdLen0 : RDA := fun ds G Q => match ds with
  | [d] => match lenD G d with
    | some n => Q (.int n) G
    | none => False
  | _ => False
structure rdLen (ds : List Dt) (G : GD) (Q : KD) : Prop where
  p : rdLen0 ds G Q
theorem rdLen_eq {ds : List Dt} {G : GD} {Q : KD} : rdLen ds G Q = rdLen0 ds G Q := propext ⟨fun h => h.p, fun h => ⟨h⟩⟩
def rLenV (K : PySem.W.Frag) : List V → Hp → VK → Prop := fun xs H Q => (∃ p ys, xs = [V.ref p] ∧ (SqL K H p ys ∨ SqT K H p ys) ∧ Q (.int ys.length) H) ∨ ∃ a kvs, xs = [V.ref a] ∧ H a = some (.dK kvs) ∧ Q (.int kvs.length) H
theorem call_lenD : CallR X (.builtin "len") (fun xs H Q => ∃ a kvs, xs = [V.ref a] ∧ H a = some (.dK kvs) ∧ Q (.int kvs.length) H) := by
  intro pins s σ H xs us Q I r h
  obtain ⟨a, kvs, rfl, e, q⟩ := h
  obtain ⟨u, rfl, ru⟩ := vals1 r
  cases ru
  exact d_len I (.inl e) fun t s' I' => ⟨.int kvs.length, H, I', ⟨t, rfl⟩, q⟩
theorem call_lenV : CallR X (.builtin "len") (rLenV X.K) := CallR.or call_len_seq call_lenD
theorem rps1 {K : PySem.W.Frag} {H : Hp} {ι : List Addr} {d : Dt} {vs : List V} (h : Rps K H ι [d] vs) : ∃ v, vs = [v] ∧ Rp K H ι d v := by
  obtain ⟨v, r, e, a, b⟩ := h
  have b2 : r = [] := b
  subst b2
  exact ⟨v, e, a⟩
theorem rps2 {K : PySem.W.Frag} {H : Hp} {ι : List Addr} {d d' : Dt} {vs : List V} (h : Rps K H ι [d, d'] vs) : ∃ v v', vs = [v, v'] ∧ Rp K H ι d v ∧ Rp K H ι d' v' := by
  obtain ⟨v, r, e, a, b⟩ := h
  obtain ⟨v', e', a'⟩ := rps1 b
  subst e'
  exact ⟨v, v', e, a, a'⟩
theorem l_len {K : PySem.W.Frag} : LCR K (rLenV K) rdLen := by
  intro G H ι ds vs Q Qv hG r h hq
  replace h := h.p; unfold rdLen0 at h
  split at h
  · rename_i d
    obtain ⟨v, e, rv⟩ := rps1 r
    subst e
    split at h
    · rename_i n en
      have fin : Qv (.int n) H := hq _ H (.int n) G ι hG Gr.refl rfl h
      cases d with
      | tup xs =>
        obtain ⟨a, ws, e, s, rr⟩ := rv
        subst e
        cases en
        exact .inl ⟨a, ws, rfl, .inr s, by rw [← rr.len]; exact fin⟩
      | ref i =>
        obtain ⟨a, e, q⟩ := rv
        subst e
        simp only [lenD] at en
        split at en
        · rename_i xs z
          cases en
          obtain ⟨ws, w, rr⟩ := hG.cel i _ a z q
          exact .inl ⟨a, ws, rfl, .inl (.inl (.inl w)), by rw [← rr.len]; exact fin⟩
        · rename_i xs z
          cases en
          obtain ⟨ws, w, rr⟩ := hG.cel i _ a z q
          refine .inl ⟨a, ws, rfl, .inl ?_, by rw [← rr.len]; exact fin⟩
          rcases w with ⟨o, w⟩ | w
          · exact .inl (.inr ⟨o, w⟩)
          · exact .inr w
        · rename_i kvs z
          cases en
          obtain ⟨ws, w, rr⟩ := hG.cel i _ a z q
          exact .inr ⟨a, ws, rfl, w, by rw [← rr.len]; exact fin⟩
        · cases en
      | _ => cases en
    · exact h.elim
  · exact h.elim
theorem de_len (ha : DA X F [e] t) (hm : X.mg "len" = none) (hg : Gl X "len" := by rfl) (he : starEach [e] X.env = (false, eval e X.env) :: starEach [] X.env := by exact star_cons rfl) (hpl : (backTo pos (starEach [] X.env)).any (·.1) = false := by exact back_any rfl) : DE X F (.Call (.Name "len" p) [e] [] pos) (dCB rdLen t) :=
  de_callB call_lenV l_len PySem.boot_len ha hm hg (by decide) (by decide) he hpl

theorem de_len' (ha : DA' X F [e] t) (hm : X.mg "len" = none) (hg : Gl X "len" := by rfl) (he : starEach [e] X.env = (false, eval e X.env) :: starEach [] X.env := by exact star_cons rfl) (hpl : (backTo pos (starEach [] X.env)).any (·.1) = false := by exact back_any rfl) : DE' X F (.Call (.Name "len" p) [e] [] pos) (dCB rdLen t) :=
  ⟨de_len (ha := ha.p) (hm := hm) (hg := hg) (he := he) (hpl := hpl)⟩
/-! ### isinstance(x, T), T a built-in type -/
/-- of the kinds that are asked: int, bool, str, tuple, list, dict -/
def subN (t c : String) : Bool := t == c || (t == "bool" && c == "int")
theorem kit_of {K : PySem.W.Frag} {t c : String} (ht : t = "NoneType" ∨ t = "bool" ∨ t = "int" ∨ t = "str" ∨ t = "tuple" ∨ t = "list" ∨ t = "dict") (hc : c = "int" ∨ c = "bool" ∨ c = "str" ∨ c = "tuple" ∨ c = "list" ∨ c = "dict") :
    PySem.W.kitOne K (.type t) (.type c) = some (subN t c) := by
  rcases ht with rfl | rfl | rfl | rfl | rfl | rfl | rfl <;> rcases hc with rfl | rfl | rfl | rfl | rfl | rfl <;> first | rfl | kernel_rfl

def isiD (c : String) : Dt → Bool
  | .bl _ => c == "bool" || c == "int"
  | .int _ => c == "int"
  | .str _ => c == "str"
  | .tup _ => c == "tuple"
  | _ => false
def rIsiV (K : PySem.W.Frag) : List V → Hp → VK → Prop := fun xs H Q => ∃ x c t b, xs = [x, V.ty c] ∧
  ((x = .non ∧ t = "NoneType") ∨ (∃ b, x = .bl b ∧ t = "bool") ∨ (∃ i, x = .int i ∧ t = "int") ∨ (∃ z, x = .str z ∧ t = "str") ∨ (∃ a ys, x = .ref a ∧ SqT K H a ys ∧ t = "tuple") ∨ (∃ a ys, x = .ref a ∧ SqL K H a ys ∧ t = "list") ∨ (∃ a kvs, x = .ref a ∧ H a = some (.dK kvs) ∧ t = "dict")) ∧
  PySem.W.kitOne K (.type t) (.type c) = some b ∧ Q (.bl b) H
theorem call_isi : CallR X (.builtin "isinstance") (rIsiV X.K) := by
  intro pins s σ H xs us Q I r h
  obtain ⟨x, c, t, b, rfl, ty, e, q⟩ := h
  obtain ⟨u, w', rfl, rx, rc⟩ := vals2 r
  cases (show w' = Value.type c from rc)
  have fin : ∀ tk, EP X pins σ Q (.bool b) { s with toks := tk } := fun tk => ⟨.bl b, H, I.tok tk, rfl, q⟩
  rcases ty with ⟨rfl, rfl⟩ | ⟨y, rfl, rfl⟩ | ⟨y, rfl, rfl⟩ | ⟨y, rfl, rfl⟩ | ⟨a, ys, rfl, hs, rfl⟩ | ⟨a, ys, rfl, hs, rfl⟩ | ⟨a, kvs, rfl, hs, rfl⟩
  · cases (show u = Value.none from rx); exact PySem.W.kia_one PySem.W.kitx_none I.kIn True.intro e (fun z => nomatch z) fin
  · cases (show u = Value.bool y from rx); exact PySem.W.kia_one PySem.W.kitx_bool I.kIn True.intro e (fun z => nomatch z) fin
  · obtain ⟨t, q⟩ := (show ∃ t, u = Value.int y t from rx); cases q; exact PySem.W.kia_one PySem.W.kitx_int I.kIn True.intro e (fun z => nomatch z) fin
  · obtain ⟨t, q⟩ := (show ∃ t, u = Value.str y t from rx); cases q; exact PySem.W.kia_one PySem.W.kitx_str I.kIn True.intro e (fun z => nomatch z) fin
  · cases (show u = Value.ref a from rx)
    obtain ⟨its, _, ⟨o, h1, h2, _⟩, _⟩ := I.tuple hs
    exact PySem.W.kia_one PySem.W.kitx_tuple I.kIn ⟨o, h1, h2⟩ e (fun z => nomatch z) fin
  · cases (show u = Value.ref a from rx)
    obtain ⟨its, _, ⟨o, n, h1, h2, _⟩, _⟩ := I.list hs
    exact PySem.W.kia_one PySem.W.kitx_list I.kIn ⟨o, h1, h2⟩ e (fun z => nomatch z) fin
  · cases (show u = Value.ref a from rx)
    obtain ⟨_, _, vs, _, p⟩ := (show ObjOk X.prog X.w H s.heap a (.dK kvs) from I.hok a _ hs)
    obtain ⟨o, es, ep, h1, h2, _⟩ := p
    exact PySem.W.kia_one PySem.W.kitx_dict I.kIn ⟨o, h1, h2.1⟩ e (fun z => nomatch z) fin
/-- isinstance(e, T) for int, bool, str, tuple (a cell is none of these) -/
def dIsi (c : String) (te : TDE) : TDE := fun σ G Q => te σ G fun d G1 => Q (.bl (isiD c d)) G1
theorem isi_val {K : PySem.W.Frag} {G : GD} {H : Hp} {ι : List Addr} {d : Dt} {v : V} {c : String} {Qv : VK} (hc : c = "int" ∨ c = "bool" ∨ c = "str" ∨ c = "tuple") (hG : HG K G H ι) (rv : Rp K H ι d v) (h : Qv (.bl (isiD c d)) H) : rIsiV K [v, V.ty c] H Qv := by
  have hc' : c = "int" ∨ c = "bool" ∨ c = "str" ∨ c = "tuple" ∨ c = "list" ∨ c = "dict" := by
    rcases hc with h | h | h | h <;> simp [h]
  have fin : ∀ b, b = isiD c d → Qv (.bl b) H := fun b e => by subst e; exact h
  cases d with
  | non => exact ⟨v, c, "NoneType", _, rfl, .inl ⟨rv, rfl⟩, kit_of (by simp) hc', fin _ (by rcases hc with rfl | rfl | rfl | rfl <;> rfl)⟩
  | bl b => exact ⟨v, c, "bool", _, rfl, .inr (.inl ⟨b, rv, rfl⟩), kit_of (by simp) hc', fin _ (by rcases hc with rfl | rfl | rfl | rfl <;> rfl)⟩
  | int b => exact ⟨v, c, "int", _, rfl, .inr (.inr (.inl ⟨b, rv, rfl⟩)), kit_of (by simp) hc', fin _ (by rcases hc with rfl | rfl | rfl | rfl <;> rfl)⟩
  | str b => exact ⟨v, c, "str", _, rfl, .inr (.inr (.inr (.inl ⟨b, rv, rfl⟩))), kit_of (by simp) hc', fin _ (by rcases hc with rfl | rfl | rfl | rfl <;> rfl)⟩
  | tup b =>
    obtain ⟨a, ws, e, s, rr⟩ := rv
    exact ⟨v, c, "tuple", _, rfl, .inr (.inr (.inr (.inr (.inl ⟨a, ws, e, s, rfl⟩)))), kit_of (by simp) hc', fin _ (by rcases hc with rfl | rfl | rfl | rfl <;> rfl)⟩
  | ref i =>
    obtain ⟨a, e, q⟩ := rv
    have hi : i < G.length := by rw [← hG.len]; exact (List.getElem?_eq_some_iff.mp q).1
    have z : G[i]? = some G[i] := by simp [hi]
    have cell := hG.cel i _ a z q
    revert cell
    cases G[i] with
    | lst xs =>
      intro cell
      obtain ⟨ws, w, rr⟩ := cell
      exact ⟨v, c, "list", _, rfl, .inr (.inr (.inr (.inr (.inr (.inl ⟨a, ws, e, .inl (.inl w), rfl⟩))))), kit_of (by simp) hc', fin _ (by rcases hc with rfl | rfl | rfl | rfl <;> rfl)⟩
    | fz xs =>
      intro cell
      obtain ⟨ws, w, rr⟩ := cell
      refine ⟨v, c, "list", _, rfl, .inr (.inr (.inr (.inr (.inr (.inl ⟨a, ws, e, ?_, rfl⟩))))), kit_of (by simp) hc', fin _ (by rcases hc with rfl | rfl | rfl | rfl <;> rfl)⟩
      rcases w with ⟨o, w⟩ | w
      · exact .inl (.inr ⟨o, w⟩)
      · exact .inr w
    | dct xs =>
      intro cell
      obtain ⟨ws, w, rr⟩ := cell
      exact ⟨v, c, "dict", _, rfl, .inr (.inr (.inr (.inr (.inr (.inr ⟨a, ws, e, w, rfl⟩))))), kit_of (by simp) hc', fin _ (by rcases hc with rfl | rfl | rfl | rfl <;> rfl)⟩
theorem de_isi {c : String} {y : Str} {p2 : Pos} (hv : bootBuiltins y = some (.type c)) (hc : c = "int" ∨ c = "bool" ∨ c = "str" ∨ c = "tuple") (ha : DE X F a ta) (hm : X.mg "isinstance" = none) (hmy : X.mg y = none) (hg : Gl X "isinstance" := by rfl) (hgy : Gl X y := by rfl)
    (hn : y ≠ "__name__" := by decide) (hd : (y == ("__debug__" : Str)) = false := by decide) (he : starEach [a, .Name y p2] X.env = (false, eval a X.env) :: starEach [.Name y p2] X.env := by exact star_cons rfl)
    (he2 : starEach [Expr.Name y p2] X.env = (false, eval (.Name y p2) X.env) :: starEach [] X.env := by rfl) (hpl : (backTo pos (starEach [Expr.Name y p2] X.env)).any (·.1) = false := by exact back_any rfl) : DE X F (.Call (.Name "isinstance" p) [a, .Name y p2] [] pos) (dIsi c ta) := by
  have hA : PA X [a, .Name y p2] (tCons (liE X.K F ta) (tCons (tC (.ty c)) tNil)) := pa_cons ha (pa_cons (pe_bltn (v := .ty c) hgy hmy hv rfl hn hd) pa_nil he2) he
  refine PE.imp (pe_callB call_isi hg hm bt_isinstance hA (by decide) (by decide) he hpl) fun σ H Qv ⟨σd, G, ι, Q, ok, ht, hq⟩ => ?_
  refine ⟨σd, G, ι, _, ok, ht, fun v H1 d G1 ι1 h1 g1 r1 q1 => ?_⟩
  exact isi_val hc h1 r1 (hq _ H1 (.bl (isiD c d)) G1 ι1 h1 g1 rfl q1)

theorem de_isi' {c : String} {y : Str} {p2 : Pos} (hv : bootBuiltins y = some (.type c)) (hc : c = "int" ∨ c = "bool" ∨ c = "str" ∨ c = "tuple") (ha : DE' X F a ta) (hm : X.mg "isinstance" = none) (hmy : X.mg y = none) (hg : Gl X "isinstance" := by rfl) (hgy : Gl X y := by rfl)
    (hn : y ≠ "__name__" := by decide) (hd : (y == ("__debug__" : Str)) = false := by decide) (he : starEach [a, .Name y p2] X.env = (false, eval a X.env) :: starEach [.Name y p2] X.env := by exact star_cons rfl)
    (he2 : starEach [Expr.Name y p2] X.env = (false, eval (.Name y p2) X.env) :: starEach [] X.env := by rfl) (hpl : (backTo pos (starEach [Expr.Name y p2] X.env)).any (·.1) = false := by exact back_any rfl) : DE' X F (.Call (.Name "isinstance" p) [a, .Name y p2] [] pos) (dIsi c ta) :=
  ⟨de_isi (hv := hv) (hc := hc) (ha := ha.p) (hm := hm) (hmy := hmy) (hg := hg) (hgy := hgy) (hn := hn) (hd := hd) (he := he) (he2 := he2) (hpl := hpl)⟩
/-! ### subscripts -/
def valD (kvs : List (Key × Dt)) (k : Key) : Option Dt := (kvs.find? fun kv => decide (kv.1 = k)).map (·.2)
theorem RpK.val {K : PySem.W.Frag} {H : Hp} {ι : List Addr} {k : Key} : ∀ {ds : List (Key × Dt)} {vs : List (Key × V)}, RpK K H ι ds vs → (∀ d, valD ds k = some d → ∃ v, valV vs k = some v ∧ Rp K H ι d v) ∧ (valD ds k = none → valV vs k = none)
  | [], vs, h => by
    have e : vs = [] := h
    subst e
    exact ⟨fun d z => by simp [valD] at z, fun _ => rfl⟩
  | p :: ds, vs, h => by
    obtain ⟨v, r, e, a, b⟩ := h
    subst e
    obtain ⟨x, y⟩ := RpK.val (k := k) b
    by_cases hk : p.1 = k
    · have e1 : valD (p :: ds) k = some p.2 := by simp [valD, List.find?_cons, hk]
      refine ⟨fun d z => ?_, fun z => by rw [e1] at z; cases z⟩
      rw [e1] at z
      cases z
      exact ⟨v, valV_pos hk, a⟩
    · have e1 : valD (p :: ds) k = valD ds k := by simp [valD, List.find?_cons, hk]
      rw [e1, valV_neg (p := (p.1, v)) hk]
      exact ⟨x, y⟩
def atD (G : GD) : Dt → Dt → Option Dt
  | .tup xs, .int i => atI xs i
  | .ref k, .int i => match G[k]? with
    | some (.lst xs) => atI xs i
    | some (.fz xs) => atI xs i
    | some (.dct kvs) => valD kvs (.inl i)
    | none => none
  | .ref k, .str x => match G[k]? with
    | some (.dct kvs) => valD kvs (.inr x)
    | _ => none
  | _, _ => none
def rdIx0 : RD2 := fun x y G Q => match atD G x y with
  | some d => Q d G
  | none => False
structure rdIx (x y : Dt) (G : GD) (Q : KD) : Prop where
  p : rdIx0 x y G Q
theorem rdIx_eq {x y : Dt} {G : GD} {Q : KD} : rdIx x y G Q = rdIx0 x y G Q := propext ⟨fun h => h.p, fun h => ⟨h⟩⟩
def rIxD : R2 := fun x y H Q => ∃ a v, x = .ref a ∧ DGet H a y (some v) ∧ Q v H
theorem ix_dct (hu : X.A.units + 1 < cLine) : IxR X rIxD := by
  intro value slice pins s σ H x y v u Q I rx ry h hs
  obtain ⟨a, w', rfl, g, q⟩ := h
  cases rx
  refine tail_any (dict_typeIs I g) PySem.slot_dict_getitem.lookup (d_getItem hu I g ry fun z s' I' rz => ⟨w', H, I', rz, q⟩) hs
theorem ix_all (hu : X.A.units + 1 < cLine) : IxR X (fun x y H Q => rIx X.K x y H Q ∨ rIxD x y H Q) := IxR.or ix_seq (ix_dct hu)
theorem atI_rps {K : PySem.W.Frag} {H : Hp} {ι : List Addr} {xs : List Dt} {vs : List V} {i : Int} {d : Dt} (r : Rps K H ι xs vs) (h : atI xs i = some d) : ∃ v, atI vs i = some v ∧ Rp K H ι d v := by
  unfold atI at h ⊢
  rw [← r.len]
  cases e : ixN xs.length i with
  | none => rw [e] at h; cases h
  | some j =>
    rw [e] at h
    obtain ⟨v, q, rv⟩ := r.get (i := j) (d := d) h
    exact ⟨v, q, rv⟩
theorem l2_ix {K : PySem.W.Frag} : L2R K (fun x y H Q => rIx K x y H Q ∨ rIxD x y H Q) rdIx := by
  intro G H ι d1 d2 v1 v2 Q Qv hG r1 r2 h hq
  replace h := h.p; unfold rdIx0 at h
  split at h
  · rename_i d e
    have fin : ∀ v, Rp K H ι d v → Qv v H := fun v rv => hq v H d G ι hG Gr.refl rv h
    cases d1 with
    | tup xs =>
      cases d2 with
      | int i =>
        obtain ⟨a, vs, e1, s, rr⟩ := r1
        obtain ⟨v, q, rv⟩ := atI_rps rr e
        exact .inl (.inr (.inl ⟨a, vs, i, v, e1, r2, s, q, fin v rv⟩))
      | _ => cases e
    | ref k =>
      obtain ⟨a, e1, q⟩ := r1
      cases d2 with
      | int i =>
        simp only [atD] at e
        split at e
        · rename_i xs z
          obtain ⟨vs, w, rr⟩ := hG.cel k _ a z q
          obtain ⟨v, q, rv⟩ := atI_rps rr e
          exact .inl (.inl ⟨a, vs, i, v, e1, r2, .inl (.inl w), q, fin v rv⟩)
        · rename_i xs z
          obtain ⟨vs, w, rr⟩ := hG.cel k _ a z q
          obtain ⟨v, q, rv⟩ := atI_rps rr e
          refine .inl (.inl ⟨a, vs, i, v, e1, r2, ?_, q, fin v rv⟩)
          rcases w with ⟨o, w⟩ | w
          · exact .inl (.inr ⟨o, w⟩)
          · exact .inr w
        · rename_i kvs z
          obtain ⟨vs, w, rr⟩ := hG.cel k _ a z q
          obtain ⟨v, q, rv⟩ := (rr.val (k := .inl i)).1 d e
          have r2' : v2 = V.int i := r2
          subst r2'
          exact .inr ⟨a, v, e1, q ▸ DGet.k (k := .inl i) w, fin v rv⟩
        · cases e
      | str x =>
        simp only [atD] at e
        split at e
        · rename_i kvs z
          obtain ⟨vs, w, rr⟩ := hG.cel k _ a z q
          obtain ⟨v, q, rv⟩ := (rr.val (k := .inr x)).1 d e
          have r2' : v2 = V.str x := r2
          subst r2'
          exact .inr ⟨a, v, e1, q ▸ DGet.k (k := .inr x) w, fin v rv⟩
        · cases e
      | _ => cases e
    | _ => cases e
  · exact h.elim
theorem de_ix {k : Nat} (hr : Room k X.A) (ha : DE X F a ta) (hb : DE X F b tb) (hs : PlainIx b := by exact fun _ _ => rfl) : DE X F (.Subscript a b pos) (dOp rdIx ta tb) := li2 l2_ix (pe_ix (ix_all (hu_of hr)) ha hb hs)

theorem de_ix' {k : Nat} (hr : Room k X.A) (ha : DE' X F a ta) (hb : DE' X F b tb) (hs : PlainIx b := by exact fun _ _ => rfl) : DE' X F (.Subscript a b pos) (dOp rdIx ta tb) :=
  ⟨de_ix (hr := hr) (ha := ha.p) (hb := hb.p) (hs := hs)⟩
/-! ### slices -/
abbrev TDO := SD → GD → (Option Int → GD → Prop) → Prop
theorem PO.imp {e : Option Expr} {t t' : TO} (h : PO X e t) (i : ∀ σ H Q, t' σ H Q → t σ H Q) : PO X e t' := fun pins s σ H Q I q => h pins s σ H Q I (i σ H Q q)
def dNoPart : TDO := fun _ G Q => Q none G
def dPart (t : TDE) : TDO := fun σ G Q => t σ G fun x G1 => match x with
  | .int i => Q (some i) G1
  | _ => False
def cutD (xs : List Dt) (lo hi : Option Int) : List Dt := (xs.drop (HT.sIx xs.length 0 lo)).take (HT.sIx xs.length xs.length hi - HT.sIx xs.length 0 lo)
abbrev RDS := Dt → Option Int → Option Int → GD → KD → Prop
def rdSl0 : RDS := fun x lo hi G Q => match x with
  | .tup xs => Q (.tup (cutD xs lo hi)) G
  | .ref i => match cellL G i with
    | some xs => Q (.ref G.length) (G ++ [.lst (cutD xs lo hi)])
    | none => False
  | _ => False
structure rdSl (x : Dt) (lo hi : Option Int) (G : GD) (Q : KD) : Prop where
  p : rdSl0 x lo hi G Q
theorem rdSl_eq {x : Dt} {lo hi : Option Int} {G : GD} {Q : KD} : rdSl x lo hi G Q = rdSl0 x lo hi G Q := propext ⟨fun h => h.p, fun h => ⟨h⟩⟩
def dSl (te : TDE) (tl th : TDO) : TDE := fun σ G Q => te σ G fun x G1 => tl σ G1 fun l G2 => th σ G2 fun u G3 => rdSl x l u G3 Q

/-! ### + -/
theorem cat_tup0 {prog : Program} {w : World} {A : Around} {E : Value → Shared → Prop} {s : Shared} {tt b : Addr} {ws : List Value} {Q : Value → Shared → Prop} (ht : IsTup s.heap tt ([] : List Value).toArray) (hb : IsTup s.heap b ws.toArray) (h : Q (.ref b) s) : wpAny (model prog w) A (binaryOp .Add (.ref tt) (.ref b)) Q E s := by
  obtain ⟨⟨cls, dd, data, sl⟩, ho, hc, n, hd⟩ := id ht
  obtain ⟨⟨cls2, dd2, data2, sl2⟩, ho2, hc2, n2, hd2⟩ := id hb
  simp only at hc hd hc2 hd2
  subst hc hd hc2 hd2
  exact concat_meets ⟨_, ho, rfl⟩ ⟨_, ho2, rfl⟩ noFill_tuple_add seq_tuple_add PySem.F.slot_tuple_add PySem.F.entry_tuple_add (PySem.F.args_tuple_add_2 _ _)
      (tuple_addW0 tt b ([] : List Value).toArray ws.toArray n n2 dd dd2 sl sl2 (by simp)) ⟨ho, ho2, h⟩
def rCatT0 (K : PySem.W.Frag) : R2 := fun x y H Q => ∃ a b ys, x = .ref a ∧ y = .ref b ∧ SqT K H a [] ∧ SqT K H b ys ∧ Q (.ref b) H
theorem op_catT0 : OpR X (binaryOp .Add) (rCatT0 X.K) := by
  intro pins s σ H x y v u Q I rx ry h
  obtain ⟨a, b, ys, rfl, rfl, ha, hb, q⟩ := h
  cases rx
  cases ry
  obtain ⟨its, r1, p1, _⟩ := I.tuple ha
  obtain ⟨its2, r2, p2, _⟩ := I.tuple hb
  cases r1
  exact cat_tup0 p1 p2 ⟨.ref b, H, I, rfl, q⟩
def rAddV (K : PySem.W.Frag) : R2 := fun x y H Q => (∃ i j, x = .int i ∧ y = .int j ∧ Q (.int (i + j)) H) ∨ ((∃ i j, x = .str i ∧ y = .str j ∧ i.length + j.length ≤ sizeLine ∧ Q (.str (i ++ j)) H) ∨ (rCatT K x y H Q ∨ (rCatT0 K x y H Q ∨ rCat x y H Q)))
theorem op_addV : OpR X (binaryOp .Add) (rAddV X.K) := OpR.or op_add (OpR.or op_add_str (OpR.or op_catT (OpR.or op_catT0 op_cat)))
def rdAdd : RD2 := fun x y G Q => match x, y with
  | .int i, .int j => Q (.int (i + j)) G
  | .str i, .str j => i.length + j.length ≤ sizeLine ∧ Q (.str (i ++ j)) G
  | .tup xs, .tup ys => xs.length + ys.length ≤ sizeLine ∧ Q (.tup (xs ++ ys)) G
  | .ref i, .ref j => match G[i]?, G[j]? with
    | some (.lst xs), some (.lst ys) => xs.length + ys.length ≤ sizeLine ∧ Q (.ref G.length) (G ++ [.lst (xs ++ ys)])
    | _, _ => False
  | _, _ => False
theorem l2_add {K : PySem.W.Frag} : L2R K (rAddV K) rdAdd := by
  intro G H ι d1 d2 v1 v2 Q Qv hG r1 r2 h hq
  unfold rdAdd at h
  split at h
  · rename_i i j
    exact .inl ⟨i, j, r1, r2, hq _ H (.int (i + j)) G ι hG Gr.refl rfl h⟩
  · rename_i i j
    exact .inr (.inl ⟨i, j, r1, r2, h.1, hq _ H (.str (i ++ j)) G ι hG Gr.refl rfl h.2⟩)
  · rename_i xs ys
    obtain ⟨a, vs, e1, s1, rr1⟩ := r1
    obtain ⟨b, ws, e2, s2, rr2⟩ := r2
    by_cases hx : vs = []
    · subst hx
      have hx' : xs = [] := List.length_eq_zero_iff.mp (by rw [rr1.len]; rfl)
      subst hx'
      exact .inr (.inr (.inr (.inl ⟨a, b, ws, e1, e2, s1, s2, hq _ H (.tup ys) G ι hG Gr.refl ⟨b, ws, rfl, s2, rr2⟩ (by simpa using h.2)⟩)))
    · refine .inr (.inr (.inl ⟨a, b, vs, ws, e1, e2, s1, s2, hx, by rw [← rr1.len, ← rr2.len]; exact h.1, fun z => ?_, fun _ p hp => ?_⟩))
      · subst z
        have hy' : ys = [] := List.length_eq_zero_iff.mp (by rw [rr2.len]; rfl)
        subst hy'
        exact hq _ H (.tup xs) G ι hG Gr.refl ⟨a, vs, rfl, s1, rr1⟩ (by simpa using h.2)
      · obtain ⟨x, y, z⟩ := rp_newTup hG (rr1.app rr2) hp
        exact hq _ _ _ G ι x y z h.2
  · rename_i i j
    obtain ⟨a, e1, q1⟩ := r1
    obtain ⟨b, e2, q2⟩ := r2
    split at h
    · rename_i xs ys z1 z2
      obtain ⟨vs, w1, rr1⟩ := hG.cel i _ a z1 q1
      obtain ⟨ws, w2, rr2⟩ := hG.cel j _ b z2 q2
      refine .inr (.inr (.inr (.inr ⟨a, b, vs, ws, e1, e2, w1, w2, by rw [← rr1.len, ← rr2.len]; exact h.1, fun p hp => ?_⟩)))
      obtain ⟨x, y, z⟩ := rp_newLst hG (rr1.app rr2) hp
      exact hq _ _ _ _ _ x y z h.2
    · exact h.elim
  · exact h.elim
theorem de_add (ha : DE X F a ta) (hb : DE X F b tb) : DE X F (.BinOp a .Add b pos) (dOp rdAdd ta tb) := li2 l2_add (pe_op op_addV ha hb)

theorem de_add' (ha : DE' X F a ta) (hb : DE' X F b tb) : DE' X F (.BinOp a .Add b pos) (dOp rdAdd ta tb) :=
  ⟨de_add (ha := ha.p) (hb := hb.p)⟩
/-! ### list(x), tuple(x) -/
def seqD (G : GD) : Dt → Option (List Dt)
  | .tup xs => some xs
  | .ref i => cellL G i
  | _ => none
def rdList : RDA := fun ds G Q => match ds with
  | [d] => match seqD G d with
    | some xs => Q (.ref G.length) (G ++ [.lst xs])
    | none => False
  | _ => False
theorem seqD_sq {K : PySem.W.Frag} {G : GD} {H : Hp} {ι : List Addr} {d : Dt} {xs : List Dt} {v : V} (hG : HG K G H ι) (r : Rp K H ι d v) (e : seqD G d = some xs) : ∃ a vs, v = .ref a ∧ Rps K H ι xs vs ∧ ((SqL K H a vs ∧ ∃ i, d = .ref i) ∨ (SqT K H a vs ∧ d = .tup xs)) := by
  cases d with
  | tup ys =>
    cases e
    obtain ⟨a, vs, e1, s, rr⟩ := r
    exact ⟨a, vs, e1, rr, .inr ⟨s, rfl⟩⟩
  | ref i =>
    obtain ⟨a, e1, q⟩ := r
    obtain ⟨vs, s, rr⟩ := cellL_sq hG q e
    exact ⟨a, vs, e1, rr, .inl ⟨s, i, rfl⟩⟩
  | _ => cases e
theorem l_list {K : PySem.W.Frag} : LCR K (fun xs H Q => ∃ p ys, xs = [V.ref p] ∧ (SqL K H p ys ∨ SqT K H p ys) ∧ ∀ l, H l = none → Q (.ref l) (upd H l (.lst ys))) rdList := by
  intro G H ι ds vs Q Qv hG r h hq
  unfold rdList at h
  split at h
  · rename_i d
    obtain ⟨v, e, rv⟩ := rps1 r
    subst e
    split at h
    · rename_i xs ex
      obtain ⟨a, ws, e, rr, hs⟩ := seqD_sq hG rv ex
      subst e
      refine ⟨a, ws, rfl, hs.elim (fun z => .inl z.1) (fun z => .inr z.1), fun p hp => ?_⟩
      obtain ⟨x, y, z⟩ := rp_newLst hG rr hp
      exact hq _ _ _ _ _ x y z h
    · exact h.elim
  · exact h.elim
theorem de_listof (ha : DA X F [e] t) (hm : X.mg "list" = none) (hg : Gl X "list" := by rfl) (he : starEach [e] X.env = (false, eval e X.env) :: starEach [] X.env := by exact star_cons rfl) (hpl : (backTo pos (starEach [] X.env)).any (·.1) = false := by exact back_any rfl) : DE X F (.Call (.Name "list" p) [e] [] pos) (dCB rdList t) :=
  de_callTy call_list_of l_list bt_list ha hm hg (by decide) (by decide) he hpl
theorem de_listof' (ha : DA' X F [e] t) (hm : X.mg "list" = none) (hg : Gl X "list" := by rfl) (he : starEach [e] X.env = (false, eval e X.env) :: starEach [] X.env := by exact star_cons rfl) (hpl : (backTo pos (starEach [] X.env)).any (·.1) = false := by exact back_any rfl) : DE' X F (.Call (.Name "list" p) [e] [] pos) (dCB rdList t) :=
  ⟨de_listof (ha := ha.p) (hm := hm) (hg := hg) (he := he) (hpl := hpl)⟩
def rdTuple0 : RDA := fun ds G Q => match ds with
  | [d] => match seqD G d with
    | some xs => Q (.tup xs) G
    | none => False
  | _ => False
structure rdTuple (ds : List Dt) (G : GD) (Q : KD) : Prop where
  p : rdTuple0 ds G Q
theorem rdTuple_eq {ds : List Dt} {G : GD} {Q : KD} : rdTuple ds G Q = rdTuple0 ds G Q := propext ⟨fun h => h.p, fun h => ⟨h⟩⟩
theorem rdTuple_ref {i : Nat} {xs : List Dt} {G : GD} {Q : KD} (e : cellL G i = some xs) (h : Q (.tup xs) G) : rdTuple [.ref i] G Q := by
  rw [rdTuple_eq]; unfold rdTuple0
  simp only [seqD, e]
  exact h
theorem l_tuple {K : PySem.W.Frag} : LCR K (fun xs H Q => ∃ p ys, xs = [V.ref p] ∧ ((SqL K H p ys ∧ ∀ l, H l = none → Q (.ref l) (upd H l (.tup ys))) ∨ (SqT K H p ys ∧ Q (.ref p) H))) rdTuple := by
  intro G H ι ds vs Q Qv hG r h hq
  replace h := h.p; unfold rdTuple0 at h
  split at h
  · rename_i d
    obtain ⟨v, e, rv⟩ := rps1 r
    subst e
    split at h
    · rename_i xs ex
      obtain ⟨a, ws, e, rr, hs⟩ := seqD_sq hG rv ex
      subst e
      refine ⟨a, ws, rfl, ?_⟩
      rcases hs with ⟨s, i, rfl⟩ | ⟨s, rfl⟩
      · refine .inl ⟨s, fun p hp => ?_⟩
        obtain ⟨x, y, z⟩ := rp_newTup hG rr hp
        exact hq _ _ _ _ _ x y z h
      · exact .inr ⟨s, hq _ H (.tup xs) G ι hG Gr.refl ⟨a, ws, rfl, s, rr⟩ h⟩
    · exact h.elim
  · exact h.elim
theorem de_tupleof (ha : DA X F [e] t) (hm : X.mg "tuple" = none) (hg : Gl X "tuple" := by rfl) (he : starEach [e] X.env = (false, eval e X.env) :: starEach [] X.env := by exact star_cons rfl) (hpl : (backTo pos (starEach [] X.env)).any (·.1) = false := by exact back_any rfl) : DE X F (.Call (.Name "tuple" p) [e] [] pos) (dCB rdTuple t) :=
  de_callTy call_tuple_of l_tuple bt_tuple ha hm hg (by decide) (by decide) he hpl

theorem de_tupleof' (ha : DA' X F [e] t) (hm : X.mg "tuple" = none) (hg : Gl X "tuple" := by rfl) (he : starEach [e] X.env = (false, eval e X.env) :: starEach [] X.env := by exact star_cons rfl) (hpl : (backTo pos (starEach [] X.env)).any (·.1) = false := by exact back_any rfl) : DE' X F (.Call (.Name "tuple" p) [e] [] pos) (dCB rdTuple t) :=
  ⟨de_tupleof (ha := ha.p) (hm := hm) (hg := hg) (he := he) (hpl := hpl)⟩
/-! ### append, pop -/
def isLstC (G : GD) : Dt → Prop
  | .ref i => ∃ xs, G[i]? = some (.lst xs)
  | _ => False
def rdAppend0 (i : Nat) (d : Dt) (G : GD) (Q : KD) : Prop := match G[i]? with
  | some (.lst xs) => xs.length < sizeLine ∧ Q .non (G.set i (.lst (xs ++ [d])))
  | _ => False
structure rdAppend (i : Nat) (d : Dt) (G : GD) (Q : KD) : Prop where
  p : rdAppend0 i d G Q
theorem rdAppend_eq {i : Nat} {d : Dt} {G : GD} {Q : KD} : rdAppend i d G Q = rdAppend0 i d G Q := propext ⟨fun h => h.p, fun h => ⟨h⟩⟩
theorem rdAppend_of {i : Nat} {d : Dt} {G : GD} {Q : KD} {xs : List Dt} (h : G[i]? = some (.lst xs)) (hl : xs.length < sizeLine) (hq : Q .non (G.set i (.lst (xs ++ [d])))) : rdAppend i d G Q := by
  rw [rdAppend_eq]; unfold rdAppend0
  rw [h]
  exact ⟨hl, hq⟩
theorem rdIx_of {x y d : Dt} {G : GD} {Q : KD} (h : atD G x y = some d) (hq : Q d G) : rdIx x y G Q := by
  rw [rdIx_eq]; unfold rdIx0
  rw [h]
  exact hq
theorem rdLen_of {x : Dt} {k : Nat} {G : GD} {Q : KD} (h : lenD G x = some k) (hq : Q (.int k) G) : rdLen [x] G Q := by
  simp only [rdLen_eq, rdLen0, h]
  exact hq
def dAppend (to : TDE) (t : TDA) : TDE := fun σ G Q => to σ G fun x G1 => isLstC G1 x ∧ t σ G1 fun ds G2 => match x, ds with
  | .ref i, [d] => rdAppend i d G2 Q
  | _, _ => False
theorem de_append {apos cpos : Pos} (ho : DE X F o to) (ha : DA X F [e] t)
    (hbase : attributeBase o "append" X.env (eval o X.env) = eval o X.env := by rfl)
    (hfew : ((backTo cpos (starEach [e] X.env)).all (fun x => !x.1) && (backToKw cpos (keywordEach [] X.env)).all (fun x => x.1.isSome)
      && decide (([e] : List Expr).length + ([] : List Keyword).length + (if ([] : List Keyword).isEmpty then 0 else 1) < 30)) = true := by rfl)
    (hline : (apos.endLine == cpos.line) = true := by rfl) (hs : starEach [e] X.env = (false, eval e X.env) :: starEach [] X.env := by exact star_cons rfl) (hplain : (backTo cpos (starEach [] X.env)).any (·.1) = false := by exact back_any rfl) :
    DE X F (.Call (.Attribute o "append" apos) [e] [] cpos) (dAppend to t) := by
  refine PE.imp (pe_bm PySem.F.plainAttrs_list PySem.F.slot_list_append PySem.F.type_list_append mt_append ho ha hbase hfew hline hs hplain) fun σ H Qv ⟨σd, G, ι, Q, ok, ht, hq⟩ => ?_
  refine ⟨σd, G, ι, _, ok, ht, fun v H1 d1 G1 ι1 h1 g1 r1 q1 => ?_⟩
  obtain ⟨ty, q1⟩ := q1
  cases d1 with
  | ref i =>
    obtain ⟨a, e1, q⟩ := r1
    subst e1
    obtain ⟨xs, z⟩ := ty
    obtain ⟨vs, w, rr⟩ := h1.cel i _ a z q
    refine ⟨.inl ⟨rfl, vs, .inl (.inl w)⟩, σd, G1, ι1, _, ok.to h1 g1, q1, fun us H2 ds G2 ι2 h2 g2 r2 q2 => ?_⟩
    split at q2
    · rename_i i' d ei
      cases ei
      obtain ⟨u, e2, ru⟩ := rps1 r2
      subst e2
      replace q2 := q2.p; unfold rdAppend0 at q2
      split at q2
      · rename_i ys z2
        obtain ⟨ws, w2, rr2⟩ := h2.cel i _ a z2 (g2.at q)
        refine ⟨a, ws, u, rfl, rfl, w2, by rw [← rr2.len]; exact q2.1, ?_⟩
        have gp : Gr X.K H2 ι2 (upd H2 a (.lst (ws ++ [u]))) ι2 := Gr.put h2 z2 rfl (g2.at q)
        exact hq _ _ .non _ ι2 (h2.put (c' := .lst (ys ++ [d])) z2 rfl (g2.at q) rfl ⟨ws ++ [u], upd_same, (rr2.app (Rps.cons ru Rps.nil)).up gp⟩) (g1.trans (g2.trans gp)) rfl q2.2
      · exact q2.elim
    · exact q2.elim
  | _ => exact ty.elim
theorem de_append' {apos cpos : Pos} (ho : DE' X F o to) (ha : DA' X F [e] t)
    (hbase : attributeBase o "append" X.env (eval o X.env) = eval o X.env := by rfl)
    (hfew : ((backTo cpos (starEach [e] X.env)).all (fun x => !x.1) && (backToKw cpos (keywordEach [] X.env)).all (fun x => x.1.isSome)
      && decide (([e] : List Expr).length + ([] : List Keyword).length + (if ([] : List Keyword).isEmpty then 0 else 1) < 30)) = true := by rfl)
    (hline : (apos.endLine == cpos.line) = true := by rfl) (hs : starEach [e] X.env = (false, eval e X.env) :: starEach [] X.env := by exact star_cons rfl) (hplain : (backTo cpos (starEach [] X.env)).any (·.1) = false := by exact back_any rfl) : DE' X F (.Call (.Attribute o "append" apos) [e] [] cpos) (dAppend to t) :=
  ⟨de_append (ho := ho.p) (ha := ha.p) (hbase := hbase) (hfew := hfew) (hline := hline) (hs := hs) (hplain := hplain)⟩
def dPop (to : TDE) : TDE := fun σ G Q => to σ G fun x G1 => match x with
  | .ref i => match G1[i]? with
    | some (.lst xs) => match xs[xs.length - 1]? with
      | some d => Q d (G1.set i (.lst xs.dropLast))
      | none => False
    | _ => False
  | _ => False
/-- a sequence that is walked: a tuple or a list -/
def seqR0 (d : Dt) (G : GD) (R : List Dt → (GD → Prop) → GD → Prop) : Prop := match d with
  | .tup xs => R xs (fun _ => True) G
  | .ref i => match cellL G i with
    | some xs => R xs (fun G => cellL G i = some xs) G
    | none => False
  | _ => False
structure seqR (d : Dt) (G : GD) (R : List Dt → (GD → Prop) → GD → Prop) : Prop where
  p : seqR0 d G R
theorem seqR_eq {d : Dt} {G : GD} {R : List Dt → (GD → Prop) → GD → Prop} : seqR d G R = seqR0 d G R := propext ⟨fun h => h.p, fun h => ⟨h⟩⟩
theorem seqR_tup {xs : List Dt} {G : GD} {R : List Dt → (GD → Prop) → GD → Prop} (h : R xs (fun _ => True) G) : seqR (.tup xs) G R := by
  rw [seqR_eq]; unfold seqR0
  exact h
theorem seqR_ref {i : Nat} {xs : List Dt} {G : GD} {R : List Dt → (GD → Prop) → GD → Prop} (e : cellL G i = some xs) (h : R xs (fun G => cellL G i = some xs) G) : seqR (.ref i) G R := by
  simp only [seqR_eq, seqR0, e]
  exact h
def diSeq (te : TDE) : TDI := fun σ G R => te σ G fun d G1 => seqR d G1 R
theorem pi_seq {tg l : Expr} {tl : TE} (hl : PE X l tl) : PI X tg l (fun σ H R => tl σ H fun x H1 => (∃ a, x = .ref a ∧ (∃ xs, SqL X.K H1 a xs) ∧ R (Itl X.K a) H1) ∨ (∃ a, x = .ref a ∧ (∃ xs, SqT X.K H1 a xs) ∧ R (Itt X.K a) H1)) := by
  intro pins s σ H R I h
  refine thn (hl pins s σ H _ I h) fun v s1 ⟨x, H1, I1, r1, q1⟩ => ?_
  rcases q1 with ⟨a, e, ⟨xs, hq⟩, q⟩ | ⟨a, e, ⟨xs, hq⟩, q⟩
  · subst e
    cases r1
    obtain ⟨its, rv, p, hz⟩ := I1.list hq
    refine wpAny_pyIter_list p.isList ?_
    refine ⟨s1.heap.objs.size, [s1.heap.objs.size], _, _, H1, rfl, I1.kept (t' := s1.toks) fun b o e => Heap.get?_push_of_some _ e, turn_list a _, ⟨_, Heap.get?_push_size _ rfl, rfl, rfl⟩, fun b hb => ?_, q⟩
    have e : b = s1.heap.objs.size := by simpa using hb
    subst e
    exact I1.fpOk (Nat.le_refl _) (I1.hok.fresh (Nat.le_refl _))
  · subst e
    cases r1
    obtain ⟨its, rv, p, hz⟩ := I1.tuple hq
    refine wpAny_pyIter_tuple (show s1.heap.IsTuple a its.toArray from p) ?_
    refine ⟨s1.heap.objs.size, [s1.heap.objs.size], _, _, H1, rfl, I1.kept (t' := s1.toks) fun b o e => Heap.get?_push_of_some _ e, turn_tuple a _, ⟨_, Heap.get?_push_size _ rfl, rfl, rfl⟩, fun b hb => ?_, q⟩
    have e : b = s1.heap.objs.size := by simpa using hb
    subst e
    exact I1.fpOk (Nat.le_refl _) (I1.hok.fresh (Nat.le_refl _))
theorem di_seq {tg l : Expr} {tl : TDE} (hl : DE X F l tl) : DI X F tg l (diSeq tl) := by
  refine PI.imp (pi_seq hl) fun σ H R ⟨σd, G, ι, Q, ok, ht, hq⟩ => ⟨σd, G, ι, _, ok, ht, fun v H1 d G1 ι1 h1 g1 r1 q1 => ?_⟩
  replace q1 := q1.p; unfold seqR0 at q1
  cases d with
  | tup xs =>
    obtain ⟨a, vs, e, s, rr⟩ := r1
    exact .inr ⟨a, e, ⟨vs, s⟩, hq _ H1 xs _ G1 ι1 h1 g1 (itt_D s rr) q1⟩
  | ref i =>
    obtain ⟨a, e, q⟩ := r1
    revert q1
    show (match cellL G1 i with | some xs => Q xs (fun G => cellL G i = some xs) G1 | none => False) → _
    cases z : cellL G1 i with
    | none => exact fun q1 => q1.elim
    | some xs =>
      intro q1
      obtain ⟨vs, s, _⟩ := cellL_sq h1 q z
      exact .inl ⟨a, e, ⟨vs, s⟩, hq _ H1 xs _ G1 ι1 h1 g1 (itl_D q) q1⟩
  | _ => exact q1.elim
theorem di_seq' {tg l : Expr} {tl : TDE} (hl : DE' X F l tl) : DI' X F tg l (diSeq tl) :=
  ⟨di_seq (hl := hl.p)⟩
end
end DL
namespace L2
open PySem PySem.Spec PyProof.Rows
/-- a source of a zip: a list or a tuple -/
def Sq (K : PySem.W.Frag) (k : ZT.Kd) (H : Hp) (a : Addr) (xs : List V) : Prop := match k with
  | .lst => SqL K H a xs
  | .tup => SqT K H a xs
theorem Inv.sq {X : Cx} {pins : List (Addr × Obj)} {σ : St} {H : Hp} {s : Shared} {k : ZT.Kd} {a : Addr} {xs : List V} (I : Inv X pins σ H s) (h : Sq X.K k H a xs) : ∃ its : List Value, Vals xs its ∧ k.Sr s.heap a its.toArray ∧ xs.length ≤ sizeLine := by
  cases k
  · obtain ⟨its, r, p, z⟩ := I.list h
    exact ⟨its, r, p.isList, z⟩
  · obtain ⟨its, r, p, z⟩ := I.tuple h
    exact ⟨its, r, p, z⟩
end L2

namespace L2
open PySem PySem.Spec PyProof.Rows
end L2
namespace DL
open PySem PySem.Spec L2
open PyProof.Rows hiding St
section
variable {X : Cx} {F : Fx}
def zipD (xs ys : List Dt) : List Dt := (xs.zip ys).map fun p => Dt.tup [p.1, p.2]
def diZip (ta tb : TDE) : TDI := fun σ G R => ta σ G fun x G1 => tb σ G1 fun y G2 => match x, y with
  | .tup xs, .tup ys => R (zipD xs ys) (fun _ => True) G2
  | _, _ => False
end
end DL
namespace DL
open PySem PySem.Spec L2
open PyProof.Rows hiding St

/-! ### a dict of the module's top, its keys texts -/
section
variable {X : Cx} {F : Fx} {e : Expr} {te : TDE} {x : Str} {p apos cpos pos : Pos}
def dMGet (D : List (Str × Dt)) (te : TDE) : TDE := fun σ G Q => te σ G fun d G1 => match d with
  | .str k => Q ((KTD.datumAt k D).getD .non) G1
  | _ => False
/-! ### {k: v, ..} -/
def dPairs : List (TDE × TDE) → SD → GD → (List (Dt × Dt) → GD → Prop) → Prop
  | [], _, G, Q => Q [] G
  | (tk, tv) :: r, σ, G, Q => tk σ G fun x G1 => tv σ G1 fun y G2 => dPairs r σ G2 fun ps G3 => Q ((x, y) :: ps) G3
def keyD : Dt → Option Key
  | .int i => some (.inl i)
  | .str x => some (.inr x)
  | _ => none
def keysD : List (Dt × Dt) → Option (List (Key × Dt))
  | [] => some []
  | p :: r => match keyD p.1, keysD r with
    | some k, some ks => some ((k, p.2) :: ks)
    | _, _ => none
def dDict (trs : List (TDE × TDE)) : TDE := fun σ G Q => dPairs trs σ (G ++ [.dct []]) fun ps G2 => match keysD ps with
  | some kds => G2[G.length]? = some (.dct []) ∧ kds.length ≤ 15 ∧ (kds.map (·.1)).Nodup ∧ Q (.ref G.length) (G2.set G.length (.dct kds))
  | none => False
end
end DL
namespace L2
open PySem PySem.Spec PyProof.Rows

/-! ### a list comprehension: its block as a context of its own -/
theorem compLoop_any {prog : Program} {w : World} {A : Around} {R : Result → Shared → Prop} {s : Shared} {elt target iter : Expr} {ifs : List Expr} {scope : Scope} {pos : Pos} {it acc : Value} {env : Env} (I : Nat → Shared → Prop)
    (turn : ∀ n s, I n s → wpAny (model prog w) A (pyNext it) (fun r s₁ => match r with
      | none => R (.ok .next) s₁
      | some v => wpAny (model prog w) A (letOwnedTupleGo target it v) (fun _ s₁' => wpAny (model prog w) A (assign target env v) (fun _ s₂ =>
          wpAny (model prog w) A (forIn ifs true fun c r => if r = true then do let ok ← isTrue c env (eval c env); pure (ForInStep.yield ok) else pure (ForInStep.yield r)) (fun ok s₃ =>
            if ok = true then wpAny (model prog w) A (eval elt env) (fun x s₄ =>
              wpAny (model prog w) A (call (.builtin "list.append") [acc, x]) (fun _ s₅ => ∃ m, m < n ∧ I m s₅) (fun _ _ => False) s₄) (fun _ _ => False) s₃
            else ∃ m, m < n ∧ I m s₃) (fun _ _ => False) s₂) (fun _ _ => False) s₁') (fun _ _ => False) s₁) (fun _ _ => False) s)
    (n : Nat) (h : I n s) : codeAny (model prog w) A (.compLoop (.ListComp elt [⟨target, iter, ifs, 0⟩] scope pos) 0 it acc env) R s := by
  have no : ∀ {α : Type} {t : Sem α} {Q : α → Shared → Prop} {E : Value → Shared → Prop} {s : Shared}, wpAny (model prog w) A t Q (fun _ _ => False) s → wpAny (model prog w) A t Q E s := fun h => wpAny_mono h (fun _ _ q => q) fun _ _ q => q.elim
  refine codeAny_loop rfl I (fun n s hI => ?_) n h
  show wpAny _ A ((compTurn (.ListComp elt [⟨target, iter, ifs, 0⟩] scope pos) 0 it acc env).onRaise (fun x => do noteFrame x env; theTreesLotGoes x)) _ _ s
  refine wpAny_noted ?_
  rw [compTurn_list]
  refine wpAny_bind (wpAny_standAt (wpAny_bind (wpAny_mono (no (turn n s hI)) (fun r s₁ h₁ => ?_) fun _ _ h' => h')))
  cases r with
  | none => exact wpAny_pure h₁
  | some v =>
    refine wpAny_bind (wpAny_mono (no h₁) (fun _ s₁' h₁' => ?_) fun _ _ h' => h')
    refine wpAny_bind (wpAny_mono (no h₁') (fun _ s₂ h₂ => wpAny_bind (wpAny_mono (no h₂) (fun ok s₃ h₃ => ?_) fun _ _ h' => h')) fun _ _ h' => h')
    cases ok with
    | false => exact wpAny_pure ⟨rfl, h₃⟩
    | true =>
      exact wpAny_bind (wpAny_bind (wpAny_mono (no h₃) (fun x s₄ h₄ => wpAny_bind (wpAny_mono (no h₄) (fun _ s₅ h₅ => wpAny_pure (wpAny_pure ⟨rfl, h₅⟩)) fun _ _ h' => h')) fun _ _ h' => h'))

/-- the block's context -/
abbrev cmpX (X : Cx) (scope : Scope) (cl : List (Str × Addr)) (N' : List Str) (C : Addr) (s₀ : Shared) (H₀ : Hp) (ex : List Addr) (pn : List (Addr × Obj)) : Cx where
  prog := X.prog
  w := X.w
  K := X.K
  mg := X.mg
  base := X.base
  A := X.A
  N := N'
  s₀ := s₀
  H₀ := H₀
  env := compEnvC scope cl C X.env
  outer := X.stack
  stack := X.stack
  ex := ex
  fn := fun y => (cl.lookup y).isNone
  calm := X.calm
  pn := pn
  xe := fun _ _ => False
/-- the tests of a comprehension -/
def PIf (X : Cx) (ifs : List Expr) (t : TT) : Prop :=
  ∀ (pins : List (Addr × Obj)) (s : Shared) (σ : St) (H : Hp) (Q : Bool → Hp → Prop), Inv X pins σ H s → t σ H Q →
    wpAny (model X.prog X.w) X.A (forIn ifs true fun c r => if r = true then do let ok ← isTrue c X.env (eval c X.env); pure (ForInStep.yield ok) else pure (ForInStep.yield r)) (TP X pins σ Q) X.xe s
theorem pif_nil {X : Cx} : PIf X [] (fun _ H Q => Q true H) := fun _ _ _ H _ I h => wpAny_tests_nil ⟨H, I, h⟩
theorem pif_one {X : Cx} {c : Expr} {t : TT} (hc : PT X c t) : PIf X [c] t := fun pins s σ H Q I h => wpAny_tests_one (hc pins s σ H Q I h)
/-- which of the outer slots the block's names are (none: its own) -/
def capt (caps : List (Option Nat)) (σ : St) : St := caps.map fun c => match c with
  | some j => (σ[j]?).join
  | none => none
/-- W: turn, measure, the block's slots, the heap -/
def tComp (wi : TI) (caps : List (Option Nat)) (g : TG) (tif : TT) (te : TE) : TE := fun σ H Q => wi σ H fun J H1 => ∀ D, H1 D = none → ∃ W : Nat → Nat → St → Hp → Prop, (∃ m, W 0 m (capt caps σ) (upd H1 D (.lst []))) ∧
  ∀ i m σ' H, W i m σ' H → (J.stop i H ∧ Q (.ref D) H) ∨ (J.go i H ∧ ∀ x H', J.yld i H x H' → g x σ' H' fun σ2 H2 => tif σ2 H2 fun b H3 =>
    if b = true then te σ2 H3 fun y H4 => ∃ acc, H4 D = some (.lst acc) ∧ acc.length < sizeLine ∧ ∃ m', m' < m ∧ W (i + 1) m' σ2 (upd H4 D (.lst (acc ++ [y]))) else ∃ m', m' < m ∧ W (i + 1) m' σ2 H3)
/-- what is asked of the text: the block's names, their kinds -/
structure CmpOk (X : Cx) (scope : Scope) (cl : List (Str × Addr)) (N' : List Str) (caps : List (Option Nat)) : Prop where
  clos : closureFor scope X.env = pure cl
  cell : ∀ y ∈ scope.names, y.2 ≠ .cell
  kind : scope.kind = .function
  names : ∀ y ∈ scope.names, y.2 = .local → scope.names.lookup y.1 = some .local
  lenN : N'.length = caps.length
  capN : ∀ (i j : Nat) (x : Str), caps[i]? = some (some j) → N'[i]? = some x → X.N[j]? = some x ∧ Vis X.env.scope x ∧ X.env.kindOf x ≠ some .local ∧ (relabel scope X.env).names.lookup x ≠ some .local ∧ ∃ c, cl.lookup x = some c ∧ X.env.cells.lookup x = some c
  cls : ∀ x c, cl.lookup x = some c → X.env.cells.lookup x = some c
  has : ∀ x, ((relabel scope X.env).names.lookup x = some .cell ∨ (relabel scope X.env).names.lookup x = some .free) → ∃ c, cl.lookup x = some c
/-- a comprehension, with what is done of its list -/
structure CmpEnd (X : Cx) (pins : List (Addr × Obj)) (σ : St) (H' : Hp) (C : Addr) (s' : Shared) : Prop where
  inv : Inv X pins σ H' s'
  ns : ∃ m, s'.heap.Ns C m
  free : H' C = none
  loc : C ≠ X.env.locals
  sz : X.s₀.heap.objs.size ≤ C
  cel : ∀ x a, X.env.cells.lookup x = some a → a ≠ C
  pin : ∀ p ∈ X.pn ++ pins, p.1 ≠ C
theorem CmpEnd.go {X : Cx} {pins : List (Addr × Obj)} {σ : St} {H' : Hp} {C : Addr} {s' : Shared} {h' : Heap} (c : CmpEnd X pins σ H' C s') (hs : Heap.SameBut C s'.heap h') : Inv X pins σ H' { s' with heap := h' } :=
  c.inv.turned (t' := s'.toks) (it := C) (fun b o hb e => hs.extBut b o hb e) c.free c.loc (.inr c.sz) (fun x a e z => c.cel x a e z) c.pin
theorem comp_core {X : Cx} {elt tg iter : Expr} {ifs : List Expr} {scope : Scope} {cl : List (Str × Addr)} {N' : List Str} {caps : List (Option Nat)} {pos pos0 : Pos} {wi : TI} {g : TG} {tif : TT} {te : TE} {use : Option (Value → Sem Unit)} {Q' : Value → Shared → Prop} (c : CmpOk X scope cl N' caps) (hcalm : X.calm = true) (hi : PI X tg iter wi)
    (hg : ∀ C s₀ H₀ ex pn, PG (cmpX X scope cl N' C s₀ H₀ ex pn) tg g) (hf : ∀ C s₀ H₀ ex pn, PIf (cmpX X scope cl N' C s₀ H₀ ex pn) ifs tif) (he : ∀ C s₀ H₀ ex pn, PE (cmpX X scope cl N' C s₀ H₀ ex pn) elt te)
    (hs : ∀ x, foldedSetIterable iter X.env x = pure x) {pins : List (Addr × Obj)} {s : Shared} {σ : St} {H : Hp} {Q : VK} (I : Inv X pins σ H s) (h : tComp wi caps g tif te σ H Q)
    (fin : ∀ D C H' s', CmpEnd X pins σ H' C s' → Q (.ref D) H' → compPost (model X.prog X.w) X.A X.xe use Q' (.ref D) C (.ok .next) s') :
    wpAny (model X.prog X.w) X.A (comprehension (.ListComp elt [⟨tg, iter, ifs, 0⟩] scope pos) scope X.env pos0 (newList []) false (eval iter X.env) use) Q' X.xe s := by
  refine wpAny_comprehension_free (use := use) rfl hs c.clos c.kind c.names (thn (hi pins s σ H _ I h) fun v s1 h1 => thn h1 fun itv s2 h2 => ?_)
  obtain ⟨it, fp, tn, J, H2, e, I2, T, st2, f2, q2⟩ := h2
  subst e
  have hD := I2.hok.fresh (Nat.le_refl s2.heap.objs.size)
  obtain ⟨W, ⟨m0, w0⟩, turn⟩ := q2 s2.heap.objs.size hD
  refine wpAny_newObj_type ?_
  -- behind the new list
  have I3 : Inv X pins σ (upd H2 s2.heap.objs.size (.lst [])) { s2 with heap := s2.heap.push { cls := .type "list", dict := none, data := .seq ([] : List Value).toArray } } := I2.lnew (t' := s2.toks) (ys := []) .nil (Nat.zero_le _)
  generalize hs3 : ({ s2 with heap := s2.heap.push { cls := .type "list", dict := none, data := .seq ([] : List Value).toArray } } : Shared) = s3 at I3 ⊢
  generalize hH3 : upd H2 s2.heap.objs.size (.lst []) = H3 at I3 w0 ⊢
  have st3 : tn 0 s3.heap := T.keep _ _ _ st2 fun b _ o e => by rw [← hs3]; exact Heap.get?_push_of_some _ e
  refine wpAny_newFunctionEnv c.cell (by intro y hy; simp at hy) (fun h4 hns hsb => ?_) c.kind
  have kp4 : ∀ b o, s3.heap.get? b = some o → h4.get? b = some o := fun b o e => hsb.extBut b o (Nat.ne_of_lt (Heap.lt_size e)) (Heap.get?_push_of_some _ e)
  have s23 : ∀ b o, s2.heap.get? b = some o → s3.heap.get? b = some o := fun b o e => by rw [← hs3]; exact Heap.get?_push_of_some _ e
  have fplt : ∀ b ∈ fp, b < s3.heap.objs.size := fun b hb => by
    obtain ⟨o, e, _⟩ := T.obj _ _ st2 b hb
    exact Heap.lt_size (s23 b o e)
  have fpst : ∀ b ∈ fp, b ∉ frs X.stack := fun b hb z => by
    obtain ⟨_, f1, f3, _⟩ := f2 b hb
    rcases List.mem_cons.mp (I2.stkSub b z) with q | q
    · exact f1 q
    · exact f3 q
  have celk : ∀ {x : Str} {a : Addr}, cl.lookup x = some a → X.env.cells.lookup x = some a := fun h => c.cls _ _ h
  have celC : ∀ {x : Str} {a : Addr}, X.env.cells.lookup x = some a → a < s3.heap.objs.size := fun {x a} h => by
    obtain ⟨v, q⟩ := I3.cell x a h
    exact q.lt
  have isc : ∀ {a : Addr} {v : Option Value}, s3.heap.IsCell a v → h4.IsCell a v := fun {a v} ⟨o, e, d⟩ => ⟨o, kp4 _ _ e, d⟩
  have stat : ∀ {H' : Hp}, (∀ b ∈ fp, H' b = none) → ∀ b ∈ fp, FpOk (cmpX X scope cl N' s3.heap.objs.size s3 H3 fp (X.pn ++ pins)) [] H' b := fun hn b hb => by
    obtain ⟨_, f1, f3, f4, f5, f6⟩ := f2 b hb
    refine ⟨hn b hb, Nat.ne_of_lt (fplt b hb), fpst b hb, .inl hb, fun x a e => f5 x a (celk e), fun p hp => ?_⟩
    have hp' : p ∈ X.pn ++ pins := by simpa using hp
    exact f6 p hp'
  have I4 : Inv (cmpX X scope cl N' s3.heap.objs.size s3 H3 fp (X.pn ++ pins)) [] (capt caps σ) H3 { s3 with heap := h4, toks := s3.toks + ([] : List (Str × Value)).length } := by
    refine ⟨⟨I3.ok.mod, c.kind, I3.ok.glob, I3.ok.blt, Nat.le_refl _, fun x y a e1 e2 => I3.ok.inj x y a (celk e1) (celk e2), c.has, fun x a hf e => ?_, I3.ok.hd, I3.ok.frames, .inl rfl, fun b hb => ⟨Nat.ne_of_lt (fplt b hb), fun x a e => (f2 b hb).2.2.2.2.1 x a (celk e)⟩,
      I3.bs, Nat.le_trans I3.ok.bsz I3.sz, fun b o e hb => ?_, fpst, I3.stack, I3.stkFree⟩, rfl, I3.bare, Un.kept kp4, ⟨_, hns, fun i x v e1 e2 e3 => ?_⟩, fun x a e => ?_, I3.hok.fresh (Nat.le_refl _), fun x a e => I3.freeC x a (celk e), fun p hp => ?_, I3.hok.kept kp4, ?_⟩
    · have e' : cl.lookup x = some a := e
      have hf' : (cl.lookup x).isNone = true := hf
      rw [e'] at hf'
      cases hf'
    · rcases (f2 b hb).2.2.2.1 with z | z
      · exact I3.ok.noex b o e z
      · exact absurd (Nat.lt_of_lt_of_le (Heap.lt_size e) (Nat.le_trans I3.ok.bsz z)) (Nat.lt_irrefl _)
    · unfold capt at e2
      rw [List.getElem?_map] at e2
      cases ec : caps[i]? with
      | none => rw [ec] at e2; cases e2
      | some cj =>
        rw [ec] at e2
        cases cj with
        | none => cases e2
        | some j =>
          have e2' : (σ[j]?).join = some v := Option.some.inj e2
          have ej : σ[j]? = some (some v) := by
            cases ex : σ[j]? with
            | none => rw [ex] at e2'; cases e2'
            | some o => rw [ex] at e2'; have : o = some v := e2'; rw [this]
          obtain ⟨n1, n2, n3, n4, a, n5, n6⟩ := c.capN i j x ec e1
          obtain ⟨m0, hn0, hl0⟩ := I3.loc
          obtain ⟨u, ru, lk⟩ := hl0 j x v n1 ej n2
          refine ⟨u, ru, ?_⟩
          rcases lk with ⟨k1, _⟩ | ⟨_, a', k2, k3⟩
          · exact absurd k1 n3
          · rw [n6] at k2
            cases k2
            refine .inr ⟨?_, a, n5, isc k3⟩
            rcases e3 with z | z
            · exact absurd z n4
            · exact z
    · obtain ⟨v, q⟩ := I3.cell x a (celk e)
      exact ⟨v, isc q⟩
    · have hp' : p ∈ X.pn ++ pins := by simpa using hp
      obtain ⟨p1, p2, p3, p4, p5⟩ := I3.pin p hp'
      refine ⟨kp4 _ _ p1, p2, Nat.ne_of_lt (Heap.lt_size p1), fun z => ?_, p5⟩
      rcases List.mem_cons.mp (I3.stkSub _ z) with q | q
      · exact p3 q
      · exact p4 q
    · show (capt caps σ).length = N'.length
      unfold capt
      rw [List.length_map, c.lenN]
  -- back to the outer body
  have back : ∀ {σ' : St} {H' : Hp} {s' : Shared}, Inv (cmpX X scope cl N' s3.heap.objs.size s3 H3 fp (X.pn ++ pins)) [] σ' H' s' → CmpEnd X pins σ H' s3.heap.objs.size s' := fun {σ' H' s'} J => by
    have J1 : Inv X pins σ H' s' := Inv.call' (ch := fp) I3 J.os J.base J.hok J.bare fun b hb => by
      obtain ⟨_, f1, f3, f4, f5, f6⟩ := f2 b hb
      exact ⟨f4, f1, f5, f6⟩
    obtain ⟨m6, hn6, _⟩ := J.loc
    refine ⟨J1, ⟨m6, hn6⟩, J.free, Nat.ne_of_gt I3.lt, I3.sz, fun x a e z => ?_, fun p hp z => ?_⟩
    · exact absurd (celC e) (by rw [z]; exact Nat.lt_irrefl _)
    · exact absurd (Heap.lt_size (I3.pin p hp).1) (by rw [z]; exact Nat.lt_irrefl _)
  have st4 : tn 0 h4 := T.keep _ _ _ st3 fun b _ o e => kp4 b o e
  have fr3 : ∀ b ∈ fp, H3 b = none := fun b hb => by
    rw [← hH3, upd_ne]
    · exact (f2 b hb).1
    · obtain ⟨o, e, _⟩ := T.obj _ _ st2 b hb
      exact Nat.ne_of_lt (Heap.lt_size e)
  have loop : ∀ s4 : Shared, s4 = { s3 with heap := h4, toks := s3.toks + ([] : List (Str × Value)).length } →
      codeAny (model X.prog X.w) X.A (.compLoop (.ListComp elt [⟨tg, iter, ifs, 0⟩] scope pos) 0 (.ref it) (.ref s2.heap.objs.size) (compEnvC scope cl s3.heap.objs.size X.env))
        (compPost (model X.prog X.w) X.A X.xe use Q' (.ref s2.heap.objs.size) s3.heap.objs.size) s4 := by
    rintro s4 rfl
    refine compLoop_any (fun n s => ∃ i σ' H, Inv (cmpX X scope cl N' s3.heap.objs.size s3 H3 fp (X.pn ++ pins)) [] σ' H s ∧ tn i s.heap ∧ (∀ b ∈ fp, H b = none) ∧ W i n σ' H) ?_ m0 ⟨0, capt caps σ, H3, I4, st4, fr3, w0⟩
    rintro n s5 ⟨i, σ5, H5, I5, st5, fr5, w5⟩
    rcases turn i n σ5 H5 w5 with ⟨stop, q5⟩ | ⟨go, step⟩
    · refine thn (T.done (cmpX X scope cl N' s3.heap.objs.size s3 H3 fp (X.pn ++ pins)) rfl rfl rfl hcalm i [] s5 σ5 H5 (fun _ _ => False) I5 (stat fr5) st5 stop) fun r s6 ⟨hr, I6⟩ => ?_
      subst hr
      exact fin _ _ _ _ (back I6) q5
    · refine thn (T.item (cmpX X scope cl N' s3.heap.objs.size s3 H3 fp (X.pn ++ pins)) rfl rfl rfl hcalm i [] s5 σ5 H5 (fun _ _ => False) I5 (stat fr5) st5 go) fun r s6 ⟨u, hr, h6⟩ => ?_
      subst hr
      refine thn h6 fun _ s7 ⟨x, H7, I7, r7, y7, st7, fr7⟩ => ?_
      have I7' := I7.pinned (stat fr7) (T.obj _ _ st7)
      refine thn (hg _ _ _ _ _ _ s7 σ5 H7 x u _ I7' r7 (step x H7 y7)) fun _ s8 ⟨σ8, H8, I8, q8⟩ => ?_
      refine thn (hf _ _ _ _ _ _ s8 σ8 H8 _ I8 q8) fun ok s9 ⟨H9, I9, q9⟩ => ?_
      have again : ∀ {s' : Shared} {m' : Nat} {σ' : St} {H' : Hp}, Inv (cmpX X scope cl N' s3.heap.objs.size s3 H3 fp (X.pn ++ pins)) ([] ++ pinsAt fp s7.heap) σ' H' s' → m' < n → W (i + 1) m' σ' H' →
          ∃ m, m < n ∧ ∃ i σ' H, Inv (cmpX X scope cl N' s3.heap.objs.size s3 H3 fp (X.pn ++ pins)) [] σ' H s' ∧ tn i s'.heap ∧ (∀ b ∈ fp, H b = none) ∧ W i m σ' H := fun {s' m' σ' H'} J hm hw => by
        refine ⟨m', hm, i + 1, σ', H', J.unpinned, T.keep _ _ _ st7 fun b hb o e => (J.pin (b, o) (List.mem_append_right _ (List.mem_append_right _ (mem_pinsAt hb e)))).1, fun b hb => ?_, hw⟩
        obtain ⟨o, e, d⟩ := T.obj _ _ st7 b hb
        exact (J.pin (b, o) (List.mem_append_right _ (List.mem_append_right _ (mem_pinsAt hb e)))).2.1
      cases ok with
      | false =>
        rw [if_neg Bool.false_ne_true] at q9 ⊢
        obtain ⟨m', hm, hw⟩ := q9
        exact again I9 hm hw
      | true =>
        rw [if_pos rfl] at q9 ⊢
        refine thn (he _ _ _ _ _ _ s9 σ8 H9 _ I9 q9) fun uy s10 ⟨y, H10, I10, ry, acc, hD10, hlen, m', hm, hw⟩ => ?_
        refine thn (mt_append _ s10 σ8 H10 (.ref s2.heap.objs.size) [y] (.ref s2.heap.objs.size) [uy] (fun v H' => v = .non ∧ H' = upd H10 s2.heap.objs.size (.lst (acc ++ [y]))) I10 rfl (.cons ry .nil) ⟨_, acc, y, rfl, rfl, hD10, hlen, rfl, rfl⟩) fun _ s11 ⟨v11, H11, I11, r11, e11, e12⟩ => ?_
        subst e12
        exact again I11 hm hw
  exact codeAny_compStart_list (loop _ rfl) (T.self _ 0 _ _ _ st4 (loop _ rfl))
theorem pe_comp {X : Cx} {elt tg iter : Expr} {ifs : List Expr} {scope : Scope} {cl : List (Str × Addr)} {N' : List Str} {caps : List (Option Nat)} {pos : Pos} {wi : TI} {g : TG} {tif : TT} {te : TE} (c : CmpOk X scope cl N' caps) (hcalm : X.calm = true) (hi : PI X tg iter wi)
    (hg : ∀ C s₀ H₀ ex pn, PG (cmpX X scope cl N' C s₀ H₀ ex pn) tg g) (hf : ∀ C s₀ H₀ ex pn, PIf (cmpX X scope cl N' C s₀ H₀ ex pn) ifs tif) (he : ∀ C s₀ H₀ ex pn, PE (cmpX X scope cl N' C s₀ H₀ ex pn) elt te)
    (hs : ∀ x, foldedSetIterable iter X.env x = pure x := by intro _; rfl) : PE X (.ListComp elt [⟨tg, iter, ifs, 0⟩] scope pos) (tComp wi caps g tif te) := by
  intro pins s σ H Q I h
  rw [eval_ListComp]
  refine comp_core (use := none) c hcalm hi hg hf he hs I h fun D C H' s' ce q => ?_
  obtain ⟨m, hn⟩ := ce.ns
  exact ⟨m, hn, fun h' hsb => ⟨.ref D, H', ce.go hsb, rfl, q⟩⟩
/-- y = [..], the list stored before the block's names go -/
theorem ps_setC {X : Cx} {elt tg iter : Expr} {ifs : List Expr} {scope : Scope} {cl : List (Str × Addr)} {N' : List Str} {caps : List (Option Nat)} {pos py spos : Pos} {wi : TI} {g : TG} {tif : TT} {te : TE} {i : Nat} {y : Str} (c : CmpOk X scope cl N' caps) (hcalm : X.calm = true) (hi : PI X tg iter wi)
    (hg : ∀ C s₀ H₀ ex pn, PG (cmpX X scope cl N' C s₀ H₀ ex pn) tg g) (hf : ∀ C s₀ H₀ ex pn, PIf (cmpX X scope cl N' C s₀ H₀ ex pn) ifs tif) (he : ∀ C s₀ H₀ ex pn, PE (cmpX X scope cl N' C s₀ H₀ ex pn) elt te)
    (hN : X.N.Nodup) (hiN : X.N[i]? = some y) (hx : Loc X.env.scope y) (hw : swapsWith (.ListComp elt [⟨tg, iter, ifs, 0⟩] scope pos) (some (.Name y py)) spos.line X.env = pure true) (hfn : X.fn y = true ∨ X.env.scope.names.lookup y = some .local)
    (hs : ∀ x, foldedSetIterable iter X.env x = pure x := by intro _; rfl) : PS X (.Assign [.Name y py] (.ListComp elt [⟨tg, iter, ifs, 0⟩] scope pos) spos) (tAsg (tComp wi caps g tif te) (gName i)) := by
  intro pins s σ H D I h
  rw [exec_Assign_Name_used _ _ _ _ hw]
  refine wpAny_bind (wpAny_standAt (wpAny_bind ?_))
  show wpAny _ _ (do let _ ← comprehension (.ListComp elt [⟨tg, iter, ifs, 0⟩] scope pos) scope X.env _ (newList []) false (eval iter X.env) (some (assign (.Name y py) X.env))) _ _ s
  refine wpAny_bind (thn (Q := fun _ s' => SP X pins D Flow.next s') (comp_core (use := some (assign (.Name y py) X.env)) c hcalm hi hg hf he hs I h fun Dl C H' s' ce q => ?_) fun _ s' q => wpAny_pure (wpAny_pure q))
  obtain ⟨m, hn⟩ := ce.ns
  show wpAny _ _ (assign (.Name y py) X.env (.ref Dl)) _ _ _
  refine wpAny_assign_Name (store_ok2 ce.inv hN hiN hx (v := .ref Dl) rfl (fun s2 I2 ⟨a, hsb, ha⟩ => ?_) hfn)
  have hne : C ≠ a := by
    rcases ha with rfl | ha
    · exact ce.loc
    · exact fun z => ce.cel _ _ ha z.symm
  have ce2 : CmpEnd X pins (σ.set i (some (.ref Dl))) H' C s2 := ⟨I2, ⟨m, hn.sameBut hsb hne⟩, ce.free, ce.loc, ce.sz, ce.cel, ce.pin⟩
  exact ⟨m, hn.sameBut hsb hne, fun h3 hs3 => ⟨_, H', ce2.go hs3, q⟩⟩
end L2

namespace DL
open PySem PySem.Spec L2
open PyProof.Rows hiding St
def captD (caps : List (Option Nat)) (σ : SD) : SD := caps.map fun c => match c with
  | some j => (σ[j]?).join
  | none => none
/-- the turns of a comprehension; what is gathered stands in cell n -/
def gather0 (n : Nat) (y : Dt) (G : GD) (k : GD → Prop) : Prop := match G[n]? with
  | some (.lst acc) => acc.length < sizeLine ∧ k (G.set n (.lst (acc ++ [y])))
  | _ => False
structure gather (n : Nat) (y : Dt) (G : GD) (k : GD → Prop) : Prop where
  p : gather0 n y G k
theorem gather_eq {n : Nat} {y : Dt} {G : GD} {k : GD → Prop} : gather n y G k = gather0 n y G k := propext ⟨fun h => h.p, fun h => ⟨h⟩⟩
theorem gather_of {n : Nat} {y : Dt} {G : GD} {k : GD → Prop} {acc : List Dt} (h : G[n]? = some (.lst acc)) (hl : acc.length < sizeLine) (hk : k (G.set n (.lst (acc ++ [y])))) : gather n y G k := by
  simp only [gather_eq, gather0, h]
  exact ⟨hl, hk⟩
def lpc (n : Nat) (g : TDG) (tif : TDT) (te : TDE) (W : GD → Prop) (Q : KD) : List Dt → SD → GD → Prop
  | [], _, G => W G ∧ Q (.ref n) G
  | d :: r, σ, G => W G ∧ g d σ G fun σ2 G2 => tif σ2 G2 fun b G3 => if b = true then te σ2 G3 fun y G4 => gather n y G4 (Wk (n + 1) (lpc n g tif te W Q r) σ2)
    else Wk (n + 1) (lpc n g tif te W Q r) σ2 G3
def dComp (ti : TDI) (caps : List (Option Nat)) (g : TDG) (tif : TDT) (te : TDE) : TDE := fun σ G Q => ti σ G fun ds W G1 => lpc G1.length g tif te W Q ds (captD caps σ) (G1 ++ [.lst []])
def dTrue : TDT := fun _ G Q => Q true G
def DIf (X : Cx) (F : Fx) (ifs : List Expr) (t : TDT) : Prop := PIf X ifs (liT X.K F t)
structure DIf' (X : Cx) (F : Fx) (ifs : List Expr) (t : TDT) : Prop where
  p : DIf X F ifs t
theorem dif_nil {X : Cx} {F : Fx} : DIf X F [] dTrue := fun pins s σ H Qv I ⟨σd, G, ι, Q, ok, ht, hq⟩ => pif_nil pins s σ H Qv I (hq true H G ι ok.hg Gr.refl ht)
theorem dif_nil' {X : Cx} {F : Fx} : DIf' X F [] dTrue :=
  ⟨dif_nil ⟩
theorem dif_one {X : Cx} {F : Fx} {c : Expr} {t : TDT} (h : DT X F c t) : DIf X F [c] t := pif_one h
theorem dif_one' {X : Cx} {F : Fx} {c : Expr} {t : TDT} (h : DT' X F c t) : DIf' X F [c] t :=
  ⟨dif_one (h := h.p)⟩
def exE (K : PySem.W.Frag) (t : TDE) : TE := fun σ H Q => ∃ F, liE K F t σ H Q
theorem captD_ok {K : PySem.W.Frag} {F : Fx} {σd : SD} {G : GD} {σ : L2.St} {H : Hp} {ι : List Addr} (ok : Ok K F σd G σ H ι) (caps : List (Option Nat)) : Ok K F (captD caps σd) G (capt caps σ) H ι := by
  refine ⟨ok.hg, fun i d e => ?_, ok.gr, by simp [captD, capt]⟩
  unfold captD at e
  rw [List.getElem?_map] at e
  cases ec : caps[i]? with
  | none => rw [ec] at e; cases e
  | some cj =>
    rw [ec] at e
    cases cj with
    | none => cases e
    | some j =>
      have e2 : (σd[j]?).join = some d := Option.some.inj e
      have ej : σd[j]? = some (some d) := by
        cases ex : σd[j]? with
        | none => rw [ex] at e2; cases e2
        | some o => rw [ex] at e2; have : o = some d := e2; rw [this]
      obtain ⟨v, q, r⟩ := ok.slt j d ej
      refine ⟨v, ?_, r⟩
      unfold capt
      rw [List.getElem?_map, ec]
      show some ((σ[j]?).join) = some (some v)
      rw [q]
      rfl
theorem comp_li {K : PySem.W.Frag} {F : Fx} {caps : List (Option Nat)} {ti : TDI} {g : TDG} {tif : TDT} {te : TDE} {σ : L2.St} {H : Hp} {Qv : VK} (h : liE K F (dComp ti caps g tif te) σ H Qv) : tComp (liI K F ti) caps (exG K g) (exT K tif) (exE K te) σ H Qv := by
  obtain ⟨σd, G, ι, Q, ok, ht, hq⟩ := h
  refine ⟨σd, G, ι, _, ok, ht, fun J H1 ds W G1 ι1 h1 g1 it q1 D hD => ?_⟩
  have hn : G1.length = ι1.length := h1.len.symm
  obtain ⟨hg2, gr2, rp2⟩ := rp_newLst (ds := []) (vs := []) h1 rfl hD
  have ok2 := ((ok.to h1 g1).to hg2 gr2)
  have ok3 := (captD_ok ok2 caps).here
  have atD0 : (ι1 ++ [D])[G1.length]? = some D := by rw [hn, List.getElem?_append_right (Nat.le_refl _)]; simp
  have hn1 : G1.length + 1 = (Fx.mk (upd H1 D (.lst [])) (ι1 ++ [D])).ι.length := by show G1.length + 1 = (ι1 ++ [D]).length; simp [hn]
  refine ⟨fun i m σ H => ∃ σd G ι, Ok K ⟨upd H1 D (.lst []), ι1 ++ [D]⟩ σd G σ H ι ∧ i ≤ ds.length ∧ m = ds.length - i ∧ lpc G1.length g tif te W Q (ds.drop i) σd G, ⟨ds.length, _, _, _, ok3, Nat.zero_le _, rfl, q1⟩, ?_⟩
  rintro i m σ' H' ⟨σd', G', ι', ok', hi', rfl, q⟩
  have grT := gr2.trans ok'.gr
  by_cases hlt : i < ds.length
  · rw [List.drop_eq_getElem_cons hlt] at q
    obtain ⟨hW, q⟩ := q
    obtain ⟨go, yl⟩ := it.go i ds[i] G' H' ι' (by simp [hlt]) ok'.hg grT hW
    refine .inr ⟨go, fun x H2 y => ?_⟩
    obtain ⟨h2, g2, r2⟩ := yl x H2 y
    refine ⟨⟨upd H1 D (.lst []), ι1 ++ [D]⟩, ds[i], σd', G', ι', _, ok'.to h2 g2, r2, q, fun σ3 H3 σd3 G3 ι3 ok3' q3 => ?_⟩
    refine ⟨⟨upd H1 D (.lst []), ι1 ++ [D]⟩, σd3, G3, ι3, _, ok3', q3, fun b H4 G4 ι4 h4 g4 q4 => ?_⟩
    have again : ∀ {σd5 : SD} {G5 : GD} {σ5 : L2.St} {H5 : Hp} {ι5 : List Addr}, Ok K ⟨upd H1 D (.lst []), ι1 ++ [D]⟩ σd5 G5 σ5 H5 ι5 → Wk (G1.length + 1) (lpc G1.length g tif te W Q (ds.drop (i + 1))) σd5 G5 →
        ∃ m', m' < ds.length - i ∧ ∃ σd G ι, Ok K ⟨upd H1 D (.lst []), ι1 ++ [D]⟩ σd G σ5 H5 ι ∧ i + 1 ≤ ds.length ∧ m' = ds.length - (i + 1) ∧ lpc G1.length g tif te W Q (ds.drop (i + 1)) σd G := fun ok5 w5 => by
      rw [hn1] at w5
      obtain ⟨σd6, G6, ι6, ok6, q6⟩ := ok5.wk w5
      exact ⟨ds.length - (i + 1), by omega, σd6, G6, ι6, ok6, hlt, rfl, q6⟩
    cases b with
    | false => exact iteF (again (ok3'.to h4 g4) q4)
    | true =>
      refine iteT ⟨⟨upd H1 D (.lst []), ι1 ++ [D]⟩, σd3, G4, ι4, _, ok3'.to h4 g4, q4, fun v5 H5 d5 G5 ι5 h5 g5 r5 q5 => ?_⟩
      have okE := (ok3'.to h4 g4).to h5 g5
      have at5 : ι5[G1.length]? = some D := okE.gr.at atD0
      replace q5 := q5.p; unfold gather0 at q5
      split at q5
      · rename_i acc z
        obtain ⟨vs, w, rr⟩ := h5.cel _ _ D z at5
        refine ⟨vs, w, by rw [← rr.len]; exact q5.1, ?_⟩
        have gp : Gr K H5 ι5 (upd H5 D (.lst (vs ++ [v5]))) ι5 := Gr.put h5 z rfl at5
        exact again (okE.to (h5.put (c' := .lst (acc ++ [d5])) z rfl at5 rfl ⟨vs ++ [v5], upd_same, (rr.app (Rps.cons r5 Rps.nil)).up gp⟩) gp) q5.2
      · exact q5.elim
  · have e : i = ds.length := by omega
    subst e
    rw [List.drop_eq_nil_of_le (Nat.le_refl _)] at q
    refine .inl ⟨it.stop G' H' ι' ok'.hg grT q.1, hq _ H' (.ref G1.length) G' ι' ok'.hg (g1.trans grT) ⟨D, rfl, ok'.gr.at atD0⟩ q.2⟩
theorem de_comp {X : Cx} {F : Fx} {elt tg iter : Expr} {ifs : List Expr} {scope : Scope} {cl : List (Str × Addr)} {N' : List Str} {caps : List (Option Nat)} {pos : Pos} {ti : TDI} {g : TDG} {tif : TDT} {te : TDE} (c : CmpOk X scope cl N' caps) (hi : DI X F tg iter ti)
    (hg : ∀ C s₀ H₀ ex pn F, DG (cmpX X scope cl N' C s₀ H₀ ex pn) F tg g) (hf : ∀ C s₀ H₀ ex pn F, DIf (cmpX X scope cl N' C s₀ H₀ ex pn) F ifs tif) (he : ∀ C s₀ H₀ ex pn F, DE (cmpX X scope cl N' C s₀ H₀ ex pn) F elt te) (hcalm : X.calm = true := by rfl)
    (hs : ∀ x, foldedSetIterable iter X.env x = pure x := by intro _; rfl) : DE X F (.ListComp elt [⟨tg, iter, ifs, 0⟩] scope pos) (dComp ti caps g tif te) :=
  PE.imp (pe_comp (g := exG X.K g) (tif := exT X.K tif) (te := exE X.K te) c hcalm hi (fun C s₀ H₀ ex pn pins s σ H v u Q I r ⟨F, q⟩ => hg C s₀ H₀ ex pn F pins s σ H v u Q I r q)
    (fun C s₀ H₀ ex pn pins s σ H Q I ⟨F, q⟩ => hf C s₀ H₀ ex pn F pins s σ H Q I q) (fun C s₀ H₀ ex pn pins s σ H Q I ⟨F, q⟩ => he C s₀ H₀ ex pn F pins s σ H Q I q) hs) fun σ H Qv h => comp_li h
/-- y = [..] -/
theorem ds_setC {X : Cx} {F : Fx} {elt tg iter : Expr} {ifs : List Expr} {scope : Scope} {cl : List (Str × Addr)} {N' : List Str} {caps : List (Option Nat)} {pos py spos : Pos} {ti : TDI} {g : TDG} {tif : TDT} {te : TDE} {i : Nat} {y : Str} (hN : X.N.Nodup) (c : CmpOk X scope cl N' caps) (hi : DI X F tg iter ti)
    (hg : ∀ C s₀ H₀ ex pn F, DG (cmpX X scope cl N' C s₀ H₀ ex pn) F tg g) (hf : ∀ C s₀ H₀ ex pn F, DIf (cmpX X scope cl N' C s₀ H₀ ex pn) F ifs tif) (he : ∀ C s₀ H₀ ex pn F, DE (cmpX X scope cl N' C s₀ H₀ ex pn) F elt te) (hiN : X.N[i]? = some y := by rfl) (hx : Loc X.env.scope y := by first | exact Or.inl rfl | exact Or.inr rfl)
    (hw : swapsWith (.ListComp elt [⟨tg, iter, ifs, 0⟩] scope pos) (some (.Name y py)) spos.line X.env = pure true := by rfl) (hfn : X.fn y = true ∨ X.env.scope.names.lookup y = some .local := by first | exact .inl rfl | exact .inr rfl | assumption) (hcalm : X.calm = true := by rfl)
    (hs : ∀ x, foldedSetIterable iter X.env x = pure x := by intro _; rfl) : DS X F (.Assign [.Name y py] (.ListComp elt [⟨tg, iter, ifs, 0⟩] scope pos) spos) (dSet i (dComp ti caps g tif te)) := by
  refine PS.imp (ps_setC (g := exG X.K g) (tif := exT X.K tif) (te := exE X.K te) c hcalm hi (fun C s₀ H₀ ex pn pins s σ H v u Q I r ⟨F, q⟩ => hg C s₀ H₀ ex pn F pins s σ H v u Q I r q)
    (fun C s₀ H₀ ex pn pins s σ H Q I ⟨F, q⟩ => hf C s₀ H₀ ex pn F pins s σ H Q I q) (fun C s₀ H₀ ex pn pins s σ H Q I ⟨F, q⟩ => he C s₀ H₀ ex pn F pins s σ H Q I q) hN hiN hx hw hfn hs) fun D σ H ⟨σd, G, ι, Dd, ok, ht, L⟩ => ?_
  exact comp_li ⟨σd, G, ι, _, ok, ht, fun v H1 d G1 ι1 h1 g1 r1 q1 => L.nx _ H1 _ G1 ι1 ((ok.to h1 g1).set r1) q1⟩
theorem ds_setC' {X : Cx} {F : Fx} {elt tg iter : Expr} {ifs : List Expr} {scope : Scope} {cl : List (Str × Addr)} {N' : List Str} {caps : List (Option Nat)} {pos py spos : Pos} {ti : TDI} {g : TDG} {tif : TDT} {te : TDE} {i : Nat} {y : Str} (hN : X.N.Nodup) (c : CmpOk X scope cl N' caps) (hi : DI' X F tg iter ti)
    (hg : ∀ C s₀ H₀ ex pn F, DG' (cmpX X scope cl N' C s₀ H₀ ex pn) F tg g) (hf : ∀ C s₀ H₀ ex pn F, DIf' (cmpX X scope cl N' C s₀ H₀ ex pn) F ifs tif) (he : ∀ C s₀ H₀ ex pn F, DE' (cmpX X scope cl N' C s₀ H₀ ex pn) F elt te) (hiN : X.N[i]? = some y := by rfl) (hx : Loc X.env.scope y := by first | exact Or.inl rfl | exact Or.inr rfl)
    (hw : swapsWith (.ListComp elt [⟨tg, iter, ifs, 0⟩] scope pos) (some (.Name y py)) spos.line X.env = pure true := by rfl) (hfn : X.fn y = true ∨ X.env.scope.names.lookup y = some .local := by first | exact .inl rfl | exact .inr rfl | assumption) (hcalm : X.calm = true := by rfl)
    (hs : ∀ x, foldedSetIterable iter X.env x = pure x := by intro _; rfl) : DS' X F (.Assign [.Name y py] (.ListComp elt [⟨tg, iter, ifs, 0⟩] scope pos) spos) (dSet i (dComp ti caps g tif te)) :=
  ⟨ds_setC hN c hi.p (fun C s₀ H₀ ex pn F => (hg C s₀ H₀ ex pn F).p) (fun C s₀ H₀ ex pn F => (hf C s₀ H₀ ex pn F).p) (fun C s₀ H₀ ex pn F => (he C s₀ H₀ ex pn F).p) hiN hx hw hfn hcalm hs⟩
theorem de_comp' {X : Cx} {F : Fx} {elt tg iter : Expr} {ifs : List Expr} {scope : Scope} {cl : List (Str × Addr)} {N' : List Str} {caps : List (Option Nat)} {pos : Pos} {ti : TDI} {g : TDG} {tif : TDT} {te : TDE} (c : CmpOk X scope cl N' caps) (hi : DI' X F tg iter ti)
    (hg : ∀ C s₀ H₀ ex pn F, DG' (cmpX X scope cl N' C s₀ H₀ ex pn) F tg g) (hf : ∀ C s₀ H₀ ex pn F, DIf' (cmpX X scope cl N' C s₀ H₀ ex pn) F ifs tif) (he : ∀ C s₀ H₀ ex pn F, DE' (cmpX X scope cl N' C s₀ H₀ ex pn) F elt te) (hcalm : X.calm = true := by rfl)
    (hs : ∀ x, foldedSetIterable iter X.env x = pure x := by intro _; rfl) : DE' X F (.ListComp elt [⟨tg, iter, ifs, 0⟩] scope pos) (dComp ti caps g tif te) :=
  ⟨de_comp (c := c) (hi := hi.p) (hg := fun C s₀ H₀ ex pn F => (hg C s₀ H₀ ex pn F).p) (hf := fun C s₀ H₀ ex pn F => (hf C s₀ H₀ ex pn F).p) (he := fun C s₀ H₀ ex pn F => (he C s₀ H₀ ex pn F).p) (hcalm := hcalm) (hs := hs)⟩
end DL
namespace DL
open PySem PySem.Spec L2
open PyProof.Rows hiding St
section
variable {X : Cx} {F : Fx} {e a b : Expr} {t : TDA} {ta tb : TDE} {pos p : Pos} {x : Str}
/-! ### * -/
def rRepT (K : PySem.W.Frag) : R2 := fun x y H Q => ∃ a k xs, x = .ref a ∧ y = .int k ∧ SqT K H a xs ∧ xs ≠ [] ∧ 2 ≤ k ∧ xs.length * k.toNat ≤ sizeLine ∧ ∀ p, H p = none → Q (.ref p) (upd H p (.tup (List.replicate k.toNat xs).flatten))
theorem op_repT : OpR X (binaryOp .Mult) (rRepT X.K) := by
  intro pins s σ H x y v u Q I rx ry h
  obtain ⟨a, k, xs, rfl, rfl, ha, hne, h2, hz, q⟩ := h
  cases rx
  obtain ⟨t, rfl⟩ := ry
  obtain ⟨its, r, p1, _⟩ := I.tuple ha
  refine TM.mul_tup p1 (fun z => hne (r.nil_iff.mp z)) h2 (by rw [← r.length]; exact hz) ?_
  refine ⟨.ref s.heap.objs.size, _, I.laid (t' := s.toks) (o := .tup (List.replicate k.toNat xs).flatten) (fun b ob q => Heap.get?_push_of_some _ q) (Nat.le_refl _) ?_, rfl, q _ (I.hok.fresh (Nat.le_refl _))⟩
  exact ⟨by rw [TM.len_rep, Nat.mul_comm]; exact hz, _, r.rep k.toNat, IsTupN.new _ _⟩
def rMulV (K : PySem.W.Frag) : R2 := fun x y H Q => rI CMul (fun i j => .int (i * j)) x y H Q ∨ rRepT K x y H Q
theorem op_mulV : OpR X (binaryOp .Mult) (rMulV X.K) := OpR.or op_mul op_repT
def rdMul : RD2 := fun x y G Q => match x, y with
  | .int i, .int j => CMul i j ∧ Q (.int (i * j)) G
  | .tup xs, .int k => xs ≠ [] ∧ 2 ≤ k ∧ xs.length * k.toNat ≤ sizeLine ∧ Q (.tup (List.replicate k.toNat xs).flatten) G
  | _, _ => False
theorem l2_mul {K : PySem.W.Frag} : L2R K (rMulV K) rdMul := by
  intro G H ι d1 d2 v1 v2 Q Qv hG r1 r2 h hq
  unfold rdMul at h
  split at h
  · rename_i i j
    exact .inl ⟨i, j, r1, r2, h.1, hq _ H (.int (i * j)) G ι hG Gr.refl rfl h.2⟩
  · rename_i xs k
    obtain ⟨hne, h2, hz, q⟩ := h
    obtain ⟨a, vs, e1, s1, rr1⟩ := r1
    refine .inr ⟨a, k, vs, e1, r2, s1, fun z => hne ?_, h2, by rw [← rr1.len]; exact hz, fun p hp => ?_⟩
    · subst z
      exact List.length_eq_zero_iff.mp (by rw [rr1.len]; rfl)
    · obtain ⟨x, y, z⟩ := rp_newTup hG (rr1.rep k.toNat) hp
      exact hq _ _ _ G ι x y z q
  · exact h.elim
theorem de_mul (ha : DE X F a ta) (hb : DE X F b tb) : DE X F (.BinOp a .Mult b pos) (dOp rdMul ta tb) := li2 l2_mul (pe_op op_mulV ha hb)

theorem de_mul' (ha : DE' X F a ta) (hb : DE' X F b tb) : DE' X F (.BinOp a .Mult b pos) (dOp rdMul ta tb) :=
  ⟨de_mul (ha := ha.p) (hb := hb.p)⟩
/-! ### all, any of a list of truths -/
def boolsD : List Dt → Option (List Bool)
  | [] => some []
  | .bl b :: r => (boolsD r).map fun bs => b :: bs
  | _ :: _ => none
def rdAll : RDA := fun ds G Q => match ds with
  | [.ref i] => match cellL G i with
    | some xs => match boolsD xs with
      | some bs => Q (.bl (bs.all id)) G
      | none => False
    | none => False
  | _ => False
/-! ### a def of the text, for its callers -/
structure Fnc (P : Program) (w : World) (K : PySem.W.Frag) (mg : Str → Option Value) (base : Heap) (x : Str) (k : Nat) (ps : List Str) (sp : SpD) : Prop where
  ex : ∃ f fd, FnOk P w K mg base CX0 k f fd ps (liSp K ps.length sp) ∧ mg x = some (.ref f) ∧ PySem.W.keepIn K (.ref f) = true ∧ Binds K fd ps []
theorem de_callF {k : Nat} {ps : List Str} {sp : SpD} {es : List Expr} (C : Fnc X.prog X.w X.K X.mg X.base x k ps sp) (hr : Room k X.A) (ha : DA X F (e :: es) t) (hg : Gl X x := by rfl)
    (hdb : (x == ("__debug__" : Str)) = false := by decide) (he : starEach (e :: es) X.env = (false, eval e X.env) :: starEach es X.env := by exact star_cons rfl) (hpl : (backTo pos (starEach es X.env)).any (·.1) = false := by exact back_any rfl) : DE X F (.Call (.Name x p) (e :: es) [] pos) (dCall ps.length sp t) := by
  obtain ⟨f, fd, h1, h2, h3, h4⟩ := C.ex
  exact de_call h1 hr h2 h3 h4 ha hg hdb he hpl
theorem de_callF' {k : Nat} {ps : List Str} {sp : SpD} {es : List Expr} (C : Fnc X.prog X.w X.K X.mg X.base x k ps sp) (hr : Room k X.A) (ha : DA' X F (e :: es) t) (hg : Gl X x := by rfl)
    (hdb : (x == ("__debug__" : Str)) = false := by decide) (he : starEach (e :: es) X.env = (false, eval e X.env) :: starEach es X.env := by exact star_cons rfl) (hpl : (backTo pos (starEach es X.env)).any (·.1) = false := by exact back_any rfl) : DE' X F (.Call (.Name x p) (e :: es) [] pos) (dCall ps.length sp t) :=
  ⟨de_callF (C := C) (hr := hr) (ha := ha.p) (hg := hg) (hdb := hdb) (he := he) (hpl := hpl)⟩
end
/-- texts by their signs -/
theorem str_inj (a b : String) : (Str.ofString a = Str.ofString b) = (a = b) := by
  apply propext
  constructor
  · intro h
    rw [Str.ofString_eq_toList, Str.ofString_eq_toList] at h
    injection h with h
    have h2 : a.toList.map Char.toNat = b.toList.map Char.toNat := by
      have := congrArg Array.toList h
      simpa using this
    have h3 : a.toList = b.toList := by
      refine (List.map_inj_right ?_).mp h2
      intro x y e
      exact Char.toNat_inj.mp e
    exact String.toList_inj.mp h3
  · intro h
    rw [h]
/-- a def's place at the top -/
structure Plc (K : PySem.W.Frag) (mg : Str → Option Value) (x : Str) (st : Stmt) (ps : List Str) : Prop where
  ex : ∃ f fd, Fun K x x st f fd ∧ mg x = some (.ref f) ∧ Binds K fd ps []
theorem Plc.fn {P : Program} {w : World} {K : PySem.W.Frag} {mg : Str → Option Value} {base : Heap} {x : Str} {st : Stmt} {N ps : List Str} {k : Nat} {sp : SpD} (Pl : Plc K mg x st ps) (S : FnScope N ps (defScope st))
    (hbody : ∀ (f : Addr) (cdv : Value) (A : Around) (outer : List Env) (s : Shared) (H : Hp) (E : XK), Room k (A.deeper (envOfC x (defScope st) s.heap.objs.size f cdv)) →
      ∃ td, (∀ F, DSs (cxOf CX0 P w K mg base N x (defScope st) f cdv A outer s H E).nox F (defBody st) td) ∧ ∀ (ds : List Dt) (G : GD) (Q : KD), ds.length = ps.length → sp ds G Q → bnds G.length ds → bndG G.length G → td (endsD G Q) (startD N ds) G) :
    Fnc P w K mg base x (k + 1) ps sp := by
  obtain ⟨f, fd, F, hm, hb⟩ := Pl.ex
  exact ⟨f, fd, okD F S (hbody f), hm, F.kp, hb⟩
theorem Plc.fn' {P : Program} {w : World} {K : PySem.W.Frag} {mg : Str → Option Value} {base : Heap} {x : Str} {st : Stmt} {N ps : List Str} {k : Nat} {sp : SpD} (Pl : Plc K mg x st ps) (S : FnScope N ps (defScope st))
    (hbody : ∀ (f : Addr) (cdv : Value) (A : Around) (outer : List Env) (s : Shared) (H : Hp) (E : XK), Room k (A.deeper (envOfC x (defScope st) s.heap.objs.size f cdv)) →
      ∃ td, (∀ F, DSs' (cxOf CX0 P w K mg base N x (defScope st) f cdv A outer s H E).nox F (defBody st) td) ∧ ∀ (ds : List Dt) (G : GD) (Q : KD), ds.length = ps.length → sp ds G Q → bnds G.length ds → bndG G.length G → td (endsD G Q) (startD N ds) G) :
    Fnc P w K mg base x (k + 1) ps sp := Pl.fn S fun f cdv A outer s H E hr => let ⟨td, h, r⟩ := hbody f cdv A outer s H E hr; ⟨td, fun F => (h F).p, r⟩
theorem okD' {P : Program} {w : World} {K : PySem.W.Frag} {mg : Str → Option Value} {base : Heap} {x qual : Str} {st : Stmt} {f : Addr} {fd : FuncData} {N ps : List Str} {k : Nat} {sp : SpD} (Fn : Fun K x qual st f fd) (S : FnScope N ps (defScope st))
    (hbody : ∀ (cdv : Value) (A : Around) (outer : List Env) (s : Shared) (H : Hp) (E : XK), Room k (A.deeper (envOfC qual (defScope st) s.heap.objs.size f cdv)) →
      ∃ td, (∀ F, DSs' (cxOf CX0 P w K mg base N qual (defScope st) f cdv A outer s H E).nox F (defBody st) td) ∧ ∀ (ds : List Dt) (G : GD) (Q : KD), ds.length = ps.length → sp ds G Q → bnds G.length ds → bndG G.length G → td (endsD G Q) (startD N ds) G) :
    FnOk P w K mg base CX0 (k + 1) f fd ps (liSp K ps.length sp) := okD Fn S fun cdv A outer s H E hr => let ⟨td, h, r⟩ := hbody cdv A outer s H E hr; ⟨td, fun F => (h F).p, r⟩
/-- nothing may be asked of it -/
theorem Plc.never {P : Program} {w : World} {K : PySem.W.Frag} {mg : Str → Option Value} {base : Heap} {x : Str} {st : Stmt} {ps : List Str} (Pl : Plc K mg x st ps) : Fnc P w K mg base x 0 ps (fun _ _ _ => False) := by
  obtain ⟨f, fd, F, hm, hb⟩ := Pl.ex
  refine ⟨f, fd, ⟨fun vs H Q E ⟨ds, G, ι, Qd, _, _, _, h, _⟩ => h.elim, fun A outer s H args us vs Q E _ _ _ _ ⟨ds, G, ι, Qd, _, _, _, h, _⟩ => h.elim⟩, hm, F.kp, hb⟩
theorem Fnc.mono {P : Program} {w : World} {K : PySem.W.Frag} {mg : Str → Option Value} {base : Heap} {x : Str} {j k : Nat} {ps : List Str} {sp : SpD} (F : Fnc P w K mg base x j ps sp) (h : j ≤ k) : Fnc P w K mg base x k ps sp := by
  obtain ⟨f, fd, h1, r⟩ := F.ex
  exact ⟨f, fd, h1.mono h, r⟩
theorem Fnc.imp {P : Program} {w : World} {K : PySem.W.Frag} {mg : Str → Option Value} {base : Heap} {x : Str} {k : Nat} {ps : List Str} {sp sp' : SpD} (F : Fnc P w K mg base x k ps sp) (h : ∀ ds G Q, sp' ds G Q → sp ds G Q) : Fnc P w K mg base x k ps sp' := by
  obtain ⟨f, fd, h1, r⟩ := F.ex
  exact ⟨f, fd, h1.imp fun vs H Q E ⟨ds, G, ι, Qd, a, b, c, d, e⟩ => ⟨ds, G, ι, Qd, a, b, c, h _ _ _ d, e⟩, r⟩
end DL
namespace DL
open PySem PySem.Spec L2
section
variable {G : GD} {b c : Bool} {i j : Int} {x y : Str} {xs ys : List Dt} {k l : Nat} {s : String} {d e : Dt}
theorem isi_non : isiD s .non = false := rfl
theorem isi_bl : isiD s (.bl b) = (s == "bool" || s == "int") := rfl
theorem isi_int : isiD s (.int i) = (s == "int") := rfl
theorem isi_str : isiD s (.str x) = (s == "str") := rfl
theorem isi_tup : isiD s (.tup xs) = (s == "tuple") := rfl
theorem isi_ref : isiD s (.ref k) = false := rfl
theorem tru_non : truD G .non = some false := rfl
theorem tru_bl : truD G (.bl b) = some b := rfl
theorem tru_int : truD G (.int i) = some (i != 0) := rfl
theorem tru_tup : truD G (.tup xs) = some (!xs.isEmpty) := rfl
theorem tru_ref : truD G (.ref k) = match G[k]? with
    | some (.lst xs) => some (!xs.isEmpty)
    | some (.fz xs) => some (!xs.isEmpty)
    | some (.dct kvs) => some (!kvs.isEmpty)
    | none => none := rfl
theorem len_tup : lenD G (.tup xs) = some xs.length := rfl
theorem len_ref : lenD G (.ref k) = match G[k]? with
    | some (.lst xs) => some xs.length
    | some (.fz xs) => some xs.length
    | some (.dct kvs) => some kvs.length
    | none => none := rfl
theorem at_tup : atD G (.tup xs) (.int i) = atI xs i := rfl
theorem at_ref : atD G (.ref k) (.int i) = match G[k]? with
    | some (.lst xs) => atI xs i
    | some (.fz xs) => atI xs i
    | some (.dct kvs) => valD kvs (.inl i)
    | none => none := rfl
theorem at_refs : atD G (.ref k) (.str x) = match G[k]? with
    | some (.dct kvs) => valD kvs (.inr x)
    | _ => none := rfl
theorem is_non_non : isD .non .non = true := rfl
theorem is_bl_bl : isD (.bl b) (.bl c) = (b == c) := rfl
theorem is_bl_non : isD (.bl b) .non = false := rfl
theorem is_non_bl : isD .non (.bl b) = false := rfl
theorem is_int_non : isD (.int i) .non = false := rfl
theorem is_str_non : isD (.str x) .non = false := rfl
theorem is_tup_non : isD (.tup xs) .non = false := rfl
theorem is_ref_non : isD (.ref k) .non = false := rfl
theorem is_int_bl : isD (.int i) (.bl b) = false := rfl
theorem is_str_bl : isD (.str x) (.bl b) = false := rfl
theorem is_tup_bl : isD (.tup xs) (.bl b) = false := rfl
theorem is_ref_bl : isD (.ref k) (.bl b) = false := rfl
theorem eqs_int : eqS (.int i) (.int j) = some (decide (i = j)) := rfl
theorem eqs_str : eqS (.str x) (.str y) = some (decide (x = y)) := rfl
theorem eqs_bl : eqS (.bl b) (.bl c) = some (decide (b = c)) := rfl
theorem seq_tup : seqD G (.tup xs) = some xs := rfl
theorem seq_ref : seqD G (.ref k) = cellL G k := rfl
theorem atI_0 : atI (d :: xs) 0 = some d := by
  unfold atI ixN
  rw [if_pos (by decide), if_pos (by rw [List.length_cons]; omega)]
  rfl
theorem atI_1 : atI (d :: e :: xs) 1 = some e := by
  unfold atI ixN
  rw [if_pos (by decide), if_pos (by rw [List.length_cons, List.length_cons]; omega)]
  rfl
theorem atI_2 {f : Dt} : atI (d :: e :: f :: xs) 2 = some f := by
  unfold atI ixN
  rw [if_pos (by decide), if_pos (by rw [List.length_cons, List.length_cons, List.length_cons]; omega)]
  rfl
theorem succ_eq0 : decide (((k + 1 : Nat) : Int) = 0) = false := decide_eq_false (by omega)
theorem zero_eq0 : decide (((0 : Nat) : Int) = 0) = true := rfl
theorem get_endz {J : GD} : (G ++ J)[G.length]? = J[0]? := by
  rw [List.getElem?_append_right (Nat.le_refl _), Nat.sub_self]
theorem get_endj {J : GD} {j : Nat} : (G ++ J)[G.length + j]? = J[j]? := by
  rw [List.getElem?_append_right (by omega), show G.length + j - G.length = j by omega]
theorem set_endz {J : GD} {c : Cl} : (G ++ J).set G.length c = G ++ J.set 0 c := by
  rw [List.set_append_right _ _ (Nat.le_refl _), Nat.sub_self]
theorem set_endj {J : GD} {j : Nat} {c : Cl} : (G ++ J).set (G.length + j) c = G ++ J.set j c := by
  rw [List.set_append_right _ _ (by omega), show G.length + j - G.length = j by omega]
end
end DL
namespace DL
open PySem PySem.Spec L2
open PyProof.Rows hiding St
/-! ### data as Python's own, compared whole -/
mutual
def pyD : Dt → PyData
  | .non => .none
  | .bl b => .bool b
  | .int i => .int i
  | .str x => .str x
  | .tup ds => .tuple (pyDs ds)
  | .ref _ => .none
def pyDs : List Dt → List PyData
  | [] => []
  | d :: ds => pyD d :: pyDs ds
end
mutual
/-- no lists, no dicts; texts of signs -/
def lay : Dt → Bool
  | .str x => PyData.canLay0 (.str x)
  | .tup ds => lays ds
  | .ref _ => false
  | _ => true
def lays : List Dt → Bool
  | [] => true
  | d :: ds => lay d && lays ds
end
mutual
theorem lay_can : ∀ d : Dt, lay d = true → (pyD d).canLay0 = true
  | .non, _ => rfl
  | .bl _, _ => rfl
  | .int _, _ => rfl
  | .str _, h => h
  | .tup ds, h => lays_can ds h
  | .ref _, h => by cases h
theorem lays_can : ∀ ds : List Dt, lays ds = true → PyData.canLayAll0 (pyDs ds) = true
  | [], _ => rfl
  | d :: ds, h => by
    have h' : lay d = true ∧ lays ds = true := by simpa [lays] using h
    show (PyData.canLay0 (pyD d) && PyData.canLayAll0 (pyDs ds)) = true
    rw [lay_can d h'.1, lays_can ds h'.2]; rfl
end
section
variable {X : Cx} {pins : List (Addr × Obj)} {σ : L2.St} {H : Hp} {s : Shared} {ι : List Addr} {G : GD}
mutual
theorem reads_d (I : Inv X pins σ H s) : ∀ (d : Dt) (v : V) (u : Value), lay d = true → Rp X.K H ι d v → RelV v u → ∃ as, Reads s.heap u (pyD d) as
  | .non, v, u, _, r, q => by
    have e : v = V.non := r
    subst e
    cases (show u = Value.none from q)
    exact ⟨_, .none⟩
  | .bl b, v, u, _, r, q => by
    have e : v = V.bl b := r
    subst e
    cases (show u = Value.bool b from q)
    exact ⟨_, .bool b⟩
  | .int i, v, u, _, r, q => by
    have e : v = V.int i := r
    subst e
    obtain ⟨t, rfl⟩ := (show ∃ t, u = Value.int i t from q)
    exact ⟨_, .int i t⟩
  | .str x, v, u, _, r, q => by
    have e : v = V.str x := r
    subst e
    obtain ⟨t, rfl⟩ := (show ∃ t, u = Value.str x t from q)
    exact ⟨_, .str x t⟩
  | .tup ds, v, u, h, r, q => by
    obtain ⟨a, vs, e, sq, rr⟩ := r
    subst e
    cases (show u = Value.ref a from q)
    obtain ⟨its, rv, p, hz⟩ := I.tuple sq
    obtain ⟨o, ho, hc, n, hd⟩ := p
    obtain ⟨as, ra⟩ := reads_ds I ds vs its h rr rv
    exact ⟨as, .tuple ho hc hd (by simpa using ra)⟩
  | .ref _, _, _, h, _, _ => by cases h
theorem reads_ds (I : Inv X pins σ H s) : ∀ (ds : List Dt) (vs : List V) (us : List Value), lays ds = true → Rps X.K H ι ds vs → Vals vs us → ∃ as, ReadsAll s.heap us (pyDs ds) as
  | [], vs, us, _, r, q => by
    have e : vs = [] := r
    subst e
    cases q
    exact ⟨_, .nil⟩
  | d :: ds, vs, us, h, r, q => by
    obtain ⟨v, vr, e, r1, r2⟩ := r
    subst e
    cases q with
    | cons q1 q2 =>
      have h' : lay d = true ∧ lays ds = true := by simpa [lays] using h
      obtain ⟨as, ra⟩ := reads_d I d v _ h'.1 r1 q1
      obtain ⟨bs, rb⟩ := reads_ds I ds vr _ h'.2 r2 q2
      exact ⟨_, .cons ra rb⟩
end
def pyG (G : GD) : Dt → Option PyData
  | .ref i => match cellL G i with
    | some xs => if lays xs = true then some (.list (pyDs xs)) else none
    | none => none
  | d => if lay d = true then some (pyD d) else none
theorem reads_g (I : Inv X pins σ H s) (hG : HG X.K G H ι) {d : Dt} {a : PyData} {v : V} {u : Value} (e : pyG G d = some a) (r : Rp X.K H ι d v) (q : RelV v u) : a.canLay0 = true ∧ ∃ as, Reads s.heap u a as := by
  have plain : ∀ d', d' = d → (∀ i, d' ≠ .ref i) → a.canLay0 = true ∧ ∃ as, Reads s.heap u a as := fun d' hd hn => by
    subst hd
    have e' : (if lay d' = true then some (pyD d') else none) = some a := by
      cases d' with
      | ref i => exact absurd rfl (hn i)
      | _ => exact e
    by_cases hl : lay d' = true
    · rw [if_pos hl] at e'
      cases e'
      exact ⟨lay_can d' hl, reads_d I d' v u hl r q⟩
    · rw [if_neg hl] at e'; cases e'
  cases d with
  | ref i =>
    cases ex : cellL G i with
    | none => simp [pyG, ex] at e
    | some xs =>
      have e' : (if lays xs = true then some (PyData.list (pyDs xs)) else none) = some a := by simpa only [pyG, ex] using e
      by_cases hl : lays xs = true
      · rw [if_pos hl] at e'
        cases e'
        obtain ⟨p, e1, q1⟩ := r
        subst e1
        cases (show u = Value.ref p from q)
        obtain ⟨vs, sq, rr⟩ := cellL_sq hG q1 ex
        obtain ⟨its, rv, pl, hz⟩ := I.list sq
        obtain ⟨o, ho, hc, n, hd⟩ := pl.isList
        obtain ⟨as, ra⟩ := reads_ds I xs vs its hl rr rv
        exact ⟨lays_can xs hl, _, .list ho hc hd (by simpa using ra)⟩
      · rw [if_neg hl] at e'; cases e'
  | _ => exact plain _ rfl fun i h => by cases h
def PyV (K : PySem.W.Frag) (H : Hp) (x : V) (a : PyData) : Prop := ∃ G ι d, HG K G H ι ∧ Rp K H ι d x ∧ pyG G d = some a
def rEqP (K : PySem.W.Frag) (neg : Bool) : R2 := fun x y H Q => ∃ a b, PyV K H x a ∧ PyV K H y b ∧ min a.depth b.depth ≤ 60 ∧ Q (.bl (neg ^^ PyData.eqv a b)) H
theorem op_eqP (hu : X.A.units + 64 < cLine) : OpR X (compareOp .Eq) (rEqP X.K false) := by
  intro pins s σ H x y v u Q I rx ry ⟨a, b, ⟨G1, ι1, d1, h1, r1, e1⟩, ⟨G2, ι2, d2, h2, r2, e2⟩, hd, q⟩
  obtain ⟨ca, as, ra⟩ := reads_g I h1 e1 r1 rx
  obtain ⟨cb, bs, rb⟩ := reads_g I h2 e2 r2 ry
  refine SeqAt.compareEq_reads ra rb ca cb (by omega) ⟨.bl _, H, I, rfl, ?_⟩
  rw [Bool.false_xor] at q
  exact q
theorem op_neP (hu : X.A.units + 64 < cLine) : OpR X (compareOp .NotEq) (rEqP X.K true) := by
  intro pins s σ H x y v u Q I rx ry ⟨a, b, ⟨G1, ι1, d1, h1, r1, e1⟩, ⟨G2, ι2, d2, h2, r2, e2⟩, hd, q⟩
  obtain ⟨ca, as, ra⟩ := reads_g I h1 e1 r1 rx
  obtain ⟨cb, bs, rb⟩ := reads_g I h2 e2 r2 ry
  refine SeqAt.compareNe_reads ra rb ca cb (by omega) ⟨.bl _, H, I, rfl, ?_⟩
  rw [Bool.true_xor] at q
  exact q
def itemsP : PyData → Option (List PyData)
  | .list xs => some xs
  | .tuple xs => some xs
  | _ => none
def rInP (K : PySem.W.Frag) (neg : Bool) : R2 := fun x y H Q => ∃ a b xs, PyV K H x a ∧ PyV K H y b ∧ itemsP b = some xs ∧ a.depth ≤ 60 ∧ Q (.bl (neg ^^ xs.any fun z => PyData.eqv z a)) H
theorem op_inP (hu : X.A.units + 64 < cLine) : OpR X (compareOp .In) (rInP X.K false) := by
  intro pins s σ H x y v u Q I rx ry ⟨a, b, xs, ⟨G1, ι1, d1, h1, r1, e1⟩, ⟨G2, ι2, d2, h2, r2, e2⟩, hi, hd, q⟩
  obtain ⟨ca, as, ra⟩ := reads_g I h1 e1 r1 rx
  obtain ⟨cb, bs, rb⟩ := reads_g I h2 e2 r2 ry
  rw [Bool.false_xor] at q
  cases b with
  | list ys =>
    cases hi
    exact SeqAt.in_list_reads rb ra cb ca (by omega) ⟨.bl _, H, I, rfl, q⟩
  | tuple ys =>
    cases hi
    exact SeqAt.in_tuple_reads rb ra cb ca (by omega) ⟨.bl _, H, I, rfl, q⟩
  | _ => cases hi
def rdEqP0 (neg : Bool) : RD2 := fun x y G Q => match pyG G x, pyG G y with
  | some a, some b => min a.depth b.depth ≤ 60 ∧ Q (.bl (neg ^^ PyData.eqv a b)) G
  | _, _ => False
def rdInP0 (neg : Bool) : RD2 := fun x y G Q => match pyG G x, (pyG G y).bind itemsP with
  | some a, some xs => a.depth ≤ 60 ∧ Q (.bl (neg ^^ xs.any fun z => PyData.eqv z a)) G
  | _, _ => False
structure rdEqP (neg : Bool) (x y : Dt) (G : GD) (Q : KD) : Prop where
  p : rdEqP0 neg x y G Q
structure rdInP (neg : Bool) (x y : Dt) (G : GD) (Q : KD) : Prop where
  p : rdInP0 neg x y G Q
theorem l2_eqP {K : PySem.W.Frag} {neg : Bool} : L2R K (rEqP K neg) (rdEqP neg) := by
  intro G H ι d1 d2 v1 v2 Q Qv hG r1 r2 h hq
  replace h := h.p; unfold rdEqP0 at h
  split at h
  · rename_i a b e1 e2
    exact ⟨a, b, ⟨G, ι, d1, hG, r1, e1⟩, ⟨G, ι, d2, hG, r2, e2⟩, h.1, hq _ H (.bl _) G ι hG Gr.refl rfl h.2⟩
  · exact h.elim
theorem l2_inP {K : PySem.W.Frag} {neg : Bool} : L2R K (rInP K neg) (rdInP neg) := by
  intro G H ι d1 d2 v1 v2 Q Qv hG r1 r2 h hq
  replace h := h.p; unfold rdInP0 at h
  split at h
  · rename_i a xs e1 e2
    cases e3 : pyG G d2 with
    | none => rw [e3] at e2; cases e2
    | some b =>
      rw [e3] at e2
      exact ⟨a, b, xs, ⟨G, ι, d1, hG, r1, e1⟩, ⟨G, ι, d2, hG, r2, e3⟩, e2, h.1, hq _ H (.bl _) G ι hG Gr.refl rfl h.2⟩
  · exact h.elim
end
section
variable {X : Cx} {F : Fx} {a b : Expr} {ta tb : TDE} {pos : Pos} {k : Nat}
theorem de_eqP (hr : Room k X.A) (ha : DE X F a ta) (hb : DE X F b tb) : DE X F (.Compare a [.Eq] [b] pos) (dOp (rdEqP false) ta tb) := li2 l2_eqP (pe_cmpR (op_eqP hr.units) ha hb (nomark _))
theorem de_eqP' (hr : Room k X.A) (ha : DE' X F a ta) (hb : DE' X F b tb) : DE' X F (.Compare a [.Eq] [b] pos) (dOp (rdEqP false) ta tb) :=
  ⟨de_eqP (hr := hr) (ha := ha.p) (hb := hb.p)⟩
theorem dt_neP (hr : Room k X.A) (ha : DE X F a ta) (hb : DE X F b tb) : DT X F (.Compare a [.NotEq] [b] pos) (dTest (dOp (rdEqP true) ta tb)) := li2T l2_eqP (pt_cmpR (op_neP hr.units) ha hb (nomark _))
theorem dt_neP' (hr : Room k X.A) (ha : DE' X F a ta) (hb : DE' X F b tb) : DT' X F (.Compare a [.NotEq] [b] pos) (dTest (dOp (rdEqP true) ta tb)) :=
  ⟨dt_neP (hr := hr) (ha := ha.p) (hb := hb.p)⟩
theorem de_in (hr : Room k X.A) (ha : DE X F a ta) (hb : DE X F b tb) (hm : behindInMarks .In b = false := by rfl) : DE X F (.Compare a [.In] [b] pos) (dOp (rdInP false) ta tb) := li2 l2_inP (pe_cmpR (op_inP hr.units) ha hb hm)
theorem de_in' (hr : Room k X.A) (ha : DE' X F a ta) (hb : DE' X F b tb) (hm : behindInMarks .In b = false := by rfl) : DE' X F (.Compare a [.In] [b] pos) (dOp (rdInP false) ta tb) :=
  ⟨de_in (hr := hr) (ha := ha.p) (hb := hb.p) (hm := hm)⟩
end
end DL
namespace L2
open PySem PySem.Spec PyProof.Rows
end L2
namespace DL
open PySem PySem.Spec L2
open PyProof.Rows hiding St
end DL
namespace DL
open PySem PySem.Spec L2
open PyProof.Rows hiding St
theorem bt_sum : bootBuiltins "sum" = some (.builtin "sum") := by decide +kernel
theorem bt_min : bootBuiltins "min" = some (.builtin "min") := by decide +kernel
theorem bt_max : bootBuiltins "max" = some (.builtin "max") := by decide +kernel
/-! ### ints among data -/
def intsD : List Dt → Option (List Int)
  | [] => some []
  | .int i :: r => (intsD r).map fun is => i :: is
  | _ :: _ => none
theorem intsD_rps {K : PySem.W.Frag} {H : Hp} {ι : List Addr} : ∀ {xs : List Dt} {ns : List Int} {vs : List V}, intsD xs = some ns → Rps K H ι xs vs → vs = ns.map V.int
  | [], ns, vs, h, r => by
    have e : vs = [] := r
    cases h
    exact e
  | d :: xs, ns, vs, h, r => by
    obtain ⟨v, vr, e, r1, r2⟩ := r
    cases d with
    | int b =>
      have h' : (intsD xs).map (fun is => b :: is) = some ns := h
      cases hb : intsD xs with
      | none => rw [hb] at h'; cases h'
      | some bs' =>
        rw [hb] at h'
        cases h'
        rw [e, intsD_rps hb r2, show v = V.int b from r1]
        rfl
    | _ => cases h
section
variable {X : Cx} {F : Fx} {e o a b : Expr} {es : List Expr} {t : TDA} {pos p : Pos} {x : Str} {ta tb to : TDE}
/-! ### sum of a tuple of ints -/
theorem call_sumT (hc : X.calm = true) : CallR X (.builtin "sum") (fun xs H Q => ∃ (p : Addr) (ns : List Int), xs = [V.ref p] ∧ SqT X.K H p (ns.map V.int) ∧ Q (.int ns.sum) H) := by
  intro pins s σ H xs us Q I r h
  obtain ⟨p, ns, rfl, hp, q⟩ := h
  obtain ⟨u, rfl, ru⟩ := vals1 r
  cases ru
  obtain ⟨its, rv, pl, hz⟩ := I.tuple hp
  have hi := intsAre_of rv
  have hn : numsOf its.toArray.toList = ns := by rw [show its.toArray.toList = its from rfl, hi.numsOf]
  obtain ⟨xs, hx⟩ := hi.allInts.items
  have hl : s.heap.IsTuple p (intItems xs) := hx ▸ pl
  rw [hx, nums_intItems] at hn
  refine PySem.W.ktm_sumG (I.ok.hd hc) hl fun h' tk t' hk => ?_
  rw [preSum_eq, List.take_of_length_le (by simp), hn]
  exact ⟨.int ns.sum, H, I.kept (t' := tk) hk, ⟨_, rfl⟩, q⟩
def rdSum0 : RDA := fun ds G Q => match ds with
  | [.tup xs] => match intsD xs with
    | some ns => Q (.int ns.sum) G
    | none => False
  | _ => False
structure rdSum (ds : List Dt) (G : GD) (Q : KD) : Prop where
  p : rdSum0 ds G Q
theorem rdSum_eq {ds : List Dt} {G : GD} {Q : KD} : rdSum ds G Q = rdSum0 ds G Q := propext ⟨fun h => h.p, fun h => ⟨h⟩⟩
theorem rdSum_of {xs : List Dt} {ns : List Int} {G : GD} {Q : KD} (h : intsD xs = some ns) (hq : Q (.int ns.sum) G) : rdSum [.tup xs] G Q := by
  rw [rdSum_eq]; unfold rdSum0
  simp only [h]
  exact hq
theorem l_sum {K : PySem.W.Frag} : LCR K (fun xs H Q => ∃ (p : Addr) (ns : List Int), xs = [V.ref p] ∧ SqT K H p (ns.map V.int) ∧ Q (.int ns.sum) H) rdSum := by
  intro G H ι ds vs Q Qv hG r h hq
  replace h := h.p; unfold rdSum0 at h
  split at h
  · rename_i xs
    obtain ⟨v, e, rv⟩ := rps1 r
    subst e
    obtain ⟨a, ws, e1, s, rr⟩ := rv
    subst e1
    split at h
    · rename_i ns en
      have e2 := intsD_rps en rr
      subst e2
      exact ⟨a, ns, rfl, s, hq _ H (.int ns.sum) G ι hG Gr.refl rfl h⟩
    · exact h.elim
  · exact h.elim
theorem de_sum (ha : DA X F [e] t) (hm : X.mg "sum" = none) (hg : Gl X "sum" := by rfl) (hc : X.calm = true := by rfl) (he : starEach [e] X.env = (false, eval e X.env) :: starEach [] X.env := by exact star_cons rfl) (hpl : (backTo pos (starEach [] X.env)).any (·.1) = false := by exact back_any rfl) : DE X F (.Call (.Name "sum" p) [e] [] pos) (dCB rdSum t) :=
  de_callB (call_sumT hc) l_sum bt_sum ha hm hg (by decide) (by decide) he hpl
theorem de_sum' (ha : DA' X F [e] t) (hm : X.mg "sum" = none) (hg : Gl X "sum" := by rfl) (hc : X.calm = true := by rfl) (he : starEach [e] X.env = (false, eval e X.env) :: starEach [] X.env := by exact star_cons rfl) (hpl : (backTo pos (starEach [] X.env)).any (·.1) = false := by exact back_any rfl) : DE' X F (.Call (.Name "sum" p) [e] [] pos) (dCB rdSum t) :=
  ⟨de_sum (ha := ha.p) (hm := hm) (hg := hg) (hc := hc) (he := he) (hpl := hpl)⟩
/-! ### min, max: of two ints, of a list of ints -/
def lowI : List Int → Int
  | [] => 0
  | [i] => i
  | i :: j :: r => min i (lowI (j :: r))
def topI : List Int → Int
  | [] => 0
  | [i] => i
  | i :: j :: r => max i (topI (j :: r))
theorem lowI_spec : ∀ {ns : List Int}, ns ≠ [] → lowI ns ∈ ns ∧ ∀ a ∈ ns, lowI ns ≤ a
  | [], h => absurd rfl h
  | [i], _ => ⟨List.mem_cons_self, fun a h => by simp at h; rw [h]; exact Int.le_refl _⟩
  | i :: j :: r, _ => by
    obtain ⟨h1, h2⟩ := lowI_spec (ns := j :: r) (by simp)
    show min i (lowI (j :: r)) ∈ _ ∧ ∀ a ∈ _, min i (lowI (j :: r)) ≤ a
    constructor
    · by_cases h : i ≤ lowI (j :: r)
      · rw [Int.min_eq_left h]; exact List.mem_cons_self
      · rw [Int.min_eq_right (by omega)]; exact List.mem_cons_of_mem _ h1
    · intro a ha
      rcases List.mem_cons.mp ha with rfl | ha
      · exact Int.min_le_left _ _
      · exact Int.le_trans (Int.min_le_right _ _) (h2 a ha)
theorem topI_spec : ∀ {ns : List Int}, ns ≠ [] → topI ns ∈ ns ∧ ∀ a ∈ ns, a ≤ topI ns
  | [], h => absurd rfl h
  | [i], _ => ⟨List.mem_cons_self, fun a h => by simp at h; rw [h]; exact Int.le_refl _⟩
  | i :: j :: r, _ => by
    obtain ⟨h1, h2⟩ := topI_spec (ns := j :: r) (by simp)
    show max i (topI (j :: r)) ∈ _ ∧ ∀ a ∈ _, a ≤ max i (topI (j :: r))
    constructor
    · by_cases h : topI (j :: r) ≤ i
      · rw [Int.max_eq_left h]; exact List.mem_cons_self
      · rw [Int.max_eq_right (by omega)]; exact List.mem_cons_of_mem _ h1
    · intro a ha
      rcases List.mem_cons.mp ha with rfl | ha
      · exact Int.le_max_left _ _
      · exact Int.le_trans (h2 a ha) (Int.le_max_right _ _)
theorem low_uniq {ns : List Int} {M : Int} (h1 : M ∈ ns) (h2 : ∀ a, a ∈ ns → M ≤ a) : M = lowI ns := by
  obtain ⟨a, b⟩ := lowI_spec (ns := ns) (List.ne_nil_of_mem h1)
  exact Int.le_antisymm (h2 _ a) (b _ h1)
theorem top_uniq {ns : List Int} {M : Int} (h1 : M ∈ ns) (h2 : ∀ a, a ∈ ns → a ≤ M) : M = topI ns := by
  obtain ⟨a, b⟩ := topI_spec (ns := ns) (List.ne_nil_of_mem h1)
  exact Int.le_antisymm (b _ h1) (h2 _ a)
theorem call_minL (hc : X.calm = true) : CallR X (.builtin "min") (fun xs H Q => ∃ (p : Addr) (ns : List Int), xs = [V.ref p] ∧ SqL X.K H p (ns.map V.int) ∧ ns ≠ [] ∧ Q (.int (lowI ns)) H) := by
  intro pins s σ H xs us Q I r h
  obtain ⟨p, ns, rfl, hp, hne, q⟩ := h
  obtain ⟨u, rfl, ru⟩ := vals1 r
  cases ru
  obtain ⟨its, rv, pl, hz⟩ := I.list hp
  have hi := intsAre_of rv
  obtain ⟨xs, e⟩ := hi.allInts.items
  have hns : ns = xs.toList.map (·.1) := by rw [← hi.numsOf, ← nums_intItems, ← e]
  have hl := pl.isList
  have hsz : 0 < xs.size := by
    have h3 := List.length_pos_iff.mpr hne; rw [hns, List.length_map, Array.length_toList] at h3; exact h3
  rw [e] at hl
  refine min_intList (I.ok.hd hc) hl hsz fun v h' tk hv hk => ?_
  obtain ⟨t, rfl⟩ := intItems_at hv
  obtain ⟨h1, h2⟩ := argBest_lt (numAt xs) (xs.size - 1)
  have m1 : numAt xs (argBest (fun i j => decide (numAt xs i < numAt xs j)) (xs.size - 1)) ∈ ns := by
    rw [hns, numAt_eq]; exact getD_mem (by rw [List.length_map, Array.length_toList]; omega)
  have m2 : ∀ a, a ∈ ns → numAt xs (argBest (fun i j => decide (numAt xs i < numAt xs j)) (xs.size - 1)) ≤ a := fun a ha => by
    rw [hns] at ha
    obtain ⟨j, hj, rfl⟩ := mem_getD ha
    rw [List.length_map, Array.length_toList] at hj
    rw [← numAt_eq]; exact h2 j (by omega)
  rw [low_uniq m1 m2]
  exact ⟨.int (lowI ns), H, I.kept (t' := tk) hk, ⟨_, rfl⟩, q⟩
theorem call_maxL (hc : X.calm = true) : CallR X (.builtin "max") (fun xs H Q => ∃ (p : Addr) (ns : List Int), xs = [V.ref p] ∧ SqL X.K H p (ns.map V.int) ∧ ns ≠ [] ∧ Q (.int (topI ns)) H) := by
  intro pins s σ H xs us Q I r h
  obtain ⟨p, ns, rfl, hp, hne, q⟩ := h
  obtain ⟨u, rfl, ru⟩ := vals1 r
  cases ru
  obtain ⟨its, rv, pl, hz⟩ := I.list hp
  have hi := intsAre_of rv
  obtain ⟨xs, e⟩ := hi.allInts.items
  have hns : ns = xs.toList.map (·.1) := by rw [← hi.numsOf, ← nums_intItems, ← e]
  have hl := pl.isList
  have hsz : 0 < xs.size := by
    have h3 := List.length_pos_iff.mpr hne; rw [hns, List.length_map, Array.length_toList] at h3; exact h3
  rw [e] at hl
  refine max_intList (I.ok.hd hc) hl hsz fun v h' tk hv hk => ?_
  obtain ⟨t, rfl⟩ := intItems_at hv
  obtain ⟨h1, h2⟩ := argBest_gt (numAt xs) (xs.size - 1)
  have m1 : numAt xs (argBest (fun i j => decide (numAt xs i > numAt xs j)) (xs.size - 1)) ∈ ns := by
    rw [hns, numAt_eq]; exact getD_mem (by rw [List.length_map, Array.length_toList]; omega)
  have m2 : ∀ a, a ∈ ns → a ≤ numAt xs (argBest (fun i j => decide (numAt xs i > numAt xs j)) (xs.size - 1)) := fun a ha => by
    rw [hns] at ha
    obtain ⟨j, hj, rfl⟩ := mem_getD ha
    rw [List.length_map, Array.length_toList] at hj
    rw [← numAt_eq]; exact h2 j (by omega)
  rw [top_uniq m1 m2]
  exact ⟨.int (topI ns), H, I.kept (t' := tk) hk, ⟨_, rfl⟩, q⟩
def rdMM0 (f2 : Int → Int → Int) (fl : List Int → Int) : RDA := fun ds G Q => match ds with
  | [.int i, .int j] => Q (.int (f2 i j)) G
  | [.ref i] => match (cellL G i).bind intsD with
    | some ns => ns ≠ [] ∧ Q (.int (fl ns)) G
    | none => False
  | _ => False
structure rdMM (f2 : Int → Int → Int) (fl : List Int → Int) (ds : List Dt) (G : GD) (Q : KD) : Prop where
  p : rdMM0 f2 fl ds G Q
theorem rdMM_two {f2 : Int → Int → Int} {fl : List Int → Int} {i j : Int} {G : GD} {Q : KD} (hq : Q (.int (f2 i j)) G) : rdMM f2 fl [.int i, .int j] G Q := ⟨hq⟩
theorem rdMM_ref {f2 : Int → Int → Int} {fl : List Int → Int} {i : Nat} {xs : List Dt} {ns : List Int} {G : GD} {Q : KD} (e : cellL G i = some xs) (h : intsD xs = some ns) (hne : ns ≠ []) (hq : Q (.int (fl ns)) G) : rdMM f2 fl [.ref i] G Q := by
  refine ⟨?_⟩
  simp only [rdMM0, e, Option.bind_some, h]
  exact ⟨hne, hq⟩
theorem l_mm {K : PySem.W.Frag} {f2 : Int → Int → Int} {fl : List Int → Int} : LCR K (fun xs H Q => (∃ i j, xs = [V.int i, V.int j] ∧ Q (.int (f2 i j)) H) ∨ ∃ (p : Addr) (ns : List Int), xs = [V.ref p] ∧ SqL K H p (ns.map V.int) ∧ ns ≠ [] ∧ Q (.int (fl ns)) H) (rdMM f2 fl) := by
  intro G H ι ds vs Q Qv hG r h hq
  replace h := h.p
  unfold rdMM0 at h
  split at h
  · rename_i i j
    obtain ⟨v, v', e, r1, r2⟩ := rps2 r
    subst e
    have e1 : v = V.int i := r1
    have e2 : v' = V.int j := r2
    subst e1; subst e2
    exact .inl ⟨i, j, rfl, hq _ H (.int _) G ι hG Gr.refl rfl h⟩
  · rename_i i
    obtain ⟨v, e, rv⟩ := rps1 r
    subst e
    obtain ⟨a, e1, q⟩ := rv
    subst e1
    split at h
    · rename_i ns en
      cases ex : cellL G i with
      | none => rw [ex] at en; cases en
      | some xs =>
        rw [ex] at en
        obtain ⟨ws, s, rr⟩ := cellL_sq hG q ex
        have e2 := intsD_rps en rr
        subst e2
        exact .inr ⟨a, ns, rfl, s, h.1, hq _ H (.int _) G ι hG Gr.refl rfl h.2⟩
    · exact h.elim
  · exact h.elim
def min2 (i j : Int) : Int := if j < i then j else i
def max2 (i j : Int) : Int := if j > i then j else i
theorem de_min (ha : DA X F (e :: es) t) (hm : X.mg "min" = none) (hg : Gl X "min" := by rfl) (hc : X.calm = true := by rfl) (he : starEach (e :: es) X.env = (false, eval e X.env) :: starEach es X.env := by exact star_cons rfl) (hpl : (backTo pos (starEach es X.env)).any (·.1) = false := by exact back_any rfl) : DE X F (.Call (.Name "min" p) (e :: es) [] pos) (dCB (rdMM min2 lowI) t) :=
  de_callB (CallR.or (call_min2 hc) (call_minL hc)) (l_mm (f2 := min2) (fl := lowI)) bt_min ha hm hg (by decide) (by decide) he hpl
theorem de_min' (ha : DA' X F (e :: es) t) (hm : X.mg "min" = none) (hg : Gl X "min" := by rfl) (hc : X.calm = true := by rfl) (he : starEach (e :: es) X.env = (false, eval e X.env) :: starEach es X.env := by exact star_cons rfl) (hpl : (backTo pos (starEach es X.env)).any (·.1) = false := by exact back_any rfl) : DE' X F (.Call (.Name "min" p) (e :: es) [] pos) (dCB (rdMM min2 lowI) t) :=
  ⟨de_min (ha := ha.p) (hm := hm) (hg := hg) (hc := hc) (he := he) (hpl := hpl)⟩
theorem de_max (ha : DA X F (e :: es) t) (hm : X.mg "max" = none) (hg : Gl X "max" := by rfl) (hc : X.calm = true := by rfl) (he : starEach (e :: es) X.env = (false, eval e X.env) :: starEach es X.env := by exact star_cons rfl) (hpl : (backTo pos (starEach es X.env)).any (·.1) = false := by exact back_any rfl) : DE X F (.Call (.Name "max" p) (e :: es) [] pos) (dCB (rdMM max2 topI) t) :=
  de_callB (CallR.or (call_max2 hc) (call_maxL hc)) (l_mm (f2 := max2) (fl := topI)) bt_max ha hm hg (by decide) (by decide) he hpl
theorem de_max' (ha : DA' X F (e :: es) t) (hm : X.mg "max" = none) (hg : Gl X "max" := by rfl) (hc : X.calm = true := by rfl) (he : starEach (e :: es) X.env = (false, eval e X.env) :: starEach es X.env := by exact star_cons rfl) (hpl : (backTo pos (starEach es X.env)).any (·.1) = false := by exact back_any rfl) : DE' X F (.Call (.Name "max" p) (e :: es) [] pos) (dCB (rdMM max2 topI) t) :=
  ⟨de_max (ha := ha.p) (hm := hm) (hg := hg) (hc := hc) (he := he) (hpl := hpl)⟩
/-! ### int(..) of an int or a truth -/
def rdIntOf : RDA := fun ds G Q => match ds with
  | [.int i] => Q (.int i) G
  | [.bl b] => Q (.int (if b then 1 else 0)) G
  | _ => False
theorem l_intOf {K : PySem.W.Frag} : LCR K (fun xs H Q => (∃ i, xs = [V.int i] ∧ Q (.int i) H) ∨ ∃ k, xs = [V.bl k] ∧ Q (.int (if k then 1 else 0)) H) rdIntOf := by
  intro G H ι ds vs Q Qv hG r h hq
  unfold rdIntOf at h
  split at h
  · rename_i i
    obtain ⟨v, e, rv⟩ := rps1 r
    subst e
    have e1 : v = V.int i := rv
    subst e1
    exact .inl ⟨i, rfl, hq _ H (.int i) G ι hG Gr.refl rfl h⟩
  · rename_i b
    obtain ⟨v, e, rv⟩ := rps1 r
    subst e
    have e1 : v = V.bl b := rv
    subst e1
    exact .inr ⟨b, rfl, hq _ H (.int _) G ι hG Gr.refl rfl h⟩
  · exact h.elim
theorem de_intof (ha : DA X F [e] t) (hm : X.mg "int" = none) (hg : Gl X "int" := by rfl) (he : starEach [e] X.env = (false, eval e X.env) :: starEach [] X.env := by exact star_cons rfl) (hpl : (backTo pos (starEach [] X.env)).any (·.1) = false := by exact back_any rfl) : DE X F (.Call (.Name "int" p) [e] [] pos) (dCB rdIntOf t) :=
  de_callTy call_int1 l_intOf bt_int ha hm hg (by decide) (by decide) he hpl
theorem de_intof' (ha : DA' X F [e] t) (hm : X.mg "int" = none) (hg : Gl X "int" := by rfl) (he : starEach [e] X.env = (false, eval e X.env) :: starEach [] X.env := by exact star_cons rfl) (hpl : (backTo pos (starEach [] X.env)).any (·.1) = false := by exact back_any rfl) : DE' X F (.Call (.Name "int" p) [e] [] pos) (dCB rdIntOf t) :=
  ⟨de_intof (ha := ha.p) (hm := hm) (hg := hg) (he := he) (hpl := hpl)⟩
/-! ### a builtin's method over data -/
def LMR (K : PySem.W.Frag) (r : V → List V → Hp → VK → Prop) (rd : Dt → List Dt → GD → KD → Prop) : Prop :=
  ∀ (G : GD) (H : Hp) (ι : List Addr) (d : Dt) (ds : List Dt) (v : V) (vs : List V) (Q : KD) (Qv : VK), HG K G H ι → Rp K H ι d v → Rps K H ι ds vs → rd d ds G Q →
    (∀ v' H' d' G' ι', HG K G' H' ι' → Gr K H ι H' ι' → Rp K H' ι' d' v' → Q d' G' → Qv v' H') → r v vs H Qv
def isTupD : GD → Dt → Prop := fun _ d => ∃ xs, d = .tup xs
def isLstD : GD → Dt → Prop := fun G d => ∃ i xs, d = .ref i ∧ cellL G i = some xs
theorem isTupD_ty {K : PySem.W.Frag} {G : GD} {H : Hp} {ι : List Addr} {d : Dt} {v : V} (hG : HG K G H ι) (r : Rp K H ι d v) (h : isTupD G d) : tyV K "tuple" v H := by
  obtain ⟨xs, rfl⟩ := h
  obtain ⟨a, vs, rfl, s, rr⟩ := r
  exact .inr (.inl ⟨rfl, vs, s⟩)
theorem isLstD_ty {K : PySem.W.Frag} {G : GD} {H : Hp} {ι : List Addr} {d : Dt} {v : V} (hG : HG K G H ι) (r : Rp K H ι d v) (h : isLstD G d) : tyV K "list" v H := by
  obtain ⟨i, xs, rfl, e⟩ := h
  obtain ⟨a, rfl, q⟩ := r
  obtain ⟨vs, s, rr⟩ := cellL_sq hG q e
  exact .inl ⟨rfl, vs, s⟩
def dBM (ty : GD → Dt → Prop) (rd : Dt → List Dt → GD → KD → Prop) (to : TDE) (t : TDA) : TDE := fun σ G Q => to σ G fun x G1 => ty G1 x ∧ t σ G1 fun ds G2 => rd x ds G2 Q
theorem de_bm {name : Str} {T id : String} {ty : GD → Dt → Prop} {r : V → List V → Hp → VK → Prop} {rd : Dt → List Dt → GD → KD → Prop} {apos cpos : Pos} (pa : PlainAttrs T) (slot : Slot T name id) (hty : typeOf (.builtin id) = pure (.type "method_descriptor")) (hm : MtR X id r)
    (hl : LMR X.K r rd) (hT : ∀ {G H ι d v}, HG X.K G H ι → Rp X.K H ι d v → ty G d → tyV X.K T v H) (ho : DE X F o to) (ha : DA X F (e :: es) t)
    (hbase : attributeBase o name X.env (eval o X.env) = eval o X.env := by rfl)
    (hfew : ((backTo cpos (starEach (e :: es) X.env)).all (fun x => !x.1) && (backToKw cpos (keywordEach [] X.env)).all (fun x => x.1.isSome)
      && decide ((e :: es).length + ([] : List Keyword).length + (if ([] : List Keyword).isEmpty then 0 else 1) < 30)) = true := by rfl)
    (hline : (apos.endLine == cpos.line) = true := by rfl) (hs : starEach (e :: es) X.env = (false, eval e X.env) :: starEach es X.env := by exact star_cons rfl) (hplain : (backTo cpos (starEach es X.env)).any (·.1) = false := by exact back_any rfl) :
    DE X F (.Call (.Attribute o name apos) (e :: es) [] cpos) (dBM ty rd to t) := by
  refine PE.imp (pe_bm pa slot hty hm ho ha hbase hfew hline hs hplain) fun σ H Qv ⟨σd, G, ι, Q, ok, ht, hq⟩ => ?_
  refine ⟨σd, G, ι, _, ok, ht, fun v H1 d1 G1 ι1 h1 g1 r1 q1 => ⟨hT h1 r1 q1.1, σd, G1, ι1, _, ok.to h1 g1, q1.2, fun us H2 ds G2 ι2 h2 g2 r2 q2 => ?_⟩⟩
  exact hl G2 H2 ι2 d1 ds v us _ _ h2 (r1.up g2) r2 q2 fun v' H' d' G' ι' h' g' r' q' => hq v' H' d' G' ι' h' (g1.trans (g2.trans g')) r' q'
/-! ### tuple.count, list.index, tuple.index: of flat items -/
theorem countP_eqU {x : V} : ∀ {xs : List V} {us : List Value}, Vals xs us → xs.all flatV = true → us.countP (eqU x) = xs.countP fun y => eqV y x
  | _, _, .nil, _ => rfl
  | _, _, .cons (a := y) (b := u) r t, f => by
    simp only [List.all_cons, Bool.and_eq_true] at f
    rw [List.countP_cons, List.countP_cons, countP_eqU t f.2, eqU_of r f.1]
def rCount (K : PySem.W.Frag) : V → List V → Hp → VK → Prop := fun x vs H Q => ∃ p ys y, x = .ref p ∧ vs = [y] ∧ SqT K H p ys ∧ flatV y = true ∧ ys.all flatV = true ∧ Q (.int (ys.countP fun z => eqV z y : Nat)) H
theorem mt_count : MtR X "tuple.count" (rCount X.K) := by
  intro pins s σ H x xs v us Q I rx rs h
  obtain ⟨p, ys, y, rfl, rfl, hp, fy, fs, q⟩ := h
  cases rx
  obtain ⟨u, rfl, ru⟩ := vals1 rs
  obtain ⟨its, r, pl, hz⟩ := I.tuple hp
  obtain ⟨⟨cls, dd, data, sl⟩, ho, hc, n, hd⟩ := id pl
  simp only at hc hd
  subst hc hd
  refine call_meets PySem.F.slot_tuple_count ⟨_, ho, rfl⟩ PySem.F.entry_tuple_count (PySem.F.args_tuple_count_2 _ _) (SeqAt.tuple_countAt p its.toArray n dd sl u (eqU y)) ⟨ho, fun w hw => mem_eqAt ru fy r fs w (by simpa using hw), ?_⟩
  rw [show its.toArray.toList = its from rfl, countP_eqU r fs]
  exact ⟨.int _, H, I.tok _, ⟨_, rfl⟩, q⟩
def rIndexL (K : PySem.W.Frag) : V → List V → Hp → VK → Prop := fun x vs H Q => ∃ p ys y, x = .ref p ∧ vs = [y] ∧ SqL K H p ys ∧ flatV y = true ∧ ys.all flatV = true ∧ (ys.findIdx fun z => eqV z y) < ys.length ∧ Q (.int (ys.findIdx fun z => eqV z y : Nat)) H
theorem eqU_at {x : V} : ∀ {xs : List V} {us : List Value}, Vals xs us → xs.all flatV = true → ∀ (j : Nat) (h1 : j < us.length) (h2 : j < xs.length), eqU x us[j] = eqV xs[j] x
  | _, _, .nil, _, j, h1, _ => absurd h1 (Nat.not_lt_zero _)
  | _, _, .cons (a := y) (b := u) r t, f, 0, _, _ => by
    simp only [List.all_cons, Bool.and_eq_true] at f
    exact eqU_of r f.1
  | _, _, .cons (a := y) (b := u) r t, f, j + 1, h1, h2 => by
    simp only [List.all_cons, Bool.and_eq_true] at f
    exact eqU_at t f.2 j (Nat.lt_of_succ_lt_succ h1) (Nat.lt_of_succ_lt_succ h2)
theorem mt_indexL : MtR X "list.index" (rIndexL X.K) := by
  intro pins s σ H x xs v us Q I rx rs h
  obtain ⟨p, ys, y, rfl, rfl, hp, fy, fs, hj, q⟩ := h
  cases rx
  obtain ⟨u, rfl, ru⟩ := vals1 rs
  obtain ⟨its, r, pl, hz⟩ := I.list hp
  obtain ⟨⟨cls, dd, data, sl⟩, ho, hc, n, hd⟩ := id pl.isList
  simp only at hc hd
  subst hc hd
  have hl := r.length
  have hs : sizeLine = 16777216 := sizeLine_eq
  refine call_meets PySem.F.slot_list_index ⟨_, ho, rfl⟩ PySem.F.entry_list_index (PySem.F.args_list_index_2 _ _)
    (SeqAt.list_indexAt p its.toArray n dd sl u (eqU y) (ys.findIdx fun z => eqV z y) (by simp; omega) (by omega) ?_ ?_) ⟨ho, fun w hw => mem_eqAt ru fy r fs w (by simpa using hw), ⟨.int _, H, I.tok _, ⟨_, rfl⟩, q⟩⟩
  · show eqU y its[ys.findIdx fun z => eqV z y] = true
    rw [eqU_at r fs _ (by omega) hj]
    exact List.findIdx_getElem (w := hj)
  · intro m hm hlt
    show eqU y its[m] = false
    rw [eqU_at r fs m (by simpa using hm) (by omega)]
    simpa using List.not_of_lt_findIdx hlt
def flatD : Dt → Bool
  | .tup _ => false
  | .ref _ => false
  | _ => true
def eqF : Dt → Dt → Bool
  | .non, .non => true
  | .bl a, .bl b => a == b
  | .bl a, .int b => (if a then 1 else 0) == b
  | .int a, .bl b => a == (if b then 1 else 0)
  | .int a, .int b => a == b
  | .str a, .str b => a == b
  | _, _ => false
theorem flat_rp {K : PySem.W.Frag} {H : Hp} {ι : List Addr} {d : Dt} {v : V} (h : flatD d = true) (r : Rp K H ι d v) : flatV v = true := by
  cases d with
  | tup _ => cases h
  | ref _ => cases h
  | non => have e : v = V.non := r; rw [e]; rfl
  | bl b => have e : v = V.bl b := r; rw [e]; rfl
  | int b => have e : v = V.int b := r; rw [e]; rfl
  | str b => have e : v = V.str b := r; rw [e]; rfl
theorem eqF_rp {K : PySem.W.Frag} {H : Hp} {ι : List Addr} {d d' : Dt} {v v' : V} (h : flatD d = true) (h' : flatD d' = true) (r : Rp K H ι d v) (r' : Rp K H ι d' v') : eqV v v' = eqF d d' := by
  have at1 : ∀ {d : Dt} {v : V}, flatD d = true → Rp K H ι d v → (d = .non ∧ v = .non) ∨ (∃ b, d = .bl b ∧ v = .bl b) ∨ (∃ b, d = .int b ∧ v = .int b) ∨ ∃ b, d = .str b ∧ v = .str b := fun {d v} h r => by
    cases d with
    | tup _ => cases h
    | ref _ => cases h
    | non => exact .inl ⟨rfl, r⟩
    | bl b => exact .inr (.inl ⟨b, rfl, r⟩)
    | int b => exact .inr (.inr (.inl ⟨b, rfl, r⟩))
    | str b => exact .inr (.inr (.inr ⟨b, rfl, r⟩))
  rcases at1 h r with ⟨rfl, rfl⟩ | ⟨b, rfl, rfl⟩ | ⟨b, rfl, rfl⟩ | ⟨b, rfl, rfl⟩ <;> rcases at1 h' r' with ⟨rfl, rfl⟩ | ⟨c, rfl, rfl⟩ | ⟨c, rfl, rfl⟩ | ⟨c, rfl, rfl⟩ <;> rfl
theorem flats_rp {K : PySem.W.Frag} {H : Hp} {ι : List Addr} : ∀ {ds : List Dt} {vs : List V}, ds.all flatD = true → Rps K H ι ds vs → vs.all flatV = true
  | [], vs, _, r => by have e : vs = [] := r; rw [e]; rfl
  | d :: ds, vs, h, r => by
    obtain ⟨v, vr, e, r1, r2⟩ := r
    simp only [List.all_cons, Bool.and_eq_true] at h
    rw [e, List.all_cons, flat_rp h.1 r1, flats_rp h.2 r2]; rfl
theorem countP_rp {K : PySem.W.Frag} {H : Hp} {ι : List Addr} {d : Dt} {v : V} (hd : flatD d = true) (rd : Rp K H ι d v) : ∀ {ds : List Dt} {vs : List V}, ds.all flatD = true → Rps K H ι ds vs → (vs.countP fun z => eqV z v) = ds.countP fun z => eqF z d
  | [], vs, _, r => by have e : vs = [] := r; rw [e]; rfl
  | d' :: ds, vs, h, r => by
    obtain ⟨v', vr, e, r1, r2⟩ := r
    simp only [List.all_cons, Bool.and_eq_true] at h
    rw [e, List.countP_cons, List.countP_cons, countP_rp hd rd h.2 r2, eqF_rp h.1 hd r1 rd]
theorem findIdx_rp {K : PySem.W.Frag} {H : Hp} {ι : List Addr} {d : Dt} {v : V} (hd : flatD d = true) (rd : Rp K H ι d v) : ∀ {ds : List Dt} {vs : List V}, ds.all flatD = true → Rps K H ι ds vs → (vs.findIdx fun z => eqV z v) = ds.findIdx fun z => eqF z d
  | [], vs, _, r => by have e : vs = [] := r; rw [e]; rfl
  | d' :: ds, vs, h, r => by
    obtain ⟨v', vr, e, r1, r2⟩ := r
    simp only [List.all_cons, Bool.and_eq_true] at h
    rw [e, List.findIdx_cons, List.findIdx_cons, findIdx_rp hd rd h.2 r2, eqF_rp h.1 hd r1 rd]
def rdCount0 : Dt → List Dt → GD → KD → Prop := fun x ds G Q => match x, ds with
  | .tup xs, [d] => flatD d = true ∧ xs.all flatD = true ∧ Q (.int (xs.countP fun z => eqF z d : Nat)) G
  | _, _ => False
structure rdCount (x : Dt) (ds : List Dt) (G : GD) (Q : KD) : Prop where
  p : rdCount0 x ds G Q
theorem rdCount_eq {x : Dt} {ds : List Dt} {G : GD} {Q : KD} : rdCount x ds G Q = rdCount0 x ds G Q := propext ⟨fun h => h.p, fun h => ⟨h⟩⟩
theorem rdCount_of {xs : List Dt} {d : Dt} {G : GD} {Q : KD} (h1 : flatD d = true) (h2 : xs.all flatD = true) (hq : Q (.int (xs.countP fun z => eqF z d : Nat)) G) : rdCount (.tup xs) [d] G Q := by
  rw [rdCount_eq]; unfold rdCount0
  exact ⟨h1, h2, hq⟩
theorem lm_count {K : PySem.W.Frag} : LMR K (rCount K) rdCount := by
  intro G H ι d ds v vs Q Qv hG r rs h hq
  replace h := h.p; unfold rdCount0 at h
  split at h
  · rename_i xs y
    obtain ⟨a, ws, e, s, rr⟩ := r
    subst e
    obtain ⟨u, e2, ru⟩ := rps1 rs
    subst e2
    obtain ⟨h1, h2, h3⟩ := h
    refine ⟨a, ws, u, rfl, rfl, s, flat_rp h1 ru, flats_rp h2 rr, ?_⟩
    rw [countP_rp h1 ru h2 rr]
    exact hq _ H (.int _) G ι hG Gr.refl rfl h3
  · exact h.elim
def rdIndexL0 : Dt → List Dt → GD → KD → Prop := fun x ds G Q => match x, ds with
  | .ref i, [d] => match cellL G i with
    | some xs => flatD d = true ∧ xs.all flatD = true ∧ (xs.findIdx fun z => eqF z d) < xs.length ∧ Q (.int (xs.findIdx fun z => eqF z d : Nat)) G
    | none => False
  | _, _ => False
structure rdIndexL (x : Dt) (ds : List Dt) (G : GD) (Q : KD) : Prop where
  p : rdIndexL0 x ds G Q
theorem rdIndexL_eq {x : Dt} {ds : List Dt} {G : GD} {Q : KD} : rdIndexL x ds G Q = rdIndexL0 x ds G Q := propext ⟨fun h => h.p, fun h => ⟨h⟩⟩
theorem rdIndexL_of {i : Nat} {xs : List Dt} {d : Dt} {G : GD} {Q : KD} (e : cellL G i = some xs) (h1 : flatD d = true) (h2 : xs.all flatD = true) (h3 : (xs.findIdx fun z => eqF z d) < xs.length) (hq : Q (.int (xs.findIdx fun z => eqF z d : Nat)) G) : rdIndexL (.ref i) [d] G Q := by
  rw [rdIndexL_eq]; unfold rdIndexL0
  simp only [e]
  exact ⟨h1, h2, h3, hq⟩
theorem rdIndexL_at {i n : Nat} {xs : List Dt} {d : Dt} {G : GD} {Q : KD} (e : cellL G i = some xs) (h1 : flatD d = true) (h2 : xs.all flatD = true) (h3 : (xs.findIdx fun z => eqF z d) = n) (hn : n < xs.length) (hq : Q (.int (n : Nat)) G) : rdIndexL (.ref i) [d] G Q := by
  refine rdIndexL_of e h1 h2 (by rw [h3]; exact hn) ?_
  rw [h3]
  exact hq
theorem lm_indexL {K : PySem.W.Frag} : LMR K (rIndexL K) rdIndexL := by
  intro G H ι d ds v vs Q Qv hG r rs h hq
  replace h := h.p; unfold rdIndexL0 at h
  split at h
  · rename_i i y
    obtain ⟨a, e, q⟩ := r
    subst e
    obtain ⟨u, e2, ru⟩ := rps1 rs
    subst e2
    split at h
    · rename_i xs ex
      obtain ⟨ws, s, rr⟩ := cellL_sq hG q ex
      obtain ⟨h1, h2, h3, h4⟩ := h
      refine ⟨a, ws, u, rfl, rfl, s, flat_rp h1 ru, flats_rp h2 rr, ?_, ?_⟩
      · rw [findIdx_rp h1 ru h2 rr, ← rr.len]; exact h3
      · rw [findIdx_rp h1 ru h2 rr]
        exact hq _ H (.int _) G ι hG Gr.refl rfl h4
    · exact h.elim
  · exact h.elim
theorem de_count {apos cpos : Pos} (ho : DE X F o to) (ha : DA X F [e] t)
    (hbase : attributeBase o "count" X.env (eval o X.env) = eval o X.env := by rfl)
    (hfew : ((backTo cpos (starEach [e] X.env)).all (fun x => !x.1) && (backToKw cpos (keywordEach [] X.env)).all (fun x => x.1.isSome)
      && decide (([e] : List Expr).length + ([] : List Keyword).length + (if ([] : List Keyword).isEmpty then 0 else 1) < 30)) = true := by rfl)
    (hline : (apos.endLine == cpos.line) = true := by rfl) (hs : starEach [e] X.env = (false, eval e X.env) :: starEach [] X.env := by exact star_cons rfl) (hplain : (backTo cpos (starEach [] X.env)).any (·.1) = false := by exact back_any rfl) :
    DE X F (.Call (.Attribute o "count" apos) [e] [] cpos) (dBM isTupD rdCount to t) :=
  de_bm PySem.F.plainAttrs_tuple PySem.F.slot_tuple_count PySem.F.type_tuple_count mt_count lm_count isTupD_ty ho ha hbase hfew hline hs hplain
theorem de_count' {apos cpos : Pos} (ho : DE' X F o to) (ha : DA' X F [e] t)
    (hbase : attributeBase o "count" X.env (eval o X.env) = eval o X.env := by rfl)
    (hfew : ((backTo cpos (starEach [e] X.env)).all (fun x => !x.1) && (backToKw cpos (keywordEach [] X.env)).all (fun x => x.1.isSome)
      && decide (([e] : List Expr).length + ([] : List Keyword).length + (if ([] : List Keyword).isEmpty then 0 else 1) < 30)) = true := by rfl)
    (hline : (apos.endLine == cpos.line) = true := by rfl) (hs : starEach [e] X.env = (false, eval e X.env) :: starEach [] X.env := by exact star_cons rfl) (hplain : (backTo cpos (starEach [] X.env)).any (·.1) = false := by exact back_any rfl) : DE' X F (.Call (.Attribute o "count" apos) [e] [] cpos) (dBM isTupD rdCount to t) :=
  ⟨de_count (ho := ho.p) (ha := ha.p) (hbase := hbase) (hfew := hfew) (hline := hline) (hs := hs) (hplain := hplain)⟩
theorem de_indexL {apos cpos : Pos} (ho : DE X F o to) (ha : DA X F [e] t)
    (hbase : attributeBase o "index" X.env (eval o X.env) = eval o X.env := by rfl)
    (hfew : ((backTo cpos (starEach [e] X.env)).all (fun x => !x.1) && (backToKw cpos (keywordEach [] X.env)).all (fun x => x.1.isSome)
      && decide (([e] : List Expr).length + ([] : List Keyword).length + (if ([] : List Keyword).isEmpty then 0 else 1) < 30)) = true := by rfl)
    (hline : (apos.endLine == cpos.line) = true := by rfl) (hs : starEach [e] X.env = (false, eval e X.env) :: starEach [] X.env := by exact star_cons rfl) (hplain : (backTo cpos (starEach [] X.env)).any (·.1) = false := by exact back_any rfl) :
    DE X F (.Call (.Attribute o "index" apos) [e] [] cpos) (dBM isLstD rdIndexL to t) :=
  de_bm PySem.F.plainAttrs_list PySem.F.slot_list_index PySem.F.type_list_index mt_indexL lm_indexL isLstD_ty ho ha hbase hfew hline hs hplain
theorem de_indexL' {apos cpos : Pos} (ho : DE' X F o to) (ha : DA' X F [e] t)
    (hbase : attributeBase o "index" X.env (eval o X.env) = eval o X.env := by rfl)
    (hfew : ((backTo cpos (starEach [e] X.env)).all (fun x => !x.1) && (backToKw cpos (keywordEach [] X.env)).all (fun x => x.1.isSome)
      && decide (([e] : List Expr).length + ([] : List Keyword).length + (if ([] : List Keyword).isEmpty then 0 else 1) < 30)) = true := by rfl)
    (hline : (apos.endLine == cpos.line) = true := by rfl) (hs : starEach [e] X.env = (false, eval e X.env) :: starEach [] X.env := by exact star_cons rfl) (hplain : (backTo cpos (starEach [] X.env)).any (·.1) = false := by exact back_any rfl) : DE' X F (.Call (.Attribute o "index" apos) [e] [] cpos) (dBM isLstD rdIndexL to t) :=
  ⟨de_indexL (ho := ho.p) (ha := ha.p) (hbase := hbase) (hfew := hfew) (hline := hline) (hs := hs) (hplain := hplain)⟩
end
end DL
namespace L2
open PySem PySem.Spec PyProof.Rows
/-! ### a comprehension with one name of its own that a block within it reads -/
section
variable {M : Model} {A : Around} {E : Value → Shared → Prop} {s : Shared}
theorem newEnv1 {scope : Scope} {cl : List (Str × Addr)} {env : Env} {z : Str} {Q : Env → Shared → Prop} (hcf : ∀ n acc, cellsFrom n scope.names acc = (z, n) :: acc) (hpc : ∀ h : Heap, pushCells h scope.names = h.push { cls := .type "cell", data := .cell none })
    (h : ∀ h4 : Heap, h4.Ns s.heap.objs.size (fun _ => none) → (∀ b o, s.heap.get? b = some o → h4.get? b = some o) → h4.IsCell (s.heap.objs.size + 1) none →
      Q { scope := scope, locals := s.heap.objs.size, globals := env.globals, cells := (z, s.heap.objs.size + 1) :: cl, qual := env.qual, func := none, code := env.code, frame := env.frame, builtins := env.builtins } { s with heap := h4 }) :
    wpAny M A (newFunctionEnv scope env.globals cl [] env.qual none .none (some env)) Q E s := by
  simp only [newFunctionEnv, Option.isSome_some, if_true]
  refine wpAny_bind (wpAny_alloc ?_)
  refine wpAny_bind (wpAny_layCells _ (fun name kind cells => by cases hkc : kind == NameKind.cell <;> simp [hkc]) _ _ _ _ ?_)
  have hz : (s.heap.push { cls := .type "dict", data := .dict #[] }).objs.size = s.heap.objs.size + 1 := Heap.size_push ..
  simp only [List.forIn_nil]
  rw [hpc]
  refine wpAny_bind (wpAny_pure (wpAny_pure ?_))
  have := h ((s.heap.push { cls := .type "dict", data := .dict #[] }).push { cls := .type "cell", data := .cell none })
    ((Heap.Ns.new s.heap (.type "dict")).keeps fun b o e => Heap.get?_push_of_some _ e) (fun b o e => Heap.get?_push_of_some _ (Heap.get?_push_of_some _ e))
    ⟨_, by rw [← hz]; exact Heap.get?_push_size _ rfl, rfl⟩
  rw [hcf]
  simp only [hz]
  exact this
end
abbrev cmpX1 (X : Cx) (scope : Scope) (cl : List (Str × Addr)) (z : Str) (N' : List Str) (C : Addr) (s₀ : Shared) (H₀ : Hp) (ex : List Addr) (pn : List (Addr × Obj)) : Cx where
  prog := X.prog
  w := X.w
  K := X.K
  mg := X.mg
  base := X.base
  A := X.A
  N := N'
  s₀ := s₀
  H₀ := H₀
  env := compEnvC scope ((z, C + 1) :: cl) C X.env
  outer := X.stack
  stack := X.stack
  ex := ex
  fn := fun y => (cl.lookup y).isNone
  calm := X.calm
  pn := pn
  xe := fun _ _ => False
structure CmpOk1 (X : Cx) (scope : Scope) (cl : List (Str × Addr)) (z : Str) (N' : List Str) (caps : List (Option Nat)) : Prop where
  clos : closureFor scope X.env = pure cl
  hcf : ∀ n acc, cellsFrom n scope.names acc = (z, n) :: acc
  hpc : ∀ h : Heap, pushCells h scope.names = h.push { cls := .type "cell", data := .cell none }
  kind : scope.kind = .function
  names : ∀ y ∈ scope.names, y.2 = .local → scope.names.lookup y.1 = some .local
  lenN : N'.length = caps.length
  capN : ∀ (i j : Nat) (x : Str), caps[i]? = some (some j) → N'[i]? = some x → X.N[j]? = some x ∧ Vis X.env.scope x ∧ X.env.kindOf x ≠ some .local ∧ (relabel scope X.env).names.lookup x ≠ some .local ∧ x ≠ z ∧ ∃ c, cl.lookup x = some c ∧ X.env.cells.lookup x = some c
  cls : ∀ x c, cl.lookup x = some c → X.env.cells.lookup x = some c
  has : ∀ x, ((relabel scope X.env).names.lookup x = some .cell ∨ (relabel scope X.env).names.lookup x = some .free) → x = z ∨ ∃ c, cl.lookup x = some c
theorem pe_comp1 {X : Cx} {z : Str} {elt tg iter : Expr} {ifs : List Expr} {scope : Scope} {cl : List (Str × Addr)} {N' : List Str} {caps : List (Option Nat)} {pos : Pos} {wi : TI} {g : TG} {tif : TT} {te : TE} (c : CmpOk1 X scope cl z N' caps) (hcalm : X.calm = true) (hi : PI X tg iter wi)
    (hg : ∀ C s₀ H₀ ex pn, PG (cmpX1 X scope cl z N' C s₀ H₀ ex pn) tg g) (hf : ∀ C s₀ H₀ ex pn, PIf (cmpX1 X scope cl z N' C s₀ H₀ ex pn) ifs tif) (he : ∀ C s₀ H₀ ex pn, PE (cmpX1 X scope cl z N' C s₀ H₀ ex pn) elt te)
    (hs : ∀ x, foldedSetIterable iter X.env x = pure x := by intro _; rfl) : PE X (.ListComp elt [⟨tg, iter, ifs, 0⟩] scope pos) (tComp wi caps g tif te) := by
  intro pins s σ H Q I h
  rw [eval_ListComp]
  refine wpAny_comprehension_free (use := none) rfl hs c.clos c.kind c.names (thn (hi pins s σ H _ I h) fun v s1 h1 => thn h1 fun itv s2 h2 => ?_)
  obtain ⟨it, fp, tn, J, H2, e, I2, T, st2, f2, q2⟩ := h2
  subst e
  have hD := I2.hok.fresh (Nat.le_refl s2.heap.objs.size)
  obtain ⟨W, ⟨m0, w0⟩, turn⟩ := q2 s2.heap.objs.size hD
  refine wpAny_newObj_type ?_
  -- behind the new list
  have I3 : Inv X pins σ (upd H2 s2.heap.objs.size (.lst [])) { s2 with heap := s2.heap.push { cls := .type "list", dict := none, data := .seq ([] : List Value).toArray } } := I2.lnew (t' := s2.toks) (ys := []) .nil (Nat.zero_le _)
  generalize hs3 : ({ s2 with heap := s2.heap.push { cls := .type "list", dict := none, data := .seq ([] : List Value).toArray } } : Shared) = s3 at I3 ⊢
  generalize hH3 : upd H2 s2.heap.objs.size (.lst []) = H3 at I3 w0 ⊢
  have st3 : tn 0 s3.heap := T.keep _ _ _ st2 fun b _ o e => by rw [← hs3]; exact Heap.get?_push_of_some _ e
  refine newEnv1 c.hcf c.hpc fun h4 hns kp4 hz4 => ?_
  have s23 : ∀ b o, s2.heap.get? b = some o → s3.heap.get? b = some o := fun b o e => by rw [← hs3]; exact Heap.get?_push_of_some _ e
  have fplt : ∀ b ∈ fp, b < s3.heap.objs.size := fun b hb => by
    obtain ⟨o, e, _⟩ := T.obj _ _ st2 b hb
    exact Heap.lt_size (s23 b o e)
  have fpst : ∀ b ∈ fp, b ∉ frs X.stack := fun b hb z => by
    obtain ⟨_, f1, f3, _⟩ := f2 b hb
    rcases List.mem_cons.mp (I2.stkSub b z) with q | q
    · exact f1 q
    · exact f3 q
  have celk : ∀ {x : Str} {a : Addr}, cl.lookup x = some a → X.env.cells.lookup x = some a := fun h => c.cls _ _ h
  have celC : ∀ {x : Str} {a : Addr}, X.env.cells.lookup x = some a → a < s3.heap.objs.size := fun {x a} h => by
    obtain ⟨v, q⟩ := I3.cell x a h
    exact q.lt
  have isc : ∀ {a : Addr} {v : Option Value}, s3.heap.IsCell a v → h4.IsCell a v := fun {a v} ⟨o, e, d⟩ => ⟨o, kp4 _ _ e, d⟩
  have lkz : ∀ {x : Str} {a : Addr}, List.lookup x ((z, s3.heap.objs.size + 1) :: cl) = some a → (x = z ∧ a = s3.heap.objs.size + 1) ∨ (x ≠ z ∧ cl.lookup x = some a) := fun {x a} e => by
    by_cases hx : x = z
    · subst hx
      rw [List.lookup_cons_self] at e
      cases e
      exact .inl ⟨rfl, rfl⟩
    · rw [List.lookup_cons, (beq_eq_false_iff_ne.mpr hx : (x == z) = false)] at e
      exact .inr ⟨hx, e⟩
  have zof : ∀ {x : Str} {a : Addr}, x ≠ z → cl.lookup x = some a → List.lookup x ((z, s3.heap.objs.size + 1) :: cl) = some a := fun {x a} hx e => by
    rw [List.lookup_cons, (beq_eq_false_iff_ne.mpr hx : (x == z) = false)]; exact e
  have stat : ∀ {H' : Hp}, (∀ b ∈ fp, H' b = none) → ∀ b ∈ fp, FpOk (cmpX1 X scope cl z N' s3.heap.objs.size s3 H3 fp (X.pn ++ pins)) [] H' b := fun hn b hb => by
    obtain ⟨_, f1, f3, f4, f5, f6⟩ := f2 b hb
    refine ⟨hn b hb, Nat.ne_of_lt (fplt b hb), fpst b hb, .inl hb, fun x a e => ?_, fun p hp => ?_⟩
    · rcases lkz e with ⟨_, rfl⟩ | ⟨_, e⟩
      · exact Nat.ne_of_gt (Nat.lt_succ_of_lt (fplt b hb))
      · exact f5 x a (celk e)
    have hp' : p ∈ X.pn ++ pins := by simpa using hp
    exact f6 p hp'
  have I4 : Inv (cmpX1 X scope cl z N' s3.heap.objs.size s3 H3 fp (X.pn ++ pins)) [] (capt caps σ) H3 { s3 with heap := h4 } := by
    refine ⟨⟨I3.ok.mod, c.kind, I3.ok.glob, I3.ok.blt, Nat.le_refl _, fun x y a e1 e2 => ?_, fun x hx => ?_, fun x a hf e => ?_, I3.ok.hd, I3.ok.frames, .inl rfl, fun b hb => ⟨Nat.ne_of_lt (fplt b hb), fun x a e => ?_⟩,
      I3.bs, Nat.le_trans I3.ok.bsz I3.sz, fun b o e hb => ?_, fpst, I3.stack, I3.stkFree⟩, rfl, I3.bare, Un.kept kp4, ⟨_, hns, fun i x v e1 e2 e3 => ?_⟩, fun x a e => ?_, I3.hok.fresh (Nat.le_refl _), fun x a e => ?_, fun p hp => ?_, I3.hok.kept kp4, ?_⟩
    · rcases lkz e1 with ⟨rfl, q1⟩ | ⟨n1, q1⟩ <;> rcases lkz e2 with ⟨rfl, q2⟩ | ⟨n2, q2⟩
      · rfl
      · exact absurd (celC (celk q2)) (by rw [q1]; exact Nat.not_lt.mpr (Nat.le_succ _))
      · exact absurd (celC (celk q1)) (by rw [q2]; exact Nat.not_lt.mpr (Nat.le_succ _))
      · exact I3.ok.inj x y a (celk q1) (celk q2)
    · rcases c.has x hx with rfl | ⟨a, e⟩
      · exact ⟨_, List.lookup_cons_self⟩
      · by_cases hz : x = z
        · subst hz; exact ⟨_, List.lookup_cons_self⟩
        · exact ⟨a, zof hz e⟩
    · rcases lkz e with ⟨_, rfl⟩ | ⟨_, e'⟩
      · exact Nat.le_succ _
      · have hf' : (cl.lookup x).isNone = true := hf
        rw [e'] at hf'
        cases hf'
    · rcases lkz e with ⟨_, rfl⟩ | ⟨_, e⟩
      · exact Nat.ne_of_gt (Nat.lt_succ_of_lt (fplt b hb))
      · exact (f2 b hb).2.2.2.2.1 x a (celk e)
    · rcases (f2 b hb).2.2.2.1 with z | z
      · exact I3.ok.noex b o e z
      · exact absurd (Nat.lt_of_lt_of_le (Heap.lt_size e) (Nat.le_trans I3.ok.bsz z)) (Nat.lt_irrefl _)
    · unfold capt at e2
      rw [List.getElem?_map] at e2
      cases ec : caps[i]? with
      | none => rw [ec] at e2; cases e2
      | some cj =>
        rw [ec] at e2
        cases cj with
        | none => cases e2
        | some j =>
          have e2' : (σ[j]?).join = some v := Option.some.inj e2
          have ej : σ[j]? = some (some v) := by
            cases ex : σ[j]? with
            | none => rw [ex] at e2'; cases e2'
            | some o => rw [ex] at e2'; have : o = some v := e2'; rw [this]
          obtain ⟨n1, n2, n3, n4, n7, a, n5, n6⟩ := c.capN i j x ec e1
          obtain ⟨m0, hn0, hl0⟩ := I3.loc
          obtain ⟨u, ru, lk⟩ := hl0 j x v n1 ej n2
          refine ⟨u, ru, ?_⟩
          rcases lk with ⟨k1, _⟩ | ⟨_, a', k2, k3⟩
          · exact absurd k1 n3
          · rw [n6] at k2
            cases k2
            refine .inr ⟨?_, a, zof n7 n5, isc k3⟩
            rcases e3 with z | z
            · exact absurd z n4
            · exact z
    · rcases lkz e with ⟨_, rfl⟩ | ⟨_, e⟩
      · exact ⟨none, hz4⟩
      · obtain ⟨v, q⟩ := I3.cell x a (celk e)
        exact ⟨v, isc q⟩
    · rcases lkz e with ⟨_, rfl⟩ | ⟨_, e⟩
      · exact I3.hok.fresh (Nat.le_succ _)
      · exact I3.freeC x a (celk e)
    · have hp' : p ∈ X.pn ++ pins := by simpa using hp
      obtain ⟨p1, p2, p3, p4, p5⟩ := I3.pin p hp'
      refine ⟨kp4 _ _ p1, p2, Nat.ne_of_lt (Heap.lt_size p1), fun z => ?_, p5⟩
      rcases List.mem_cons.mp (I3.stkSub _ z) with q | q
      · exact p3 q
      · exact p4 q
    · show (capt caps σ).length = N'.length
      unfold capt
      rw [List.length_map, c.lenN]
  -- back to the outer body
  have back : ∀ {σ' : St} {H' : Hp} {s' : Shared} (h' : Heap), Inv (cmpX1 X scope cl z N' s3.heap.objs.size s3 H3 fp (X.pn ++ pins)) [] σ' H' s' → Heap.SameBut s3.heap.objs.size s'.heap h' → Inv X pins σ H' { s' with heap := h' } := fun {σ' H' s'} h' J hsb => by
    have J1 : Inv X pins σ H' s' := Inv.call' (ch := fp) I3 J.os J.base J.hok J.bare fun b hb => by
      obtain ⟨_, f1, f3, f4, f5, f6⟩ := f2 b hb
      exact ⟨f4, f1, f5, f6⟩
    refine J1.turned (t' := s'.toks) (it := s3.heap.objs.size) (fun b o hb e => hsb.extBut b o hb e) J.free (Nat.ne_of_gt I3.lt) (.inr I3.sz) (fun x a e z => ?_) fun p hp z => ?_
    · exact absurd (celC e) (by rw [z]; exact Nat.lt_irrefl _)
    · exact absurd (Heap.lt_size (I3.pin p hp).1) (by rw [z]; exact Nat.lt_irrefl _)
  have st4 : tn 0 h4 := T.keep _ _ _ st3 fun b _ o e => kp4 b o e
  have fr3 : ∀ b ∈ fp, H3 b = none := fun b hb => by
    rw [← hH3, upd_ne]
    · exact (f2 b hb).1
    · obtain ⟨o, e, _⟩ := T.obj _ _ st2 b hb
      exact Nat.ne_of_lt (Heap.lt_size e)
  have loop : ∀ s4 : Shared, s4 = { s3 with heap := h4 } →
      codeAny (model X.prog X.w) X.A (.compLoop (.ListComp elt [⟨tg, iter, ifs, 0⟩] scope pos) 0 (.ref it) (.ref s2.heap.objs.size) (compEnvC scope ((z, s3.heap.objs.size + 1) :: cl) s3.heap.objs.size X.env))
        (compPost (model X.prog X.w) X.A X.xe none (EP X pins σ Q) (.ref s2.heap.objs.size) s3.heap.objs.size) s4 := by
    rintro s4 rfl
    refine compLoop_any (fun n s => ∃ i σ' H, Inv (cmpX1 X scope cl z N' s3.heap.objs.size s3 H3 fp (X.pn ++ pins)) [] σ' H s ∧ tn i s.heap ∧ (∀ b ∈ fp, H b = none) ∧ W i n σ' H) ?_ m0 ⟨0, capt caps σ, H3, I4, st4, fr3, w0⟩
    rintro n s5 ⟨i, σ5, H5, I5, st5, fr5, w5⟩
    rcases turn i n σ5 H5 w5 with ⟨stop, q5⟩ | ⟨go, step⟩
    · refine thn (T.done (cmpX1 X scope cl z N' s3.heap.objs.size s3 H3 fp (X.pn ++ pins)) rfl rfl rfl hcalm i [] s5 σ5 H5 (fun _ _ => False) I5 (stat fr5) st5 stop) fun r s6 ⟨hr, I6⟩ => ?_
      subst hr
      obtain ⟨m6, hn6, _⟩ := I6.loc
      exact ⟨m6, hn6, fun h' hsb' => ⟨.ref s2.heap.objs.size, H5, back h' I6 hsb', rfl, q5⟩⟩
    · refine thn (T.item (cmpX1 X scope cl z N' s3.heap.objs.size s3 H3 fp (X.pn ++ pins)) rfl rfl rfl hcalm i [] s5 σ5 H5 (fun _ _ => False) I5 (stat fr5) st5 go) fun r s6 ⟨u, hr, h6⟩ => ?_
      subst hr
      refine thn h6 fun _ s7 ⟨x, H7, I7, r7, y7, st7, fr7⟩ => ?_
      have I7' := I7.pinned (stat fr7) (T.obj _ _ st7)
      refine thn (hg _ _ _ _ _ _ s7 σ5 H7 x u _ I7' r7 (step x H7 y7)) fun _ s8 ⟨σ8, H8, I8, q8⟩ => ?_
      refine thn (hf _ _ _ _ _ _ s8 σ8 H8 _ I8 q8) fun ok s9 ⟨H9, I9, q9⟩ => ?_
      have again : ∀ {s' : Shared} {m' : Nat} {σ' : St} {H' : Hp}, Inv (cmpX1 X scope cl z N' s3.heap.objs.size s3 H3 fp (X.pn ++ pins)) ([] ++ pinsAt fp s7.heap) σ' H' s' → m' < n → W (i + 1) m' σ' H' →
          ∃ m, m < n ∧ ∃ i σ' H, Inv (cmpX1 X scope cl z N' s3.heap.objs.size s3 H3 fp (X.pn ++ pins)) [] σ' H s' ∧ tn i s'.heap ∧ (∀ b ∈ fp, H b = none) ∧ W i m σ' H := fun {s' m' σ' H'} J hm hw => by
        refine ⟨m', hm, i + 1, σ', H', J.unpinned, T.keep _ _ _ st7 fun b hb o e => (J.pin (b, o) (List.mem_append_right _ (List.mem_append_right _ (mem_pinsAt hb e)))).1, fun b hb => ?_, hw⟩
        obtain ⟨o, e, d⟩ := T.obj _ _ st7 b hb
        exact (J.pin (b, o) (List.mem_append_right _ (List.mem_append_right _ (mem_pinsAt hb e)))).2.1
      cases ok with
      | false =>
        rw [if_neg Bool.false_ne_true] at q9 ⊢
        obtain ⟨m', hm, hw⟩ := q9
        exact again I9 hm hw
      | true =>
        rw [if_pos rfl] at q9 ⊢
        refine thn (he _ _ _ _ _ _ s9 σ8 H9 _ I9 q9) fun uy s10 ⟨y, H10, I10, ry, acc, hD10, hlen, m', hm, hw⟩ => ?_
        refine thn (mt_append _ s10 σ8 H10 (.ref s2.heap.objs.size) [y] (.ref s2.heap.objs.size) [uy] (fun v H' => v = .non ∧ H' = upd H10 s2.heap.objs.size (.lst (acc ++ [y]))) I10 rfl (.cons ry .nil) ⟨_, acc, y, rfl, rfl, hD10, hlen, rfl, rfl⟩) fun _ s11 ⟨v11, H11, I11, r11, e11, e12⟩ => ?_
        subst e12
        exact again I11 hm hw
  exact codeAny_compStart_list (loop _ rfl) (T.self _ 0 _ _ _ st4 (loop _ rfl))
end L2

namespace DL
open PySem PySem.Spec L2
open PyProof.Rows hiding St
theorem de_comp1 {X : Cx} {z : Str} {F : Fx} {elt tg iter : Expr} {ifs : List Expr} {scope : Scope} {cl : List (Str × Addr)} {N' : List Str} {caps : List (Option Nat)} {pos : Pos} {ti : TDI} {g : TDG} {tif : TDT} {te : TDE} (c : CmpOk1 X scope cl z N' caps) (hi : DI X F tg iter ti)
    (hg : ∀ C s₀ H₀ ex pn F, DG (cmpX1 X scope cl z N' C s₀ H₀ ex pn) F tg g) (hf : ∀ C s₀ H₀ ex pn F, DIf (cmpX1 X scope cl z N' C s₀ H₀ ex pn) F ifs tif) (he : ∀ C s₀ H₀ ex pn F, DE (cmpX1 X scope cl z N' C s₀ H₀ ex pn) F elt te) (hcalm : X.calm = true := by rfl)
    (hs : ∀ x, foldedSetIterable iter X.env x = pure x := by intro _; rfl) : DE X F (.ListComp elt [⟨tg, iter, ifs, 0⟩] scope pos) (dComp ti caps g tif te) := by
  exact PE.imp (pe_comp1 (g := exG X.K g) (tif := exT X.K tif) (te := exE X.K te) c hcalm hi (fun C s₀ H₀ ex pn pins s σ H v u Q I r ⟨F, q⟩ => hg C s₀ H₀ ex pn F pins s σ H v u Q I r q)
    (fun C s₀ H₀ ex pn pins s σ H Q I ⟨F, q⟩ => hf C s₀ H₀ ex pn F pins s σ H Q I q) (fun C s₀ H₀ ex pn pins s σ H Q I ⟨F, q⟩ => he C s₀ H₀ ex pn F pins s σ H Q I q) hs) fun σ H Qv h => comp_li h
theorem de_comp1' {X : Cx} {z : Str} {F : Fx} {elt tg iter : Expr} {ifs : List Expr} {scope : Scope} {cl : List (Str × Addr)} {N' : List Str} {caps : List (Option Nat)} {pos : Pos} {ti : TDI} {g : TDG} {tif : TDT} {te : TDE} (c : CmpOk1 X scope cl z N' caps) (hi : DI' X F tg iter ti)
    (hg : ∀ C s₀ H₀ ex pn F, DG' (cmpX1 X scope cl z N' C s₀ H₀ ex pn) F tg g) (hf : ∀ C s₀ H₀ ex pn F, DIf' (cmpX1 X scope cl z N' C s₀ H₀ ex pn) F ifs tif) (he : ∀ C s₀ H₀ ex pn F, DE' (cmpX1 X scope cl z N' C s₀ H₀ ex pn) F elt te) (hcalm : X.calm = true := by rfl)
    (hs : ∀ x, foldedSetIterable iter X.env x = pure x := by intro _; rfl) : DE' X F (.ListComp elt [⟨tg, iter, ifs, 0⟩] scope pos) (dComp ti caps g tif te) :=
  ⟨de_comp1 (c := c) (hi := hi.p) (hg := fun C s₀ H₀ ex pn F => (hg C s₀ H₀ ex pn F).p) (hf := fun C s₀ H₀ ex pn F => (hf C s₀ H₀ ex pn F).p) (he := fun C s₀ H₀ ex pn F => (he C s₀ H₀ ex pn F).p) (hcalm := hcalm) (hs := hs)⟩
end DL
namespace DL
open PySem PySem.Spec L2
open PyProof.Rows hiding St
/-! ### facts for a walk by hand -/
theorem at_last {G : GD} {c : Cl} : (G ++ [c])[G.length]? = some c := by simp
theorem at_prev {G : GD} {c d : Cl} {i : Nat} (h : G[i]? = some c) : (G ++ [d])[i]? = some c := by
  rw [List.getElem?_append_left (by have := (List.getElem?_eq_some_iff.mp h).1; exact this)]
  exact h
theorem at_more {G J : GD} {c : Cl} {i : Nat} (h : G[i]? = some c) : (G ++ J)[i]? = some c := by
  rw [List.getElem?_append_left (by have := (List.getElem?_eq_some_iff.mp h).1; exact this)]
  exact h
theorem at_set {G : GD} {c d : Cl} {i : Nat} (h : G[i]? = some c) : (G.set i d)[i]? = some d := by
  have := (List.getElem?_eq_some_iff.mp h).1
  simp [this]
theorem at_set_ne {G : GD} {c d : Cl} {i j : Nat} (h : G[j]? = some c) (hn : i ≠ j) : (G.set i d)[j]? = some c := by
  rw [List.getElem?_set_ne hn]; exact h
theorem len_lst {G : GD} {k : Nat} {xs : List Dt} (h : G[k]? = some (.lst xs)) : lenD G (.ref k) = some xs.length := by simp only [lenD, h]
theorem atD_lst {G : GD} {k : Nat} {i : Int} {xs : List Dt} (h : G[k]? = some (.lst xs)) : atD G (.ref k) (.int i) = atI xs i := by simp only [atD, h]
theorem cell_lst {G : GD} {k : Nat} {xs : List Dt} (h : G[k]? = some (.lst xs)) : cellL G k = some xs := by simp only [cellL, h]
/-- cells have come, none of the old has changed -/
def Grw (G G' : GD) : Prop := ∃ J, G' = G ++ J
theorem Grw.refl {G : GD} : Grw G G := ⟨[], by simp⟩
theorem Grw.push {G G' : GD} {c : Cl} (h : Grw G G') : Grw G (G' ++ [c]) := by
  obtain ⟨J, rfl⟩ := h
  exact ⟨J ++ [c], by simp⟩
theorem Grw.more {G G' J : GD} (h : Grw G G') : Grw G (G' ++ J) := by
  obtain ⟨J', rfl⟩ := h
  exact ⟨J' ++ J, by simp⟩
theorem Grw.len {G G' : GD} (h : Grw G G') : G.length ≤ G'.length := by
  obtain ⟨J, rfl⟩ := h
  simp
theorem Grw.trans {G G1 G2 : GD} (a : Grw G G1) (b : Grw G1 G2) : Grw G G2 := by
  obtain ⟨J, rfl⟩ := a
  obtain ⟨J', rfl⟩ := b
  exact ⟨J ++ J', by simp⟩
theorem Grw.set {G G' : GD} {c : Cl} {i : Nat} (h : Grw G G') (hi : G.length ≤ i) : Grw G (G'.set i c) := by
  obtain ⟨J, rfl⟩ := h
  exact ⟨J.set (i - G.length) c, by rw [List.set_append_right _ _ hi]⟩
theorem Grw.at {G G' : GD} {c : Cl} {i : Nat} (h : Grw G G') (e : G[i]? = some c) : G'[i]? = some c := by
  obtain ⟨J, rfl⟩ := h
  exact at_more e
theorem Grw.take {G G' : GD} (h : Grw G G') : G'.take G.length = G := by
  obtain ⟨J, rfl⟩ := h
  simp
theorem cellNe {o : Option NameKind} (h : o = some .cell) : o ≠ some .local := by rw [h]; exact fun z => nomatch z
/-- a loop by its invariant -/
theorem lp_ind {n0 : Nat} {g : TDG} {tb : TDS} {D : EndsD} {W : GD → Prop} (I : List Dt → SD → GD → Prop) (h0 : ∀ σ G, I [] σ G → W G ∧ D.nx σ G)
    (h1 : ∀ d r (K : SD → GD → Prop), (∀ σ G, I r σ G → K σ G) → ∀ σ G, I (d :: r) σ G → W G ∧ g d σ G fun σ2 G2 => tb { D with nx := Wk n0 K, ct := Wk n0 K, bk := D.nx } σ2 G2) : ∀ ds σ G, I ds σ G → lp n0 g tb D W ds σ G := by
  intro ds
  induction ds with
  | nil => exact fun σ G h => h0 σ G h
  | cons d r ih => exact fun σ G h => h1 d r _ ih σ G h
theorem iteFb {c : Bool} {A B : Prop} (h : c = false) (hB : B) : if c = true then A else B := by rw [h]; exact iteF hB
theorem iteTb {c : Bool} {A B : Prop} (h : c = true) (hA : A) : if c = true then A else B := by rw [h]; exact iteT hA
theorem set_at {G J : GD} {c d : Cl} : (G ++ [c] ++ J).set G.length d = G ++ [d] ++ J := by
  rw [List.append_assoc, List.set_append_right _ _ (Nat.le_refl _)]
  simp
theorem get_at {G J : GD} {c : Cl} : (G ++ [c] ++ J)[G.length]? = some c := at_more at_last
/-- a comprehension whose test and element make no cells -/
theorem comp0 {tif : TDT} {te : TDE} {W : GD → Prop} {Q : KD} {G : GD} {cap : SD} (p : Dt → Bool) (f : Dt → Dt) (hW : ∀ acc, W (G ++ [.lst acc])) : ∀ (ds acc : List Dt) (s0 : Option Dt), acc.length + ds.length < sizeLine →
    (∀ d ∈ ds, ∀ acc (K : Bool → GD → Prop), K (p d) (G ++ [.lst acc]) → tif (some d :: cap) (G ++ [.lst acc]) K) → (∀ d ∈ ds, p d = true → ∀ acc (K : KD), K (f d) (G ++ [.lst acc]) → te (some d :: cap) (G ++ [.lst acc]) K) →
    Q (.ref G.length) (G ++ [.lst (acc ++ (ds.filter p).map f)]) → lpc G.length (dgName 0) tif te W Q ds (s0 :: cap) (G ++ [.lst acc])
  | [], acc, s0, _, _, _, h => ⟨hW acc, by simpa using h⟩
  | d :: ds, acc, s0, hl, h1, h2, h => by
    have hl' : acc.length + (ds.length + 1) < sizeLine := hl
    refine ⟨hW acc, h1 d List.mem_cons_self acc _ ?_⟩
    have r1 := fun x hx => h1 x (List.mem_cons_of_mem _ hx)
    have r2 := fun x hx => h2 x (List.mem_cons_of_mem _ hx)
    cases e : p d with
    | false =>
      rw [List.filter_cons_of_neg (by simp [e])] at h
      exact iteF (Wk.here (comp0 p f hW ds acc _ (by omega) r1 r2 h))
    | true =>
      rw [List.filter_cons_of_pos e, List.map_cons] at h
      refine iteT (h2 d List.mem_cons_self e acc _ (gather_of at_last (by omega) (Wk.here ?_)))
      have := comp0 (tif := tif) (te := te) (cap := cap) (Q := Q) p f hW ds (acc ++ [f d]) (some d) (by rw [List.length_append, List.length_singleton]; omega) r1 r2 (by simpa using h)
      have e2 : (G ++ [Cl.lst acc]).set G.length (.lst (acc ++ [f d])) = G ++ [.lst (acc ++ [f d])] := by
        have := set_at (G := G) (J := []) (c := .lst acc) (d := .lst (acc ++ [f d]))
        simpa using this
      rw [e2]
      exact this
/-- .. that may make cells -/
theorem compG {tif : TDT} {te : TDE} {W : GD → Prop} {Q : KD} {G : GD} {cap : SD} (p : Dt → Bool) (f : Dt → Dt) (hW : ∀ acc J, W (G ++ [.lst acc] ++ J)) : ∀ (ds acc : List Dt) (J : GD) (s0 : Option Dt), acc.length + ds.length < sizeLine →
    (∀ d ∈ ds, ∀ acc J (K : Bool → GD → Prop), (∀ J, K (p d) (G ++ [.lst acc] ++ J)) → tif (some d :: cap) (G ++ [.lst acc] ++ J) K) → (∀ d ∈ ds, p d = true → ∀ acc J (K : KD), (∀ J, K (f d) (G ++ [.lst acc] ++ J)) → te (some d :: cap) (G ++ [.lst acc] ++ J) K) →
    (∀ J, Q (.ref G.length) (G ++ [.lst (acc ++ (ds.filter p).map f)] ++ J)) → lpc G.length (dgName 0) tif te W Q ds (s0 :: cap) (G ++ [.lst acc] ++ J)
  | [], acc, J, s0, _, _, _, h => ⟨hW acc J, by simpa using h J⟩
  | d :: ds, acc, J, s0, hl, h1, h2, h => by
    have hl' : acc.length + (ds.length + 1) < sizeLine := hl
    refine ⟨hW acc J, h1 d List.mem_cons_self acc J _ fun J1 => ?_⟩
    have r1 := fun x hx => h1 x (List.mem_cons_of_mem _ hx)
    have r2 := fun x hx => h2 x (List.mem_cons_of_mem _ hx)
    cases e : p d with
    | false =>
      rw [List.filter_cons_of_neg (by simp [e])] at h
      exact iteF (Wk.here (compG p f hW ds acc J1 _ (by omega) r1 r2 h))
    | true =>
      rw [List.filter_cons_of_pos e, List.map_cons] at h
      refine iteT (h2 d List.mem_cons_self e acc J1 _ fun J2 => gather_of get_at (by omega) (Wk.here ?_))
      rw [set_at]
      exact compG p f hW ds (acc ++ [f d]) J2 _ (by rw [List.length_append, List.length_singleton]; omega) r1 r2 (by simpa using h)
theorem rdEq_sT {x : Str} {G : GD} {Q : KD} (hq : Q (.bl true) G) : rdEq false (.str x) (.str x) G Q := rdEq_str (by simpa using hq)
theorem rdEq_sF {a b : String} {G : GD} {Q : KD} (hq : Q (.bl false) G) (h : a ≠ b := by decide) : rdEq false (.str (Str.ofString a)) (.str (Str.ofString b)) G Q := rdEq_str (by simpa [str_inj, h] using hq)
theorem compS {tif : TDT} {te : TDE} {W : GD → Prop} {Q : KD} {G : GD} {cap : SD} (p : Dt → Bool) (f : Dt → Dt) {ds : List Dt} {s0 : Option Dt} (hW : ∀ acc J, W (G ++ [.lst acc] ++ J)) (hl : ds.length < sizeLine)
    (h1 : ∀ d ∈ ds, ∀ acc J (K : Bool → GD → Prop), (∀ J, K (p d) (G ++ [.lst acc] ++ J)) → tif (some d :: cap) (G ++ [.lst acc] ++ J) K) (h2 : ∀ d ∈ ds, p d = true → ∀ acc J (K : KD), (∀ J, K (f d) (G ++ [.lst acc] ++ J)) → te (some d :: cap) (G ++ [.lst acc] ++ J) K)
    (h : ∀ J, Q (.ref G.length) (G ++ [.lst ((ds.filter p).map f)] ++ J)) : lpc G.length (dgName 0) tif te W Q ds (s0 :: cap) (G ++ [.lst []]) := by
  have := compG (tif := tif) (te := te) (Q := Q) (cap := cap) p f hW ds [] [] s0 (by simpa using hl) h1 h2 (by simpa using h)
  simpa using this
theorem comp0S {tif : TDT} {te : TDE} {W : GD → Prop} {Q : KD} {G : GD} {cap : SD} (p : Dt → Bool) (f : Dt → Dt) {ds : List Dt} {s0 : Option Dt} (hW : ∀ acc, W (G ++ [.lst acc])) (hl : ds.length < sizeLine)
    (h1 : ∀ d ∈ ds, ∀ acc (K : Bool → GD → Prop), K (p d) (G ++ [.lst acc]) → tif (some d :: cap) (G ++ [.lst acc]) K) (h2 : ∀ d ∈ ds, p d = true → ∀ acc (K : KD), K (f d) (G ++ [.lst acc]) → te (some d :: cap) (G ++ [.lst acc]) K)
    (h : Q (.ref G.length) (G ++ [.lst ((ds.filter p).map f)])) : lpc G.length (dgName 0) tif te W Q ds (s0 :: cap) (G ++ [.lst []]) :=
  comp0 p f hW ds [] s0 (by simpa using hl) h1 h2 (by simpa using h)
theorem filter_all (ds : List Dt) : ds.filter (fun _ => true) = ds := by simp
theorem mem_rngD {lo : Int} {n : Nat} {d : Dt} (h : d ∈ rngD lo n) : ∃ k : Nat, k < n ∧ d = .int (lo + (k : Nat)) := by
  unfold rngD at h
  rw [List.mem_map] at h
  obtain ⟨k, hk, e⟩ := h
  exact ⟨k, List.mem_range.mp hk, e.symm⟩
theorem rngD_len (lo : Int) (n : Nat) : (rngD lo n).length = n := by simp [rngD]
theorem szlt (k : Nat) (h : k < 1000000) : k < sizeLine := Nat.lt_of_lt_of_le h (by decide)
/-- a loop that keeps a state and looks at each item alone -/
theorem lp_all {n0 : Nat} {g : TDG} {tb : TDS} {D : EndsD} {W : GD → Prop} (R : SD → GD → Prop) (E : Dt → Prop) {ds : List Dt} {σ : SD} {G : GD} (hd : ∀ d ∈ ds, E d) (hs : R σ G) (hW : ∀ σ G, R σ G → W G) (h0 : ∀ σ G, R σ G → D.nx σ G)
    (h1 : ∀ d (K : SD → GD → Prop), E d → (∀ σ G, R σ G → Wk n0 K σ G) → ∀ σ G, R σ G → g d σ G fun σ2 G2 => tb { D with nx := Wk n0 K, ct := Wk n0 K, bk := D.nx } σ2 G2) : lp n0 g tb D W ds σ G :=
  lp_ind (fun ds σ G => (∀ d ∈ ds, E d) ∧ R σ G) (fun σ G h => ⟨hW σ G h.2, h0 σ G h.2⟩) (fun d r K hK σ G h => ⟨hW σ G h.2, h1 d K (h.1 d List.mem_cons_self) (fun σ G hr => Wk.here (hK σ G ⟨fun x hx => h.1 x (List.mem_cons_of_mem _ hx), hr⟩)) σ G h.2⟩) ds σ G ⟨hd, hs⟩
theorem Grw.cell {G G' : GD} {i : Nat} {xs : List Dt} (h : Grw G G') (e : cellL G i = some xs) : cellL G' i = some xs := by
  unfold cellL at e ⊢
  cases q : G[i]? with
  | none => rw [q] at e; cases e
  | some c => rw [q] at e; rw [h.at q]; exact e
theorem szl (k : Nat) (h : k ≤ 1000000 := by decide) : k ≤ sizeLine := Nat.le_trans h (by decide)
section
variable {X : Cx} {F : Fx} {a b : Expr} {ta tb : TDE} {pos : Pos}
theorem de_shl (ha : DE X F a ta) (hb : DE X F b tb) : DE X F (.BinOp a .LShift b pos) (dOp (rdI CPow fun i j => .int (i * 2 ^ j.toNat)) ta tb) := li2 (l2_rI fun _ _ => rfl) (pe_op op_shl ha hb)
theorem de_shl' (ha : DE' X F a ta) (hb : DE' X F b tb) : DE' X F (.BinOp a .LShift b pos) (dOp (rdI CPow fun i j => .int (i * 2 ^ j.toNat)) ta tb) := ⟨de_shl ha.p hb.p⟩
theorem de_shr (ha : DE X F a ta) (hb : DE X F b tb) : DE X F (.BinOp a .RShift b pos) (dOp (rdI (fun _ j => 0 ≤ j) fun i j => .int (i / 2 ^ j.toNat)) ta tb) := li2 (l2_rI fun _ _ => rfl) (pe_op op_shr ha hb)
theorem de_shr' (ha : DE' X F a ta) (hb : DE' X F b tb) : DE' X F (.BinOp a .RShift b pos) (dOp (rdI (fun _ j => 0 ≤ j) fun i j => .int (i / 2 ^ j.toNat)) ta tb) := ⟨de_shr ha.p hb.p⟩
theorem de_band (ha : DE X F a ta) (hb : DE X F b tb) : DE X F (.BinOp a .BitAnd b pos) (dOp (rdI0 fun i j => .int (Builtin.bitAnd i j)) ta tb) := li2 (l2_rI0 fun _ _ => rfl) (pe_op op_and ha hb)
theorem de_band' (ha : DE' X F a ta) (hb : DE' X F b tb) : DE' X F (.BinOp a .BitAnd b pos) (dOp (rdI0 fun i j => .int (Builtin.bitAnd i j)) ta tb) := ⟨de_band ha.p hb.p⟩
end
/-- a loop's turn ends: slots are forgotten, new cells let go -/
theorem Wk.cut {P : SD → GD → Prop} {σ : SD} {G G' : GD} (σ' : SD) (g : Grw G G') (hG : bndG G.length G) (hl : σ'.length = σ.length) (hs : ∀ (i : Nat) (d : Dt), σ'[i]? = some (some d) → σ[i]? = some (some d) ∧ bnd G.length d) (h : P σ' G) : Wk G.length P σ G' := by
  refine .inr ⟨G.length, σ', Nat.le_refl _, hl, hs, ?_, ?_⟩
  · rw [g.take]; exact hG
  · rw [g.take]; exact h
theorem RetD.cut {G G' : GD} {Q : KD} {d : Dt} (g : Grw G G') (hG : bndG G.length G) (hb : bnd G.length d) (h : Q d G) : RetD G Q d G' := by
  obtain ⟨J, rfl⟩ := g
  exact RetD.pure hG hb h
end DL
namespace PySem.SeqAt
open PySem PySem.Spec PySem.W
end PySem.SeqAt
namespace L2
open PySem PySem.Spec PyProof.Rows
end L2
namespace DL
open PySem PySem.Spec L2
open PyProof.Rows hiding St
end DL
namespace L2
open PySem PySem.Spec
open PyProof.Rows hiding St
/-! ### list(range(n)), a <= b < c as a test -/
end L2
namespace DL
open PySem PySem.Spec L2
open PyProof.Rows hiding St
/-! ### comprehensions over pairs: for a, b in .. -/
end DL
/-! sets of small numbers (below 8): the very table, so that they can be walked -/
namespace SS
open PySem
def hsB (b0 b1 b2 b3 b4 b5 b6 b7 : Bool) : List Nat := (List.range 8).filter fun i => [b0, b1, b2, b3, b4, b5, b6, b7].getD i false
def hs (p : Nat → Bool) : List Nat := (List.range 8).filter p
theorem hs_B (p : Nat → Bool) : hs p = hsB (p 0) (p 1) (p 2) (p 3) (p 4) (p 5) (p 6) (p 7) := by
  unfold hs hsB
  apply List.filter_congr
  intro i hi
  have : i < 8 := List.mem_range.mp hi
  match i, this with
  | 0, _ => rfl
  | 1, _ => rfl
  | 2, _ => rfl
  | 3, _ => rfl
  | 4, _ => rfl
  | 5, _ => rfl
  | 6, _ => rfl
  | 7, _ => rfl
def tab (led : Bool) (l : List Nat) : SetTable := { mask := if l.length < 5 then 7 else 31, place := l.toArray, dummies := #[], finger := 0, led := led, moves := if l.length < 5 then 0 else 1, plain := true }
def tab1 (led : Bool) (l l' : List Nat) : SetTable := { tab led l with place := l'.toArray }
def pos (l : List Nat) (n : Nat) : Nat := (l.filter fun i => decide (i < n)).length
def chk (led : Bool) (l l' : List Nat) (n : Nat) : Bool :=
  decide ((tab led l).freeSlot (n : Int) = some (n, false)) && decide ((tab led l).put n = (tab1 led l l', pos l n)) && (tab1 led l l').fits l'.length && decide ((tab1 led l l').tooFull = decide (l'.length = 5))
   && (if l'.length = 5 then decide ((tab1 led l l').relaid (l'.map fun (i : Nat) => (i : Int)).toArray (SetTable.grown 5) = some (tab led l', #[0, 1, 2, 3, 4])) else decide (tab1 led l l' = tab led l'))
   && decide (l.take (pos l n) ++ n :: l.drop (pos l n) = l') && (tab led l).fits l.length
def ins (l : List Nat) (n : Nat) : List Nat := (List.range 8).filter fun i => l.contains i || i == n
theorem chk_all : ∀ b0 b1 b2 b3 b4 b5 b6 b7 led : Bool, ∀ n : Fin 8, (hsB b0 b1 b2 b3 b4 b5 b6 b7).contains n.val = true ∨ chk led (hsB b0 b1 b2 b3 b4 b5 b6 b7) (ins (hsB b0 b1 b2 b3 b4 b5 b6 b7) n.val) n.val = true := by decide +kernel
end SS
namespace SS
open PySem PyProof.Rows
theorem hs_ins (p : Nat → Bool) (n : Nat) (hn : n < 8) : ins (hs p) n = hs fun i => p i || i == n := by
  unfold ins hs
  apply List.filter_congr
  intro i hi
  have h8 : i < 8 := List.mem_range.mp hi
  have e : ((List.range 8).filter p).contains i = p i := by
    rw [Bool.eq_iff_iff, List.contains_iff_mem, List.mem_filter]
    exact ⟨fun h => h.2, fun h => ⟨hi, h⟩⟩
  rw [e]
theorem hs_chk (led : Bool) (p : Nat → Bool) (n : Nat) (hn : n < 8) (hp : p n = false) : chk led (hs p) (hs fun i => p i || i == n) n = true := by
  have := chk_all (p 0) (p 1) (p 2) (p 3) (p 4) (p 5) (p 6) (p 7) led ⟨n, hn⟩
  rw [← hs_B] at this
  rcases this with h | h
  · rw [List.contains_iff_mem] at h
    have := (List.mem_filter.mp h).2
    rw [hp] at this
    cases this
  · rw [hs_ins p n hn] at h
    exact h
def ent (tk : Nat → Tok) (n : Nat) : Int × Value := ((n : Int), .int (n : Int) (tk n))
/-- the set at an address: its numbers, its very table -/
def SetAt (h : Heap) (a : Addr) (led : Bool) (p : Nat → Bool) : Prop :=
  ∃ (tk : Nat → Tok) (ep : Nat), h.get? a = some { cls := .type "set", dict := none, data := .set ((hs p).map (ent tk)).toArray ep (tab led (hs p)), slots := #[] }
section
variable {prog : Program} {w : World} {A : Around} {E : Value → Shared → Prop} {s : Shared}
theorem elems (tk : Nat → Tok) (l : List Nat) (h : ∀ n ∈ l, n < 8) : ElemsOf (intKind prog w) (l.map (ent tk)) := by
  intro e he
  rw [List.mem_map] at he
  obtain ⟨n, hn, rfl⟩ := he
  refine ⟨⟨(n : Int), ?_, ?_⟩, rfl⟩
  · exact intKind_is _ _ _ _
  · have : n = 0 ∨ n = 1 ∨ n = 2 ∨ n = 3 ∨ n = 4 ∨ n = 5 ∨ n = 6 ∨ n = 7 := by have := h n hn; omega
    rcases this with rfl | rfl | rfl | rfl | rfl | rfl | rfl | rfl <;> rfl
theorem hs_lt {p : Nat → Bool} {n : Nat} (h : n ∈ hs p) : n < 8 := List.mem_range.mp (List.mem_filter.mp h).1
theorem hs_len (p : Nat → Bool) : (hs p).length ≤ 8 := by
  unfold hs
  exact Nat.le_trans (List.length_filter_le _ _) (by decide)
theorem hash_small {n : Nat} (h : n < 8) : (intKind prog w).hash (n : Int) = (n : Int) := by
  have : n = 0 ∨ n = 1 ∨ n = 2 ∨ n = 3 ∨ n = 4 ∨ n = 5 ∨ n = 6 ∨ n = 7 := by omega
  rcases this with rfl | rfl | rfl | rfl | rfl | rfl | rfl | rfl <;> rfl
theorem tab_fits (led : Bool) (p : Nat → Bool) : (tab led (hs p)).fits (hs p).length = true := by
  have := hs_len p
  unfold tab SetTable.fits SetTable.fill
  simp
  split <;> omega
theorem set_congr {h : Heap} {a : Addr} {led : Bool} {p q : Nat → Bool} (e : ∀ i, i < 8 → p i = q i) (x : SetAt h a led p) : SetAt h a led q := by
  have : hs p = hs q := List.filter_congr fun i hi => e i (List.mem_range.mp hi)
  obtain ⟨tk, ep, g⟩ := x
  rw [this] at g
  exact ⟨tk, ep, g⟩
theorem relay_id {tk : Nat → Tok} {l' : List Nat} {t1 t2 : SetTable} (h5 : l'.length = 5) (hr : t1.relaid (l'.map fun (i : Nat) => (i : Int)).toArray (SetTable.grown 5) = some (t2, #[0, 1, 2, 3, 4])) (hf : t2.fits 5 = true) :
    relayAll t1 (l'.map (ent tk)).toArray (SetTable.grown (l'.map (ent tk)).toArray.size) = ((l'.map (ent tk)).toArray, t2, false) := by
  match l', h5 with
  | [a, b, c, d, e], _ =>
    unfold relayAll
    have e1 : (([a, b, c, d, e].map (ent tk)).toArray.map (·.1)) = ([a, b, c, d, e].map fun (i : Nat) => (i : Int)).toArray := by simp [ent]
    have e2 : ([a, b, c, d, e].map (ent tk)).toArray.size = 5 := rfl
    rw [e1, e2, hr]
    dsimp only
    have e3 : (#[0, 1, 2, 3, 4] : Array Nat).filterMap (fun i => ([a, b, c, d, e].map (ent tk)).toArray[i]?) = ([a, b, c, d, e].map (ent tk)).toArray := by simp
    have e4 : coversAll #[0, 1, 2, 3, 4] 5 = true := by decide +kernel
    rw [e3, e4, e2, hf]
    rfl
/-- one number more -/
theorem setAdd_at {a : Addr} {led : Bool} {p : Nat → Bool} {n : Nat} {t0 : Tok} {Q : Bool → Shared → Prop} (hn : n < 8) (hS : SetAt s.heap a led p)
    (h : ∀ b h', Heap.SameBut a s.heap h' → SetAt h' a led (fun i => p i || i == n) → Q b { s with heap := h' }) :
    wpAny (model prog w) A (setAddHashed a (.int (n : Int) t0) (n : Int)) Q E s := by
  obtain ⟨tk, ep, ho⟩ := hS
  have hel := elems (prog := prog) (w := w) tk (hs p) fun n h => hs_lt h
  have hel' : ElemsOf (intKind prog w) ((hs p).map (ent tk)).toArray.toList := by simpa using hel
  have hl8 := hs_len p
  have hsz : ((hs p).map (ent tk)).toArray.size = (hs p).length := by simp
  have hfit : (tab led (hs p)).fits ((hs p).map (ent tk)).toArray.size = true := by rw [hsz]; exact tab_fits led p
  have hkey : (intKind prog w).is (n : Int) (.int (n : Int) t0) = true := intKind_is _ _ _ _
  have hb : ((hs p).map (ent tk)).toArray.size < scanBound := by rw [hsz]; unfold scanBound; omega
  unfold setAddHashed setAddHashedIn
  refine wpAny_holding (wpAny_bind (wpAny_setState_of ho rfl hfit ?_))
  dsimp only
  rw [byScan_of (knd := intKind prog w) rfl hb hel']
  simp only [↓reduceIte]
  unfold setAddByScan
  refine wpAny_bind ?_
  refine wpAny_bind (wpAny_rule ?_)
  have hsc : ∀ {Q' : ScanMet → Shared → Prop}, Q' (match ((hs p).map (ent tk)).toArray.toList.findIdx? (fun e => (intKind prog w).is (n : Int) e.2) with | some j => .found (0 + j) | none => .absent) s → wpAny (model prog w) A (setScan a (.int (n : Int) t0) (n : Int) true ((hs p).map (ent tk)).toArray) Q' E s := fun {Q'} q => by
    have := wpAny_setScan_of (knd := intKind prog w) (s := s) (A := A) (E := E) (x := .int (n : Int) t0) (k := (n : Int)) (adding := true) (Q := Q') hkey ho rfl hfit hel' q
    rw [hash_small hn] at this
    exact this
  refine wpAny_bind (hsc ?_)
  by_cases hp : p n = true
  · have hmem : n ∈ hs p := List.mem_filter.mpr ⟨List.mem_range.mpr hn, hp⟩
    have hne : ∃ j, List.findIdx? (fun e => (intKind prog w).is (n : Int) e.2) ((hs p).map (ent tk)).toArray.toList = some j := by
      cases hr : List.findIdx? (fun e => (intKind prog w).is (n : Int) e.2) ((hs p).map (ent tk)).toArray.toList with
      | some j => exact ⟨j, rfl⟩
      | none =>
        rw [List.findIdx?_eq_none_iff] at hr
        have := hr (ent tk n) (by simpa using ⟨n, hmem, rfl⟩)
        rw [show (intKind prog w).is (n : Int) (ent tk n).2 = true from intKind_is _ _ _ _] at this
        cases this
    obtain ⟨j, ej⟩ := hne
    rw [ej]
    refine wpAny_pure (wpAny_pure ?_)
    have := h false s.heap (Heap.SameBut.refl a s.heap) (set_congr (fun i _ => by
      by_cases e : i = n
      · subst e; rw [hp]; rfl
      · rw [show (i == n) = false by simpa using e, Bool.or_false]) ⟨tk, ep, ho⟩)
    exact this
  · have hp' : p n = false := by simpa using hp
    have hr : List.findIdx? (fun e => (intKind prog w).is (n : Int) e.2) ((hs p).map (ent tk)).toArray.toList = none := by
      rw [List.findIdx?_eq_none_iff]
      intro e he
      have he' : e ∈ (hs p).map (ent tk) := by simpa using he
      rw [List.mem_map] at he'
      obtain ⟨m, hm, rfl⟩ := he'
      have hmn : m ≠ n := fun q => by subst q; have := (List.mem_filter.mp hm).2; rw [hp'] at this; cases this
      cases q : (intKind prog w).is (n : Int) (ent tk m).2 with
      | false => rfl
      | true =>
        have h1 : (intKind prog w).is (m : Int) (ent tk m).2 = true := intKind_is _ _ _ _
        have := (intKind prog w).inj _ _ _ q h1
        exact absurd (by omega : m = n) hmn
    rw [hr]
    have hc := hs_chk led p n hn hp'
    unfold chk at hc
    simp only [Bool.and_eq_true, decide_eq_true_eq] at hc
    obtain ⟨⟨⟨⟨⟨⟨c1, c2⟩, c3⟩, c4⟩, c5⟩, c6⟩, c7⟩ := hc
    generalize hl' : (hs fun i => p i || i == n) = l' at c2 c3 c4 c5 c6
    have hlen : l'.length = (hs p).length + 1 := by
      rw [← c6, List.length_append, List.length_cons, List.length_take, List.length_drop]
      have : pos (hs p) n ≤ (hs p).length := List.length_filter_le _ _
      omega
    have htk : ∀ m ∈ hs p, ent tk m = ent (fun m => if m = n then t0 else tk m) m := fun m hm => by
      have hmn : m ≠ n := fun q => by subst q; have := (List.mem_filter.mp hm).2; rw [hp'] at this; cases this
      unfold ent
      dsimp only
      rw [if_neg hmn]
    have hes : SetTable.insertAt ((hs p).map (ent tk)).toArray (pos (hs p) n) ((n : Int), Value.int (n : Int) t0) = (l'.map (ent fun m => if m = n then t0 else tk m)).toArray := by
      have hm1 : (hs p).map (ent tk) = (hs p).map (ent fun m => if m = n then t0 else tk m) := List.map_congr_left htk
      rw [hm1, ← c6]
      have en : ((n : Int), Value.int (n : Int) t0) = ent (fun m => if m = n then t0 else tk m) n := by unfold ent; dsimp only; rw [if_pos rfl]
      rw [en]
      apply Array.ext'
      unfold SetTable.insertAt
      simp
      exact List.take_of_length_le (by simp)
    have hlay : layNew (tab led (hs p)) ((hs p).map (ent tk)).toArray (n : Int) (Value.int (n : Int) t0) = ((l'.map (ent fun m => if m = n then t0 else tk m)).toArray, tab1 led (hs p) l', false, false) := by
      unfold layNew
      rw [c1]
      dsimp only
      rw [c2]
      dsimp only
      rw [hes]
      have e : (l'.map (ent fun m => if m = n then t0 else tk m)).toArray.size = l'.length := by simp
      rw [e]
      unfold SetTable.orStandIn
      rw [c3]
      rfl
    dsimp only
    rw [hlay]
    dsimp only
    have hpl : (tab1 led (hs p) l').plain = true := rfl
    refine wpAny_bind (wpAny_pure ?_)
    rw [hpl]
    simp only [↓reduceIte]
    refine wpAny_bind ?_
    refine wpAny_pure ?_
    simp only [↓reduceIte]
    generalize htk2 : (fun m => if m = n then t0 else tk m) = tk2
    have hz : (l'.map (ent tk2)).toArray.size ≤ sizeLine := by
      have : (l'.map (ent tk2)).toArray.size = l'.length := by simp
      rw [this, sizeLine_eq]; omega
    refine wpAny_bind (wpAny_storeSet_of ho rfl ?_ hz)
    have ho1 : (s.heap.update a (Obj.putSet (l'.map (ent tk2)).toArray (tab1 led (hs p) l'))).get? a = some { cls := .type "set", dict := none, data := .set (l'.map (ent tk2)).toArray (ep + 1) (tab1 led (hs p) l'), slots := #[] } := by
      have := Heap.get?_update_self (Obj.putSet (l'.map (ent tk2)).toArray (tab1 led (hs p) l')) ho (by rw [putSet_of _ _ (es := ((hs p).map (ent tk)).toArray) (ep := ep) (t := tab led (hs p)) rfl]; rfl)
      rw [putSet_of _ _ (es := ((hs p).map (ent tk)).toArray) (ep := ep) (t := tab led (hs p)) rfl] at this
      exact this
    have sb1 := Heap.SameBut.update s.heap a (Obj.putSet (l'.map (ent tk2)).toArray (tab1 led (hs p) l'))
    rw [c4]
    by_cases h5 : l'.length = 5
    · rw [if_pos h5] at c5
      rw [decide_eq_true h5]
      simp only [Bool.not_false, Bool.true_and, ↓reduceIte]
      have hf5 : (tab led l').fits 5 = true := by
        rw [← h5, ← hl']
        exact tab_fits led _
      rw [relay_id h5 (of_decide_eq_true c5) hf5]
      dsimp only
      refine wpAny_bind (wpAny_pure ?_)
      refine wpAny_bind (wpAny_storeSet_of ho1 rfl ?_ hz)
      refine wpAny_pure (wpAny_pure ?_)
      refine h _ _ (sb1.trans (Heap.SameBut.update _ a _)) ⟨tk2, ep + 1 + 1, ?_⟩
      rw [hl']
      have := Heap.get?_update_self (Obj.putSet (l'.map (ent tk2)).toArray (tab led l')) ho1 (by rw [putSet_of _ _ (es := (l'.map (ent tk2)).toArray) (ep := ep + 1) (t := tab1 led (hs p) l') rfl]; rfl)
      rw [putSet_of _ _ (es := (l'.map (ent tk2)).toArray) (ep := ep + 1) (t := tab1 led (hs p) l') rfl] at this
      exact this
    · rw [if_neg h5] at c5
      rw [decide_eq_false h5]
      simp only [Bool.and_false, Bool.false_eq_true, ↓reduceIte]
      refine wpAny_pure (wpAny_pure ?_)
      refine h _ _ sb1 ⟨tk2, ep + 1, ?_⟩
      rw [hl', ← of_decide_eq_true c5]
      exact ho1
end
end SS
namespace SS
open PySem PyProof.Rows
def met (val : Nat → Nat) (i : Nat) (m : Nat) : Bool := (List.range i).any fun j => val j == m
theorem met_succ (val : Nat → Nat) (i m : Nat) : met val (i + 1) m = (met val i m || m == val i) := by
  unfold met
  rw [List.range_succ, List.any_append, List.any_cons, List.any_nil, Bool.or_false]
  have e : (val i == m) = (m == val i) := Bool.eq_iff_iff.mpr ⟨fun h => beq_iff_eq.mpr (beq_iff_eq.mp h).symm, fun h => beq_iff_eq.mpr (beq_iff_eq.mp h).symm⟩
  rw [e]
theorem SetAt.at {h h' : Heap} {a : Addr} {led : Bool} {p : Nat → Bool} (x : SetAt h a led p) (e : ∀ o, h.get? a = some o → h'.get? a = some o) : SetAt h' a led p := by
  obtain ⟨tk, ep, g⟩ := x
  exact ⟨tk, ep, e _ g⟩
section
variable {prog : Program} {w : World} {A : Around} {R : Result → Shared → Prop} {I : Addr} {fp wr : List Addr} {G : Array GenState → Array GenState → Prop} {n : Nat} {P : Nat → Value → Prop} {St : Nat → Shared → Prop}
theorem set_update_loop (W : WalksS prog w A.in1 I fp wr G n P St) (S : Addr) (led : Bool) (hSf : S ∉ fp)
    (val : Nat → Nat) (hval : ∀ i v, P i v → val i < 8 ∧ ∃ t, v = .int (val i : Nat) t) :
    ∀ (k i : Nat) (s : Shared), n - i = k → i ≤ n → St i s → SetAt s.heap S led (met val i) →
      (∀ s', Moved (S :: wr) G s s' → SetAt s'.heap S led (met val n) → R (.ok (.ret .none)) s') →
      codeAny (model prog w) A (.builtin "set.update.loop" ⟨[.ref S, .ref I], []⟩) R s := by
  have hSw : S ∉ wr := fun h => hSf (W.sub _ h)
  have hsub : ∀ b ∈ wr, b ∈ S :: wr := fun b hb => List.mem_cons_of_mem _ hb
  intro k
  induction k with
  | zero =>
    intro i s hk hi hst hS hR
    have hin : i = n := by omega
    subst hin
    refine codeAny_builtin PyProof.Rows.F.entry_set_update_loop ?_
    rw [Around.under_plainId PyProof.Rows.F.plain_set_update_loop _]
    show wpAny _ A.in1 (pyNext (.ref I) >>= _) _ _ s
    refine wpAny_bind (W.done s _ _ hst fun s' hm => ?_)
    show wpAny _ A.in1 (ret Value.none) _ _ s'
    exact wpAny_pure (hR s' (hm.mono hsub) (hS.at fun o e => hm.heap S _ hSw e))
  | succ k ih =>
    intro i s hk hi hst hS hR
    have hlt : i < n := by omega
    refine codeAny_builtin PyProof.Rows.F.entry_set_update_loop ?_
    rw [Around.under_plainId PyProof.Rows.F.plain_set_update_loop _]
    show wpAny _ A.in1 (pyNext (.ref I) >>= _) _ _ s
    refine wpAny_bind (W.item i s _ _ hlt hst fun v s' hP hst' hm => ?_)
    obtain ⟨h8, t, rfl⟩ := hval i v hP
    have hS' : SetAt s'.heap S led (met val i) := hS.at fun o e => hm.heap S _ hSw e
    show wpAny _ A.in1 (holding [Value.int (val i : Nat) t] (setAdd S (.int (val i : Nat) t)) >>= _) _ _ s'
    refine wpAny_bind (wpAny_holding ?_)
    unfold setAdd
    refine wpAny_holding ?_
    refine wpAny_bind ((intKind prog w).pyHash (k := ((val i : Nat) : Int)) (intKind_is _ _ _ _) ?_)
    rw [hash_small h8]
    refine setAdd_at (s := { s' with toks := s'.toks + 1 }) h8 hS' fun b h' hsb hS2 => ?_
    have hSi : SetAt h' S led (met val (i + 1)) := set_congr (fun m _ => (met_succ val i m).symm) hS2
    refine wpAny_pure ⟨plainId_quiet PyProof.Rows.F.plain_set_update_loop _, ih (i + 1) _ (by omega) hlt (W.frame _ s' _ _ hst' (Nat.le_succ _) fun b hb o e => ?_) hSi fun s'' hm'' hS'' => ?_⟩
    · rw [hsb.2 b (fun h : b = S => hSf (by rw [← h]; exact hb))]; exact e
    · refine hR s'' (Moved.trans W.gtrans ((hm.mono hsub).then_heap (Nat.le_succ _) fun b o hb e => ?_) hm'') hS''
      rw [hsb.2 b (fun h : b = S => hb (by rw [h]; exact List.mem_cons_self))]; exact e
end
section
variable {prog : Program} {w : World} {A : Around} {E : Value → Shared → Prop} {s : Shared}
abbrev ledOf (w : World) : Bool := !(w.params.followText "set-order")
theorem code_set_new (a : Value) {Q₁ : Value → Shared → Prop}
    (h : Q₁ (.ref s.heap.objs.size) { s with heap := s.heap.push { cls := .type "set", dict := none, data := .set #[] 0 (.fresh 0 0 (ledOf w)) } }) :
    codeAny (model prog w) A (.call (.builtin "set.__new__") ⟨[.type "set", a], []⟩) (wants Q₁ E) s := by
  refine codeAny_of_tree ?_
  show wpAny _ A.in1 (do checkBuiltinCall "set.__new__" ⟨[.type "set", a], []⟩; again (.builtin "set.__new__" ⟨[.type "set", a], []⟩)) _ _ s
  refine wpAny_bind (wpAny_of_eq (PySem.F.newCall_set_1 a) (wpAny_pure ⟨plainId_quiet PySem.F.plain_set_new _, codeAny_builtin PySem.F.entry_set_new ?_⟩))
  rw [Around.under_plainId PySem.F.plain_set_new _]
  unfold Builtin.«set.__new__» Builtin.Frozenset.newClass
  have hsub := sub_set_self
  obtain ⟨hp, g, d, tk, os⟩ := s
  dsimp only
  wp_walk
  refine wpAny_askSetting (wpAny_pure ?_)
  dsimp only
  simp only [newObj]
  refine wpAny_bind (wpAny_alloc (wpAny_pure ?_))
  exact wpAny_pure h
theorem fresh_at (h : Heap) (led : Bool) {h' : Heap} {a : Addr} (e : h'.get? a = some { cls := .type "set", dict := none, data := .set #[] 0 (.fresh 0 0 led) }) : SetAt h' a led (fun _ => false) := by
  refine ⟨fun _ => 0, 0, ?_⟩
  have : hs (fun _ => false) = [] := rfl
  rw [this]
  exact e
end
end SS
namespace SS
open PySem PyProof.Rows
theorem slot_si_next : Slot "set_iterator" "__next__" "set_iterator.__next__" :=
  .of (owner := "set_iterator") (n := "__next__") (by rw [typeLookup_type, builtinLookup_eq_fast]; kernel_rfl) (by decide +kernel) (by decide +kernel) (by decide +kernel)
    (by first | exact .inl (by decide +kernel) | exact .inr (by decide +kernel)) (by rw [isSubtype_type]; kernel_rfl)
theorem entry_si_next : entryFor table "set_iterator.__next__" = some Builtin.«set_iterator.__next__» := entryFor_of_tree (by kernel_rfl)
theorem owner_si : Manifest.owners.lookup (String.ofList ['r', 'o', 't', 'a', 'r', 'e', 't', 'i', '_', 't', 'e', 's'].reverse) = some Manifest.sig_set_iterator := by kernel_rfl
theorem args_si_next (a : Value) : argsOk "set_iterator.__next__" ⟨[a], []⟩ := by
  unfold argsOk; rw [signature?_of (id := "set_iterator.__next__") (n := ['_', '_', 't', 'x', 'e', 'n', '_', '_']) (o := ['r', 'o', 't', 'a', 'r', 'e', 't', 'i', '_', 't', 'e', 's']) (by kernel_rfl) owner_si]; kernel_rfl
theorem entry_set_iter : entryFor table "set.__iter__" = some Builtin.«frozenset.__iter__» :=
  entryFor_alias (id' := "frozenset.__iter__") (by kernel_rfl) (by first | rfl | decide +kernel | (unfold String.splitOn; simp +decide [String.splitOnAux])) (by decide +kernel) (by kernel_rfl)
def chkB (l : List Nat) : Bool := decide (SetTable.below l.toArray 0 = 0) && (List.range l.length).all fun i => decide (SetTable.below l.toArray (l.getD i 0 + 1) = i + 1)
theorem chkB_all : ∀ b0 b1 b2 b3 b4 b5 b6 b7 : Bool, chkB (hsB b0 b1 b2 b3 b4 b5 b6 b7) = true := by decide +kernel
theorem below_0 (p : Nat → Bool) : SetTable.below (hs p).toArray 0 = 0 := by
  have := chkB_all (p 0) (p 1) (p 2) (p 3) (p 4) (p 5) (p 6) (p 7)
  rw [← hs_B] at this
  unfold chkB at this
  rw [Bool.and_eq_true] at this
  exact of_decide_eq_true this.1
theorem below_s (p : Nat → Bool) {i : Nat} (h : i < (hs p).length) : SetTable.below (hs p).toArray ((hs p).getD i 0 + 1) = i + 1 := by
  have := chkB_all (p 0) (p 1) (p 2) (p 3) (p 4) (p 5) (p 6) (p 7)
  rw [← hs_B] at this
  unfold chkB at this
  rw [Bool.and_eq_true, List.all_eq_true] at this
  exact of_decide_eq_true (this.2 i (List.mem_range.mpr h))
/-- what a walk of the set gives, in its order -/
def walkOf (w : World) (a : Addr) (ep : Nat) (es : Array (Int × Value)) : Array (Int × Value) := if w.params.followText "set-order" = true then pickOrder (w.params.setOrder a ep) es else es
structure SI (w : World) (h : Heap) (I S : Addr) (tk : Nat → Tok) (ep : Nat) (p : Nat → Bool) (i : Nat) : Prop where
  it : ∃ slot : Nat, h.get? I = some { cls := .type "set_iterator", dict := none, data := .fields #[rawInt slot, rawInt i, .ref S, rawInt (hs p).length, rawInt ep], slots := #[] } ∧ (w.params.followText "set-order" = false → SetTable.below (hs p).toArray slot = i)
  st : h.get? S = some { cls := .type "set", dict := none, data := .set ((hs p).map (ent tk)).toArray ep (tab (ledOf w) (hs p)), slots := #[] }
section
variable {prog : Program} {w : World} {A : Around} {E : Value → Shared → Prop} {s : Shared}
theorem byText_at {Q : Bool → Shared → Prop} (h : Q (w.params.followText "set-order") s) : wpAny (model prog w) A setsByText Q E s := by
  unfold setsByText
  exact wpAny_bind (wpAny_askSetting (wpAny_pure h))
theorem setNext_at {S : Addr} {tk : Nat → Tok} {ep slot i : Nat} {p : Nat → Bool} {Q : Option (Value × Nat) → Shared → Prop}
    (st : s.heap.get? S = some { cls := .type "set", dict := none, data := .set ((hs p).map (ent tk)).toArray ep (tab (ledOf w) (hs p)), slots := #[] })
    (hb : w.params.followText "set-order" = false → SetTable.below (hs p).toArray slot = i)
    (h : ∀ next, (w.params.followText "set-order" = false → i < (hs p).length → SetTable.below (hs p).toArray next = i + 1) → Q (((walkOf w S ep ((hs p).map (ent tk)).toArray)[i]?).map fun e => (e.2, next)) s) :
    wpAny (model prog w) A (setNext S slot i ep) Q E s := by
  have hsz : ((hs p).map (ent tk)).toArray.size = (hs p).length := by simp
  have hfit : (tab (ledOf w) (hs p)).fits ((hs p).map (ent tk)).toArray.size = true := by rw [hsz]; exact tab_fits _ p
  unfold setNext
  refine wpAny_bind (wpAny_setState_of st rfl hfit ?_)
  dsimp only
  refine wpAny_bind (byText_at ?_)
  cases e : w.params.followText "set-order" with
  | true =>
    simp only [↓reduceIte]
    have e1 : (ep != ep) = false := by simp
    rw [e1]
    simp only [Bool.false_eq_true, ↓reduceIte]
    unfold setWalk
    refine wpAny_bind (wpAny_bind (wpAny_setState_of st rfl hfit ?_))
    dsimp only
    refine wpAny_bind (byText_at ?_)
    rw [e]
    simp only [↓reduceIte]
    refine wpAny_bind (wpAny_askSetting (wpAny_pure (wpAny_pure ?_)))
    have := h slot (fun q => by rw [e] at q; cases q)
    unfold walkOf at this
    rw [e, if_pos rfl] at this
    exact this
  | false =>
    have hled : (tab (ledOf w) (hs p)).led = true := by show (!(w.params.followText "set-order")) = true; rw [e]; rfl
    simp only [Bool.false_eq_true, ↓reduceIte]
    change wpAny _ _ (if (false : Bool) = true then _ else _) _ _ _
    rw [if_neg Bool.false_ne_true]
    have hw : ∀ {Q' : Unit → Shared → Prop}, Q' () s → wpAny (model prog w) A (if (!(tab (ledOf w) (hs p)).led && !((hs p).map (ent tk)).toArray.isEmpty) = true then unsupported "set:maker-not-led" else pure ()) Q' E s := fun q => by
      rw [hled]
      exact wpAny_pure q
    refine wpAny_bind (hw ?_)
    refine wpAny_pure ?_
    have hbi := hb e
    have e2 : SetTable.below (tab (ledOf w) (hs p)).place slot = i := hbi
    rw [e2]
    have h1 := h ((hs p).getD i 0 + 1) (fun _ hi => below_s p hi)
    unfold walkOf at h1
    rw [e, if_neg Bool.false_ne_true] at h1
    have e3 : (tab (ledOf w) (hs p)).place[i]? = (hs p)[i]? := by show (hs p).toArray[i]? = _; simp
    have e4 : ((hs p).map (ent tk)).toArray[i]? = ((hs p)[i]?).map (ent tk) := by simp
    rw [e4] at h1
    rw [e3, e4]
    cases e5 : (hs p)[i]? with
    | none => rw [e5] at h1; exact h1
    | some m =>
      rw [e5] at h1
      have e6 : (hs p).getD i 0 = m := by unfold List.getD; rw [e5]; rfl
      rw [e6] at h1
      exact h1
theorem next_item {I S : Addr} {tk : Nat → Tok} {ep i : Nat} {p : Nat → Bool} {e : Int × Value} {Q : Option Value → Shared → Prop} (hne : S ≠ I) (st : SI w s.heap I S tk ep p i) (he : (walkOf w S ep ((hs p).map (ent tk)).toArray)[i]? = some e) (hi : i < (hs p).length)
    (hQ : ∀ h', SI w h' I S tk ep p (i + 1) → Heap.SameBut I s.heap h' → Q (some e.2) { s with heap := h' }) : wpAny (model prog w) A (pyNext (.ref I)) Q E s := by
  obtain ⟨⟨slot, hit, hb⟩, hst⟩ := st
  have hT : s.TypeIs (.ref I) "set_iterator" := ⟨_, hit, rfl⟩
  have hsz : ((hs p).map (ent tk)).toArray.size = (hs p).length := by simp
  have hfit : (tab (ledOf w) (hs p)).fits ((hs p).map (ent tk)).toArray.size = true := by rw [hsz]; exact tab_fits _ p
  unfold pyNext
  refine wpAny_bind (wpAny_attempt (wpAny_callSpecial?_slot (name := Str.ofString "__next__") hT slot_si_next (wpAny_call_entry slot_si_next hT entry_si_next ?_ (args_si_next _))))
  show wpAny _ _ (fieldsOf (.ref I) >>= _) _ _ _
  unfold fieldsOf
  refine wpAny_bind (wpAny_bind (wpAny_load hit (wpAny_pure ?_)))
  show wpAny _ _ (setEntries S >>= _) _ _ _
  refine wpAny_bind (wpAny_setEntries_of hst rfl hfit ?_)
  have e1 : ((((hs p).map (ent tk)).toArray.size : Int) != ((hs p).length : Nat)) = false := by rw [hsz]; simp
  rw [if_neg (by rw [e1]; exact Bool.false_ne_true)]
  show wpAny _ _ (setNext S slot i ep >>= _) _ _ _
  refine wpAny_bind (setNext_at hst hb fun next hn => ?_)
  rw [he]
  show wpAny _ _ (setField (.ref I) 0 (rawInt next) >>= _) _ _ _
  refine wpAny_bind (wpAny_setField_rec hit (by simp) fun h₁ hit₁ hs₁ => ?_)
  refine wpAny_bind (wpAny_setField_rec hit₁ (by simp) fun h₂ hit₂ hs₂ => ?_)
  have sb : Heap.SameBut I s.heap h₂ := hs₁.trans hs₂
  refine wpAny_pure ⟨_, rfl, wpAny_pure (hQ h₂ ⟨⟨next, hit₂, fun q => hn q hi⟩, sb.extBut _ _ hne hst⟩ sb)⟩
theorem next_end {I S : Addr} {tk : Nat → Tok} {ep i : Nat} {p : Nat → Bool} {Q : Option Value → Shared → Prop} (hh : A.handled = none) (st : SI w s.heap I S tk ep p i) (he : (walkOf w S ep ((hs p).map (ent tk)).toArray)[i]? = none)
    (hQ : ∀ h', Heap.ExtBut I s.heap h' → Q none { s with heap := h' }) : wpAny (model prog w) A (pyNext (.ref I)) Q E s := by
  obtain ⟨⟨slot, hit, hb⟩, hst⟩ := st
  have hT : s.TypeIs (.ref I) "set_iterator" := ⟨_, hit, rfl⟩
  have hsz : ((hs p).map (ent tk)).toArray.size = (hs p).length := by simp
  have hfit : (tab (ledOf w) (hs p)).fits ((hs p).map (ent tk)).toArray.size = true := by rw [hsz]; exact tab_fits _ p
  unfold pyNext
  refine wpAny_bind (wpAny_attempt (wpAny_callSpecial?_slot (name := Str.ofString "__next__") hT slot_si_next (wpAny_call_entry slot_si_next hT entry_si_next ?_ (args_si_next _))))
  show wpAny _ _ (fieldsOf (.ref I) >>= _) _ _ _
  unfold fieldsOf
  refine wpAny_bind (wpAny_bind (wpAny_load hit (wpAny_pure ?_)))
  show wpAny _ _ (setEntries S >>= _) _ _ _
  refine wpAny_bind (wpAny_setEntries_of hst rfl hfit ?_)
  have e1 : ((((hs p).map (ent tk)).toArray.size : Int) != ((hs p).length : Nat)) = false := by rw [hsz]; simp
  rw [if_neg (by rw [e1]; exact Bool.false_ne_true)]
  show wpAny _ _ (setNext S slot i ep >>= _) _ _ _
  refine wpAny_bind (setNext_at hst hb fun next hn => ?_)
  rw [he]
  show wpAny _ _ (setField (.ref I) 2 .none >>= _) _ _ _
  refine wpAny_bind (wpAny_setField_rec hit (by simp) fun h₁ hit₁ hs₁ => ?_)
  show wpAny _ _ (newExc (.type "StopIteration") [] >>= _) _ _ _
  refine wpAny_bind ?_
  simp only [newExc, newTuple]
  refine wpAny_bind (wpAny_newObj_type ?_ (by size_fits))
  refine wpAny_bind (m := firstArgMember _ _) (wpAny_of_eq (a := Value.none) (by first | rfl | (simp only [firstArgMember]; rfl)) ?_)
  refine wpAny_newObj_type ?_ (by size_fits)
  simp only [raiseNew]
  refine wpAny_bind (wpAny_handled ?_)
  first | rw [show A.in1.handled = none from hh] | rw [hh]
  refine wpAny_bind (wpAny_pure (wpAny_throw ?_))
  refine wpAny_bind (wpAny_isInstance (T := "StopIteration") (b := true) ⟨_, Heap.get?_push_size _ rfl, rfl⟩ isSubtype_stop ?_)
  exact wpAny_pure (hQ _ ((hs₁.extBut.push _).push _))
end
end SS
namespace SS
open PySem PyProof.Rows
theorem erase_perm {α : Type} : ∀ (l : List α) (i : Nat) (h : i < l.length), ([l[i]] ++ l.eraseIdx i).Perm l
  | a :: l, 0, _ => List.Perm.refl _
  | a :: l, i + 1, h => by
    have hi : i < l.length := by simpa using h
    have ih := erase_perm l i hi
    show (l[i] :: a :: l.eraseIdx i).Perm (a :: l)
    exact (List.Perm.swap _ _ _).trans (ih.cons a)
theorem pick_go {α : Type} (next : Nat → Nat) : ∀ (fuel k : Nat) (left : List α) (out : Array α), fuel = left.length → (pickOrder.go next fuel k left out).toList.Perm (out.toList ++ left)
  | 0, k, left, out, h => by
    have : left = [] := List.length_eq_zero_iff.mp h.symm
    subst this
    unfold pickOrder.go
    rw [List.append_nil]
  | fuel + 1, k, left, out, h => by
    unfold pickOrder.go
    have hp : 0 < left.length := by omega
    have hlt : next k % left.length < left.length := Nat.mod_lt _ hp
    rw [List.getElem?_eq_getElem hlt]
    dsimp only
    refine (pick_go next fuel (k + 1) _ _ (by rw [List.length_eraseIdx, if_pos hlt]; omega)).trans ?_
    rw [Array.toList_push, List.append_assoc]
    refine List.Perm.append_left _ ?_
    exact erase_perm left _ hlt
theorem pick_perm {α : Type} (next : Nat → Nat) (xs : Array α) : (pickOrder next xs).toList.Perm xs.toList := by
  unfold pickOrder
  simpa using pick_go next xs.size 0 xs.toList #[] (by simp)
theorem walk_perm (w : World) (a : Addr) (ep : Nat) (es : Array (Int × Value)) : (walkOf w a ep es).toList.Perm es.toList := by
  unfold walkOf
  split
  · exact pick_perm _ _
  · exact List.Perm.refl _
theorem walk_size (w : World) (a : Addr) (ep : Nat) (es : Array (Int × Value)) : (walkOf w a ep es).size = es.size := by
  have := (walk_perm w a ep es).length_eq
  simpa using this
theorem slot_si_iter : Slot "set_iterator" "__iter__" "set_iterator.__iter__" :=
  .of (owner := "set_iterator") (n := "__iter__") (by rw [typeLookup_type, builtinLookup_eq_fast]; kernel_rfl) (by decide +kernel) (by decide +kernel) (by decide +kernel)
    (by first | exact .inl (by decide +kernel) | exact .inr (by decide +kernel)) (by rw [isSubtype_type]; kernel_rfl)
theorem entry_si_iter : entryFor table "set_iterator.__iter__" = some Builtin.«dict_keyiterator.__iter__» :=
  entryFor_alias (id' := "dict_keyiterator.__iter__") (by kernel_rfl) (by first | rfl | decide +kernel | (unfold String.splitOn; simp +decide [String.splitOnAux])) (by decide +kernel) (by kernel_rfl)
theorem args_si_iter (a : Value) : argsOk "set_iterator.__iter__" ⟨[a], []⟩ := by
  unfold argsOk; rw [signature?_of (id := "set_iterator.__iter__") (n := ['_', '_', 'r', 'e', 't', 'i', '_', '_']) (o := ['r', 'o', 't', 'a', 'r', 'e', 't', 'i', '_', 't', 'e', 's']) (by kernel_rfl) owner_si]; kernel_rfl
section
variable {prog : Program} {w : World} {A : Around} {E : Value → Shared → Prop} {s : Shared}
def SP (w : World) (S : Addr) (tk : Nat → Tok) (ep : Nat) (p : Nat → Bool) (i : Nat) (v : Value) : Prop := ∃ e, (walkOf w S ep ((hs p).map (ent tk)).toArray)[i]? = some e ∧ v = e.2
theorem walks_set (hh : A.handled = none) (I S : Addr) (hne : S ≠ I) (tk : Nat → Tok) (ep : Nat) (p : Nat → Bool) :
    Walks prog w A I [I, S] [I] (hs p).length (SP w S tk ep p) (fun i h => SI w h I S tk ep p i) where
  sub := fun b hb => by simp at hb; simp [hb]
  frame := fun _ _ _ st hk => by
    obtain ⟨⟨slot, hit, hb⟩, hst⟩ := st
    exact ⟨⟨slot, hk I (by simp) _ hit, hb⟩, hk S (by simp) _ hst⟩
  item := fun i s Q E hi st hQ => by
    have hsz : (walkOf w S ep ((hs p).map (ent tk)).toArray).size = (hs p).length := by rw [walk_size]; simp
    have hlt : i < (walkOf w S ep ((hs p).map (ent tk)).toArray).size := by rw [hsz]; exact hi
    refine next_item hne st (Array.getElem?_eq_getElem hlt) hi fun h' st' hs' => ?_
    exact hQ _ h' s.toks ⟨_, Array.getElem?_eq_getElem hlt, rfl⟩ st' fun b o hb e => hs'.extBut b o (fun h => hb (by simp [h])) e
  done := fun s Q E st hQ => by
    have hsz : (walkOf w S ep ((hs p).map (ent tk)).toArray).size = (hs p).length := by rw [walk_size]; simp
    exact next_end hh st (Array.getElem?_eq_none (by rw [hsz]; exact Nat.le_refl _)) fun h' he' => hQ h' s.toks fun b o hb e => he' b o (fun h => hb (by simp [h])) e
  self := fun _ s Q E st hQ => by
    obtain ⟨⟨slot, hit, hb⟩, hst⟩ := st
    have hT : s.TypeIs (.ref I) "set_iterator" := ⟨_, hit, rfl⟩
    refine wpAny_pyIter_slot hT slot_si_iter (wpAny_call_entry slot_si_iter hT entry_si_iter ?_ (args_si_iter _))
    show wpAny _ _ (ret (.ref I)) _ _ s
    exact wpAny_pure ⟨_, rfl, "set_iterator", _, hT, slot_si_next.lookup, hQ⟩
/-- iter(set) -/
theorem iter_set {S : Addr} {tk : Nat → Tok} {ep : Nat} {p : Nat → Bool} {Q : Value → Shared → Prop}
    (st : s.heap.get? S = some { cls := .type "set", dict := none, data := .set ((hs p).map (ent tk)).toArray ep (tab (ledOf w) (hs p)), slots := #[] })
    (h : SI w (s.heap.push { cls := .type "set_iterator", data := .fields #[rawInt 0, rawInt 0, .ref S, rawInt (hs p).length, rawInt ep] }) s.heap.objs.size S tk ep p 0 → Q (.ref s.heap.objs.size) { s with heap := s.heap.push { cls := .type "set_iterator", data := .fields #[rawInt 0, rawInt 0, .ref S, rawInt (hs p).length, rawInt ep] } }) :
    wpAny (model prog w) A (pyIter (.ref S)) Q E s := by
  have hT : s.TypeIs (.ref S) "set" := ⟨_, st, rfl⟩
  have hsz : ((hs p).map (ent tk)).toArray.size = (hs p).length := by simp
  have hfit : (tab (ledOf w) (hs p)).fits ((hs p).map (ent tk)).toArray.size = true := by rw [hsz]; exact tab_fits _ p
  refine wpAny_pyIter_slot hT PySem.F.slot_set_iter (wpAny_call_entry PySem.F.slot_set_iter hT entry_set_iter ?_ (PySem.F.args_set_iter_1 _))
  show wpAny _ _ (Builtin.Frozenset.sizeOf S >>= _) _ _ s
  unfold Builtin.Frozenset.sizeOf
  refine wpAny_bind (wpAny_bind (wpAny_setEntries_of st rfl hfit (wpAny_pure ?_)))
  refine wpAny_bind ?_
  refine wpAny_bind (wpAny_setState_of st rfl hfit ?_)
  dsimp only
  refine wpAny_bind (byText_at (wpAny_pure ?_))
  have e0 : ∀ b : Bool, (!b && false) = false := fun b => by cases b <;> rfl
  change wpAny _ _ (if (!(w.params.followText "set-order") && false) = true then _ else _) _ _ _
  rw [e0, if_neg Bool.false_ne_true]
  refine wpAny_bind (wpAny_pure ?_)
  refine wpAny_bind ?_
  refine wpAny_bind (wpAny_setState_of st rfl hfit (wpAny_pure ?_))
  refine wpAny_bind ?_
  rw [hsz]
  unfold newFields
  refine wpAny_newObj_type ?_ (by size_fits)
  have g : (s.heap.push { cls := .type "set_iterator", data := .fields #[rawInt 0, rawInt 0, .ref S, rawInt (hs p).length, rawInt ep] }).get? s.heap.objs.size = some { cls := .type "set_iterator", data := .fields #[rawInt 0, rawInt 0, .ref S, rawInt (hs p).length, rawInt ep] } := Heap.get?_push_size _ rfl
  exact wpAny_pure ⟨_, rfl, "set_iterator", _, ⟨_, g, rfl⟩, slot_si_next.lookup, h ⟨⟨0, g, fun _ => below_0 p⟩, Heap.get?_push_of_some _ st⟩⟩
end
end SS
set_option maxHeartbeats 4000000
namespace SS
open PySem PyProof.Rows
theorem ints_of : ∀ (es : List (Int × Value)) (tk : Nat → Tok) (l : List Nat), es.Perm (l.map (ent tk)) → ∃ ns : List Int, IntsAre (es.map (·.2)) ns ∧ ns = es.map (·.1) := by
  intro es tk l h
  have hall : ∀ e ∈ es, ∃ n : Nat, e = ent tk n := fun e he => by
    have := h.subset he
    rw [List.mem_map] at this
    obtain ⟨n, _, rfl⟩ := this
    exact ⟨n, rfl⟩
  clear h
  induction es with
  | nil => exact ⟨[], .nil, rfl⟩
  | cons e es ih =>
    obtain ⟨ns, h1, h2⟩ := ih fun x hx => hall x (List.mem_cons_of_mem _ hx)
    obtain ⟨n, rfl⟩ := hall e List.mem_cons_self
    exact ⟨(n : Int) :: ns, .cons _ _ h1, by rw [h2]; rfl⟩
section
variable {prog : Program} {w : World} {A : Around} {E : Value → Shared → Prop} {s : Shared}
theorem items_eq {n : Nat} {P : Nat → Value → Prop} {acc : Array Value} {vs : List Value} (h : ItemsOf P acc n) (hl : vs.length = n) (hP : ∀ i v, P i v → vs[i]? = some v) : acc.toList = vs := by
  apply List.ext_getElem?
  intro i
  by_cases hi : i < n
  · have hi' : i < acc.size := by rw [h.1]; exact hi
    have := hP i _ (h.2 i acc[i] (Array.getElem?_eq_getElem hi'))
    rw [this]
    simp [hi']
  · rw [List.getElem?_eq_none (by rw [Array.length_toList, h.1]; omega), List.getElem?_eq_none (by omega)]
theorem collect_set {S : Addr} {tk : Nat → Tok} {ep : Nat} {p : Nat → Bool} {Q : List Value → Shared → Prop} (hh : A.handled = none)
    (st : s.heap.get? S = some { cls := .type "set", dict := none, data := .set ((hs p).map (ent tk)).toArray ep (tab (ledOf w) (hs p)), slots := #[] })
    (hQ : ∀ h' tk', (∀ b o, s.heap.get? b = some o → h'.get? b = some o) → s.heap.objs.size ≤ h'.objs.size → Q ((walkOf w S ep ((hs p).map (ent tk)).toArray).toList.map (·.2)) { s with heap := h', toks := tk' }) :
    wpAny (model prog w) A (collect (.ref S)) Q E s := by
  have hSlt : S < s.heap.objs.size := Heap.lt_size st
  unfold collect
  refine wpAny_bind (wpAny_runValue (codeAny_builtin PySem.F.entry_proto_collect ?_))
  rw [Around.under_plainId PySem.F.plain_proto_collect _]
  show wpAny _ A.in1 (newList [] >>= fun l => again (.builtin "list.__iadd__" ⟨[l, .ref S], []⟩)) _ _ s
  refine wpAny_bind (wpAny_newObj_type ?_)
  refine wpAny_pure ⟨plainId_quiet PySem.F.plain_list_iadd _, codeAny_builtin PySem.F.entry_list_iadd ?_⟩
  rw [Around.under_plainId PySem.F.plain_list_iadd _]
  have st1 : (s.heap.push { cls := .type "list", data := .seq ([] : List Value).toArray }).get? S = some { cls := .type "set", dict := none, data := .set ((hs p).map (ent tk)).toArray ep (tab (ledOf w) (hs p)), slots := #[] } := Heap.get?_push_of_some _ st
  have hT1 : Shared.TypeIs { s with heap := s.heap.push { cls := .type "list", data := .seq ([] : List Value).toArray } } (.ref S) "set" := ⟨_, st1, rfl⟩
  show wpAny _ A.in1 (Builtin.List.listExtendWith (.ref s.heap.objs.size) (.ref S) (.ref s.heap.objs.size)) _ _ _
  unfold Builtin.List.listExtendWith
  refine wpAny_bind (wpAny_typeOf hT1 ?_)
  have h1 : Builtin.List.listSameRef (.ref s.heap.objs.size) (.ref S) = false := by
    have : s.heap.objs.size ≠ S := Nat.ne_of_gt hSlt
    simp [Builtin.List.listSameRef, this]
  have h2 : (Value.type "set" == Value.type "list") = false := by decide
  have h3 : (Value.type "set" == Value.type "tuple") = false := by decide
  simp only [h1, h2, h3, Bool.or_false, Bool.false_eq_true, if_false]
  refine wpAny_bind (iter_set (s := { s with heap := s.heap.push { cls := .type "list", data := .seq ([] : List Value).toArray } }) st1 fun hSI => ?_)
  have hsz1 : (s.heap.push { cls := .type "list", data := .seq ([] : List Value).toArray }).objs.size = s.heap.objs.size + 1 := Heap.size_push ..
  generalize hH2 : ((s.heap.push { cls := .type "list", data := .seq ([] : List Value).toArray }).push { cls := .type "set_iterator", data := .fields #[rawInt 0, rawInt 0, .ref S, rawInt (hs p).length, rawInt ep] }) = H2 at hSI ⊢
  generalize hI : (s.heap.push { cls := .type "list", data := .seq ([] : List Value).toArray }).objs.size = I at hSI ⊢
  have hIe : I = s.heap.objs.size + 1 := by rw [← hI]; exact hsz1
  have hsz2 : H2.objs.size = s.heap.objs.size + 2 := by rw [← hH2, Heap.size_push, hsz1]
  have up2 : ∀ b o, s.heap.get? b = some o → H2.get? b = some o := fun b o e => by rw [← hH2]; exact Heap.get?_push_of_some _ (Heap.get?_push_of_some _ e)
  have hL2 : H2.get? s.heap.objs.size = some { cls := .type "list", data := .seq ([] : List Value).toArray } := by rw [← hH2]; exact Heap.get?_push_of_some _ (Heap.get?_push_size _ rfl)
  have hT2 : Shared.TypeIs { s with heap := H2 } (.ref S) "set" := ⟨_, hSI.st, rfl⟩
  refine wpAny_bind (wpAny_holding ?_)
  unfold Builtin.List.listLengthHint
  refine wpAny_bind (wpAny_specialOf hT2 PySem.F.slot_set_len.lookup ?_)
  have hsub := sub_set_self
  have hsp : splitId "set.__len__" = some ("set", "__len__") := by kernel_rfl
  dsimp only
  rw [hsp]
  dsimp only
  refine wpAny_bind (wpAny_isInstance hT2 sub_set_self ?_)
  rw [if_neg (by decide)]
  rw [if_pos (by kernel_rfl)]
  refine wpAny_bind (wpAny_typeOf hT2 ?_)
  refine wpAny_pure ?_
  rw [if_pos (by kernel_rfl)]
  refine wpAny_bind (wpAny_rule ?_)
  refine wpAny_bind ?_
  show wpAny _ A.in1 (updateSeq s.heap.objs.size (·.push .none) >>= fun _ => updateSeq s.heap.objs.size (·.pop)) _ _ _
  refine wpAny_bind (wpAny_updateSeq hL2 rfl ?_)
  have hS₂ := Heap.get?_update_self (Obj.mapSeq (·.push Value.none)) hL2 rfl
  refine wpAny_updateSeq hS₂ rfl ?_
  have hS₃ := Heap.get?_update_self (Obj.mapSeq (·.pop)) hS₂ rfl
  have oth : ∀ b o, b ≠ s.heap.objs.size → H2.get? b = some o → ((H2.update s.heap.objs.size (Obj.mapSeq (·.push Value.none))).update s.heap.objs.size (Obj.mapSeq (·.pop))).get? b = some o :=
    fun b o hb e => (Heap.get?_update_other _ _ (Ne.symm hb)).trans ((Heap.get?_update_other _ _ (Ne.symm hb)).trans e)
  have hSI3 : SI w ((H2.update s.heap.objs.size (Obj.mapSeq (·.push Value.none))).update s.heap.objs.size (Obj.mapSeq (·.pop))) I S tk ep p 0 := by
    obtain ⟨⟨slot, hit, hb⟩, hst⟩ := hSI
    exact ⟨⟨slot, oth _ _ (by rw [hIe]; exact Nat.succ_ne_self _) hit, hb⟩, oth _ _ (Nat.ne_of_lt hSlt) hst⟩
  have hSI' : S ≠ I := by rw [hIe]; exact Nat.ne_of_lt (Nat.lt_succ_of_lt hSlt)
  have W := (walks_set (prog := prog) (w := w) (A := A.in1) (by simp [hh]) I S hSI' tk ep p).toS
  have hSf : s.heap.objs.size ∉ [I, S] := by
    simp only [List.mem_cons, List.not_mem_nil, or_false, not_or]
    exact ⟨by rw [hIe]; exact (Nat.succ_ne_self _).symm, Nat.ne_of_gt hSlt⟩
  have hn : (hs p).length ≤ sizeLine := by rw [sizeLine_eq]; have := hs_len p; omega
  refine wpAny_pure ⟨plainId_quiet PySem.F.plain_extend_loop _, codeAny_extend_loopS W hn _ hSf _ (hs p).length 0 _ _ _ rfl (Nat.zero_le _) hSI3 hS₃ (ItemsOf.nil _) fun s' acc' c' hm hS' hacc => ?_⟩
  obtain ⟨h', g', d', tk', os'⟩ := s'
  have eg : g' = s.gens := hm.gens
  have ed : d' = s.drawn := hm.drawn
  have eo : os' = s.os := hm.os
  subst eg; subst ed; subst eo
  show wpAny _ A (load s.heap.objs.size >>= _) _ _ _
  refine wpAny_bind (wpAny_load hS' ?_)
  have hsz : (walkOf w S ep ((hs p).map (ent tk)).toArray).size = (hs p).length := by rw [walk_size]; simp
  have ea : acc'.toList = (walkOf w S ep ((hs p).map (ent tk)).toArray).toList.map (·.2) := items_eq hacc (by simp [hsz]) fun i v ⟨e, he, hv⟩ => by
    rw [List.getElem?_map, Array.getElem?_toList, he, hv]
    rfl
  refine wpAny_pure ?_
  rw [ea]
  have keep : ∀ b o, s.heap.get? b = some o → h'.get? b = some o := fun b o e => by
    have hlt : b < s.heap.objs.size := Heap.lt_size e
    refine hm.heap b o ?_ (oth b o (Nat.ne_of_lt hlt) (up2 b o e))
    simp only [List.mem_cons, List.not_mem_nil, or_false, not_or]
    exact ⟨Nat.ne_of_lt hlt, by rw [hIe]; exact Nat.ne_of_lt (Nat.lt_succ_of_lt hlt)⟩
  exact hQ h' tk' keep (Nat.le_of_lt (Heap.lt_size hS'))
/-- sorted(set) -/
theorem sorted_set {S : Addr} {p : Nat → Bool} {Q : Value → Shared → Prop} (hh : A.handled = none) (st : SetAt s.heap S (ledOf w) p)
    (h : ∀ (D : Addr) (h' : Heap) (tk' c : Nat) (out : Array Value), s.heap.objs.size ≤ D → (∀ b o, s.heap.get? b = some o → h'.get? b = some o) → h'.get? D = some (seqObj "list" out c) → IntsAre out.toList ((hs p).map fun (n : Nat) => (n : Int)) → Q (.ref D) { s with heap := h', toks := tk' }) :
    wpAny (model prog w) A (call (.builtin "sorted") [.ref S]) Q E s := by
  obtain ⟨tk, ep, st⟩ := st
  have hwp := walk_perm w S ep ((hs p).map (ent tk)).toArray
  have hwp' : (walkOf w S ep ((hs p).map (ent tk)).toArray).toList.Perm ((hs p).map (ent tk)) := by simpa using hwp
  obtain ⟨ns, hI, hns⟩ := ints_of _ tk (hs p) hwp'
  have hperm : ns.Perm ((hs p).map fun (n : Nat) => (n : Int)) := by
    rw [hns]
    have := hwp'.map (·.1)
    rw [List.map_map] at this
    exact this
  have hlen : ((walkOf w S ep ((hs p).map (ent tk)).toArray).toList.map (·.2)).length = (hs p).length := by
    rw [List.length_map, Array.length_toList, walk_size]; simp
  refine Calls.call_function_entry kind_sorted plain_sorted entry_sorted (args_sorted1 _) ?_
  unfold Builtin.«sorted»
  refine wpAny_bind (m := checkCount "sorted" 1 1 _) (wpAny_pure ?_)
  refine wpAny_bind (collect_set (by simp [hh]) st fun h1 tk1 keep hsz1 => ?_)
  generalize hvs : (walkOf w S ep ((hs p).map (ent tk)).toArray).toList.map (·.2) = vs at hI hlen ⊢
  have h8 := hs_len p
  refine wpAny_bind (wpAny_newList ?_ (by rw [hlen, sizeLine_eq]; omega))
  have hoL : (h1.push (seqObj "list" vs.toArray 0)).get? h1.objs.size = some (seqObj "list" vs.toArray 0) := Heap.get?_push_size _ rfl
  refine wpAny_bind (wpAny_holding (wpAny_call_entry slot_list_sort ⟨_, hoL, rfl⟩ entry_list_sort (list_sort_tree (s := { s with heap := h1.push (seqObj "list" vs.toArray 0), toks := tk1 }) hoL hI (by omega) fun out ns' a1 a2 a3 => ⟨_, rfl, ?_⟩) (args_list_sort _)))
  have en : ns' = (hs p).map fun (n : Nat) => (n : Int) := by
    refine List.Perm.eq_of_pairwise (le := (· ≤ ·)) (fun a b _ _ => Int.le_antisymm) a3 ?_ (a2.trans hperm)
    rw [List.pairwise_map]
    have : (hs p).Pairwise (· < ·) := List.Pairwise.filter _ (List.pairwise_lt_range)
    exact this.imp fun h => by omega
  subst en
  refine wpAny_pure ⟨_, rfl, ?_⟩
  have keep2 : ∀ b o, b ≠ h1.objs.size → h1.get? b = some o → (sortedHeap (h1.push (seqObj "list" vs.toArray 0)) h1.objs.size vs out).get? b = some o := fun b o hb e => by
    unfold sortedHeap
    rw [Heap.get?_update_ne _ _ _ _ hb]
    refine Heap.get?_push_of_some _ (Heap.get?_push_of_some _ ?_)
    rw [Heap.get?_update_ne _ _ _ _ hb]
    exact Heap.get?_push_of_some _ e
  have hD : ∃ c, (sortedHeap (h1.push (seqObj "list" vs.toArray 0)) h1.objs.size vs out).get? h1.objs.size = some (seqObj "list" out c) := by
    unfold sortedHeap
    have g1 := get?_update_seq hoL fun _ => (#[] : Array Value)
    have g2 := Heap.get?_push_of_some (seqObj "list" #[] 0) (Heap.get?_push_of_some (seqObj "tuple" vs.toArray 0) g1)
    exact ⟨_, get?_update_seq g2 fun _ => out⟩
  obtain ⟨c, hD⟩ := hD
  exact h h1.objs.size _ tk1 c out hsz1 (fun b o e => keep2 b o (Nat.ne_of_lt (Nat.lt_of_lt_of_le (Heap.lt_size e) hsz1)) (keep b o e)) hD a1
end
end SS
set_option maxHeartbeats 4000000
namespace L2
open PySem PySem.Spec
open PyProof.Rows hiding St
section
variable {X : Cx}
theorem ext_set {P : Program} {w : World} {H : Hp} {h : Heap} {a : Addr} {led : Bool} {p : Nat → Bool} (x : SS.SetAt h a led p) : ObjOk P w H h a (.ext fun h => SS.SetAt h a led p) := by
  refine ⟨x, ?_, fun h1 h2 q e => q.at e⟩
  obtain ⟨tk, ep, g⟩ := x
  exact ⟨_, g⟩
theorem vals_nats : ∀ {vs : List Value} {l : List Nat}, IntsAre vs (l.map fun (n : Nat) => (n : Int)) → Vals (l.map fun (n : Nat) => V.int (n : Nat)) vs
  | [], [], _ => .nil
  | v :: vs, n :: l, h => by
    cases h with
    | cons _ t h => exact .cons ⟨t, rfl⟩ (vals_nats h)
  | _ :: _, [], h => by cases h
  | [], _ :: _, h => by cases h
theorem call_sortedS (hc : X.calm = true) : CallR X (.builtin "sorted") (fun xs H Q => ∃ (q : Addr) (p : Nat → Bool), xs = [V.ref q] ∧ H q = some (.ext fun h => SS.SetAt h q (SS.ledOf X.w) p) ∧ ∀ l, H l = none → Q (.ref l) (upd H l (.lst ((SS.hs p).map fun (n : Nat) => V.int (n : Nat))))) := by
  intro pins s σ H xs us Q I r h
  obtain ⟨q, p, rfl, hq, hQ⟩ := h
  obtain ⟨u, rfl, rx⟩ := vals1 r
  cases rx
  have hS : SS.SetAt s.heap q (SS.ledOf X.w) p := (show ObjOk X.prog X.w H s.heap q (.ext fun h => SS.SetAt h q (SS.ledOf X.w) p) from I.hok q _ hq).1
  refine SS.sorted_set (I.ok.hd hc) hS fun D h' tk' c out hD hk hg hI => ?_
  have h8 := SS.hs_len p
  exact ⟨.ref D, _, I.laid (t' := tk') hk hD (show ObjOk X.prog X.w _ h' D (.lst _) from ⟨by rw [List.length_map, sizeLine_eq]; omega, out.toList, c, vals_nats hI, by simpa using hg⟩), rfl, hQ _ (I.hok.fresh hD)⟩
end
end L2
namespace DL
open PySem PySem.Spec L2
open PyProof.Rows hiding St
theorem bt_set : bootBuiltins "set" = some (.type "set") := by decide +kernel
theorem bt_sorted : bootBuiltins "sorted" = some (.builtin "sorted") := by decide +kernel
section
variable {X : Cx} {F : Fx} {e : Expr} {t : TDA} {pos p pos2 p2 : Pos}
theorem rps_nats {K : PySem.W.Frag} {H : Hp} {ι : List Addr} : ∀ l : List Nat, Rps K H ι (l.map fun (i : Nat) => Dt.int (i : Nat)) (l.map fun (i : Nat) => V.int (i : Nat))
  | [] => rfl
  | k :: l => ⟨_, _, rfl, rfl, rps_nats l⟩
end
end DL
namespace SS
open PySem PyProof.Rows
theorem sub_list_set : isSubtype (.type "list") (.type "set") = pure false := by rw [isSubtype_type]; kernel_rfl
theorem sub_list_frozenset : isSubtype (.type "list") (.type "frozenset") = pure false := by rw [isSubtype_type]; kernel_rfl
section
variable {prog : Program} {w : World} {A : Around} {E : Value → Shared → Prop} {s : Shared}
set_option maxHeartbeats 3200000 in
theorem call_set_lst {l : Addr} {items : Array Value} {val : Nat → Nat} {Q : Value → Shared → Prop}
    (hh : A.handled = none) (hl : s.heap.IsList l items) (hi : ∀ i v, items[i]? = some v → val i < 8 ∧ ∃ t, v = .int (val i : Nat) t)
    (h : ∀ (h' : Heap) (tk : Nat), SetAt h' s.heap.objs.size (ledOf w) (met val items.size) →
      (∀ b o, b < s.heap.objs.size → s.heap.get? b = some o → h'.get? b = some o) → Q (.ref s.heap.objs.size) { s with heap := h', toks := tk }) :
    wpAny (model prog w) A (call (.type "set") [.ref l]) Q E s := by
  obtain ⟨c, tl, hmro⟩ := PySem.F.called_set.mro
  have hmade := PySem.F.called_set.made
  have hsub := PySem.F.called_set.sub
  refine wpAny_call (codeAny_of_tree ?_)
  show wpAny _ _ (callAny (.type "set") _) _ _ _
  refine wpAny_pure ⟨Code.quiet_builtin _ (by decide +kernel), codeAny_builtin PySem.F.entry_type_call ?_⟩
  rw [Around.under_plain (weight_type_call_type "set" [.ref l] []) rfl]
  have h1 := PySem.F.called_set.notType
  have h2 := PySem.F.called_set.canCreate
  have hct := PySem.F.typeCall_set_1 (.ref l)
  repeat (any_goals (first | assumption | wp_step))
  refine codeAny_mono (code_set_new (.ref l) (E := E) (Q₁ := fun obj s₁ => obj = .ref s.heap.objs.size ∧ s₁ = { s with heap := s.heap.push { cls := .type "set", dict := none, data := .set #[] 0 (.fresh 0 0 (ledOf w)) } }) ⟨rfl, rfl⟩) fun r s₁ hr => ?_
  cases r with
  | error e => exact hr
  | ok fl =>
    cases fl with
    | ret obj =>
      obtain ⟨rfl, rfl⟩ := hr
      have hS : (s.heap.push { cls := .type "set", dict := none, data := .set #[] 0 (.fresh 0 0 (ledOf w)) }).get? s.heap.objs.size = some { cls := .type "set", dict := none, data := .set #[] 0 (.fresh 0 0 (ledOf w)) } := Heap.get?_push_size _ rfl
      have hT : Shared.TypeIs { s with heap := s.heap.push { cls := .type "set", dict := none, data := .set #[] 0 (.fresh 0 0 (ledOf w)) } } (.ref s.heap.objs.size) "set" := ⟨_, hS, rfl⟩
      have hli := PySem.F.called_set.init.lookup
      have hbi := PySem.F.called_set.init.bind (.ref s.heap.objs.size)
      repeat (any_goals (first | assumption | wp_step))
      refine codeAny_mono (codeAny_call_builtin (R := wants (fun r s₂ => r = .none ∧ ∃ h' tk, s₂ = { s with heap := h', toks := tk } ∧ SetAt h' s.heap.objs.size (ledOf w) (met val items.size) ∧
          (∀ b o, b < s.heap.objs.size → s.heap.get? b = some o → h'.get? b = some o)) E) PySem.F.called_set.init.plain PySem.F.entry_set_init (check_set_init_1 hT ?_)) fun r₂ s₂ hr₂ => ?_
      · obtain ⟨ol, hol, hcl, nl, hdl⟩ := hl
        obtain ⟨ocls, odict, odata, oslots⟩ := ol
        simp only at hcl hdl
        subst hcl; subst hdl
        have hol' : (s.heap.push { cls := .type "set", dict := none, data := .set #[] 0 (.fresh 0 0 (ledOf w)) }).get? l = some { cls := .type "list", dict := odict, data := .seq items nl, slots := oslots } := Heap.get?_push_of_some _ hol
        have hsls := sub_list_set
        have hslf := sub_list_frozenset
        have hne : (Value.type "list" == Value.type "dict") = false := by decide
        have hl1 : (s.heap.push { cls := .type "set", dict := none, data := .set #[] 0 (.fresh 0 0 (ledOf w)) }).IsList l items := ⟨_, hol', rfl, nl, rfl⟩
        unfold Builtin.«set.__init__» noKeywords Builtin.Frozenset.updateFrom
        generalize hPI : pyIter = PI
        wp_walk
        subst hPI
        refine wpAny_pyIter_list hl1 ?_
        refine wpAny_bind (wpAny_runValue ?_)
        have hlS : l < s.heap.objs.size := Heap.lt_size hol
        have hh3 : A.in1.in1.in1.handled = none := by simp [hh]
        have hneI : l ≠ (s.heap.push { cls := .type "set", dict := none, data := .set #[] 0 (.fresh 0 0 (ledOf w)) }).objs.size := by
          rw [Heap.size_push]; exact Nat.ne_of_lt (Nat.lt_succ_of_lt hlS)
        have hSf : s.heap.objs.size ∉ [(s.heap.push { cls := .type "set", dict := none, data := .set #[] 0 (.fresh 0 0 (ledOf w)) }).objs.size, l] := by
          rw [Heap.size_push]; simp only [List.mem_cons, List.mem_singleton, List.not_mem_nil, or_false, not_or]
          exact ⟨Nat.ne_of_lt (Nat.lt_succ_self _), Nat.ne_of_gt hlS⟩
        refine set_update_loop ((Walks.list hh3 _ l hneI items).toS) s.heap.objs.size (ledOf w)
          hSf val hi (items.size - 0) 0 _ (by omega) (Nat.zero_le _)
          ⟨⟨_, Heap.get?_push_size _ rfl, rfl, rfl⟩, ⟨_, Heap.get?_push_of_some _ hol', rfl, nl, rfl⟩⟩ ?hS0 ?hR
        case hS0 =>
          have hget : ((s.heap.push { cls := .type "set", dict := none, data := .set #[] 0 (.fresh 0 0 (ledOf w)) }).push { cls := .type "list_iterator", data := .fields #[.ref l, .int 0 0] }).get? s.heap.objs.size
              = some { cls := .type "set", dict := none, data := .set #[] 0 (.fresh 0 0 (ledOf w)) } := Heap.get?_push_of_some _ hS
          exact fresh_at s.heap (ledOf w) hget
        case hR =>
          intro s' hm hS'
          obtain ⟨h', g', d', tk', os'⟩ := s'
          have eg : g' = s.gens := hm.gens
          have ed : d' = s.drawn := hm.drawn
          have eo : os' = s.os := hm.os
          subst eg; subst ed; subst eo
          show wpAny _ _ _ _ _ _
          refine wpAny_pure ?_
          show wpAny _ _ (ret Value.none) _ _ _
          refine wpAny_pure ⟨rfl, h', tk', rfl, hS', fun b o hb e => ?_⟩
          have hb1 : b ≠ s.heap.objs.size := Nat.ne_of_lt hb
          have hb2 : b ≠ (s.heap.push { cls := .type "set", dict := none, data := .set #[] 0 (.fresh 0 0 (ledOf w)) }).objs.size := by
            rw [Heap.size_push]; exact Nat.ne_of_lt (Nat.lt_succ_of_lt hb)
          exact hm.heap b o (by simp only [List.mem_cons, List.mem_singleton, List.not_mem_nil, or_false, not_or]; exact ⟨hb1, hb2⟩) (Heap.get?_push_of_some _ (Heap.get?_push_of_some _ e))
      · cases r₂ with
        | error e => exact hr₂
        | ok fl₂ =>
          cases fl₂ with
          | ret r =>
            obtain ⟨rfl, h', tk, rfl, hS', hk'⟩ := hr₂
            repeat (any_goals (first | assumption | wp_step))
            exact h _ _ hS' hk'
          | _ => exact hr₂.elim
    | _ => exact hr.elim
end
end SS
set_option maxHeartbeats 4000000
namespace L2
open PySem PySem.Spec
open PyProof.Rows hiding St
section
variable {X : Cx}
theorem call_setL (hc : X.calm = true) : CallR X (.type "set") (fun xs H Q => ∃ (q : Addr) (ns : List Int), xs = [V.ref q] ∧ SqL X.K H q (ns.map V.int) ∧ (∀ n ∈ ns, 0 ≤ n ∧ n < 8) ∧ ∀ l, H l = none → Q (.ref l) (upd H l (.ext fun h => SS.SetAt h l (SS.ledOf X.w) fun m => ns.contains (m : Int)))) := by
  intro pins s σ H xs us Q I r h
  obtain ⟨q, ns, rfl, hq, hb, hQ⟩ := h
  obtain ⟨u, rfl, rx⟩ := vals1 r
  cases rx
  obtain ⟨its, rv, pt, hz⟩ := I.list hq
  have pt : s.heap.IsList q its.toArray := by
    obtain ⟨o, n, e1, e2, e3, e4⟩ := pt
    exact ⟨o, e1, e2, n, by first | exact e3 | exact e4⟩
  have hl := rv.length
  rw [List.length_map] at hl
  have hi : ∀ (i : Nat) (v : Value), its.toArray[i]? = some v → (ns.getD i 0).toNat < 8 ∧ ∃ t, v = .int ((ns.getD i 0).toNat : Nat) t := fun i v e => by
    have e' : its[i]? = some v := by simpa using e
    have hlt : i < ns.length := by rw [hl]; exact (List.getElem?_eq_some_iff.mp e').1
    have hx : (ns.map V.int)[i]? = some (V.int ns[i]) := by rw [List.getElem?_map, List.getElem?_eq_getElem hlt]; rfl
    obtain ⟨u, hu, ru⟩ := rv.get hx
    rw [e'] at hu
    cases hu
    obtain ⟨t, rfl⟩ := ru
    have hd : ns.getD i 0 = ns[i] := by simp [List.getD, hlt]
    have hbb := hb ns[i] (List.getElem_mem hlt)
    rw [hd]
    exact ⟨by omega, t, by rw [Int.toNat_of_nonneg hbb.1]⟩
  refine SS.call_set_lst (I.ok.hd hc) pt hi fun h' tk hS hk => ?_
  have hS' : SS.SetAt h' s.heap.objs.size (SS.ledOf X.w) (fun m => ns.contains (m : Int)) := SS.set_congr (fun m _ => by
    unfold SS.met
    rw [Bool.eq_iff_iff, List.any_eq_true, List.contains_iff_mem]
    have hsz : its.toArray.size = ns.length := by simp [hl]
    rw [hsz]
    constructor
    · rintro ⟨j, hj, e⟩
      have hj' := List.mem_range.mp hj
      have hd : ns.getD j 0 = ns[j] := by simp [List.getD, hj']
      have hbb := hb ns[j] (List.getElem_mem hj')
      have e2 : (ns.getD j 0).toNat = m := by simpa using e
      rw [hd] at e2
      have : ns[j] = (m : Int) := by omega
      rw [← this]
      exact List.getElem_mem hj'
    · intro hm
      obtain ⟨j, hj, e⟩ := List.getElem_of_mem hm
      refine ⟨j, List.mem_range.mpr hj, ?_⟩
      have hd : ns.getD j 0 = ns[j] := by simp [List.getD, hj]
      dsimp only
      rw [hd, e]
      simp) hS
  exact ⟨.ref s.heap.objs.size, _, I.laid (t' := tk) (fun b o e => hk b o (Heap.lt_size e) e) (Nat.le_refl _) (ext_set hS'), rfl, hQ _ (I.hok.fresh (Nat.le_refl _))⟩
end
end L2
namespace DL
open PySem PySem.Spec L2
open PyProof.Rows hiding St
/-- sorted(set(..)) of a list of numbers below 8 -/
def rdSL0 : RDA := fun ds G Q => ∃ (i : Nat) (xs : List Dt) (ns : List Int), ds = [.ref i] ∧ cellL G i = some xs ∧ intsD xs = some ns ∧ (∀ n ∈ ns, 0 ≤ n ∧ n < 8) ∧ Q (.ref G.length) (G ++ [.lst ((SS.hs fun m => ns.contains (m : Int)).map fun (n : Nat) => Dt.int (n : Nat))])
structure rdSL (ds : List Dt) (G : GD) (Q : KD) : Prop where
  p : rdSL0 ds G Q
section
variable {X : Cx} {F : Fx} {e : Expr} {t : TDA} {pos p pos2 p2 : Pos}
theorem de_sortsetL (ha : DA X F [e] t) (hm : X.mg "sorted" = none) (hm2 : X.mg "set" = none) (hg : Gl X "sorted" := by rfl) (hg2 : Gl X "set" := by rfl) (hcalm : X.calm = true := by rfl)
    (he : starEach [e] X.env = (false, eval e X.env) :: starEach [] X.env := by exact star_cons rfl) (hpl : (backTo pos2 (starEach [] X.env)).any (·.1) = false := by exact back_any rfl)
    (he2 : starEach [.Call (.Name "set" p2) [e] [] pos2] X.env = (false, eval (.Call (.Name "set" p2) [e] [] pos2) X.env) :: starEach [] X.env := by exact star_cons rfl) (hpl2 : (backTo pos (starEach [] X.env)).any (·.1) = false := by exact back_any rfl) :
    DE X F (.Call (.Name "sorted" p) [.Call (.Name "set" p2) [e] [] pos2] [] pos) (dCB rdSL t) := by
  refine PE.imp (pe_callB (call_sortedS hcalm) hg hm bt_sorted (pa_cons (pe_callTy (call_setL hcalm) hg2 hm2 bt_set ha (by decide) (by decide) he hpl) pa_nil he2) (by decide) (by decide) he2 hpl2) fun σ H Qv ⟨σd, G, ι, Q, ok, ht, hq⟩ => ?_
  refine ⟨σd, G, ι, _, ok, ht, fun vs H1 ds G1 ι1 h1 g1 r1 q1 => ?_⟩
  obtain ⟨i, xs, ns, rfl, ec, ei, hb, q1⟩ := q1.p
  obtain ⟨v, e1, rv⟩ := rps1 r1
  subst e1
  obtain ⟨a, e2, q2⟩ := rv
  subst e2
  obtain ⟨ws, s2, rr⟩ := cellL_sq h1 q2 ec
  have e3 := intsD_rps ei rr
  subst e3
  refine ⟨a, ns, rfl, s2, hb, fun l hl => ?_⟩
  refine ⟨l, _, rfl, upd_same, fun l2 hl2 => ?_⟩
  have hG2 := h1.free (o := .ext fun h => SS.SetAt h l (SS.ledOf X.w) fun m => ns.contains (m : Int)) hl
  have g2 : Gr X.K H1 ι1 (upd H1 l (.ext fun h => SS.SetAt h l (SS.ledOf X.w) fun m => ns.contains (m : Int))) ι1 := Gr.free0 hl
  obtain ⟨x, y, z⟩ := rp_newLst hG2 (rps_nats (SS.hs fun m => ns.contains (m : Int))) hl2
  exact hq _ _ _ _ _ x (g1.trans (g2.trans y)) z q1
theorem de_sortsetL' (ha : DA' X F [e] t) (hm : X.mg "sorted" = none) (hm2 : X.mg "set" = none) (hg : Gl X "sorted" := by rfl) (hg2 : Gl X "set" := by rfl) (hcalm : X.calm = true := by rfl)
    (he : starEach [e] X.env = (false, eval e X.env) :: starEach [] X.env := by exact star_cons rfl) (hpl : (backTo pos2 (starEach [] X.env)).any (·.1) = false := by exact back_any rfl)
    (he2 : starEach [.Call (.Name "set" p2) [e] [] pos2] X.env = (false, eval (.Call (.Name "set" p2) [e] [] pos2) X.env) :: starEach [] X.env := by exact star_cons rfl) (hpl2 : (backTo pos (starEach [] X.env)).any (·.1) = false := by exact back_any rfl) :
    DE' X F (.Call (.Name "sorted" p) [.Call (.Name "set" p2) [e] [] pos2] [] pos) (dCB rdSL t) :=
  ⟨de_sortsetL (ha := ha.p) (hm := hm) (hm2 := hm2) (hg := hg) (hg2 := hg2) (hcalm := hcalm) (he := he) (hpl := hpl) (he2 := he2) (hpl2 := hpl2)⟩
end
end DL
namespace PySem.W
open PySem PySem.Spec PySem.Calls PyProof.Rows Builtin Builtin.ObjectAttr Builtin.Getset_descriptor
/-! an exception's own class: getAttr? and isinstance -/
section
variable {prog : Program} {w : World} {A : Around} {E : Value → Shared → Prop} {s : Shared} {K : Frag} {x D : Addr} 
def ExcAt (x D : Addr) (h : Heap) : Prop := ∃ o, h.get? x = some o ∧ o.cls = .ref D
theorem ExcAt.type {M : Model} {h : Heap} (I : ExcAt x D h) : Looks M h (typeOf (.ref x)) (.ref D) := by
  obtain ⟨o, e, c⟩ := I
  exact c ▸ (Looks.ld e).andThen .now
structure ExcIn (K : Frag) (D : Addr) : Prop where
  ga : findIn K (.ref D) "__getattribute__" = some (some (.builtin "BaseException.__getattribute__"))
  gn : findIn K (.ref D) "__getattr__" = some none
  f1 : findIn K (.ref D) "__class__" = some (some (.builtin "object.__class__"))
  f2 : specialIn K (.builtin "object.__class__") "__get__" = some (some (.builtin "getset_descriptor.__get__"))
  f3 : takesIn K (.builtin "object.__class__") = some true
  mo : mroIn K D (.type "object") = some true
  mb : mroIn K D (.type "BaseException") = some true
theorem exc_check {M : Model} {nameV : Value} {Q : Unit → Shared → Prop} (X : K.In s.heap) (I : ExcAt x D s.heap) (F : ExcIn K D) (hq : Q () s) :
    wpAny M A (checkBuiltinCall "BaseException.__getattribute__" ⟨[.ref x, nameV], []⟩) Q E s := by
  have hk : builtinKind "BaseException.__getattribute__" = some .slot := by decide +kernel
  have hsplit : splitId "BaseException.__getattribute__" = some ("BaseException", "__getattribute__") := by decide +kernel
  have ha := PySem.F.args_bexc_ga (.ref x) nameV
  have L0 := I.type (M := M)
  have L1 := looks_mroIn (M := M) X F.mb
  have LI : Looks M s.heap (isInstance (.ref x) (.type "BaseException")) true := L0.andThen L1
  obtain ⟨h, g, d, t, os⟩ := s
  simp only [checkBuiltinCall, hk, hsplit]
  refine wpAny_bind (LI.at ?_)
  repeat (first | wp_step)
  exact hq
theorem exc_find {M : Model} {h : Heap} (X : K.In h) (F : ExcIn K D) : Looks M h (Builtin.ObjectAttr.find (.ref x) (.ref D) "__class__") (.bind (.builtin "getset_descriptor.__get__") (.builtin "object.__class__")) := by
  have L1 := looks_findIn (M := M) X F.f1
  have L2 : Looks M h (Builtin.ObjectAttr.getOf (some (.builtin "object.__class__"))) (some (.builtin "getset_descriptor.__get__")) := looks_specialIn X F.f2
  have L3 := looks_takesIn (M := M) X F.f3
  refine L1.andThen (L2.andThen ?_)
  exact (show Looks M h (Builtin.ObjectAttr.dataDescriptor? (some (.builtin "object.__class__")) (some (.builtin "getset_descriptor.__get__"))) (some (.builtin "getset_descriptor.__get__", .builtin "object.__class__")) from L3.andThen .now).andThen (Looks.tag .now)
theorem exc_clsget {tp : Value} {R : Result → Shared → Prop} (X : K.In s.heap) (I : ExcAt x D s.heap) (hm : mroIn K D (.type "object") = some true)
    (h : R (.ok (.ret (.ref D))) s) : codeAny (model prog w) A (.call (.builtin "getset_descriptor.__get__") ⟨[.builtin "object.__class__", .ref x, tp], []⟩) R s := by
  obtain ⟨hh, g, dr, t, os⟩ := s
  have L0 := I.type (M := model prog w)
  have L1 := looks_mroIn (M := model prog w) X hm
  refine codeAny_call_builtin KF.slot_gs.plain KF.entry_gs (KF.slot_gs.check _ _ _ _ _ _ _ _ KF.type_class (KF.args_gs _ _ _) ?_)
  unfold Builtin.«getset_descriptor.__get__» descrGet
  rw [dga_obj]
  refine wpAny_bind (wpAny_pure ?_)
  unfold descrGetter descrCheckInstance descrNameAndClass isInstance
  simp only [KF.owner_class]
  repeat lk
  refine ⟨Code.quiet_builtin _ (by decide +kernel), codeAny_builtin KF.entry_class ?_⟩
  unfold Builtin.«object.__class__» shownTypeOf
  repeat lk
  exact h
theorem exc_ga {tk : Tok} {R : Result → Shared → Prop} (X : K.In s.heap) (I : ExcAt x D s.heap) (F : ExcIn K D) (hq : R (.ok (.ret (.ref D))) s) :
    codeAny (model prog w) A (.call (.builtin "BaseException.__getattribute__") ⟨[.ref x, .str "__class__" tk], []⟩) R s := by
  refine codeAny_call_builtin PySem.F.excAttr_ValueError.ga.plain PySem.F.entry_bexc_ga (exc_check X I F ?_)
  obtain ⟨h, g, d, t, os⟩ := s
  have L0 := I.type (M := model prog w)
  have L1 := exc_find (M := model prog w) (x := x) X F
  refine wpAny_bind (wpAny_pure (wpAny_bind (wpAny_pure (wpAny_bind (L0.at (wpAny_bind (L1.at ?_)))))))
  show wpAny _ _ (holding [_] (call _ [_, .ref x, .ref D]) >>= ret) _ _ _
  refine wpAny_bind (wpAny_holding (wpAny_call (exc_clsget X I F.mo ?_)))
  exact wpAny_pure hq
theorem exc_class {Q : Option Value → Shared → Prop} (X : K.In s.heap) (I : ExcAt x D s.heap) (F : ExcIn K D) (h : Q (some (.ref D)) { s with toks := s.toks + 1 }) :
    wpAny (model prog w) A (getAttr? (.ref x) "__class__") Q E s := by
  obtain ⟨hh, g, d, t, os⟩ := s
  have L0 := I.type (M := model prog w)
  have L1 := looks_findIn (M := model prog w) X F.ga
  have L2 := looks_findIn (M := model prog w) X F.gn
  have hb := PySem.F.excAttr_ValueError.ga.bind (.ref x)
  unfold getAttr? getAttrBy? getAttrBy
  refine wpAny_bind (wpAny_mkText (wpAny_bind (wpAny_attempt (wpAny_holding (wpAny_bind (L0.at (wpAny_bind (L1.at ?_))))))))
  show wpAny _ _ (getAttrByItsOwn _ _ _ _ _ _) _ _ _
  unfold getAttrByItsOwn hookBefore
  refine wpAny_bind (L2.at ?_)
  refine wpAny_bind (wpAny_attempt (wpAny_holding ?_))
  show wpAny _ _ (boundAndCalled _ _ _) _ _ _
  unfold boundAndCalled
  refine wpAny_bind (wpAny_of_eq hb (wpAny_call (exc_ga X I F ?_)))
  exact wpAny_pure (wpAny_pure h)
theorem kitx_exc (F : ExcIn K D) : KitX K (.ref x) (.ref D) (ExcAt x D) where
  ty := fun _ _ _ I => I.type
  it := fun _ _ X _ => by
    obtain ⟨cdD, hcD, _⟩ := Option.bind_eq_some_iff.mp F.mo
    unfold clsIn at hcD
    split at hcD
    · rename_i c' d' cd' sl' ho
      intro A' Q' E' s' k q
      unfold isType loadHead
      exact wpAny_bind (wpAny_loadPart (k _ _ (X _ _ ho)) (wpAny_pure q))
    · cases hcD
  ne := fun h tp dd its n sl X htp => by
    obtain ⟨cdD, hcD, _⟩ := Option.bind_eq_some_iff.mp F.mo
    refine Bool.eq_false_iff.mpr fun q => ?_
    have e : D = tp := Value.ref.inj (beq_iff_eq.mp q)
    subst e
    unfold clsIn at hcD
    split at hcD
    · rename_i c' d' cd' sl' ho
      have z := (X _ _ ho).symm.trans htp
      cases z
    · cases hcD
  ca := fun X I k => exc_class X I F k
/-- isinstance(e, C) -/
theorem isi_exc {c : Value} {b : Bool} {Q : Value → Shared → Prop} (X : K.In s.heap) (I : ExcAt x D s.heap) (F : ExcIn K D) (e : kitOne K (.ref D) c = some b) (h : ∀ tk, Q (.bool b) { s with toks := tk }) :
    wpAny (model prog w) A (call (.builtin "isinstance") [.ref x, c]) Q E s :=
  kia_one (kitx_exc F) X I e (fun z => by cases z) h
end
end PySem.W
namespace L2
open PySem PySem.Spec PyProof.Rows
/-! ### an exception of one's own class leaves a def -/
section
variable {P : Program} {w : World} {H : Hp} {h : Heap} {a : Addr} {o : HO}
theorem ObjOk.there (x : ObjOk P w H h a o) : ∃ ob, h.get? a = some ob := by
  cases o with
  | lst xs => obtain ⟨_, _, _, _, e⟩ := x; exact ⟨_, e⟩
  | tup xs => obtain ⟨_, _, _, o, e, _⟩ := x; exact ⟨_, e⟩
  | dK kvs => obtain ⟨_, _, _, _, o, _, _, e, _⟩ := x; exact ⟨_, e⟩
  | dT kvs => obtain ⟨_, _, _, _, o, _, _, e, _⟩ := x; exact ⟨_, e⟩
  | set S n => obtain ⟨o, _, _, _, e, _⟩ := x; exact ⟨_, e⟩
  | ins C dx fs => obtain ⟨_, _, _, e, _⟩ := x; exact ⟨_, e⟩
  | own y => exact x
  | xd fs => obtain ⟨_, ⟨_, _, _, e, _⟩, _⟩ := x; exact ⟨_, e⟩
  | rng lo hi => obtain ⟨_, _, _, e⟩ := x; exact ⟨_, e⟩
  | frz ob u => obtain ⟨e, _⟩ := x; exact ⟨_, e⟩
  | tbl ps => exact ⟨_, show h.get? a = some _ from x⟩
  | met f y => exact ⟨_, show h.get? a = some _ from x⟩
  | ext φ => obtain ⟨_, e, _⟩ := x; exact e
end
/-- behind the call: ea the exception, g the heap where it was raised, fs the frames that ran there -/
structure Flew (C : Addr) (P : Program) (w : World) (outer : List Env) (H : Hp) (s : Shared) (ea t : Addr) (g : Heap) (H1 : Hp) (fs : List Addr) (s' : Shared) : Prop where
  os : s'.os = s.os
  bare : AllBare s'.gens
  un : Un (frs outer) [] H H1 s.heap g
  hok : HOk P w H1 g
  fnew : ∀ b ∈ fs, b ∈ frs outer ∨ s.heap.get? b = none
  ffree : ∀ b ∈ fs, H1 b = none
  fsub : ∀ b ∈ frs outer, b ∈ fs
  fly : Heap.FlyingW (PySem.W.hideAll g fs) outer ea (.ref C) (.ref t) s'.heap
  up : g.UpToSlots s'.heap
  new : g.get? ea = none
def CXE (C : Addr) (P : Program) (w : World) : CXT := fun outer H s E e s' => ∃ ea t g H1 fs, e = .ref ea ∧ Flew C P w outer H s ea t g H1 fs s' ∧ E (.ref C) none H1
theorem exc_obj {K : PySem.W.Frag} {h : Heap} {C : Addr} {bmB : List Value} {newId : String} (X : K.In h) (q : PySem.W.excIn K C bmB newId = true) :
    ∃ bm N nm q bs hdct sn sub ab col dd k0 k1 k2 k3 k5 mN, h.get? C = some (excClassObj nm q C N bs bm hdct sn sub ab col dd k0 k1 k2 k3 k5 newId) ∧ h.Ns N mN ∧ mN "__init__" = none ∧ OwnTail h bmB bm := by
  unfold PySem.W.excIn at q
  split at q
  · rename_i dd cd sl ho
    split at q
    · rename_i C' bm k0 k1 k2 k3 n k5 hm hs
      simp only [Bool.and_eq_true, beq_iff_eq, Bool.not_eq_true'] at q
      obtain ⟨⟨⟨⟨⟨rfl, rfl⟩, hdel⟩, ht⟩, hok⟩, hni⟩ := q
      obtain ⟨nm, bs, mro, ns, qn, hd, sn, sub, ab, col, del⟩ := cd
      dsimp only at hm hdel hok hni
      subst hm hdel
      have hsl : sl = #[k0, k1, k2, k3, some (.builtin n), k5] := by
        obtain ⟨l⟩ := sl
        simp only at hs
        rw [hs]
      subst hsl
      exact ⟨bm, ns, nm, qn, bs, hd, sn, sub, ab, col, dd, k0, k1, k2, k3, k5, _, X _ _ ho, .of_isNs (PySem.W.isNs_of_in X hok), PySem.W.nsMap_none_of_in X hok hni, PySem.W.tail_of_in X ht⟩
    · cases q
  · cases q
/-- raise C(..) -/
def tRaise (C : Addr) (E : XK) (t : TA) : TS := fun _ σ H => t σ H fun vs H1 => vs.length ≤ sizeLine ∧ E (.ref C) none H1
theorem ps_raise {P : Program} {w : World} {K : PySem.W.Frag} {mg : Str → Option Value} {base : Heap} {N : List Str} {qual : Str} {scope : Scope} {f : Addr} {cd : Value} {A : Around} {outer : List Env} {s₀ : Shared} {H₀ : Hp} {E : XK}
    {x : Str} {C : Addr} {B newId initId : String} {bmB : List Value} {np cpos pos : Pos} {e : Expr} {es : List Expr} {t : TA}
    (FB : ExcBaseFacts B newId initId bmB) (q : PySem.W.excIn K C bmB newId = true) (hm : mg x = some (.ref C)) (ha : PA (cxOf (CXE C P w) P w K mg base N qual scope f cd A outer s₀ H₀ E) (e :: es) t)
    (hg : Gl (cxOf (CXE C P w) P w K mg base N qual scope f cd A outer s₀ H₀ E) x) (hd : (x == ("__debug__" : Str)) = false := by decide)
    (he : starEach (e :: es) (cxOf (CXE C P w) P w K mg base N qual scope f cd A outer s₀ H₀ E).env = (false, eval e (cxOf (CXE C P w) P w K mg base N qual scope f cd A outer s₀ H₀ E).env) :: starEach es (cxOf (CXE C P w) P w K mg base N qual scope f cd A outer s₀ H₀ E).env := by rfl)
    (hpl : (backTo cpos (starEach es (cxOf (CXE C P w) P w K mg base N qual scope f cd A outer s₀ H₀ E).env)).any (·.1) = false := by rfl) :
    PS (cxOf (CXE C P w) P w K mg base N qual scope f cd A outer s₀ H₀ E) (.Raise (some (.Call (.Name x np) (e :: es) [] cpos)) none pos) (tRaise C E t) := by
  intro pins s σ H D I h
  obtain ⟨tl, NN, nm, qn, bs, hdct, sn, sub, ab, col, dd, k0, k1, k2, k3, k5, mN, hC, hN, hni, T⟩ := exc_obj I.ok.mod.kin q
  refine wpAny_Raise_call_subT (C := C) (nm := nm) (q := qn) (N := NN) (bs := bs) (bm := tl) (hdct := hdct) (sn := sn) (sub := sub) (ab := ab) (col := col) (dd := dd) (k0 := k0) (k1 := k1) (k2 := k2) (k3 := k3) (k5 := k5)
    FB (mN := mN) (T.hasType FB.hasBase) (I.ok.hd rfl) (by rw [he]; show (false || (backTo cpos (starEach es _)).any (·.1)) = false; rw [hpl]; rfl) hni (ld_glob I hg hm ⟨rfl, ?_⟩ hd)
  have go := ha cpos pins s σ H _ I h
  rw [he] at go ⊢
  refine Calls.evalArgs_plain (wpAny_mono go (fun us s₂ h₂ => ?_) fun _ _ y => y)
  obtain ⟨vs, H1, I1, r, hlen, hE⟩ := h₂
  have hlen' : us.length ≤ sizeLine := by rw [← r.length]; exact hlen
  refine ⟨rfl, hlen', I1.bk _ _ hC, hN.keeps I1.bk, T.keeps I1.bk, fun h' ea hx => ?_⟩
  have fr := I1.ok.frames
  have hin : ∀ env ∈ (cxOf (CXE C P w) P w K mg base N qual scope f cd A outer s₀ H₀ E).stack, ∀ b, env.frame = some b → b ∈ frs (cxOf (CXE C P w) P w K mg base N qual scope f cd A outer s₀ H₀ E).stack := fun env he b hb => List.mem_filterMap.mpr ⟨env, he, hb⟩
  refine wpAny_leaves_madeW (base := PySem.W.hideAll s₂.heap (frs (cxOf (CXE C P w) P w K mg base N qual scope f cd A outer s₀ H₀ E).stack)) fr rfl (fun b o q => PySem.W.of_hideAll _ q) (PySem.W.funFrames_hide I1.stack hin) hx fun h'' t x1 x2 x3 x4 => ?_
  refine ⟨ea, t, s₂.heap, H1, _, rfl, ⟨I1.os, I1.bare, I1.base, I1.hok, fun b hb => ?_, I1.stkFree, fun b hb => ?_, x1, (Heap.UpToSlots.of_keeps hx.keeps).trans x4, hx.new⟩, hE⟩
  · rcases List.mem_cons.mp (I1.stkSub b hb) with z | z
    · right
      rw [z]
      exact Heap.get?_none_of_le (Nat.le_refl _)
    · exact .inl z
  · obtain ⟨env, he, hf⟩ := List.mem_filterMap.mp hb
    exact List.mem_filterMap.mpr ⟨env, List.mem_cons_of_mem _ he, hf⟩
end L2
namespace L2
open PySem PySem.Spec PyProof.Rows
section
variable {X : Cx} {pins : List (Addr × Obj)} {σ : St} {H H1 : Hp} {s s' : Shared} {C ea t : Addr} {g : Heap} {fs : List Addr} {oe : Obj}
/-- whatever the exception's own records do: the caller's state behind it -/
theorem Flew.at (I : Inv X pins σ H s) (F : Flew C X.prog X.w X.stack H s ea t g H1 fs s') {h' : Heap} (st : (PySem.W.hideAll g fs).StaysIn h') (up : g.UpToSlots h') :
    Un (frs X.stack) [] H H1 s.heap h' ∧ HOk X.prog X.w H1 h' := by
  have nofs : ∀ b o, s.heap.get? b = some o → b ∉ frs X.stack → b ∉ fs := fun b o e hb z => by
    rcases F.fnew b z with q | q
    · exact hb q
    · rw [q] at e; cases e
  have slot : ∀ b o, s.heap.get? b = some o → H b = none → b ∈ frs X.stack → ∃ sl, h'.get? b = some { o with slots := sl } := fun b o e n hb => by
    obtain ⟨sl, e1⟩ := F.un.slot b o e n hb (by simp)
    obtain ⟨_, o', ho', hd⟩ := I.stack.mem hb
    rw [e] at ho'
    cases ho'
    obtain ⟨sl', e2⟩ := up b _ e1 hd
    exact ⟨sl', e2⟩
  refine ⟨⟨fun b o e n hb hx => ?_, fun b o e n hb hx => slot b o e n hb, F.un.free, fun b o e hx => ?_, F.un.tups, F.un.frzs, F.un.tbls⟩, fun a o e => (F.hok a o e).stay (fun b u hb q => ?_) (fun _ q => q) fun _ _ q => q⟩
  · exact st b o (PySem.W.hideAll_get _ (F.un.keep b o e n hb hx) (nofs b o e hb))
  · by_cases hb : b ∈ frs X.stack
    · obtain ⟨sl, q⟩ := slot b o e (I.stkFree b hb) hb
      exact ⟨_, q⟩
    · obtain ⟨o', e1⟩ := F.un.there b o e hx
      exact ⟨o', st b o' (PySem.W.hideAll_get _ e1 (nofs b o e hb))⟩
  · refine st b u (PySem.W.hideAll_get _ q fun z => ?_)
    have n := F.ffree b z
    rcases hb with rfl | hb
    · rw [n] at e; cases e
    · rw [n] at hb; cases hb
theorem Flew.inv (I : Inv X pins σ H s) (F : Flew C X.prog X.w X.stack H s ea t g H1 fs s') {h' : Heap} (st : (PySem.W.hideAll g fs).StaysIn h') (up : g.UpToSlots h') : Inv X pins σ H1 { s' with heap := h' } := by
  obtain ⟨un, hok⟩ := F.at I st up
  exact I.call' (s' := { s' with heap := h' }) (ch := []) F.os un hok F.bare (fun b z => absurd z (by simp))
theorem Flew.none (F : Flew C X.prog X.w X.stack H s ea t g H1 fs s') : H1 ea = none := by
  cases q : H1 ea with
  | none => rfl
  | some o =>
    obtain ⟨ob, e⟩ := (F.hok ea o q).there
    rw [F.new] at e
    cases e
theorem Flew.apart (F : Flew C X.prog X.w X.stack H s ea t g H1 fs s') {b : Addr} {o : Obj} (h : s.heap.get? b = some o) : ea ≠ b := fun z => by
  obtain ⟨o', e⟩ := F.un.there b o h (by simp)
  rw [← z, F.new] at e
  cases e
/-- within an except suite -/
abbrev Cx.held (X : Cx) (ea : Addr) (oe : Obj) : Cx := { X with A := X.A.mark (some (.ref ea)), calm := false, pn := (ea, oe) :: X.pn, xe := fun _ _ => False }
theorem Inv.hold (I : Inv X pins σ H s) (he : s.heap.get? ea = some oe) (hn : H ea = none) (hL : ea ≠ X.env.locals) (hf : ea ∉ X.fs) (hc : ∀ v, oe.data ≠ .cell v) : Inv (X.held ea oe) pins σ H s := by
  have ok := I.ok
  refine ⟨⟨ok.mod, ok.kind, ok.glob, ok.blt, ok.above, ok.inj, ok.has, ok.cab, (fun z => by cases z), ok.frames, ok.stk, ok.exf, ok.bs, ok.bsz, ok.noex, ok.exfs, ok.funs, ok.frf⟩, I.os, I.bare, I.base, I.loc, I.cell, I.free, I.freeC, fun p hp => ?_, I.hok, I.len⟩
  rcases List.mem_cons.mp (show p ∈ (ea, oe) :: (X.pn ++ pins) from hp) with rfl | z
  · exact ⟨he, hn, hL, hf, hc⟩
  · exact I.pin p z
theorem Inv.unhold (ok : X.Ok) (I : Inv (X.held ea oe) pins σ H s) : Inv X pins σ H s :=
  ⟨ok, I.os, I.bare, I.base, I.loc, I.cell, I.free, I.freeC, fun p hp => I.pin p (show p ∈ (ea, oe) :: (X.pn ++ pins) from List.mem_cons_of_mem _ hp), I.hok, I.len⟩
/-- a name goes -/
theorem Inv.gone {j : Nat} {n : Str} {h' : Heap} {m : Str → Option Value} {v : Option Value} {tk : Nat} (I : Inv X pins σ H s) (hN : X.N.Nodup) (hj : X.N[j]? = some n) (hm : s.heap.Ns X.env.locals m)
    (hl : ∀ (i : Nat) (x : Str) (v : V), X.N[i]? = some x → σ[i]? = some (some v) → Vis X.env.scope x → ∃ u, RelV v u ∧ Look X.env s.heap m x u)
    (hn : h'.Ns X.env.locals (fun x => if x = n then v else m x)) (hs : Heap.SameBut X.env.locals s.heap h') : Inv X pins (σ.set j none) H { s with heap := h', toks := tk } := by
  have ne : ∀ b o, X.s₀.heap.get? b = some o → b ≠ X.env.locals := fun b o e => Nat.ne_of_lt (Nat.lt_of_lt_of_le (Heap.lt_size e) I.ok.above)
  have cellK : ∀ x c, X.env.cells.lookup x = some c → ∀ v, s.heap.IsCell c v → h'.IsCell c v := fun x c e v ⟨o, ho, hd⟩ => ⟨o, (hs.2 c (I.cne x c e)).trans ho, hd⟩
  refine ⟨I.ok, I.os, I.bare, ⟨fun b o e n hb hx => ?_, fun b o e n hb hx => ?_, I.base.free, fun b o e hx => ?_, I.base.tups, I.base.frzs, I.base.tbls⟩, ⟨_, hn, fun i y v' e1 e2 e3 => ?_⟩, fun y c e => ?_, I.free, I.freeC, fun p hp => ?_, fun b ob e => ?_, by simpa using I.len⟩
  · exact (hs.2 b (ne b o e)).trans (I.base.keep b o e n hb hx)
  · obtain ⟨sl, e1⟩ := I.base.slot b o e n hb hx
    exact ⟨sl, (hs.2 b (ne b o e)).trans e1⟩
  · obtain ⟨o', e1⟩ := I.base.there b o e hx
    exact ⟨o', (hs.2 b (ne b o e)).trans e1⟩
  · by_cases hij : i = j
    · subst hij
      rw [List.getElem?_set_self'] at e2
      cases q : σ[i]? with
      | none => rw [q] at e2; cases e2
      | some _ => rw [q] at e2; cases e2
    · rw [List.getElem?_set_ne (Ne.symm hij)] at e2
      obtain ⟨u, r, l⟩ := hl i y v' e1 e2 e3
      refine ⟨u, r, ?_⟩
      rcases l with ⟨k, l⟩ | ⟨k, c, e, z⟩
      · refine .inl ⟨k, ?_⟩
        have hy : y ≠ n := fun z => hij (nodup_ix hN (z ▸ e1) hj)
        show (if y = n then v else m y) = some u
        rw [if_neg hy]
        exact l
      · exact .inr ⟨k, c, e, cellK y c e _ z⟩
  · obtain ⟨v, z⟩ := I.cell y c e
    exact ⟨v, cellK y c e v z⟩
  · obtain ⟨e, n, ne, nf, d⟩ := I.pin p hp
    exact ⟨(hs.2 p.1 ne).trans e, n, ne, nf, d⟩
  · refine (I.hok b ob e).stay (fun c w' hc q => (hs.2 c ?_).trans q) (fun _ q => q) fun _ _ q => q
    rintro rfl
    rcases hc with rfl | hc
    · rw [I.free] at e; cases e
    · rw [I.free] at hc; cases hc
end
/-- statements that may raise C; EX: what is wanted behind the exception -/
def PX (X : Cx) (C : Addr) (st : List Stmt) (tb : Ends → (St → Hp → Prop) → St → Hp → Prop) : Prop :=
  ∀ (pins : List (Addr × Obj)) (s : Shared) (σ : St) (H : Hp) (D : Ends) (EX : St → Hp → Prop), Inv X pins σ H s → tb D EX σ H →
    wpAny (model X.prog X.w) X.A (execs st X.env) (SP X pins D) (fun e s' => ∃ s1 H0 ea t g H1 fs, Inv X pins σ H0 s1 ∧ e = .ref ea ∧ Flew C X.prog X.w X.stack H0 s1 ea t g H1 fs s' ∧ EX σ H1) s
section
variable {X : Cx} {C k : Addr} {x y n : Str} {c : Value} {j : Nat} {body suite : List Stmt} {b₀ : Stmt} {p np hpos pos p5 : Pos}
theorem px_call {f : Addr} {fd : FuncData} {ps : List Str} {sp : Sp} {e : Expr} {es : List Expr} {t : TA} {i : Nat} {k : Nat} (F : FnOk X.prog X.w X.K X.mg X.base (CXE C X.prog X.w) k f fd ps sp) (hr : Room k X.A) (hg : Gl X x) (hm : X.mg x = some (.ref f)) (hk : PySem.W.keepIn X.K (.ref f) = true)
    (hb : Binds X.K fd ps []) (ha : PA X (e :: es) t) (hxe : ∀ e s', X.xe e s' → False) (hN : X.N.Nodup) (hi : X.N[i]? = some y) (hx : Loc X.env.scope y)
    (hs : swapsWith (.Call (.Name x p) (e :: es) [] pos) (some (.Name y np)) p5.line X.env = pure false := by rfl) (hf : X.fn y = true ∨ X.env.scope.names.lookup y = some .local := by first | exact .inl rfl | exact .inr rfl | assumption)
    (hdb : (x == ("__debug__" : Str)) = false := by decide) (he : starEach (e :: es) X.env = (false, eval e X.env) :: starEach es X.env := by rfl) (hpl : (backTo pos (starEach es X.env)).any (·.1) = false := by rfl) :
    PX X C [.Assign [.Name y np] (.Call (.Name x p) (e :: es) [] pos) p5] (fun D EX σ H => t σ H fun vs H1 => sp vs H1 (fun v H2 => D.nx (σ.set i (some v)) H2) (fun _ _ H2 => EX σ H2)) := by
  intro pins s σ H D EX I h
  refine wpAny_execs_cons (wpAny_mono (wpAny_Assign_Name (Q := fun f s1 => SP X pins D f s1 ∧ f = .next) (wpAny_Call_Name_kw (ld_glob I hg hm ?_ hdb)) hs) (fun f s1 q => ?_) fun _ _ z => z)
  · refine PySem.W.callWith_K (h₀ := X.base) I.ok.mod.kin hk (wpAny_mono (ha pos pins s σ H _ I h) (fun us s1 z => ?_) (fun _ _ z => (hxe _ _ z).elim)) he hpl
    obtain ⟨vs, H1, I1, r, q⟩ := z
    refine ⟨I1.kIn, ?_⟩
    have hl : us.length = ps.length := by rw [← r.length]; exact F.len _ _ _ _ q
    have hb' := hb s1 us I1.kIn (by rw [List.append_nil]; exact hl)
    rw [List.append_nil] at hb'
    refine wpAny_call (codeAny_mono (F.run X.A X.stack s1 H1 ⟨us, []⟩ us vs _ _ hr I1.env0 hb' r q) fun r s' hq => ?_)
    cases r with
    | error e =>
      obtain ⟨ea, t, g, H2, fs, rfl, FL, hE⟩ := hq
      exact ⟨s1, H1, ea, t, g, H2, fs, I1, rfl, FL, hE⟩
    | ok fl =>
      cases fl with
      | ret u =>
        obtain ⟨v, H2, I2, r2, q2⟩ := I1.after hq
        exact store_ok I2 hN hi hx r2 (fun s2 I3 => ⟨⟨_, H2, I3, q2⟩, rfl⟩) hf
      | next => exact False.elim hq
      | brk => exact False.elim hq
      | cont => exact False.elim hq
  · obtain ⟨q, rfl⟩ := q
    exact wpAny_execs_nil q
def Ends.gone (D : Ends) (j : Nat) : Ends := { nx := fun σ H => D.nx (σ.set j none) H, rt := D.rt, bk := fun σ H => D.bk (σ.set j none) H, ct := fun σ H => D.ct (σ.set j none) H }
def tTryAs (j : Nat) (tb : Ends → (St → Hp → Prop) → St → Hp → Prop) (ts : Addr → TS) : TS := fun D σ H => tb D (fun σ H1 => ∀ ea, H1 ea = none → ts ea (D.gone j) (σ.set j (some (.ref ea))) H1) σ H
theorem ps_try_as {tb : Ends → (St → Hp → Prop) → St → Hp → Prop} {ts : Addr → TS} (hb : PX X C body tb) (hst : X.stack = X.env :: X.outer) (hfr : X.env.frame = some X.env.locals)
    (hs : ∀ ea oe, oe.cls = .ref C → PSs (X.held ea oe) (b₀ :: suite) (ts ea)) (hm : X.mg x = some c) (hg : Gl X x) (he : PySem.W.exmOne X.K (.ref C) c = some true)
    (hN : X.N.Nodup) (hj : X.N[j]? = some n) (hl : X.env.scope.names.lookup n = some .local) (hd : (x == ("__debug__" : Str)) = false := by decide) :
    PS X (.Try body [.ExceptHandler (some (.Name x np)) (some n) (b₀ :: suite) hpos] [] [] pos) (tTryAs j tb ts) := by
  intro pins s σ H D I h
  refine wpAny_Try_except (wpAny_mono (hb pins s σ H D _ I h) (fun f s1 q => ?_) (fun e s1 q => ?_))
  · cases f with
    | next => exact wpAny_execs_nil q
    | ret v => exact q
    | brk => exact q
    | cont => exact q
  · obtain ⟨s0, H0, ea, t, g, H1, fs, I0, rfl, F, hEX⟩ := q
    have hno := F.none
    have hL : ea ≠ X.env.locals := by
      obtain ⟨m, ⟨o, _, _, ho, _⟩, _⟩ := I0.loc
      exact F.apart ho
    have hfs : ea ∉ X.fs := fun z => by
      obtain ⟨_, o, ho, _⟩ := I0.funs.mem z
      exact F.apart ho rfl
    have fly := F.fly
    rw [hst] at fly
    have fr := I0.ok.frames
    rw [hst] at fr
    refine wpAny_looks_onW fr hfr fly fun h₄ hheld₄ hsm₄ => ?_
    refine wpAny_landsW hheld₄ fun h₅ hheld hsm₅' => ?_
    have up5 := F.up.trans (hsm₄.trans hsm₅')
    have I5 : Inv X pins σ H1 { s1 with heap := h₅ } := F.inv I0 hheld.1 up5
    obtain ⟨oe, ws, hoe, hoec, hoed, hoe0⟩ := hheld.first
    have I5' := I5.hold hoe hno hL hfs (fun v z => by rw [hoed] at z; cases z)
    refine wpAny_handleBy_cons (codeAny_handlers_test (ld_glob I5' hg hm ?_ hd)) (by intro q; cases q)
    have LT : PySem.W.Looks (model X.prog X.w) h₅ (typeOf (.ref ea)) (.ref C) := PySem.W.ExcAt.type ⟨oe, hoe, hoec⟩
    refine (PySem.W.exm_one I5.kIn LT he).at ?_
    refine codeAny_handlers_suite_as ?_
    refine lands_againW hheld fun h₆ hfl₆ hsm₆ => ?_
    have I6 : Inv X pins σ H1 { s1 with heap := h₆ } := F.inv I0 hfl₆.1 (up5.trans hsm₆)
    obtain ⟨oe', ws', hoe', hoec', hoed', _⟩ := hfl₆.first
    have I6' := I6.hold hoe' hno hL hfs (fun v z => by rw [hoed'] at z; cases z)
    refine store_ok (X := X.held ea oe') I6' hN hj (.inl hl) (v := .ref ea) rfl (fun s7 I7 => ?_) (.inr hl)
    refine wpAny_mono (hs ea oe' hoec' pins s7 _ H1 (D.gone j) I7 (hEX ea hno)) (fun f s8 q => ?_) (fun _ _ z => z.elim)
    have fin : ∀ {σ' : St} {H' : Hp} {Q : Shared → Prop}, Inv X pins σ' H' s8 → (∀ s9, Inv X pins (σ'.set j none) H' s9 → Q s9) → wpAny (model X.prog X.w) X.A (do bindName X.env n .none; unbindBehindTheSuite X.env n hpos) (fun _ s₃ => Q s₃) X.xe s8 := fun {σ' H' Q} I8 k => by
      obtain ⟨m, hn, hl'⟩ := id I8.loc
      exact wpAny_nameGoes_keeps hl hn (by rw [I8.ok.kind]; rfl) fun h' v hn' hsb => k _ (I8.gone hN hj hn hl' hn' hsb)
    cases f with
    | next =>
      obtain ⟨σ', H', I8, q⟩ := q
      exact fin (I8.unhold I0.ok) fun s9 I9 => ⟨_, H', I9, q⟩
    | brk =>
      obtain ⟨σ', H', I8, q⟩ := q
      exact fin (I8.unhold I0.ok) fun s9 I9 => ⟨_, H', I9, q⟩
    | cont =>
      obtain ⟨σ', H', I8, q⟩ := q
      exact fin (I8.unhold I0.ok) fun s9 I9 => ⟨_, H', I9, q⟩
    | ret u =>
      obtain ⟨v, σ', H', I8, r, q⟩ := q
      exact fin (I8.unhold I0.ok) fun s9 I9 => ⟨v, _, H', I9, r, q⟩
end
end L2
namespace DL
open PySem PySem.Spec L2
open PyProof.Rows hiding St
abbrev SpX := List Dt → GD → KD → (GD → Prop) → Prop
def liSpX (K : PySem.W.Frag) (n : Nat) (sp : SpX) : Sp := fun vs H Q E => ∃ ds G ι Qd Ed, ds.length = n ∧ HG K G H ι ∧ Rps K H ι ds vs ∧ sp ds G Qd Ed ∧
  (∀ v H' d G' ι', HG K G' H' ι' → Gr K H ι H' ι' → Rp K H' ι' d v → Qd d G' → Q v H') ∧ (∀ c H' G' ι', HG K G' H' ι' → Gr K H ι H' ι' → Ed G' → E c none H')
structure FncX (P : Program) (w : World) (K : PySem.W.Frag) (mg : Str → Option Value) (base : Heap) (C : Addr) (x : Str) (k : Nat) (ps : List Str) (sp : SpX) : Prop where
  ex : ∃ f fd, FnOk P w K mg base (CXE C P w) k f fd ps (liSpX K ps.length sp) ∧ mg x = some (.ref f) ∧ PySem.W.keepIn K (.ref f) = true ∧ Binds K fd ps []
def LiX (K : PySem.W.Frag) (F : Fx) (Ed : GD → Prop) (E : XK) (C : Addr) : Prop := ∀ H' G' ι', HG K G' H' ι' → Gr K F.H F.ι H' ι' → Ed G' → E (.ref C) none H'
theorem PS.nox {X : Cx} {st : Stmt} {t : TS} (h : PS X.nox st t) : PS X st t := fun pins s σ H D I hw =>
  wpAny_mono (h pins s σ H D (I.wish _) hw) (fun _ _ q => q.unwish) fun _ _ z => False.elim z
theorem DS'.nox {X : Cx} {F : Fx} {st : Stmt} {t : TDS} (h : DS' X.nox F st t) : DS' X F st t := ⟨PS.nox h.p⟩
/-- raise C(..) -/
def dRaise (Ed : GD → Prop) (ta : TDA) : TDS := fun _ σ G => ta σ G fun ds G' => ds.length ≤ sizeLine ∧ Ed G'
section
variable {P : Program} {w : World} {K : PySem.W.Frag} {mg : Str → Option Value} {base : Heap}
theorem ds_raise' {N : List Str} {qual : Str} {scope : Scope} {f : Addr} {cd : Value} {A : Around} {outer : List Env} {s₀ : Shared} {H₀ : Hp} {E : XK} {F : Fx} {Ed : GD → Prop}
    {x : Str} {C : Addr} {B newId initId : String} {bmB : List Value} {np cpos pos : Pos} {e : Expr} {es : List Expr} {ta : TDA} (L : LiX K F Ed E C)
    (FB : ExcBaseFacts B newId initId bmB) (q : PySem.W.excIn K C bmB newId = true) (hm : mg x = some (.ref C)) (ha : DA' (cxOf (CXE C P w) P w K mg base N qual scope f cd A outer s₀ H₀ E) F (e :: es) ta)
    (hg : Gl (cxOf (CXE C P w) P w K mg base N qual scope f cd A outer s₀ H₀ E) x := by rfl) (hd : (x == ("__debug__" : Str)) = false := by decide)
    (he : starEach (e :: es) (cxOf (CXE C P w) P w K mg base N qual scope f cd A outer s₀ H₀ E).env = (false, eval e (cxOf (CXE C P w) P w K mg base N qual scope f cd A outer s₀ H₀ E).env) :: starEach es (cxOf (CXE C P w) P w K mg base N qual scope f cd A outer s₀ H₀ E).env := by exact star_cons rfl)
    (hpl : (backTo cpos (starEach es (cxOf (CXE C P w) P w K mg base N qual scope f cd A outer s₀ H₀ E).env)).any (·.1) = false := by exact back_any rfl) :
    DS' (cxOf (CXE C P w) P w K mg base N qual scope f cd A outer s₀ H₀ E) F (.Raise (some (.Call (.Name x np) (e :: es) [] cpos)) none pos) (dRaise Ed ta) := by
  refine ⟨PS.imp (ps_raise FB q hm ha.p hg hd he hpl) fun D σ H ⟨σd, G, ι, Dd, ok, ht, LE⟩ => ?_⟩
  exact ⟨σd, G, ι, _, ok, ht, fun vs H1 ds G1 ι1 h1 g1 r1 q1 => ⟨by rw [← r1.len]; exact q1.1, L H1 G1 ι1 h1 (ok.gr.trans g1) q1.2⟩⟩
/-- THE RULE for a def that may raise C -/
theorem Plc.fnX {x : Str} {st : Stmt} {N ps : List Str} {k : Nat} {C : Addr} {sp : SpX} (Pl : Plc K mg x st ps) (S : FnScope N ps (defScope st))
    (hbody : ∀ (f : Addr) (cdv : Value) (A : Around) (outer : List Env) (s : Shared) (H : Hp) (E : XK), Room k (A.deeper (envOfC x (defScope st) s.heap.objs.size f cdv)) →
      ∃ td : (GD → Prop) → TDS, (∀ F Ed, LiX K F Ed E C → DSs' (cxOf (CXE C P w) P w K mg base N x (defScope st) f cdv A outer s H E) F (defBody st) (td Ed)) ∧
        ∀ (ds : List Dt) (G : GD) (Q : KD) (Ed : GD → Prop), ds.length = ps.length → sp ds G Q Ed → bnds G.length ds → bndG G.length G → td Ed (endsD G Q) (startD N ds) G) :
    FncX P w K mg base C x (k + 1) ps sp := by
  obtain ⟨f, fd, Fn, hm, hb⟩ := Pl.ex
  refine ⟨f, fd, ?_, hm, Fn.kp, hb⟩
  obtain ⟨oc, od, kV, doc, pm, an, cdv, ct, osl, rfl, lk, hcd⟩ := Fn.ex
  refine fn_of lk hcd S (fun vs H Q E ⟨ds, G, ι, Qd, Ed, hl, hG, r, _⟩ => by rw [← r.len]; exact hl) fun A outer s H vs Q E hr ⟨ds, G, ι, Qd, Ed, hl, hG, r, hsp, hq, hE⟩ => ?_
  obtain ⟨td, ht, hd⟩ := hbody f cdv A outer s H E hr
  refine ⟨_, (ht ⟨H, ι⟩ Ed fun H' G' ι' h' g' q' => hE _ H' G' ι' h' g' q').p, startD N ds, G, ι, endsD G Qd, start_ok hG r, hd ds G Qd Ed hl hsp (by rw [← hG.len]; exact Rps.bd _ _ r) hG.bd, ?_⟩
  have fin : ∀ v H' d G' ι', HG K G' H' ι' → Gr K H ι H' ι' → Rp K H' ι' d v → RetD G Qd d G' → Q v H' := fun v H' d G' ι' h' g' r' z => by
    rcases z with q | ⟨n, hn, hb, hbG, q⟩
    · exact hq v H' d G' ι' h' g' r' q
    have ok : Ok K ⟨H, ι⟩ [] G' [] H' ι' := ⟨h', fun i d e => by simp at e, g', rfl⟩
    have ok2 := ok.weak (σd' := []) n (by rw [← hG.len] at hn; exact hn) rfl (fun i d e => by simp at e) hbG
    exact hq v H' d (G'.take n) (ι'.take n) ok2.hg ok2.gr (Rp.cut n _ _ r' hb) q
  exact ⟨fun σ' H' σd' G' ι' ok' q => fin .non H' .non G' ι' ok'.hg ok'.gr rfl q, fun _ _ _ _ _ _ q => q.elim, fun _ _ _ _ _ _ q => q.elim, fun v H' d G' ι' h' g' r' q' => fin v H' d G' ι' h' g' r' q'⟩
end
theorem Ok.unset {K : PySem.W.Frag} {F : Fx} {σd : SD} {G : GD} {σ : St} {H : Hp} {ι : List Addr} (ok : Ok K F σd G σ H ι) (j : Nat) : Ok K F (σd.set j none) G (σ.set j none) H ι := by
  refine ⟨ok.hg, fun m d e => ?_, ok.gr, by simpa using ok.ln⟩
  by_cases hj : m = j
  · subst hj
    rw [List.getElem?_set_self'] at e
    cases q : σd[m]? with
    | none => rw [q] at e; cases e
    | some _ => rw [q] at e; cases e
  · rw [List.getElem?_set_ne (Ne.symm hj)] at e
    obtain ⟨v, q, r⟩ := ok.slt m d e
    exact ⟨v, by rw [List.getElem?_set_ne (Ne.symm hj)]; exact q, r⟩
/-- try: y = f(..) except H as n: the suite sets y to None -/
def dTry (m : Nat) (i j : Nat) (sp : SpX) (ta : TDA) : TDS := fun D σ G => ta σ G fun ds G1 => ds.length = m ∧ j < σ.length ∧ sp ds G1 (fun d G2 => D.nx (σ.set i (some d)) G2) (fun G2 => D.nx ((σ.set i (some .non)).set j none) G2)
section
variable {X : Cx} {F : Fx} {C : Addr} {x y n hx : Str} {c : Value} {i j k : Nat} {suite : List Stmt} {b₀ : Stmt} {p np hp hpos pos pos' p5 : Pos} {e : Expr} {es : List Expr} {ta : TDA} {ps : List Str} {sp : SpX} {ts : Addr → TS}
theorem ds_try' (Fc : FncX X.prog X.w X.K X.mg X.base C x k ps sp) (hr : Room k X.A) (ha : DA' X F (e :: es) ta) (hxe : ∀ e s', X.xe e s' → False) (hN : X.N.Nodup) (hij : i ≠ j)
    (hs : ∀ ea oe, oe.cls = .ref C → PSs (X.held ea oe) (b₀ :: suite) (ts ea)) (hts : ∀ ea D σ H, σ[j]? = some (some (.ref ea)) → D.nx (σ.set i (some .non)) H → ts ea D σ H)
    (hm : X.mg hx = some c) (hx' : PySem.W.exmOne X.K (.ref C) c = some true)
    (hst : X.stack = X.env :: X.outer := by rfl) (hfr : X.env.frame = some X.env.locals := by rfl) (hi : X.N[i]? = some y := by rfl) (hj : X.N[j]? = some n := by rfl) (hl : X.env.scope.names.lookup n = some .local := by rfl)
    (hy : Loc X.env.scope y := by first | exact Or.inl rfl | exact Or.inr rfl) (hg : Gl X x := by rfl) (hg' : Gl X hx := by rfl)
    (hsw : swapsWith (.Call (.Name x p) (e :: es) [] pos) (some (.Name y np)) p5.line X.env = pure false := by rfl) (hf : X.fn y = true ∨ X.env.scope.names.lookup y = some .local := by first | exact .inl rfl | exact .inr rfl | assumption)
    (hdb : (x == ("__debug__" : Str)) = false := by decide) (hdb' : (hx == ("__debug__" : Str)) = false := by decide) (he : starEach (e :: es) X.env = (false, eval e X.env) :: starEach es X.env := by exact star_cons rfl) (hpl : (backTo pos (starEach es X.env)).any (·.1) = false := by exact back_any rfl) :
    DS' X F (.Try [.Assign [.Name y np] (.Call (.Name x p) (e :: es) [] pos) p5] [.ExceptHandler (some (.Name hx hp)) (some n) (b₀ :: suite) hpos] [] [] pos') (dTry ps.length i j sp ta) := by
  obtain ⟨f, fd, h1, h2, h3, h4⟩ := Fc.ex
  refine ⟨PS.imp (ps_try_as (px_call h1 hr hg h2 h3 h4 ha.p hxe hN hi hy hsw hf hdb he hpl) hst hfr hs hm hg' hx' hN hj hl hdb') fun D σ H ⟨σd, G, ι, Dd, ok, ht, L⟩ => ?_⟩
  refine ⟨σd, G, ι, _, ok, ht, fun vs H1 ds G1 ι1 h1 g1 r1 q1 => ?_⟩
  obtain ⟨hm, hjl, hsp⟩ := q1
  refine ⟨ds, G1, ι1, _, _, hm, h1, r1, hsp, fun v H' d G' ι' h' g' r' q' => L.nx _ H' _ G' ι' ((ok.to h' (g1.trans g')).set r') q', fun c H' G' ι' h' g' q' ea hno => hts ea _ _ _ ?_ ?_⟩
  · exact List.getElem?_set_self (by rw [← ok.ln]; exact hjl)
  · show D.nx (((σ.set j (some (.ref ea))).set i (some .non)).set j none) H'
    rw [List.set_comm _ _ (Ne.symm hij), List.set_set]
    exact L.nx _ H' _ G' ι' (((ok.to h' (g1.trans g')).set (d := .non) (v := .non) rfl).unset j) q'
end
end DL
namespace DL
open PySem PySem.Spec L2
open PyProof.Rows hiding St
section
variable {X : Cx} {ea C : Addr} {oe : Obj} {v : V} {b : Bool} {j : Nat} {n cx : Str} {p p1 p2 pos : Pos}
theorem call_isiE (F : PySem.W.ExcIn X.K C) (hc : oe.cls = .ref C) : CallR (X.held ea oe) (.builtin "isinstance") (fun xs H Q => ∃ c b, xs = [.ref ea, c] ∧ (∀ u, RelV c u → PySem.W.kitOne X.K (.ref C) u = some b) ∧ Q (.bl b) H) := by
  intro pins s σ H xs us Q I r h
  obtain ⟨c, b, rfl, e, q⟩ := h
  obtain ⟨u, w', rfl, rx, rc⟩ := vals2 r
  cases (show u = Value.ref ea from rx)
  have hp := (I.pin (ea, oe) (List.mem_append_left _ (List.mem_cons_self))).1
  exact PySem.W.isi_exc (K := X.K) I.kIn ⟨oe, hp, hc⟩ F (e w' rc) fun tk => ⟨.bl b, H, I.tok tk, rfl, q⟩
def tIsiE (ea : Addr) (j : Nat) (b : Bool) : TT := fun σ H Q => σ[j]? = some (some (.ref ea)) ∧ Q b H
theorem pt_isiE (F : PySem.W.ExcIn X.K C) (hc : oe.cls = .ref C) (hm : X.mg "isinstance" = none) (h2 : PE (X.held ea oe) (.Name cx p2) (tC v)) (hk : ∀ u, RelV v u → PySem.W.kitOne X.K (.ref C) u = some b)
    (hj : X.N[j]? = some n) (hl : X.env.scope.names.lookup n = some .local) (hg : Gl X "isinstance") (hd : (n == ("__debug__" : Str)) = false) (hcd : (n == ("__classdict__" : Str)) = false) :
    PT (X.held ea oe) (.Call (.Name "isinstance" p) [.Name n p1, .Name cx p2] [] pos) (tIsiE ea j b) := by
  have h1 : PE (X.held ea oe) (.Name n p1) (tVar j) := pe_var (X := X.held ea oe) hj (.inl hl) hd hcd
  have hA : PA (X.held ea oe) [.Name n p1, .Name cx p2] (tCons (tVar j) (tCons (tC v) tNil)) := pa_cons h1 (pa_cons h2 pa_nil)
  refine PT.imp (pt_val (pe_callB (X := X.held ea oe) (call_isiE F hc) hg hm bt_isinstance hA (by decide) (by decide))) fun σ H Q ⟨e, q⟩ => ?_
  exact ⟨.ref ea, e, v, b, rfl, hk, b, rfl, q⟩
/-- the suite: if isinstance(e, C) and not isinstance(e, C2) and isinstance(e, ValueError): y = None -/
def tSuite (i j : Nat) (ea : Addr) : TS := fun D σ H => σ[j]? = some (some (.ref ea)) ∧ D.nx (σ.set i (some .non)) H
structure HandIn (K : PySem.W.Frag) (mg : Str → Option Value) (c1 c2 c3 : Str) (C : Addr) : Prop where
  F : PySem.W.ExcIn K C
  m1 : mg c1 = some (.ref C)
  m2 : ∃ C2, mg c2 = some (.ref C2) ∧ PySem.W.kitOne K (.ref C) (.ref C2) = some false
  m3 : mg c3 = none
  b3 : bootBuiltins c3 = some (.type "ValueError")
  k1 : PySem.W.kitOne K (.ref C) (.ref C) = some true
  k3 : PySem.W.kitOne K (.ref C) (.type "ValueError") = some true
  isi : mg "isinstance" = none
theorem pss_suite {i : Nat} {y c1 c2 c3 : Str} {q1 q2 q3 q4 q5 q6 r1 r2 r3 r4 r5 r6 r7 r8 r9 : Pos} {kk} (T : HandIn X.K X.mg c1 c2 c3 C) (hc : oe.cls = .ref C) (hN : X.N.Nodup) (hi : X.N[i]? = some y) (hj : X.N[j]? = some n)
    (hly : X.env.scope.names.lookup y = some .local) (hl : X.env.scope.names.lookup n = some .local) (hg : Gl X "isinstance") (g1 : Gl X c1) (g2 : Gl X c2) (g3 : Gl X c3) (hd : (n == ("__debug__" : Str)) = false) (hcd : (n == ("__classdict__" : Str)) = false)
    (d1 : (c1 == ("__debug__" : Str)) = false) (d2 : (c2 == ("__debug__" : Str)) = false) (d3 : (c3 == ("__debug__" : Str)) = false) (n3 : c3 ≠ "__name__") (hsw : swapsWith (.Constant .none kk r5) (some (.Name y r6)) r7.line X.env = pure false) :
    PSs (X.held ea oe) [.If (.BoolOp .And [.Call (.Name "isinstance" q1) [.Name n q2, .Name c1 q3] [] q4, .UnaryOp .Not (.Call (.Name "isinstance" q5) [.Name n q6, .Name c2 r1] [] r2) r3, .Call (.Name "isinstance" r4) [.Name n r8, .Name c3 r9] [] p] p1) [.Assign [.Name y r6] (.Constant .none kk r5) r7] [] p2] (tSuite i j ea) := by
  obtain ⟨C2, m2, k2⟩ := T.m2
  have h1 : PE (X.held ea oe) (.Name c1 q3) (tC (.ref C)) := pe_glob (X := X.held ea oe) g1 T.m1 rfl d1
  have h2 : PE (X.held ea oe) (.Name c2 r1) (tC (.ref C2)) := pe_glob (X := X.held ea oe) g2 m2 rfl d2
  have h3 : PE (X.held ea oe) (.Name c3 r9) (tC (.ty "ValueError")) := pe_bltn (X := X.held ea oe) g3 T.m3 T.b3 rfl n3 d3
  have t1 := pt_isiE (p := q1) (p1 := q2) (pos := q4) T.F hc T.isi h1 (b := true) (fun u r => by cases (show u = Value.ref C from r); exact T.k1) hj hl hg hd hcd
  have t2 := pt_isiE (p := q5) (p1 := q6) (pos := r2) T.F hc T.isi h2 (b := false) (fun u r => by cases (show u = Value.ref C2 from r); exact k2) hj hl hg hd hcd
  have t3 := pt_isiE (p := r4) (p1 := r8) (pos := p) T.F hc T.isi h3 (b := true) (fun u r => by cases (show u = Value.type "ValueError" from r); exact T.k3) hj hl hg hd hcd
  refine PSs.imp (pss_one (ps_if (pw_and t1 (pw_and (pt_not t2) (pw_and1 t3))).pt (pss_one (ps_set (X := X.held ea oe) hN hi (.inl hly) pe_non hsw (.inr hly))) pss_nil)) fun D σ H ⟨e, q⟩ => ?_
  exact ⟨e, iteT ⟨e, iteT ⟨e, iteT q⟩⟩⟩
end
end DL
namespace DL
open PySem PySem.Spec L2
def bmVE : List Value := [.type "ValueError", .type "Exception", .type "BaseException", .type "object"]
structure OwnX (K : PySem.W.Frag) (mg : Str → Option Value) (c1 c2 hx : Str) (C : Addr) (c : Value) : Prop where
  T : HandIn K mg c1 c2 "ValueError" C
  q : PySem.W.excIn K C bmVE "ValueError.__new__" = true
  m : mg hx = some c
  x : PySem.W.exmOne K (.ref C) c = some true
theorem bt_VE : bootBuiltins "ValueError" = some (.type "ValueError") := by decide +kernel
end DL
/-! things, worlds, halls: what the document says of them, as Lean functions -/
namespace TH
inductive Th where
  | is (k : Nat)
  | many (m : Nat)
  | not (a : Th)
  | and (a b : Th)
  | or (a b : Th)
  | alike (a b : Th)
  | says (k : Nat) (a : Th)
abbrev Wd := List Bool
def Th.so (w : Wd) : Th → Bool
  | .is k => w.getD k false
  | .many m => decide (m ≤ w.count true)
  | .not a => !a.so w
  | .and a b => a.so w && b.so w
  | .or a b => a.so w || b.so w
  | .alike a b => a.so w == b.so w
  | .says k a => w.getD k false == a.so w
def Th.wf (n : Nat) : Th → Prop
  | .is k => k < n
  | .many _ => True
  | .not a => a.wf n
  | .and a b => a.wf n ∧ b.wf n
  | .or a b => a.wf n ∧ b.wf n
  | .alike a b => a.wf n ∧ b.wf n
  | .says k a => k < n ∧ a.wf n
def Th.dep : Th → Nat
  | .is _ => 0
  | .many _ => 0
  | .not a => a.dep + 1
  | .and a b => max a.dep b.dep + 1
  | .or a b => max a.dep b.dep + 1
  | .alike a b => max a.dep b.dep + 1
  | .says _ a => a.dep + 1
/-! all worlds -/
def stepW (ws : List Wd) : List Wd := ws.flatMap fun w => [w ++ [false], w ++ [true]]
def allW : Nat → List Wd
  | 0 => [[]]
  | n + 1 => stepW (allW n)
theorem stepW_app (a b : List Wd) : stepW (a ++ b) = stepW a ++ stepW b := by simp [stepW]
theorem stepW_cons (b : Bool) : ∀ l : List Wd, stepW (l.map (b :: ·)) = (stepW l).map (b :: ·)
  | [] => rfl
  | w :: l => by
    have := stepW_cons b l
    simp only [stepW, List.map_cons, List.flatMap_cons, List.map_append] at this ⊢
    rw [this]
    simp
theorem allW_succ : ∀ n : Nat, allW (n + 1) = (allW n).map (false :: ·) ++ (allW n).map (true :: ·)
  | 0 => rfl
  | n + 1 => by
    show stepW (allW (n + 1)) = (allW (n + 1)).map (false :: ·) ++ (allW (n + 1)).map (true :: ·)
    conv => lhs; rw [allW_succ n, stepW_app, stepW_cons, stepW_cons]
    rfl
theorem mem_allW : ∀ (n : Nat) (w : Wd), w ∈ allW n ↔ w.length = n
  | 0, w => by simp [allW]
  | n + 1, w => by
    rw [allW_succ]
    simp only [List.mem_append, List.mem_map]
    constructor
    · rintro (⟨v, h, rfl⟩ | ⟨v, h, rfl⟩) <;> simp [(mem_allW n v).mp h]
    · intro h
      cases w with
      | nil => simp at h
      | cons b v =>
        have hv : v ∈ allW n := (mem_allW n v).mpr (by simpa using h)
        cases b
        · exact .inl ⟨v, hv, rfl⟩
        · exact .inr ⟨v, hv, rfl⟩
def lawW (n : Nat) : List Wd := (List.range (2 ^ n)).map fun m => (List.range n).map fun k => decide (m / 2 ^ (n - 1 - k) % 2 = 1)
theorem lawW_eq {n : Nat} (h1 : 1 ≤ n) (h5 : n ≤ 5) : lawW n = allW n := by
  have h : n = 1 ∨ n = 2 ∨ n = 3 ∨ n = 4 ∨ n = 5 := by omega
  rcases h with rfl | rfl | rfl | rfl | rfl <;> decide +kernel
/-! halls -/
abbrev Sg := List (Nat × Th)
def fit (w : Wd) (p : Nat × Th) : Bool := w.getD p.1 false == p.2.so w
def fits (ss : Sg) (w : Wd) : Bool := ss.all (fit w)
def worlds (n : Nat) (ss : Sg) : List Wd := (allW n).filter (fits ss)
def Sg.wf (n : Nat) (ss : Sg) : Prop := ∀ p ∈ ss, p.1 < n ∧ p.2.wf n
end TH
namespace TH
/-! what is assumed, and trees -/
abbrev As := List (Option Bool)
def asW (as : As) : Wd := as.map fun o => o.getD false
def Th.asd (as : As) : Th → Bool
  | .is k => (as.getD k none).isSome
  | .many _ => as.all Option.isSome
  | .not a => a.asd as
  | .and a b => a.asd as && b.asd as
  | .or a b => a.asd as && b.asd as
  | .alike a b => a.asd as && b.asd as
  | .says k a => (as.getD k none).isSome && a.asd as
theorem asd_all {n : Nat} {as : As} (hl : as.length = n) (hs : as.all Option.isSome = true) : ∀ t : Th, t.wf n → t.asd as = true := by
  have at1 : ∀ k, k < n → (as.getD k none).isSome = true := fun k hk => by
    rw [List.all_eq_true] at hs
    unfold List.getD
    have hk' : k < as.length := by omega
    rw [List.getElem?_eq_getElem hk']
    exact hs _ (List.getElem_mem hk')
  intro t
  induction t with
  | is k => exact fun h => at1 k h
  | many m => exact fun _ => hs
  | not a ih => exact ih
  | and a b i j => exact fun h => by show (a.asd as && b.asd as) = true; rw [i h.1, j h.2]; rfl
  | or a b i j => exact fun h => by show (a.asd as && b.asd as) = true; rw [i h.1, j h.2]; rfl
  | alike a b i j => exact fun h => by show (a.asd as && b.asd as) = true; rw [i h.1, j h.2]; rfl
  | says k a i => exact fun h => by show ((as.getD k none).isSome && a.asd as) = true; rw [at1 k h.1, i h.2]; rfl
end TH
/-! things and worlds as data -/
namespace KT
open PySem PySem.Spec L2 DL TH
def enc : Th → Dt
  | .is k => .tup [.str "is", .int (k : Nat)]
  | .many m => .tup [.str "many", .int (m : Nat)]
  | .not a => .tup [.str "not", enc a]
  | .and a b => .tup [.str "and", enc a, enc b]
  | .or a b => .tup [.str "or", enc a, enc b]
  | .alike a b => .tup [.str "alike", enc a, enc b]
  | .says k a => .tup [.str "says", .int (k : Nat), enc a]
def b2 (b : Bool) : Int := if b then 1 else 0
def oD : Option Bool → Dt
  | none => .non
  | some b => .int (b2 b)
def aD (as : As) : Dt := .tup (as.map oD)
def wD (w : Wd) : Dt := .tup (w.map fun b => .int (b2 b))
theorem wD_a (w : Wd) : wD w = aD (w.map some) := by
  unfold wD aD
  rw [List.map_map]
  rfl
theorem bnds_of {α : Type} {n : Nat} {f : α → Dt} (h : ∀ a, bnd n (f a)) : ∀ l : List α, bnds n (l.map f)
  | [] => trivial
  | a :: l => ⟨h a, bnds_of h l⟩
theorem bnd_oD (n : Nat) (o : Option Bool) : bnd n (oD o) := by cases o <;> exact trivial
theorem bnd_aD (n : Nat) (as : As) : bnd n (aD as) := bnds_of (bnd_oD n) as
theorem bnd_wD (n : Nat) (w : Wd) : bnd n (wD w) := bnds_of (f := fun b => Dt.int (b2 b)) (fun _ => trivial) w
theorem b2_eq {a b : Bool} : decide (b2 a = b2 b) = (a == b) := by cases a <;> cases b <;> rfl
theorem b2_one {a : Bool} : decide (b2 a = 1) = a := by cases a <;> rfl
theorem b2_zero {a : Bool} : decide (b2 a = 0) = !a := by cases a <;> rfl
theorem b2_not {a : Bool} : 1 - b2 a = b2 (!a) := by cases a <;> rfl
theorem b2_min {a b : Bool} : min2 (b2 a) (b2 b) = b2 (a && b) := by cases a <;> cases b <;> rfl
theorem b2_max {a b : Bool} : max2 (b2 a) (b2 b) = b2 (a || b) := by cases a <;> cases b <;> rfl
theorem atI_as {as : As} {k : Nat} (h : k < as.length) : atI (as.map oD) (k : Int) = some (oD (as.getD k none)) := by
  refine atI_nat ?_
  rw [List.getElem?_map, List.getElem?_eq_getElem h]
  simp [List.getD, h]
theorem oD_some {as : As} {k : Nat} (h : (as.getD k none).isSome = true) : oD (as.getD k none) = .int (b2 ((asW as).getD k false)) := by
  cases e : as.getD k none with
  | none => rw [e] at h; cases h
  | some b =>
    have : (asW as).getD k false = b := by
      unfold asW List.getD at *
      rw [List.getElem?_map]
      cases q : as[k]? with
      | none => rw [q] at e; cases e
      | some o => rw [q] at e; simp at e; rw [e]; rfl
    rw [this]
    rfl
theorem ints_as : ∀ {as : As}, as.all Option.isSome = true → intsD (as.map oD) = some ((asW as).map b2)
  | [], _ => rfl
  | some b :: as, h => by
    show (intsD (as.map oD)).map _ = _
    rw [ints_as (by simpa using h)]
    rfl
  | none :: as, h => by simp at h
theorem sum_b2 : ∀ w : Wd, (w.map b2).sum = (w.count true : Nat)
  | [] => rfl
  | b :: w => by
    rw [List.map_cons, List.sum_cons, sum_b2 w, List.count_cons]
    cases b
    · simp [b2]
    · simp [b2]; omega
theorem count_b2 (w : Wd) : ((w.map fun b => Dt.int (b2 b)).countP fun z => eqF z (.int 1)) = w.count true := by
  induction w with
  | nil => rfl
  | cons b w ih =>
    rw [List.map_cons, List.countP_cons, ih, List.count_cons]
    cases b <;> rfl
theorem asW_some (w : Wd) : asW (w.map some) = w := by
  unfold asW
  rw [List.map_map]
  exact List.map_id w
theorem all_some (w : Wd) : (w.map some).all Option.isSome = true := by
  rw [List.all_map]
  induction w with
  | nil => rfl
  | cons b w ih => exact ih
end KT
namespace KH
open PySem PySem.Spec L2 DL
def sp_law : SpD := fun ds G Q => match ds with
  | [.ref i] => ∃ ns : List Int, G[i]? = some (.fz (ns.map Dt.int)) ∧ ∀ G', Q (.bl true) G'
  | _ => False
theorem plc_mk {K : PySem.W.Frag} {h : Heap} {mg : Str → Option Value} {x : Str} {st : Stmt} {ps : List Str} {f : Addr} {oc kV dc pm cd ct : Value} {od an : Option Addr} {sl : Array (Option Value)} (X : K.In h) (G : h.Ns mainGlobals mg)
    (a : PySem.W.nsIn K mainGlobals x = some (some (.ref f))) (l : K.lookup f = some ⟨oc, od, .func (PySem.W.fnOf x x (defArgs st) (defBody st) (defScope st) .none kV dc pm an cd ct), sl⟩) (c : PySem.W.codeIn K cd x = true) (k : PySem.W.keepIn K (.ref f) = true)
    (hb : ∀ us : List Value, us.length = ps.length → bindArgs (PySem.W.fnOf x x (defArgs st) (defBody st) (defScope st) .none kV dc pm an cd ct) ⟨us, []⟩ = pure (ps.zip us)) : Plc K mg x st ps :=
  ⟨f, _, fun_mk l c k, PySem.W.mg_of X G a, Binds.all hb⟩
theorem rps_ints {K : PySem.W.Frag} {H : Hp} {ι : List Addr} : ∀ ns : List Int, Rps K H ι (ns.map Dt.int) (ns.map V.int)
  | [] => rfl
  | k :: ns => ⟨_, _, rfl, rfl, rps_ints ns⟩
theorem law_start {K : PySem.W.Frag} {H : Hp} {a : Addr} {ns : List Int} {Q : VK} {E : XK} (hO : Only H) (hS : SqL K H a (ns.map V.int)) (hQ : ∀ H', Q (.bl true) H') : liSp K 1 sp_law [.ref a] H Q E := by
  refine ⟨[.ref 0], [.fz (ns.map Dt.int)], [a], fun d _ => d = .bl true, rfl, ⟨rfl, fun i c b e1 e2 => ?_, fun i j ci cj b e1 e2 m1 m2 q1 q2 => ?_⟩, ⟨.ref a, [], rfl, ⟨a, rfl, rfl⟩, rfl⟩, ⟨ns, rfl, fun _ => rfl⟩, fun v H' d G' ι' h' g' r' q' => ?_⟩
  · match i, e1, e2 with
    | 0, e1, e2 =>
      cases e1
      cases e2
      refine ⟨ns.map V.int, ?_, rps_ints ns⟩
      rcases hS with (h | ⟨o, h⟩) | h
      · rcases hO a with z | ⟨o, xs, z⟩
        · rw [z] at h; cases h
        · rw [z] at h; cases h
      · exact .inl ⟨o, h⟩
      · exact .inr h
    | k + 1, e1, e2 => cases e1
  · match i, e1, j, e2 with
    | 0, _, 0, _ => rfl
    | 0, e1, k + 1, e2 => cases e2
    | k + 1, e1, _, _ => cases e1
  · subst q'
    have e : v = V.bl true := r'
    rw [e]
    exact hQ H'
theorem walk {m : Nat} (hm : callerA.depth + 3 * m + 5 < recursionLimit ∧ callerA.units + 16 * m + 200 < cLine) {l : PySem.W.OpenLaw} {q : Program} {loose : List Str} {XP : (Str → Option Value) → Heap → Prop} {YP : World → Heap → Prop} {d : DefRec} {K : Params → PySem.W.Frag} (hn : l.most = some 63) (hdf : d.params.defaults = [])
    (hY : ∀ (w : World) (h : Heap), YP w h → (K w.params).In h)
    (F : ∀ (w : World) (mg : Str → Option Value) (fa : Addr) (h : Heap), (K w.params).In h → h.Ns mainGlobals mg → mg d.name = some (.ref fa) →
      ∃ fd : FuncData, (∀ (s : Shared) (u : Value), BindsTo s fd ⟨[u], []⟩ [("_law_script", u)]) ∧ ∀ base : Heap, (K w.params).In base → base.Ns mainGlobals mg → FnOk l.prog w (K w.params) mg base CX0 m fa fd ["_law_script"] (liSp (K w.params) 1 sp_law)) :
    PySem.W.WalkO q loose XP YP l.row.toRowW d [] (fun f vs => PySem.call f vs) :=
  L2.walk_of (n := 63) (k := m) (x := "_law_script") (CX := fun _ => CX0) (sp := fun w => liSp (K w.params) 1 sp_law) hn (by decide) hdf ⟨rfl, hm.1, hm.2⟩ hY F (fun _ H a ns hl hO hS => law_start hO hS fun _ => rfl) fun _ _ _ _ _ z => z
end KH
/-! the module's table of forms -/
namespace KFM
open PySem PySem.Spec L2 DL TH KT KH
end KFM
namespace KH
open PySem PySem.Spec L2 DL TH KT
theorem pyDs_map : ∀ ds : List Dt, pyDs ds = ds.map pyD
  | [] => rfl
  | d :: ds => by show pyD d :: pyDs ds = _; rw [pyDs_map ds]; rfl
theorem rdIn_ref {neg : Bool} {d : Dt} {i : Nat} {xs : List Dt} {G : GD} {Q : KD} (hi : cellL G i = some xs) (h0 : ∀ i, d ≠ .ref i) (h1 : lay d = true) (h2 : lays xs = true) (h3 : (pyD d).depth ≤ 60) (hq : Q (.bl (neg ^^ xs.any fun z => PyData.eqv (pyD z) (pyD d))) G) : rdInP neg d (.ref i) G Q := by
  have e1 : pyG G d = some (pyD d) := by
    unfold pyG
    split
    · exact absurd rfl (h0 _)
    · rw [if_pos h1]
  have e2 : pyG G (.ref i) = some (.list (pyDs xs)) := by
    show (match cellL G i with | some xs => if lays xs = true then some (PyData.list (pyDs xs)) else none | none => none) = _
    rw [hi]
    show (if lays xs = true then some (PyData.list (pyDs xs)) else none) = _
    rw [if_pos h2]
  refine ⟨?_⟩; unfold rdInP0
  rw [e1, e2]
  refine ⟨h3, ?_⟩
  show Q (.bl (neg ^^ (pyDs xs).any fun z => PyData.eqv z (pyD d))) G
  rw [pyDs_map, List.any_map]
  exact hq
theorem lays_map {α : Type} {f : α → Dt} (h : ∀ a, lay (f a) = true) : ∀ l : List α, lays (l.map f) = true
  | [] => rfl
  | a :: l => by show (lay (f a) && lays (l.map f)) = true; rw [h a, lays_map h l]; rfl
/-! trees as data -/
/-! heads of trees -/
def knownB (bs : List Bool) : Option Bool := if bs.all id = true then some true else if bs.any id = true then none else some false
theorem low_b2 {bs : List Bool} (h : bs ≠ []) : lowI (bs.map b2) = b2 (bs.all id) := by
  refine (low_uniq ?_ ?_).symm
  · rw [List.mem_map]
    cases e : bs.all id with
    | true =>
      obtain ⟨b, hb⟩ := List.exists_mem_of_ne_nil _ h
      rw [List.all_eq_true] at e
      exact ⟨b, hb, by have : b = true := e b hb; rw [this]⟩
    | false =>
      rw [List.all_eq_false] at e
      obtain ⟨b, hb, q⟩ := e
      exact ⟨b, hb, by cases b <;> simp_all⟩
  · intro a ha
    rw [List.mem_map] at ha
    obtain ⟨b, hb, rfl⟩ := ha
    cases e : bs.all id with
    | true =>
      rw [List.all_eq_true] at e
      have : b = true := e b hb
      rw [this]; decide
    | false => cases b <;> decide
theorem top_b2 {bs : List Bool} (h : bs ≠ []) : topI (bs.map b2) = b2 (bs.any id) := by
  refine (top_uniq ?_ ?_).symm
  · rw [List.mem_map]
    cases e : bs.any id with
    | false =>
      obtain ⟨b, hb⟩ := List.exists_mem_of_ne_nil _ h
      rw [List.any_eq_false] at e
      exact ⟨b, hb, by have := e b hb; cases b <;> simp_all⟩
    | true =>
      rw [List.any_eq_true] at e
      obtain ⟨b, hb, q⟩ := e
      exact ⟨b, hb, by have : b = true := q; rw [this]⟩
  · intro a ha
    rw [List.mem_map] at ha
    obtain ⟨b, hb, rfl⟩ := ha
    cases e : bs.any id with
    | false =>
      rw [List.any_eq_false] at e
      have := e b hb
      cases b <;> simp_all
    | true => cases b <;> decide
theorem intsD_b2 {α : Type} (f : α → Bool) : ∀ l : List α, intsD (l.map fun a => Dt.int (b2 (f a))) = some ((l.map f).map b2)
  | [] => rfl
  | a :: l => by
    show (intsD (l.map fun a => Dt.int (b2 (f a)))).map _ = _
    rw [intsD_b2 f l]
    rfl
end KH
namespace KH
open PySem PySem.Spec L2 DL TH KT
theorem truM {G : GD} {x : Dt} {k : Bool} {A : Bool → Prop} (h : truD G x = some k) (hA : A k) : match truD G x with | some k => A k | none => False := by
  rw [h]; exact hA
theorem tru_lst {G : GD} {i : Nat} {xs : List Dt} (h : G[i]? = some (.lst xs)) : truD G (.ref i) = some (!xs.isEmpty) := by
  show (match G[i]? with | some (.lst xs) => some (!xs.isEmpty) | some (.fz xs) => some (!xs.isEmpty) | some (.dct kvs) => some (!kvs.isEmpty) | none => none) = _
  rw [h]
theorem mem_worlds {n : Nat} {ss : Sg} {w : Wd} : w ∈ worlds n ss ↔ w.length = n ∧ fits ss w = true := by
  unfold worlds
  rw [List.mem_filter, mem_allW]
end KH
namespace KH
open PySem PySem.Spec L2 DL TH KT
theorem dep_map {α : Type} {f : α → Dt} {k : Nat} (h : ∀ a, (pyD (f a)).depth ≤ k) : ∀ l : List α, PyData.depthAll (pyDs (l.map f)) ≤ k
  | [] => by simp [pyDs, PyData.depthAll]
  | a :: l => by
    have := dep_map h l
    have h1 := h a
    show PyData.depthAll (pyD (f a) :: pyDs (l.map f)) ≤ k
    simp only [PyData.depthAll]
    omega
theorem dep_tup {α : Type} {f : α → Dt} {k : Nat} (h : ∀ a, (pyD (f a)).depth ≤ k) (l : List α) : (pyD (.tup (l.map f))).depth ≤ k + 1 := by
  have := dep_map h l
  show (PyData.tuple (pyDs (l.map f))).depth ≤ k + 1
  simp only [PyData.depth]
  omega
theorem dep_wD (w : Wd) : (pyD (wD w)).depth ≤ 1 := dep_tup (k := 0) (fun b => by simp [pyD, PyData.depth]) w
theorem lay_wD (w : Wd) : lay (wD w) = true := lays_map (f := fun b => Dt.int (b2 b)) (fun _ => rfl) w
theorem eqv_same {d : Dt} (h : lay d = true) : PyData.eqv (pyD d) (pyD d) = true := PySem.SeqAt.eqv_refl _ (lay_can d h)
theorem pyG_lay {G : GD} {d : Dt} (h : lay d = true) : pyG G d = some (pyD d) := by
  unfold pyG
  split
  · cases h
  · rw [if_pos h]
/-- two like data -/
theorem rdEqP_same {neg : Bool} {d : Dt} {G : GD} {Q : KD} (h : lay d = true) (hd : (pyD d).depth ≤ 60) (hq : Q (.bl (neg ^^ true)) G) : rdEqP neg d d G Q := by
  refine ⟨?_⟩
  unfold rdEqP0
  rw [pyG_lay h]
  exact ⟨by omega, by rw [eqv_same h]; exact hq⟩
theorem pyG_ref {G : GD} {i : Nat} {xs : List Dt} (hi : cellL G i = some xs) (h : lays xs = true) : pyG G (.ref i) = some (.list (pyDs xs)) := by
  show (match cellL G i with | some xs => if lays xs = true then some (PyData.list (pyDs xs)) else none | none => none) = _
  rw [hi]
  show (if lays xs = true then some (PyData.list (pyDs xs)) else none) = _
  rw [if_pos h]
theorem eqvs_same {xs : List Dt} (h : lays xs = true) : PyData.eqv (.list (pyDs xs)) (.list (pyDs xs)) = true := PySem.SeqAt.eqv_refl (.list (pyDs xs)) (lays_can xs h)
/-- two lists with like items -/
theorem rdEqP_refs {neg : Bool} {i j : Nat} {xs : List Dt} {G : GD} {Q : KD} (hi : cellL G i = some xs) (hj : cellL G j = some xs) (h : lays xs = true) (hd : PyData.depthAll (pyDs xs) ≤ 50) (hq : Q (.bl (neg ^^ true)) G) : rdEqP neg (.ref i) (.ref j) G Q := by
  refine ⟨?_⟩
  unfold rdEqP0
  rw [pyG_ref hi h, pyG_ref hj h]
  refine ⟨?_, by rw [eqvs_same h]; exact hq⟩
  simp only [PyData.depth]
  omega
end KH
--LAW k03
namespace K03
open PySem PySem.Spec L2 DL TH KT KH KFM
local macro_rules | `(tactic| walk_at "dx") => `(tactic| (try simp only [↓dSeq, ↓dIfS, ↓dOr, ↓dAnd, ↓dNot, ↓dTru, ↓dIsi, ↓dVar, ↓dRet, ↓dC, ↓dNext, ↓dChain, ↓rdI0, ↓rdI, ↓dTest, ↓dOp, ↓endsD, ↓startD, ↓dAndV, ↓dOrV, ↓dNotV, ↓dIf, ↓dCall, ↓dCons, ↓dNil, ↓dTup, ↓dLst, ↓dSet, ↓dAsg, ↓dgName, ↓dgNil, ↓dgCons, ↓dgTup, ↓dDrop, ↓dCB, ↓dMGet, ↓rdLen_eq, ↓rdLen0, ↓rdIx_eq, ↓rdIx0, ↓rdIs, ↓rdEq_eq, ↓rdEq0, ↓rdAdd, ↓rdMul, ↓dUn, ↓dPart, ↓dNoPart, ↓dSl, ↓rdSl_eq, ↓rdSl0, ↓rdList, ↓rdTuple_eq, ↓rdTuple0, ↓rdAll, ↓dAppend, ↓rdAppend_eq, ↓rdAppend0, ↓dPop, ↓isLstC, ↓dFor, ↓diZip, ↓diSeq, ↓seqR_eq, ↓seqR0, ↓diRng1, ↓dWhile, ↓dDict, ↓dPairs, ↓keysD, ↓keyD, get_endz, get_endj, set_endz, set_endj, Option.some.injEq, Cl.lst.injEq, exists_eq', exists_eq, exists_eq_left,
  isi_non, isi_bl, isi_int, isi_str, isi_tup, isi_ref, tru_non, tru_bl, tru_int, tru_tup, tru_ref, len_tup, len_ref, at_tup, at_ref, at_refs, is_non_non, is_bl_bl, is_bl_non, is_non_bl, is_int_non, is_str_non, is_tup_non, is_ref_non, is_int_bl, is_str_bl, is_tup_bl, is_ref_bl, eqs_int, eqs_str, eqs_bl, seq_tup, seq_ref, atI_0, atI_1, atI_2, succ_eq0, zero_eq0, str_inj,
  List.map_cons, List.map_nil, List.length_cons, List.length_nil, List.replicate, List.cons_append, List.nil_append, List.append_nil, List.append_assoc, List.length_append, List.getElem?_cons_zero, List.getElem?_cons_succ, List.set_cons_zero, List.set_cons_succ, if_true, if_false, Bool.not_true, Bool.not_false, Bool.false_eq_true, Bool.or_true, Bool.or_false, Bool.true_or, Bool.false_or, Bool.and_true, Bool.and_false, Bool.true_and, Bool.false_and, Bool.false_xor, Bool.true_xor, Nat.sub_self, Nat.reduceAdd, Nat.reduceSub, decide_true, decide_false, true_and, and_true, ne_eq, String.reduceBEq, String.reduceEq, reduceIte, reduceCtorEq]))
def top (i : Nat) : Stmt := PySem.Challenge.pw_knavehall_k03_worlds.main.body.getD i (.Pass ⟨0, 0, 0, 0⟩)
structure Bl (K : PySem.W.Frag) (mg : Str → Option Value) : Prop where
  b_len : mg "len" = none
  b_isinstance : mg "isinstance" = none
  b_int : mg "int" = none
  b_bool : mg "bool" = none
  b_tuple : mg "tuple" = none
  b_range : mg "range" = none
  b_sum : mg "sum" = none
  b_min : mg "min" = none
  b_max : mg "max" = none
  b_list : mg "list" = none
  b_sorted : mg "sorted" = none
  b_set : mg "set" = none
  own : ∃ C c, OwnX K mg "NoWorld" "NoText" "HallError" C c
/-! ### the program's so, would_say, fits -/
abbrev s_so : Stmt := top 5
abbrev s_so_of_two : Stmt := top 6
abbrev s_would_say : Stmt := top 7
theorem sc_so : FnScope ["thing", "world", "word"] ["thing", "world"] (defScope s_so) := ⟨rfl, rfl, rfl, by decide +kernel, rfl, by decide +kernel, by decide +kernel⟩
theorem sc_so_of_two : FnScope ["word", "one", "other"] ["word", "one", "other"] (defScope s_so_of_two) := ⟨rfl, rfl, rfl, by decide +kernel, rfl, by decide +kernel, by decide +kernel⟩
theorem sc_would_say : FnScope ["saying"] ["saying"] (defScope s_would_say) := ⟨rfl, rfl, rfl, by decide +kernel, rfl, by decide +kernel, by decide +kernel⟩
section
variable {P : Program} {w : World} {K : PySem.W.Frag} {mg : Str → Option Value} {base : Heap}
def two (x : String) (a b : Bool) : Bool := if x = "and" then a && b else if x = "or" then a || b else a == b
def sp_so_of_two : SpD := fun ds G Q => match ds with
  | [x, y, z] => ∃ (s : String) (a b : Bool), x = .str (Str.ofString s) ∧ y = .int (b2 a) ∧ z = .int (b2 b) ∧ Q (.int (b2 (two s a b))) G
  | _ => False
theorem ok_so_of_two (T : Bl K mg) (Pl : Plc K mg "so_of_two" s_so_of_two ["word", "one", "other"]) : Fnc P w K mg base "so_of_two" 1 ["word", "one", "other"] sp_so_of_two := by
  have nd := sc_so_of_two.nd
  refine Pl.fn' sc_so_of_two fun f cdv A outer s H E hr => ⟨_, fun F => (dss_cons' (ds_if' (dt_eq' (de_var' 0) de_str')
  (dss_one' (ds_ret' (de_min' (da_cons' (de_var' 1) (da_cons' (de_var' 2) da_nil')) T.b_min)))
  dss_nil')
  (dss_cons' (ds_if' (dt_eq' (de_var' 0) de_str')
  (dss_one' (ds_ret' (de_max' (da_cons' (de_var' 1) (da_cons' (de_var' 2) da_nil')) T.b_max)))
  dss_nil')
  (dss_one' (ds_ret' (de_if' (dt_eq' (de_var' 1) (de_var' 2)) de_int' de_int'))))), fun ds G Q hl hsp hb hG => ?_⟩
  unfold sp_so_of_two at hsp
  split at hsp
  · obtain ⟨s, a, b, rfl, rfl, rfl, hq⟩ := hsp
    unfold two at hq
    by_cases h1 : s = "and"
    · subst h1
      refine rdEq_sT ?_
      refine rdMM_two ?_
      refine RetD.all ?_
      rw [b2_min]
      exact hq
    · rw [if_neg h1] at hq
      refine rdEq_sF ?_ h1
      by_cases h2 : s = "or"
      · subst h2
        refine rdEq_sT ?_
        refine rdMM_two ?_
        refine RetD.all ?_
        rw [b2_max]
        exact hq
      · rw [if_neg h2] at hq
        refine rdEq_sF ?_ h2
        refine rdEq_int ?_
        show if (false ^^ decide (b2 a = b2 b)) = true then RetD G Q (.int 1) G else RetD G Q (.int 0) G
        rw [b2_eq, Bool.false_xor]
        cases h : a == b with
        | true => rw [h] at hq; exact iteT (RetD.all hq)
        | false => rw [h] at hq; exact iteF (RetD.all hq)
  · exact hsp.elim
def sp_so (d : Nat) : SpD := fun ds G Q => match ds with
  | [x, y] => ∃ (t : Th) (as : As), x = enc t ∧ y = aD as ∧ t.wf as.length ∧ t.asd as = true ∧ t.dep < d ∧ Q (.int (b2 (t.so (asW as)))) G
  | _ => False
theorem ok_so_step {d : Nat} (T : Bl K mg) (f_so_of_two : Fnc P w K mg base "so_of_two" 1 ["word", "one", "other"] sp_so_of_two) (f_so : Fnc P w K mg base "so" (d + 1) ["thing", "world"] (sp_so d)) (Pl : Plc K mg "so" s_so ["thing", "world"]) : Fnc P w K mg base "so" (d + 2) ["thing", "world"] (sp_so (d + 1)) := by
  have nd := sc_so.nd
  refine Pl.fn' (k := d + 1) sc_so fun f cdv A outer s H E hr => ⟨_, fun F => (dss_cons' (ds_set' (i := 2) nd (de_ix' hr (de_var' 0) de_int'))
  (dss_cons' (ds_if' (dt_eq' (de_var' 2) de_str')
  (dss_one' (ds_ret' (de_ix' hr (de_var' 1) (de_ix' hr (de_var' 0) de_int'))))
  dss_nil')
  (dss_cons' (ds_if' (dt_eq' (de_var' 2) de_str')
  (dss_one' (ds_ret' (de_if' (dt_ge' (de_sum' (da_cons' (de_var' 1) da_nil') T.b_sum) (de_ix' hr (de_var' 0) de_int')) de_int' de_int')))
  dss_nil')
  (dss_cons' (ds_if' (dt_eq' (de_var' 2) de_str')
  (dss_one' (ds_ret' (de_sub' de_int' (de_callF' f_so (hr.mono (by first | decide | omega)) (da_cons' (de_ix' hr (de_var' 0) de_int') (da_cons' (de_var' 1) da_nil'))))))
  dss_nil')
  (dss_cons' (ds_if' (dt_eq' (de_var' 2) de_str')
  (dss_one' (ds_ret' (de_if' (dt_eq' (de_ix' hr (de_var' 1) (de_ix' hr (de_var' 0) de_int')) (de_callF' f_so (hr.mono (by first | decide | omega)) (da_cons' (de_ix' hr (de_var' 0) de_int') (da_cons' (de_var' 1) da_nil')))) de_int' de_int')))
  dss_nil')
  (dss_one' (ds_ret' (de_callF' f_so_of_two (hr.mono (by first | decide | omega)) (da_cons' (de_var' 2) (da_cons' (de_callF' f_so (hr.mono (by first | decide | omega)) (da_cons' (de_ix' hr (de_var' 0) de_int') (da_cons' (de_var' 1) da_nil'))) (da_cons' (de_callF' f_so (hr.mono (by first | decide | omega)) (da_cons' (de_ix' hr (de_var' 0) de_int') (da_cons' (de_var' 1) da_nil'))) da_nil'))))))))))), fun ds G Q hl hsp hb hG => ?_⟩
  unfold sp_so at hsp
  split at hsp
  · obtain ⟨t, as, rfl, rfl, hw, ha, hd, hq⟩ := hsp
    have pos : ∀ {a : Th} {n : Nat}, a.dep + 1 < n + 1 → a.dep < n := fun h => by omega
    cases t with
    | is k =>
      refine rdIx_of atI_0 ?_
      refine rdEq_sT ?_
      refine rdIx_of atI_1 ?_
      refine rdIx_of (atI_as hw) ?_
      rw [oD_some ha]
      exact RetD.all hq
    | many m =>
      refine rdIx_of atI_0 ?_
      refine rdEq_sF ?_
      refine rdEq_sT ?_
      refine rdSum_of (ints_as ha) ?_
      refine rdIx_of atI_1 ?_
      show if decide ((m : Int) ≤ ((asW as).map b2).sum) = true then RetD G Q (.int 1) G else RetD G Q (.int 0) G
      have e : decide ((m : Int) ≤ ((asW as).map b2).sum) = (Th.many m).so (asW as) := by
        show _ = decide (m ≤ (asW as).count true)
        rw [sum_b2]
        exact decide_eq_decide.mpr (by omega)
      rw [e]
      cases h : (Th.many m).so (asW as) with
      | true => rw [h] at hq; exact iteT (RetD.all hq)
      | false => rw [h] at hq; exact iteF (RetD.all hq)
    | not a =>
      refine rdIx_of atI_0 ?_
      refine rdEq_sF ?_
      refine rdEq_sF ?_
      refine rdEq_sT ?_
      refine rdIx_of atI_1 ?_
      refine ⟨rfl, a, as, rfl, rfl, hw, ha, pos hd, ?_⟩
      refine RetD.all ?_
      show Q (.int (1 - b2 (a.so (asW as)))) G
      rw [b2_not]
      exact hq
    | says k a =>
      have ha' : ((as.getD k none).isSome && a.asd as) = true := ha
      rw [Bool.and_eq_true] at ha'
      refine rdIx_of atI_0 ?_
      refine rdEq_sF ?_
      refine rdEq_sF ?_
      refine rdEq_sF ?_
      refine rdEq_sT ?_
      refine rdIx_of atI_1 ?_
      refine rdIx_of (atI_as hw.1) ?_
      refine rdIx_of atI_2 ?_
      refine ⟨rfl, a, as, rfl, rfl, hw.2, ha'.2, pos hd, ?_⟩
      rw [oD_some ha'.1]
      refine rdEq_int ?_
      show if (false ^^ decide (b2 ((asW as).getD k false) = b2 (a.so (asW as)))) = true then RetD G Q (.int 1) G else RetD G Q (.int 0) G
      rw [b2_eq, Bool.false_xor]
      have e : (Th.says k a).so (asW as) = ((asW as).getD k false == a.so (asW as)) := rfl
      rw [e] at hq
      cases h : ((asW as).getD k false == a.so (asW as)) with
      | true => rw [h] at hq; exact iteT (RetD.all hq)
      | false => rw [h] at hq; exact iteF (RetD.all hq)
    | and a b =>
      have ha' : (a.asd as && b.asd as) = true := ha
      rw [Bool.and_eq_true] at ha'
      have hd' : max a.dep b.dep + 1 < d + 1 := hd
      refine rdIx_of atI_0 ?_
      refine rdEq_sF ?_
      refine rdEq_sF ?_
      refine rdEq_sF ?_
      refine rdEq_sF ?_
      refine rdIx_of atI_1 ?_
      refine ⟨rfl, a, as, rfl, rfl, hw.1, ha'.1, by omega, ?_⟩
      refine rdIx_of atI_2 ?_
      refine ⟨rfl, b, as, rfl, rfl, hw.2, ha'.2, by omega, ?_⟩
      exact ⟨rfl, "and", _, _, rfl, rfl, rfl, RetD.all hq⟩
    | or a b =>
      have ha' : (a.asd as && b.asd as) = true := ha
      rw [Bool.and_eq_true] at ha'
      have hd' : max a.dep b.dep + 1 < d + 1 := hd
      refine rdIx_of atI_0 ?_
      refine rdEq_sF ?_
      refine rdEq_sF ?_
      refine rdEq_sF ?_
      refine rdEq_sF ?_
      refine rdIx_of atI_1 ?_
      refine ⟨rfl, a, as, rfl, rfl, hw.1, ha'.1, by omega, ?_⟩
      refine rdIx_of atI_2 ?_
      refine ⟨rfl, b, as, rfl, rfl, hw.2, ha'.2, by omega, ?_⟩
      exact ⟨rfl, "or", _, _, rfl, rfl, rfl, RetD.all hq⟩
    | alike a b =>
      have ha' : (a.asd as && b.asd as) = true := ha
      rw [Bool.and_eq_true] at ha'
      have hd' : max a.dep b.dep + 1 < d + 1 := hd
      refine rdIx_of atI_0 ?_
      refine rdEq_sF ?_
      refine rdEq_sF ?_
      refine rdEq_sF ?_
      refine rdEq_sF ?_
      refine rdIx_of atI_1 ?_
      refine ⟨rfl, a, as, rfl, rfl, hw.1, ha'.1, by omega, ?_⟩
      refine rdIx_of atI_2 ?_
      refine ⟨rfl, b, as, rfl, rfl, hw.2, ha'.2, by omega, ?_⟩
      exact ⟨rfl, "alike", _, _, rfl, rfl, rfl, RetD.all hq⟩
  · exact hsp.elim
theorem ok_so (T : Bl K mg) (f2 : Fnc P w K mg base "so_of_two" 1 ["word", "one", "other"] sp_so_of_two) (Pl : Plc K mg "so" s_so ["thing", "world"]) : ∀ d : Nat, Fnc P w K mg base "so" (d + 1) ["thing", "world"] (sp_so d)
  | 0 => (Fnc.imp Pl.never fun ds G Q h => by
      unfold sp_so at h
      split at h
      · obtain ⟨_, _, _, _, _, _, h, _⟩ := h; omega
      · exact h).mono (Nat.zero_le _)
  | d + 1 => ok_so_step T f2 (ok_so T f2 Pl d) Pl
def sD (p : Nat × Th) : Dt := .tup [.int (p.1 : Nat), enc p.2]
def hD (n : Nat) (ss : Sg) : Dt := .tup [.int (n : Nat), .tup (ss.map sD)]
def sp_would_say : SpD := fun ds G Q => match ds with
  | [x] => ∃ p, x = sD p ∧ Q (enc (.says p.1 p.2)) G
  | _ => False
theorem ok_would_say (T : Bl K mg) (Pl : Plc K mg "would_say" s_would_say ["saying"]) : Fnc P w K mg base "would_say" 1 ["saying"] sp_would_say := by
  have nd := sc_would_say.nd
  refine Pl.fn' sc_would_say fun f cdv A outer s H E hr => ⟨_, fun F => (dss_one' (ds_ret' (de_tup' (da_cons' de_str' (da_cons' (de_ix' hr (de_var' 0) de_int') (da_cons' (de_ix' hr (de_var' 0) de_int') da_nil')))))), fun ds G Q hl hsp hb hG => ?_⟩
  unfold sp_would_say at hsp
  split at hsp
  · obtain ⟨p, rfl, hq⟩ := hsp
    refine rdIx_of atI_0 ?_
    refine rdIx_of atI_1 ?_
    exact ⟨szl 3, RetD.all hq⟩
  · exact hsp.elim
end
abbrev s_fits : Stmt := top 8
theorem sc_fits : FnScope ["hall", "world", "saying"] ["hall", "world"] (defScope s_fits) := ⟨rfl, rfl, rfl, by decide +kernel, rfl, by decide +kernel, by decide +kernel⟩
section
variable {P : Program} {w : World} {K : PySem.W.Frag} {mg : Str → Option Value} {base : Heap}
/-- of worlds alone -/
def sp_fits (d : Nat) : SpD := fun ds G Q => match ds with
  | [x, y] => ∃ (n : Nat) (ss : Sg) (w : Wd), x = hD n ss ∧ y = wD w ∧ ss.wf w.length ∧ (∀ p ∈ ss, p.2.dep < d) ∧ Q (.bl (fits ss w)) G
  | _ => False
theorem ok_fits {d : Nat} (T : Bl K mg) (f_so : Fnc P w K mg base "so" (d + 2) ["thing", "world"] (sp_so (d + 1))) (f_would_say : Fnc P w K mg base "would_say" 1 ["saying"] sp_would_say) (Pl : Plc K mg "fits" s_fits ["hall", "world"]) : Fnc P w K mg base "fits" (d + 3) ["hall", "world"] (sp_fits d) := by
  have nd := sc_fits.nd
  refine Pl.fn' (k := d + 2) sc_fits fun f cdv A outer s H E hr => ⟨_, fun F => (dss_cons' (ds_for' (di_seq' (de_ix' hr (de_var' 0) de_int')) (fun _ => (dg_name' (i := 2) nd))
  (fun _ => (dss_one' (ds_if' (dt_eq' (de_callF' f_so (hr.mono (by first | decide | omega)) (da_cons' (de_callF' f_would_say (hr.mono (by first | decide | omega)) (da_cons' (de_var' 2) da_nil')) (da_cons' (de_var' 1) da_nil'))) de_int')
  (dss_one' (ds_ret' de_bl'))
  dss_nil'))))
  (dss_one' (ds_ret' de_bl'))), fun ds G Q hl hsp hb hG => ?_⟩
  unfold sp_fits at hsp
  split at hsp
  · obtain ⟨n, ss, w, rfl, rfl, hw, hd, hq⟩ := hsp
    refine rdIx_of atI_1 ?_
    refine seqR_tup ?_
    refine lp_ind (fun ds σ G' => G' = G ∧ ∃ (r : Sg) (s2 : Option Dt), ds = r.map sD ∧ (∀ p ∈ r, p ∈ ss) ∧ σ = [some (hD n ss), some (wD w), s2] ∧ (fits r w = fits ss w)) ?_ ?_ _ _ _ ⟨rfl, ss, none, rfl, fun p h => h, rfl, rfl⟩
    · rintro σ G' ⟨rfl, r, s2, h1, h2, rfl, h3⟩
      cases r with
      | cons a r => cases h1
      | nil =>
        refine ⟨trivial, ?_⟩
        show RetD G' Q (.bl true) G'
        rw [← h3] at hq
        exact RetD.all hq
    · rintro d' r' K' hK σ G' ⟨rfl, r, s2, h1, h2, rfl, h3⟩
      cases r with
      | nil => cases h1
      | cons p r =>
        cases h1
        refine ⟨trivial, ?_⟩
        refine ⟨rfl, p, rfl, ?_⟩
        have hp := h2 p List.mem_cons_self
        have hdp := hd p hp
        refine ⟨rfl, .says p.1 p.2, w.map some, rfl, wD_a w, by rw [List.length_map]; exact hw p hp, asd_all (n := w.length) (List.length_map _) (all_some w) _ (hw p hp), by show p.2.dep + 1 < d + 1; omega, ?_⟩
        rw [asW_some]
        have e : (Th.says p.1 p.2).so w = fit w p := rfl
        rw [e]
        have hf : fits (p :: r) w = (fit w p && fits r w) := by unfold fits; rw [List.all_cons]
        rw [hf] at h3
        refine rdEq_int ?_
        show if (false ^^ decide (b2 (fit w p) = 0)) = true then _ else _
        rw [b2_zero, Bool.false_xor]
        cases h : fit w p with
        | true =>
          rw [h, Bool.true_and] at h3
          exact iteF (Wk.here (hK _ _ ⟨rfl, r, _, rfl, fun p hp => h2 p (List.mem_cons_of_mem _ hp), rfl, h3⟩))
        | false =>
          rw [h, Bool.false_and] at h3
          refine iteT ?_
          show RetD G' Q (.bl false) G'
          rw [← h3] at hq
          exact RetD.all hq
  · exact hsp.elim
end
end K03
--LAW k03
namespace K03
open PySem PySem.Spec L2 DL TH KT KH KFM
local macro_rules | `(tactic| walk_at "dx") => `(tactic| (try simp only [↓dSeq, ↓dIfS, ↓dOr, ↓dAnd, ↓dNot, ↓dTru, ↓dIsi, ↓dVar, ↓dRet, ↓dC, ↓dNext, ↓dChain, ↓rdI0, ↓rdI, ↓dTest, ↓dOp, ↓endsD, ↓startD, ↓dAndV, ↓dOrV, ↓dNotV, ↓dIf, ↓dCall, ↓dCons, ↓dNil, ↓dTup, ↓dLst, ↓dSet, ↓dAsg, ↓dgName, ↓dgNil, ↓dgCons, ↓dgTup, ↓dDrop, ↓dCB, ↓dMGet, ↓rdLen_eq, ↓rdLen0, ↓rdIx_eq, ↓rdIx0, ↓rdIs, ↓rdEq_eq, ↓rdEq0, ↓rdAdd, ↓rdMul, ↓dUn, ↓dPart, ↓dNoPart, ↓dSl, ↓rdSl_eq, ↓rdSl0, ↓rdList, ↓rdTuple_eq, ↓rdTuple0, ↓rdAll, ↓dAppend, ↓rdAppend_eq, ↓rdAppend0, ↓dPop, ↓isLstC, ↓dFor, ↓diZip, ↓diSeq, ↓seqR_eq, ↓seqR0, ↓diRng1, ↓dWhile, ↓dDict, ↓dPairs, ↓keysD, ↓keyD, get_endz, get_endj, set_endz, set_endj, Option.some.injEq, Cl.lst.injEq, exists_eq', exists_eq, exists_eq_left,
  isi_non, isi_bl, isi_int, isi_str, isi_tup, isi_ref, tru_non, tru_bl, tru_int, tru_tup, tru_ref, len_tup, len_ref, at_tup, at_ref, at_refs, is_non_non, is_bl_bl, is_bl_non, is_non_bl, is_int_non, is_str_non, is_tup_non, is_ref_non, is_int_bl, is_str_bl, is_tup_bl, is_ref_bl, eqs_int, eqs_str, eqs_bl, seq_tup, seq_ref, atI_0, atI_1, atI_2, succ_eq0, zero_eq0, str_inj,
  List.map_cons, List.map_nil, List.length_cons, List.length_nil, List.replicate, List.cons_append, List.nil_append, List.append_nil, List.append_assoc, List.length_append, List.getElem?_cons_zero, List.getElem?_cons_succ, List.set_cons_zero, List.set_cons_succ, if_true, if_false, Bool.not_true, Bool.not_false, Bool.false_eq_true, Bool.or_true, Bool.or_false, Bool.true_or, Bool.false_or, Bool.and_true, Bool.and_false, Bool.true_and, Bool.false_and, Bool.false_xor, Bool.true_xor, Nat.sub_self, Nat.reduceAdd, Nat.reduceSub, decide_true, decide_false, true_and, and_true, ne_eq, String.reduceBEq, String.reduceEq, reduceIte, reduceCtorEq]))
/-! ### the law's cells, things, halls -/
abbrev s_cell : Stmt := top 14
abbrev s_mix : Stmt := top 15
abbrev s_thing : Stmt := top 16
abbrev s_hall : Stmt := top 17
theorem sc_cell : FnScope ["_law_script", "_law_k"] ["_law_script", "_law_k"] (defScope s_cell) := ⟨rfl, rfl, rfl, by decide +kernel, rfl, by decide +kernel, by decide +kernel⟩
theorem sc_mix : FnScope ["_law_cell_here", "_law_prime", "_law_many"] ["_law_cell_here", "_law_prime", "_law_many"] (defScope s_mix) := ⟨rfl, rfl, rfl, by decide +kernel, rfl, by decide +kernel, by decide +kernel⟩
theorem sc_thing : FnScope ["_law_cell_here", "_law_many", "_law_deep", "_law_turn", "_law_guest", "_law_one", "_law_other"] ["_law_cell_here", "_law_many", "_law_deep"] (defScope s_thing) := ⟨rfl, rfl, rfl, by decide +kernel, rfl, by decide +kernel, by decide +kernel⟩
theorem sc_hall : FnScope ["_law_script", "_law_many", "_law_size", "_law_some", "_law_k", "_law_cell_here"] ["_law_script"] (defScope s_hall) := ⟨rfl, rfl, rfl, by decide +kernel, rfl, by decide +kernel, by decide +kernel⟩
def cellI (ns : List Int) (k : Int) : Int := ns.getD k.toNat 0
def mixI (c p m : Int) : Int := c * 48271 % p % m
def leafD (c n : Int) : Dt := if mixI c 9973 9 = 8 then .tup [.str "many", .int (mixI c 9949 8)] else .tup [.str "is", .int (mixI c 9967 n)]
def opW (t : Int) : Str := if t = 5 then "and" else if t = 6 then "or" else "alike"
def thD (n : Int) : Nat → Int → Dt
  | 0, c => leafD c n
  | k + 1, c => if mixI c 9973 9 < 2 then leafD c n else if mixI c 9973 9 = 2 then .tup [.str "many", .int (mixI c 9949 (n + 1))] else if mixI c 9973 9 = 3 then .tup [.str "not", thD n k (c * 3 + 1)]
    else if mixI c 9973 9 = 4 then .tup [.str "says", .int (mixI c 9967 n), thD n k (c * 3 + 1)] else .tup [.str (opW (mixI c 9973 9)), thD n k (c * 3 + 1), thD n k (c * 5 + 2)]
theorem mix_lt {c p m : Int} (hm : 0 < m) : 0 ≤ mixI c p m ∧ mixI c p m < m := ⟨Int.emod_nonneg _ (by omega), Int.emod_lt_of_pos _ hm⟩
section
variable {P : Program} {w : World} {K : PySem.W.Frag} {mg : Str → Option Value} {base : Heap}
def sp_cell : SpD := fun ds G Q => match ds with
  | [.ref i, .int k] => ∃ ns : List Int, G[i]? = some (.fz (ns.map Dt.int)) ∧ 0 ≤ k ∧ Q (.int (cellI ns k)) G
  | _ => False
theorem atI_ints {ns : List Int} {k : Int} (h0 : 0 ≤ k) (h : k < ns.length) : atI (ns.map Dt.int) k = some (.int (cellI ns k)) := by
  obtain ⟨m, rfl⟩ := Int.eq_ofNat_of_zero_le h0
  have hk : m < ns.length := by omega
  refine atI_nat ?_
  rw [List.getElem?_map, List.getElem?_eq_getElem hk]
  unfold cellI
  simp [List.getD, hk]
theorem ok_cell (T : Bl K mg) (Pl : Plc K mg "_law_cell" s_cell ["_law_script", "_law_k"]) : Fnc P w K mg base "_law_cell" 1 ["_law_script", "_law_k"] sp_cell := by
  have nd := sc_cell.nd
  refine Pl.fn' sc_cell fun f cdv A outer s H E hr => ⟨_, fun F => (dss_cons' (ds_if' (dt_lt' (de_var' 1) (de_len' (da_cons' (de_var' 0) da_nil') T.b_len))
  (dss_one' (ds_ret' (de_ix' hr (de_var' 0) (de_var' 1))))
  dss_nil')
  (dss_one' (ds_ret' de_int'))), fun ds G Q hl hsp hb hG => ?_⟩
  unfold sp_cell at hsp
  split at hsp
  · rename_i i k
    obtain ⟨ns, hi, h0, hq⟩ := hsp
    walk_at "dx"
    simp only [hi, List.length_map]
    by_cases hk : k < ns.length
    · rw [decide_eq_true hk]
      refine iteT ?_
      rw [atI_ints h0 hk]
      exact RetD.all hq
    · rw [decide_eq_false hk]
      refine iteF (RetD.all ?_)
      have : cellI ns k = 0 := by
        unfold cellI
        simp [List.getD, show ns.length ≤ k.toNat by omega]
      rw [this] at hq
      exact hq
  · exact hsp.elim
def sp_mix : SpD := fun ds G Q => match ds with
  | [.int c, .int p, .int m] => 0 < p ∧ 0 < m ∧ Q (.int (mixI c p m)) G
  | _ => False
theorem cmul (i j : Int) (h : -(2 ^ 64) < j ∧ j < 2 ^ 64 := by decide) : CMul i j := .inr h
theorem ok_mix (T : Bl K mg) (Pl : Plc K mg "_law_mix" s_mix ["_law_cell_here", "_law_prime", "_law_many"]) : Fnc P w K mg base "_law_mix" 1 ["_law_cell_here", "_law_prime", "_law_many"] sp_mix := by
  have nd := sc_mix.nd
  refine Pl.fn' sc_mix fun f cdv A outer s H E hr => ⟨_, fun F => (dss_one' (ds_ret' (de_mod' (de_mod' (de_mul' (de_var' 0) de_int') (de_var' 1)) (de_var' 2)))), fun ds G Q hl hsp hb hG => ?_⟩
  unfold sp_mix at hsp
  split at hsp
  · rename_i c p m
    obtain ⟨hp, hm, hq⟩ := hsp
    walk_at "dx"
    exact ⟨cmul _ _, hp, hm, RetD.all hq⟩
  · exact hsp.elim
theorem spM {c p m : Int} {G : GD} {Q : KD} : sp_mix [.int c, .int p, .int m] G Q = (0 < p ∧ 0 < m ∧ Q (.int (mixI c p m)) G) := rfl
def sp_thing (k : Nat) : SpD := fun ds G Q => match ds with
  | [.int c, .int n, .int j] => 1 ≤ n ∧ 0 ≤ j ∧ j < k ∧ Q (thD n j.toNat c) G
  | _ => False
theorem spTh {k : Nat} {c n j : Int} {G : GD} {Q : KD} : sp_thing k [.int c, .int n, .int j] G Q = (1 ≤ n ∧ 0 ≤ j ∧ j < k ∧ Q (thD n j.toNat c) G) := rfl
theorem bnd_th (b : Nat) (n : Int) : ∀ (k : Nat) (c : Int), bnd b (thD n k c) := by
  have leaf : ∀ c, bnd b (leafD c n) := fun c => by
    unfold leafD
    split <;> exact ⟨trivial, trivial, trivial⟩
  intro k
  induction k with
  | zero => intro c; exact leaf c
  | succ k ih =>
    intro c
    unfold thD
    repeat' split
    · exact leaf c
    · exact ⟨trivial, trivial, trivial⟩
    · exact ⟨trivial, ih _, trivial⟩
    · exact ⟨trivial, trivial, ih _, trivial⟩
    · exact ⟨trivial, ih _, ih _, trivial⟩
theorem ok_thing_step {k : Nat} (T : Bl K mg) (f__law_mix : Fnc P w K mg base "_law_mix" 1 ["_law_cell_here", "_law_prime", "_law_many"] sp_mix) (f__law_thing : Fnc P w K mg base "_law_thing" (k + 1) ["_law_cell_here", "_law_many", "_law_deep"] (sp_thing k))
    (Pl : Plc K mg "_law_thing" s_thing ["_law_cell_here", "_law_many", "_law_deep"]) : Fnc P w K mg base "_law_thing" (k + 2) ["_law_cell_here", "_law_many", "_law_deep"] (sp_thing (k + 1)) := by
  have nd := sc_thing.nd
  refine Pl.fn' (k := k + 1) sc_thing fun f cdv A outer s H E hr => ⟨_, fun F => (dss_cons' (ds_set' (i := 3) nd (de_callF' f__law_mix (hr.mono (by omega)) (da_cons' (de_var' 0) (da_cons' de_int' (da_cons' de_int' da_nil')))))
  (dss_cons' (ds_set' (i := 4) nd (de_callF' f__law_mix (hr.mono (by omega)) (da_cons' (de_var' 0) (da_cons' de_int' (da_cons' (de_var' 1) da_nil')))))
  (dss_cons' (ds_if' (dt_w' (dw_or' (dt_eq' (de_var' 2) de_int') (dw_or1' (dt_lt' (de_var' 3) de_int'))))
  (dss_cons' (ds_if' (dt_eq' (de_var' 3) de_int')
  (dss_one' (ds_ret' (de_tup' (da_cons' de_str' (da_cons' (de_callF' f__law_mix (hr.mono (by omega)) (da_cons' (de_var' 0) (da_cons' de_int' (da_cons' de_int' da_nil')))) da_nil')))))
  dss_nil')
  (dss_one' (ds_ret' (de_tup' (da_cons' de_str' (da_cons' (de_var' 4) da_nil'))))))
  dss_nil')
  (dss_cons' (ds_set' (i := 5) nd (de_callF' f__law_thing (hr.mono (by omega)) (da_cons' (de_add' (de_mul' (de_var' 0) de_int') de_int') (da_cons' (de_var' 1) (da_cons' (de_sub' (de_var' 2) de_int') da_nil')))))
  (dss_cons' (ds_if' (dt_eq' (de_var' 3) de_int')
  (dss_one' (ds_ret' (de_tup' (da_cons' de_str' (da_cons' (de_callF' f__law_mix (hr.mono (by omega)) (da_cons' (de_var' 0) (da_cons' de_int' (da_cons' (de_add' (de_var' 1) de_int') da_nil')))) da_nil')))))
  dss_nil')
  (dss_cons' (ds_if' (dt_eq' (de_var' 3) de_int')
  (dss_one' (ds_ret' (de_tup' (da_cons' de_str' (da_cons' (de_var' 5) da_nil')))))
  dss_nil')
  (dss_cons' (ds_if' (dt_eq' (de_var' 3) de_int')
  (dss_one' (ds_ret' (de_tup' (da_cons' de_str' (da_cons' (de_var' 4) (da_cons' (de_var' 5) da_nil'))))))
  dss_nil')
  (dss_cons' (ds_set' (i := 6) nd (de_callF' f__law_thing (hr.mono (by omega)) (da_cons' (de_add' (de_mul' (de_var' 0) de_int') de_int') (da_cons' (de_var' 1) (da_cons' (de_sub' (de_var' 2) de_int') da_nil')))))
  (dss_one' (ds_ret' (de_tup' (da_cons' (de_ix' hr (de_lst' (da_cons' de_str' (da_cons' de_str' (da_cons' de_str' (da_cons' de_str' da_nil'))))) (de_sub' (de_var' 3) de_int')) (da_cons' (de_var' 5) (da_cons' (de_var' 6) da_nil')))))))))))))), fun ds G Q hl hsp hb hG => ?_⟩
  unfold sp_thing at hsp
  split at hsp
  · rename_i c n j
    obtain ⟨hn, h0, hj, hq⟩ := hsp
    walk_at "dx"
    simp only [spM]
    walk_at "dx"
    have s2 : 2 ≤ sizeLine := by decide
    have s3 : 3 ≤ sizeLine := by decide
    have s4 : 4 ≤ sizeLine := by decide
    refine ⟨by decide, by decide, by decide, by omega, ?_⟩
    obtain ⟨m0, m9⟩ := mix_lt (c := c) (p := 9973) (m := 9) (by decide)
    have leaf : Q (leafD c n) G → if decide (mixI c 9973 9 = 8) = true then 0 < (9949 : Int) ∧ 0 < (8 : Int) ∧ 2 ≤ sizeLine ∧ RetD G Q (.tup [.str "many", .int (mixI c 9949 8)]) G else 2 ≤ sizeLine ∧ RetD G Q (.tup [.str "is", .int (mixI c 9967 n)]) G := fun h => by
      unfold leafD at h
      by_cases e : mixI c 9973 9 = 8
      · rw [if_pos e] at h
        rw [decide_eq_true e]
        exact iteT ⟨by decide, by decide, s2, RetD.all h⟩
      · rw [if_neg e] at h
        rw [decide_eq_false e]
        exact iteF ⟨s2, RetD.all h⟩
    by_cases ej : j = 0
    · rw [decide_eq_true ej]
      subst ej
      exact iteT (leaf hq)
    · rw [decide_eq_false ej]
      refine iteF ?_
      have ejn : j.toNat = (j - 1).toNat + 1 := by omega
      rw [ejn] at hq
      unfold thD at hq
      by_cases e2 : mixI c 9973 9 < 2
      · rw [if_pos e2] at hq
        rw [decide_eq_true e2]
        exact iteT (leaf hq)
      · rw [if_neg e2] at hq
        rw [decide_eq_false e2]
        refine iteF ⟨cmul _ _, ?_⟩
        simp only [spTh]
        refine ⟨hn, by omega, by omega, ?_⟩
        by_cases e3 : mixI c 9973 9 = 2
        · rw [if_pos e3] at hq
          rw [decide_eq_true e3]
          exact iteT ⟨by decide, by omega, s2, RetD.all hq⟩
        · rw [if_neg e3] at hq
          rw [decide_eq_false e3]
          refine iteF ?_
          by_cases e4 : mixI c 9973 9 = 3
          · rw [if_pos e4] at hq
            rw [decide_eq_true e4]
            exact iteT ⟨s2, RetD.all hq⟩
          · rw [if_neg e4] at hq
            rw [decide_eq_false e4]
            refine iteF ?_
            by_cases e5 : mixI c 9973 9 = 4
            · rw [if_pos e5] at hq
              rw [decide_eq_true e5]
              exact iteT ⟨s3, RetD.all hq⟩
            · rw [if_neg e5] at hq
              rw [decide_eq_false e5]
              refine iteF ⟨cmul _ _, hn, by omega, by omega, s4, ?_⟩
              have ea : atI [Dt.str "and", Dt.str "or", Dt.str "alike", Dt.str "alike"] (mixI c 9973 9 - 5) = some (.str (opW (mixI c 9973 9))) := by
                have h4 : mixI c 9973 9 = 5 ∨ mixI c 9973 9 = 6 ∨ mixI c 9973 9 = 7 ∨ mixI c 9973 9 = 8 := by omega
                rcases h4 with h | h | h | h <;> rw [h] <;> rfl
              rw [ea]
              exact ⟨s3, RetD.pure hG ⟨trivial, bnd_th _ _ _ _, bnd_th _ _ _ _, trivial⟩ hq⟩
  · exact hsp.elim
theorem ok_thing (T : Bl K mg) (f_mix : Fnc P w K mg base "_law_mix" 1 ["_law_cell_here", "_law_prime", "_law_many"] sp_mix) (Pl : Plc K mg "_law_thing" s_thing ["_law_cell_here", "_law_many", "_law_deep"]) :
    ∀ k : Nat, Fnc P w K mg base "_law_thing" (k + 1) ["_law_cell_here", "_law_many", "_law_deep"] (sp_thing k)
  | 0 => (Fnc.imp Pl.never fun ds G Q h => by
      unfold sp_thing at h
      split at h
      · obtain ⟨_, h0, h1, _⟩ := h; omega
      · exact h).mono (Nat.zero_le _)
  | k + 1 => ok_thing_step T f_mix (ok_thing T f_mix Pl k) Pl
/-! ### _law_hall -/
def sayD (ns : List Int) (n : Int) (k : Nat) : Dt := .tup [.int (mixI (cellI ns (1 + k)) 9929 n), thD n (1 + cellI ns (1 + k) % 3).toNat (cellI ns (1 + k))]
def manyD (ns : List Int) : Int := 1 + mixI (cellI ns 0) 9941 5
def saysD (ns : List Int) : List Dt := (List.range (mixI (cellI ns 0) 9931 7).toNat).map (sayD ns (manyD ns))
def hallD (ns : List Int) : Dt := .tup [.int (manyD ns), .tup (saysD ns)]
def sp_hall : SpD := fun ds G Q => match ds with
  | [.ref i] => ∃ ns : List Int, G[i]? = some (.fz (ns.map Dt.int)) ∧ Q (hallD ns) G
  | _ => False
theorem spC {i : Nat} {k : Int} {G : GD} {Q : KD} : sp_cell [.ref i, .int k] G Q = (∃ ns : List Int, G[i]? = some (.fz (ns.map Dt.int)) ∧ 0 ≤ k ∧ Q (.int (cellI ns k)) G) := rfl
theorem get_left {G J : GD} {i : Nat} {c : Cl} (h : G[i]? = some c) : (G ++ J)[i]? = some c := by
  rw [List.getElem?_append_left (by have := (List.getElem?_eq_some_iff.mp h).1; exact this)]
  exact h
abbrev hB : TDS := dSeq (dSet 5 (dCall 2 sp_cell (dCons (dVar 0) (dCons (dOp rdAdd (dC (.int 1)) (dVar 4)) dNil)))) (dDrop (dAppend (dVar 3) (dCons (dTup (dCons (dCall 3 sp_mix (dCons (dVar 5) (dCons (dC (.int 9929)) (dCons (dVar 1) dNil))))
  (dCons (dCall 3 (sp_thing 4) (dCons (dVar 5) (dCons (dVar 1) (dCons (dOp rdAdd (dC (.int 1)) (dOp (rdI (fun _ j => 0 < j) fun i j => .int (i % j)) (dVar 5) (dC (.int 3)))) dNil)))) dNil))) dNil)))
theorem hall_loop (D : EndsD) (n0 : Nat) (G : GD) (ns : List Int) (n : Int) (i : Nat) (hi : G[i]? = some (.fz (ns.map Dt.int))) (hn : 1 ≤ n) (sz : Dt) : ∀ (is : List Nat) (acc : List Dt) (k c : Option Dt), acc.length + is.length < sizeLine →
    (∀ k c, D.nx [some (.ref i), some (.int n), some sz, some (.ref G.length), k, c] (G ++ [.lst (acc ++ is.map (sayD ns n))])) →
    lp n0 (dgName 4) hB D (fun _ => True) (is.map fun (j : Nat) => Dt.int (0 + j)) [some (.ref i), some (.int n), some sz, some (.ref G.length), k, c] (G ++ [.lst acc])
  | [], acc, k, c, _, h => ⟨trivial, by simpa using h k c⟩
  | j :: is, acc, k, c, hz, h => by
    refine ⟨trivial, ?_⟩
    have e2 : (j :: is).length = is.length + 1 := rfl
    walk_at "dx"
    try simp only [spC]
    refine ⟨ns, get_left hi, by omega, ?_⟩
    walk_at "dx"
    simp only [spM]
    refine ⟨by decide, by omega, ?_⟩
    walk_at "dx"
    refine ⟨by decide, ?_⟩
    simp only [spTh]
    have h3 := Int.emod_nonneg (cellI ns (1 + (0 + (j : Int)))) (b := 3) (by decide)
    have h4 := Int.emod_lt_of_pos (cellI ns (1 + (0 + (j : Int)))) (b := 3) (by decide)
    refine ⟨hn, by omega, by omega, by decide, ?_⟩
    walk_at "dx"
    refine ⟨by omega, Wk.here (hall_loop D n0 G ns n i hi hn sz is _ _ _ (by rw [List.length_append, List.length_singleton]; omega) fun k c => ?_)⟩
    have := h k c
    have e0 : (0 : Int) + (j : Int) = j := by omega
    rw [e0, List.append_assoc]
    exact this
theorem ok_hall (T : Bl K mg) (f__law_cell : Fnc P w K mg base "_law_cell" 1 ["_law_script", "_law_k"] sp_cell) (f__law_mix : Fnc P w K mg base "_law_mix" 1 ["_law_cell_here", "_law_prime", "_law_many"] sp_mix)
    (f__law_thing : Fnc P w K mg base "_law_thing" 5 ["_law_cell_here", "_law_many", "_law_deep"] (sp_thing 4)) (Pl : Plc K mg "_law_hall" s_hall ["_law_script"]) : Fnc P w K mg base "_law_hall" 6 ["_law_script"] sp_hall := by
  have nd := sc_hall.nd
  refine Pl.fn' sc_hall fun f cdv A outer s H E hr => ⟨_, fun F => (dss_cons' (ds_set' (i := 1) nd (de_add' de_int' (de_callF' f__law_mix (hr.mono (by decide)) (da_cons' (de_callF' f__law_cell (hr.mono (by decide)) (da_cons' (de_var' 0) (da_cons' de_int' da_nil'))) (da_cons' de_int' (da_cons' de_int' da_nil'))))))
  (dss_cons' (ds_set' (i := 2) nd (de_callF' f__law_mix (hr.mono (by decide)) (da_cons' (de_callF' f__law_cell (hr.mono (by decide)) (da_cons' (de_var' 0) (da_cons' de_int' da_nil'))) (da_cons' de_int' (da_cons' de_int' da_nil')))))
  (dss_cons' (ds_set' (i := 3) nd (de_lst' da_nil'))
  (dss_cons' (ds_for' (di_rng1' (da_cons' (de_var' 2) da_nil') T.b_range) (fun _ => (dg_name' (i := 4) nd))
  (fun _ => (dss_cons' (ds_set' (i := 5) nd (de_callF' f__law_cell (hr.mono (by decide)) (da_cons' (de_var' 0) (da_cons' (de_add' de_int' (de_var' 4)) da_nil'))))
  (dss_one' (ds_expr' (de_append' (de_var' 3) (da_cons' (de_tup' (da_cons' (de_callF' f__law_mix (hr.mono (by decide)) (da_cons' (de_var' 5) (da_cons' de_int' (da_cons' (de_var' 1) da_nil')))) (da_cons' (de_callF' f__law_thing (hr.mono (by decide)) (da_cons' (de_var' 5) (da_cons' (de_var' 1) (da_cons' (de_add' de_int' (de_mod' (de_var' 5) de_int')) da_nil')))) da_nil'))) da_nil')))))))
  (dss_one' (ds_ret' (de_tup' (da_cons' (de_var' 1) (da_cons' (de_tupleof' (da_cons' (de_var' 3) da_nil') T.b_tuple) da_nil'))))))))), fun ds G Q hl hsp hb hG => ?_⟩
  unfold sp_hall at hsp
  split at hsp
  · rename_i i
    obtain ⟨ns, hi, hq⟩ := hsp
    walk_at "dx"
    try simp only [spC]
    refine ⟨ns, hi, by decide, ?_⟩
    walk_at "dx"
    try simp only [spM]
    refine ⟨by decide, by decide, ?_⟩
    walk_at "dx"
    try simp only [spC]
    refine ⟨ns, hi, by decide, ?_⟩
    walk_at "dx"
    try simp only [spM]
    refine ⟨by decide, by decide, ?_⟩
    walk_at "dx"
    obtain ⟨m0, m7⟩ := mix_lt (c := cellI ns 0) (p := 9931) (m := 7) (by decide)
    obtain ⟨q0, q5⟩ := mix_lt (c := cellI ns 0) (p := 9941) (m := 5) (by decide)
    refine ⟨by decide, ⟨by omega, by omega⟩, ?_⟩
    refine hall_loop _ _ G ns (manyD ns) i hi (by unfold manyD; omega) _ (List.range (mixI (cellI ns 0) 9931 7).toNat) [] none none ?_ fun k c => ?_
    · have : sizeLine = 16777216 := sizeLine_eq
      rw [List.length_range]; simp only [List.length_nil]; omega
    · walk_at "dx"
      simp only [cellL]
      walk_at "dx"
      refine ⟨by decide, RetD.pure hG ?_ hq⟩
      refine ⟨trivial, ?_, trivial⟩
      show bnds _ (saysD ns)
      unfold saysD
      generalize List.range _ = l
      induction l with
      | nil => exact trivial
      | cons a l ih => exact ⟨⟨trivial, bnd_th _ _ _ _, trivial⟩, ih⟩
  · exact hsp.elim
end
/-! things and halls as the document has them -/
def leafT (c n : Int) : Th := if mixI c 9973 9 = 8 then .many (mixI c 9949 8).toNat else .is (mixI c 9967 n).toNat
def opT (t : Int) (a b : Th) : Th := if t = 5 then .and a b else if t = 6 then .or a b else .alike a b
def thT (n : Int) : Nat → Int → Th
  | 0, c => leafT c n
  | k + 1, c => if mixI c 9973 9 < 2 then leafT c n else if mixI c 9973 9 = 2 then .many (mixI c 9949 (n + 1)).toNat else if mixI c 9973 9 = 3 then .not (thT n k (c * 3 + 1))
    else if mixI c 9973 9 = 4 then .says (mixI c 9967 n).toNat (thT n k (c * 3 + 1)) else opT (mixI c 9973 9) (thT n k (c * 3 + 1)) (thT n k (c * 5 + 2))
theorem mix_nat {c p m : Int} (hm : 0 < m) : Dt.int (mixI c p m) = .int ((mixI c p m).toNat : Nat) := by
  have := (mix_lt (c := c) (p := p) hm).1
  rw [Int.toNat_of_nonneg this]
theorem leaf_enc {c n : Int} (h : 1 ≤ n) : leafD c n = enc (leafT c n) := by
  unfold leafD leafT
  split
  · rw [mix_nat (by decide)]; rfl
  · rw [mix_nat (by omega)]; rfl
theorem th_enc {n : Int} (h : 1 ≤ n) : ∀ (k : Nat) (c : Int), thD n k c = enc (thT n k c) := by
  intro k
  induction k with
  | zero => intro c; exact leaf_enc h
  | succ k ih =>
    intro c
    unfold thD thT
    split
    · exact leaf_enc h
    split
    · rw [mix_nat (by omega)]; rfl
    split
    · rw [ih]; rfl
    split
    · rw [ih, mix_nat (by omega)]; rfl
    · rw [ih, ih]
      unfold opW opT
      split
      · rfl
      split
      · rfl
      · rfl
theorem leaf_wf {c n : Int} (h : 1 ≤ n) : (leafT c n).wf n.toNat := by
  unfold leafT
  split
  · exact trivial
  · show (mixI c 9967 n).toNat < n.toNat
    have := mix_lt (c := c) (p := 9967) (m := n) (by omega)
    omega
theorem th_wf {n : Int} (h : 1 ≤ n) : ∀ (k : Nat) (c : Int), (thT n k c).wf n.toNat := by
  intro k
  induction k with
  | zero => intro c; exact leaf_wf h
  | succ k ih =>
    intro c
    unfold thT
    split
    · exact leaf_wf h
    split
    · exact trivial
    split
    · exact ih _
    split
    · refine ⟨?_, ih _⟩
      have := mix_lt (c := c) (p := 9967) (m := n) (by omega)
      omega
    · unfold opT
      split
      · exact ⟨ih _, ih _⟩
      split
      · exact ⟨ih _, ih _⟩
      · exact ⟨ih _, ih _⟩
theorem leaf_dep {c n : Int} : (leafT c n).dep = 0 := by
  unfold leafT
  split <;> rfl
theorem th_dep {n : Int} : ∀ (k : Nat) (c : Int), (thT n k c).dep ≤ k := by
  intro k
  induction k with
  | zero => intro c; exact Nat.le_of_eq leaf_dep
  | succ k ih =>
    intro c
    have i1 := ih (c * 3 + 1)
    have i2 := ih (c * 5 + 2)
    unfold thT
    split
    · rw [leaf_dep]; exact Nat.zero_le _
    split
    · exact Nat.zero_le _
    split
    · show (thT n k (c * 3 + 1)).dep + 1 ≤ k + 1; omega
    split
    · show (thT n k (c * 3 + 1)).dep + 1 ≤ k + 1; omega
    · unfold opT
      split
      · show max (thT n k (c * 3 + 1)).dep (thT n k (c * 5 + 2)).dep + 1 ≤ k + 1; omega
      split
      · show max (thT n k (c * 3 + 1)).dep (thT n k (c * 5 + 2)).dep + 1 ≤ k + 1; omega
      · show max (thT n k (c * 3 + 1)).dep (thT n k (c * 5 + 2)).dep + 1 ≤ k + 1; omega
def manyN (ns : List Int) : Nat := (manyD ns).toNat
def sgT (ns : List Int) : Sg := (List.range (mixI (cellI ns 0) 9931 7).toNat).map fun (k : Nat) => ((mixI (cellI ns (1 + k)) 9929 (manyD ns)).toNat, thT (manyD ns) (1 + cellI ns (1 + k) % 3).toNat (cellI ns (1 + k)))
theorem many_le (ns : List Int) : 1 ≤ manyD ns ∧ manyD ns ≤ 5 := by
  obtain ⟨a, b⟩ := mix_lt (c := cellI ns 0) (p := 9941) (m := 5) (by decide)
  unfold manyD
  omega
theorem manyN_le (ns : List Int) : 1 ≤ manyN ns ∧ manyN ns ≤ 5 := by
  have := many_le ns
  unfold manyN
  omega
theorem manyN_eq (ns : List Int) : manyD ns = (manyN ns : Nat) := by
  have := many_le ns
  unfold manyN
  omega
theorem hall_enc (ns : List Int) : hallD ns = hD (manyN ns) (sgT ns) := by
  unfold hallD hD
  rw [← manyN_eq]
  congr 3
  unfold saysD sgT
  rw [List.map_map]
  congr 1
  apply List.map_congr_left
  intro k _
  show sayD ns (manyD ns) k = sD _
  unfold sayD sD
  rw [mix_nat (by have := many_le ns; omega), th_enc (many_le ns).1]
theorem sg_len (ns : List Int) : (sgT ns).length ≤ 6 := by
  obtain ⟨a, b⟩ := mix_lt (c := cellI ns 0) (p := 9931) (m := 7) (by decide)
  unfold sgT
  rw [List.length_map, List.length_range]
  omega
theorem sg_wf (ns : List Int) : (sgT ns).wf (manyN ns) := fun p hp => by
  unfold sgT at hp
  rw [List.mem_map] at hp
  obtain ⟨k, _, rfl⟩ := hp
  have h := many_le ns
  refine ⟨?_, th_wf h.1 _ _⟩
  have := mix_lt (c := cellI ns (1 + k)) (p := 9929) (m := manyD ns) (by omega)
  show (mixI (cellI ns (1 + k)) 9929 (manyD ns)).toNat < (manyD ns).toNat
  omega
theorem sg_dep (ns : List Int) : ∀ p ∈ sgT ns, p.2.dep ≤ 3 := fun p hp => by
  unfold sgT at hp
  rw [List.mem_map] at hp
  obtain ⟨k, _, rfl⟩ := hp
  have h3 := Int.emod_nonneg (cellI ns (1 + k)) (b := 3) (by decide)
  have h4 := Int.emod_lt_of_pos (cellI ns (1 + k)) (b := 3) (by decide)
  exact Nat.le_trans (th_dep _ _) (by omega)
end K03
--LAW k03
namespace K03
open PySem PySem.Spec L2 DL TH KT KH KFM
local macro_rules | `(tactic| walk_at "dx") => `(tactic| (try simp only [↓dSeq, ↓dIfS, ↓dOr, ↓dAnd, ↓dNot, ↓dTru, ↓dIsi, ↓dVar, ↓dRet, ↓dC, ↓dNext, ↓dChain, ↓rdI0, ↓rdI, ↓dTest, ↓dOp, ↓endsD, ↓startD, ↓dAndV, ↓dOrV, ↓dNotV, ↓dIf, ↓dCall, ↓dCons, ↓dNil, ↓dTup, ↓dLst, ↓dSet, ↓dAsg, ↓dgName, ↓dgNil, ↓dgCons, ↓dgTup, ↓dDrop, ↓dCB, ↓dMGet, ↓rdLen_eq, ↓rdLen0, ↓rdIx_eq, ↓rdIx0, ↓rdIs, ↓rdEq_eq, ↓rdEq0, ↓rdAdd, ↓rdMul, ↓dUn, ↓dPart, ↓dNoPart, ↓dSl, ↓rdSl_eq, ↓rdSl0, ↓rdList, ↓rdTuple_eq, ↓rdTuple0, ↓rdAll, ↓dAppend, ↓rdAppend_eq, ↓rdAppend0, ↓dPop, ↓isLstC, ↓dFor, ↓diZip, ↓diSeq, ↓seqR_eq, ↓seqR0, ↓diRng1, ↓dWhile, ↓dDict, ↓dPairs, ↓keysD, ↓keyD, get_endz, get_endj, set_endz, set_endj, Option.some.injEq, Cl.lst.injEq, exists_eq', exists_eq, exists_eq_left,
  isi_non, isi_bl, isi_int, isi_str, isi_tup, isi_ref, tru_non, tru_bl, tru_int, tru_tup, tru_ref, len_tup, len_ref, at_tup, at_ref, at_refs, is_non_non, is_bl_bl, is_bl_non, is_non_bl, is_int_non, is_str_non, is_tup_non, is_ref_non, is_int_bl, is_str_bl, is_tup_bl, is_ref_bl, eqs_int, eqs_str, eqs_bl, seq_tup, seq_ref, atI_0, atI_1, atI_2, succ_eq0, zero_eq0, str_inj,
  List.map_cons, List.map_nil, List.length_cons, List.length_nil, List.replicate, List.cons_append, List.nil_append, List.append_nil, List.append_assoc, List.length_append, List.getElem?_cons_zero, List.getElem?_cons_succ, List.set_cons_zero, List.set_cons_succ, if_true, if_false, Bool.not_true, Bool.not_false, Bool.false_eq_true, Bool.or_true, Bool.or_false, Bool.true_or, Bool.false_or, Bool.and_true, Bool.and_false, Bool.true_and, Bool.false_and, Bool.false_xor, Bool.true_xor, Nat.sub_self, Nat.reduceAdd, Nat.reduceSub, decide_true, decide_false, true_and, and_true, ne_eq, String.reduceBEq, String.reduceEq, reduceIte, reduceCtorEq]))
/-! ### the law's own so, all worlds -/
abbrev s_l_so : Stmt := top 19
theorem sc_l_so : FnScope ["_law_thing_here", "_law_world", "_law_one", "_law_other"] ["_law_thing_here", "_law_world"] (defScope s_l_so) := ⟨rfl, rfl, rfl, by decide +kernel, rfl, by decide +kernel, by decide +kernel⟩
section
variable {P : Program} {w : World} {K : PySem.W.Frag} {mg : Str → Option Value} {base : Heap}
def sp_l_so (d : Nat) : SpD := fun ds G Q => match ds with
  | [x, y] => ∃ (t : Th) (w : Wd), x = enc t ∧ y = wD w ∧ t.wf w.length ∧ t.dep < d ∧ ∀ J, Q (.bl (t.so w)) (G ++ J)
  | _ => False
theorem atI_wd {w : Wd} {k : Nat} (h : k < w.length) : atI (w.map fun b => Dt.int (b2 b)) (k : Int) = some (.int (b2 (w.getD k false))) := by
  refine atI_nat ?_
  rw [List.getElem?_map, List.getElem?_eq_getElem h]
  simp [List.getD, h]
theorem flat_wd (w : Wd) : (w.map fun b => Dt.int (b2 b)).all flatD = true := by
  rw [List.all_map]
  induction w with
  | nil => rfl
  | cons b w ih => exact ih
theorem app0 {G : GD} {Q : GD → Prop} (h : ∀ J, Q (G ++ J)) : Q G := by simpa using h []
theorem ix_and : ([.str "and", .str "or", .str "alike"] : List Dt).findIdx (fun z => eqF z (.str "and")) = 0 := by decide +kernel
theorem ix_or : ([.str "and", .str "or", .str "alike"] : List Dt).findIdx (fun z => eqF z (.str "or")) = 1 := by decide +kernel
theorem ix_alike : ([.str "and", .str "or", .str "alike"] : List Dt).findIdx (fun z => eqF z (.str "alike")) = 2 := by decide +kernel
theorem ok_l_so_step {d : Nat} (T : Bl K mg) (f__law_so : Fnc P w K mg base "_law_so" (d + 1) ["_law_thing_here", "_law_world"] (sp_l_so d)) (Pl : Plc K mg "_law_so" s_l_so ["_law_thing_here", "_law_world"]) : Fnc P w K mg base "_law_so" (d + 2) ["_law_thing_here", "_law_world"] (sp_l_so (d + 1)) := by
  have nd := sc_l_so.nd
  refine Pl.fn' (k := d + 1) sc_l_so fun f cdv A outer s H E hr => ⟨_, fun F => (dss_cons' (ds_if' (dt_eq' (de_ix' hr (de_var' 0) de_int') de_str')
  (dss_one' (ds_ret' (de_eq' (de_ix' hr (de_var' 1) (de_ix' hr (de_var' 0) de_int')) de_int')))
  dss_nil')
  (dss_cons' (ds_if' (dt_eq' (de_ix' hr (de_var' 0) de_int') de_str')
  (dss_one' (ds_ret' (de_ge' (de_count' (de_var' 1) (da_cons' de_int' da_nil')) (de_ix' hr (de_var' 0) de_int'))))
  dss_nil')
  (dss_cons' (ds_if' (dt_eq' (de_ix' hr (de_var' 0) de_int') de_str')
  (dss_one' (ds_ret' (de_not' (de_callF' f__law_so (hr.mono (by first | decide | omega)) (da_cons' (de_ix' hr (de_var' 0) de_int') (da_cons' (de_var' 1) da_nil'))))))
  dss_nil')
  (dss_cons' (ds_if' (dt_eq' (de_ix' hr (de_var' 0) de_int') de_str')
  (dss_one' (ds_ret' (de_eq' (de_eq' (de_ix' hr (de_var' 1) (de_ix' hr (de_var' 0) de_int')) de_int') (de_callF' f__law_so (hr.mono (by first | decide | omega)) (da_cons' (de_ix' hr (de_var' 0) de_int') (da_cons' (de_var' 1) da_nil'))))))
  dss_nil')
  (dss_cons' (ds_set' (i := 2) nd (de_callF' f__law_so (hr.mono (by first | decide | omega)) (da_cons' (de_ix' hr (de_var' 0) de_int') (da_cons' (de_var' 1) da_nil'))))
  (dss_cons' (ds_set' (i := 3) nd (de_callF' f__law_so (hr.mono (by first | decide | omega)) (da_cons' (de_ix' hr (de_var' 0) de_int') (da_cons' (de_var' 1) da_nil'))))
  (dss_one' (ds_ret' (de_ix' hr (de_lst' (da_cons' (de_and' (de_var' 2) (de_one' (de_var' 3))) (da_cons' (de_or' (de_var' 2) (de_one' (de_var' 3))) (da_cons' (de_eq' (de_var' 2) (de_var' 3)) da_nil')))) (de_indexL' (de_lst' (da_cons' de_str' (da_cons' de_str' (da_cons' de_str' da_nil')))) (da_cons' (de_ix' hr (de_var' 0) de_int') da_nil'))))))))))), fun ds G Q hl hsp hb hG => ?_⟩
  unfold sp_l_so at hsp
  split at hsp
  · obtain ⟨t, w, rfl, rfl, hw, hd, hq⟩ := hsp
    have pos : ∀ {a : Th} {n : Nat}, a.dep + 1 < n + 1 → a.dep < n := fun h => by omega
    cases t with
    | is k =>
      refine rdIx_of atI_0 ?_
      refine rdEq_sT ?_
      refine rdIx_of atI_1 ?_
      refine rdIx_of (atI_wd hw) ?_
      refine rdEq_int ?_
      show RetD G Q (.bl (false ^^ decide (b2 (w.getD k false) = 1))) G
      rw [b2_one, Bool.false_xor]
      exact RetD.all (app0 hq)
    | many m =>
      refine rdIx_of atI_0 ?_
      refine rdEq_sF ?_
      refine rdIx_of atI_0 ?_
      refine rdEq_sT ?_
      refine ⟨⟨_, rfl⟩, ?_⟩
      refine rdCount_of rfl (flat_wd w) ?_
      refine rdIx_of atI_1 ?_
      rw [count_b2]
      show RetD G Q (.bl (decide ((m : Int) ≤ (w.count true : Nat)))) G
      have e : decide ((m : Int) ≤ (w.count true : Nat)) = (Th.many m).so w := decide_eq_decide.mpr (by omega)
      rw [e]
      exact RetD.all (app0 hq)
    | not a =>
      refine rdIx_of atI_0 ?_
      refine rdEq_sF ?_
      refine rdIx_of atI_0 ?_
      refine rdEq_sF ?_
      refine rdIx_of atI_0 ?_
      refine rdEq_sT ?_
      refine rdIx_of atI_1 ?_
      refine ⟨rfl, a, w, rfl, rfl, hw, pos hd, fun J => ?_⟩
      exact RetD.all (hq J)
    | says k a =>
      refine rdIx_of atI_0 ?_
      refine rdEq_sF ?_
      refine rdIx_of atI_0 ?_
      refine rdEq_sF ?_
      refine rdIx_of atI_0 ?_
      refine rdEq_sF ?_
      refine rdIx_of atI_0 ?_
      refine rdEq_sT ?_
      refine rdIx_of atI_1 ?_
      refine rdIx_of (atI_wd hw.1) ?_
      refine rdEq_int ?_
      refine rdIx_of atI_2 ?_
      refine ⟨rfl, a, w, rfl, rfl, hw.2, pos hd, fun J => ?_⟩
      refine rdEq_bl ?_
      show RetD G Q (.bl (false ^^ decide ((false ^^ decide (b2 (w.getD k false) = 1)) = a.so w))) (G ++ J)
      rw [b2_one, Bool.false_xor, Bool.false_xor]
      have e : decide (w.getD k false = a.so w) = (Th.says k a).so w := by
        show _ = (w.getD k false == a.so w)
        cases w.getD k false <;> cases a.so w <;> rfl
      rw [e]
      exact RetD.all (hq J)
    | and a b =>
      have hd' : max a.dep b.dep + 1 < d + 1 := hd
      refine rdIx_of atI_0 ?_
      refine rdEq_sF ?_
      refine rdIx_of atI_0 ?_
      refine rdEq_sF ?_
      refine rdIx_of atI_0 ?_
      refine rdEq_sF ?_
      refine rdIx_of atI_0 ?_
      refine rdEq_sF ?_
      refine rdIx_of atI_1 ?_
      refine ⟨rfl, a, w, rfl, rfl, hw.1, by omega, fun J1 => ?_⟩
      refine rdIx_of atI_2 ?_
      refine ⟨rfl, b, w, rfl, rfl, hw.2, by omega, fun J2 => ?_⟩
      have q : ∀ {G'}, Grw G G' → Q (.bl (a.so w && b.so w)) G' := fun ⟨J, e⟩ => by rw [e]; exact hq J
      generalize a.so w = x at q ⊢
      generalize b.so w = y at q ⊢
      cases x <;> cases y
      all_goals
        refine rdEq_bl ?_
        refine ⟨szl 3, szl 3, ⟨_, _, rfl, cell_lst at_last⟩, ?_⟩
        refine rdIx_of atI_0 ?_
        refine rdIndexL_at (cell_lst at_last) rfl rfl ix_and (by decide) ?_
        refine rdIx_of ((atD_lst (at_prev at_last)).trans atI_0) ?_
        exact RetD.all (q (Grw.refl.more.more.push.push))
    | or a b =>
      have hd' : max a.dep b.dep + 1 < d + 1 := hd
      refine rdIx_of atI_0 ?_
      refine rdEq_sF ?_
      refine rdIx_of atI_0 ?_
      refine rdEq_sF ?_
      refine rdIx_of atI_0 ?_
      refine rdEq_sF ?_
      refine rdIx_of atI_0 ?_
      refine rdEq_sF ?_
      refine rdIx_of atI_1 ?_
      refine ⟨rfl, a, w, rfl, rfl, hw.1, by omega, fun J1 => ?_⟩
      refine rdIx_of atI_2 ?_
      refine ⟨rfl, b, w, rfl, rfl, hw.2, by omega, fun J2 => ?_⟩
      have q : ∀ {G'}, Grw G G' → Q (.bl (a.so w || b.so w)) G' := fun ⟨J, e⟩ => by rw [e]; exact hq J
      generalize a.so w = x at q ⊢
      generalize b.so w = y at q ⊢
      cases x <;> cases y
      all_goals
        refine rdEq_bl ?_
        refine ⟨szl 3, szl 3, ⟨_, _, rfl, cell_lst at_last⟩, ?_⟩
        refine rdIx_of atI_0 ?_
        refine rdIndexL_at (cell_lst at_last) rfl rfl ix_or (by decide) ?_
        refine rdIx_of ((atD_lst (at_prev at_last)).trans atI_1) ?_
        exact RetD.all (q (Grw.refl.more.more.push.push))
    | alike a b =>
      have hd' : max a.dep b.dep + 1 < d + 1 := hd
      refine rdIx_of atI_0 ?_
      refine rdEq_sF ?_
      refine rdIx_of atI_0 ?_
      refine rdEq_sF ?_
      refine rdIx_of atI_0 ?_
      refine rdEq_sF ?_
      refine rdIx_of atI_0 ?_
      refine rdEq_sF ?_
      refine rdIx_of atI_1 ?_
      refine ⟨rfl, a, w, rfl, rfl, hw.1, by omega, fun J1 => ?_⟩
      refine rdIx_of atI_2 ?_
      refine ⟨rfl, b, w, rfl, rfl, hw.2, by omega, fun J2 => ?_⟩
      have q : ∀ {G'}, Grw G G' → Q (.bl (a.so w == b.so w)) G' := fun ⟨J, e⟩ => by rw [e]; exact hq J
      generalize a.so w = x at q ⊢
      generalize b.so w = y at q ⊢
      cases x <;> cases y
      all_goals
        refine rdEq_bl ?_
        refine ⟨szl 3, szl 3, ⟨_, _, rfl, cell_lst at_last⟩, ?_⟩
        refine rdIx_of atI_0 ?_
        refine rdIndexL_at (cell_lst at_last) rfl rfl ix_alike (by decide) ?_
        refine rdIx_of ((atD_lst (at_prev at_last)).trans atI_2) ?_
        exact RetD.all (q (Grw.refl.more.more.push.push))
  · exact hsp.elim
theorem ok_l_so (T : Bl K mg) (Pl : Plc K mg "_law_so" s_l_so ["_law_thing_here", "_law_world"]) : ∀ d : Nat, Fnc P w K mg base "_law_so" (d + 1) ["_law_thing_here", "_law_world"] (sp_l_so d)
  | 0 => (Fnc.imp Pl.never fun ds G Q h => by
      unfold sp_l_so at h
      split at h
      · obtain ⟨_, _, _, _, _, h, _⟩ := h; omega
      · exact h).mono (Nat.zero_le _)
  | d + 1 => ok_l_so_step T (ok_l_so T Pl d) Pl
end
end K03
--LAW k03
namespace K03
open PySem PySem.Spec L2 DL TH KT KH KFM
local macro_rules | `(tactic| walk_at "dx") => `(tactic| (try simp only [↓dSeq, ↓dIfS, ↓dOr, ↓dAnd, ↓dNot, ↓dTru, ↓dIsi, ↓dVar, ↓dRet, ↓dC, ↓dNext, ↓dChain, ↓rdI0, ↓rdI, ↓dTest, ↓dOp, ↓endsD, ↓startD, ↓dAndV, ↓dOrV, ↓dNotV, ↓dIf, ↓dCall, ↓dCons, ↓dNil, ↓dTup, ↓dLst, ↓dSet, ↓dAsg, ↓dgName, ↓dgNil, ↓dgCons, ↓dgTup, ↓dDrop, ↓dCB, ↓dMGet, ↓rdLen_eq, ↓rdLen0, ↓rdIx_eq, ↓rdIx0, ↓rdIs, ↓rdEq_eq, ↓rdEq0, ↓rdAdd, ↓rdMul, ↓dUn, ↓dPart, ↓dNoPart, ↓dSl, ↓rdSl_eq, ↓rdSl0, ↓rdList, ↓rdTuple_eq, ↓rdTuple0, ↓rdAll, ↓dAppend, ↓rdAppend_eq, ↓rdAppend0, ↓dPop, ↓isLstC, ↓dFor, ↓diZip, ↓diSeq, ↓seqR_eq, ↓seqR0, ↓diRng1, ↓dWhile, ↓dDict, ↓dPairs, ↓keysD, ↓keyD, get_endz, get_endj, set_endz, set_endj, Option.some.injEq, Cl.lst.injEq, exists_eq', exists_eq, exists_eq_left,
  isi_non, isi_bl, isi_int, isi_str, isi_tup, isi_ref, tru_non, tru_bl, tru_int, tru_tup, tru_ref, len_tup, len_ref, at_tup, at_ref, at_refs, is_non_non, is_bl_bl, is_bl_non, is_non_bl, is_int_non, is_str_non, is_tup_non, is_ref_non, is_int_bl, is_str_bl, is_tup_bl, is_ref_bl, eqs_int, eqs_str, eqs_bl, seq_tup, seq_ref, atI_0, atI_1, atI_2, succ_eq0, zero_eq0, str_inj,
  List.map_cons, List.map_nil, List.length_cons, List.length_nil, List.replicate, List.cons_append, List.nil_append, List.append_nil, List.append_assoc, List.length_append, List.getElem?_cons_zero, List.getElem?_cons_succ, List.set_cons_zero, List.set_cons_succ, if_true, if_false, Bool.not_true, Bool.not_false, Bool.false_eq_true, Bool.or_true, Bool.or_false, Bool.true_or, Bool.false_or, Bool.and_true, Bool.and_false, Bool.true_and, Bool.false_and, Bool.false_xor, Bool.true_xor, Nat.sub_self, Nat.reduceAdd, Nat.reduceSub, decide_true, decide_false, true_and, and_true, ne_eq, String.reduceBEq, String.reduceEq, reduceIte, reduceCtorEq]))
abbrev s_l_all : Stmt := top 21
theorem sc_l_all : FnScope ["_law_many"] ["_law_many"] (defScope s_l_all) := ⟨rfl, rfl, rfl, by decide +kernel, rfl, by decide +kernel, by decide +kernel⟩
section
variable {P : Program} {w : World} {K : PySem.W.Frag} {mg : Str → Option Value} {base : Heap}
/-! all worlds -/
theorem bit_and : ∀ x : Nat, x < 32 → Builtin.bitAnd (x : Int) 1 = b2 (decide (x % 2 = 1)) := by
  have h : ∀ x : Fin 32, Builtin.bitAnd ((x.val : Nat) : Int) 1 = b2 (decide (x.val % 2 = 1)) := by decide +kernel
  exact fun x hx => h ⟨x, hx⟩
def sc_c_l_all_1 : Scope := { kind := .function, names := [(".0", .local), ("_law_number", .cell), ("tuple", .globalImplicit), ("range", .globalImplicit), ("_law_many", .free)], isGenerator := false, isCoroutine := false, more := [] }
theorem ndc_l_all_1 : (["_law_number", "_law_many"] : List Str).Nodup := by decide +kernel
theorem cm_l_all_1 {f : Addr} {cdv : Value} {A : Around} {outer : List Env} {s : Shared} {H : Hp} {E : XK} : CmpOk1 (cxOf CX0 P w K mg base ["_law_many"] "_law_all" (defScope s_l_all) f cdv A outer s H E).nox sc_c_l_all_1 [("_law_many", s.heap.objs.size + 1)] "_law_number" ["_law_number", "_law_many"] [none, some 0] where
  clos := by rfl
  hcf := fun _ _ => rfl
  hpc := fun _ => rfl
  kind := by rfl
  names := by decide +kernel
  lenN := by rfl
  capN := fun i j x h1 h2 => by
    match i, h1, h2 with
    | 0, h1, _ => cases h1
    | 1, h1, h2 =>
      cases h1
      cases h2
      exact ⟨rfl, Or.inr (Or.inl rfl), cellNe rfl, cellNe rfl, by decide +kernel, _, rfl, rfl⟩
  cls := fun x c h => by
    have m := PySem.mem_of_lookup h
    simp only [List.mem_cons, List.not_mem_nil, or_false, Prod.mk.injEq] at m
    rcases m with ⟨rfl, rfl⟩ <;> rfl
  has := fun x h => by
    have h' : List.lookup x ([(".0", .local), ("_law_number", .cell), ("tuple", .globalImplicit), ("range", .globalImplicit), ("_law_many", .cell)] : List (Str × NameKind)) = some .cell ∨ List.lookup x ([(".0", .local), ("_law_number", .cell), ("tuple", .globalImplicit), ("range", .globalImplicit), ("_law_many", .cell)] : List (Str × NameKind)) = some .free := h
    have m := h'.imp PySem.mem_of_lookup PySem.mem_of_lookup
    have e : x = "_law_number" ∨ x = "_law_many" := by simpa using m
    rcases e with rfl | rfl
    · exact .inl rfl
    · exact .inr ⟨_, rfl⟩
def sc_c_l_all_0 : Scope := { kind := .function, names := [(".0", .local), ("_law_k", .local), ("_law_many", .free), ("_law_number", .free)], isGenerator := false, isCoroutine := false, more := [] }
theorem ndc_l_all_0 : (["_law_k", "_law_many", "_law_number"] : List Str).Nodup := by decide +kernel
theorem cm_l_all_0 {f : Addr} {cdv : Value} {A : Around} {outer : List Env} {s : Shared} {H : Hp} {E : XK} {C1 : Addr} {sh1 : Shared} {Hh1 : Hp} {ex1 : List Addr} {pn1 : List (Addr × Obj)} : CmpOk (cmpX1 (cxOf CX0 P w K mg base ["_law_many"] "_law_all" (defScope s_l_all) f cdv A outer s H E).nox sc_c_l_all_1 [("_law_many", s.heap.objs.size + 1)] "_law_number" ["_law_number", "_law_many"] C1 sh1 Hh1 ex1 pn1) sc_c_l_all_0 [("_law_number", C1 + 1), ("_law_many", s.heap.objs.size + 1)] ["_law_k", "_law_many", "_law_number"] [none, some 1, some 0] where
  clos := by rfl
  cell := by decide +kernel
  kind := by rfl
  names := by decide +kernel
  lenN := by rfl
  capN := fun i j x h1 h2 => by
    match i, h1, h2 with
    | 0, h1, _ => cases h1
    | 1, h1, h2 =>
      cases h1
      cases h2
      exact ⟨rfl, Or.inr (Or.inl rfl), cellNe rfl, cellNe rfl, _, rfl, rfl⟩
    | 2, h1, h2 =>
      cases h1
      cases h2
      exact ⟨rfl, Or.inr (Or.inl rfl), cellNe rfl, cellNe rfl, _, rfl, rfl⟩
  cls := fun x c h => by
    have m := PySem.mem_of_lookup h
    simp only [List.mem_cons, List.not_mem_nil, or_false, Prod.mk.injEq] at m
    rcases m with ⟨rfl, rfl⟩ | ⟨rfl, rfl⟩ <;> rfl
  has := fun x h => by
    have h' : List.lookup x ([(".0", .local), ("_law_k", .local), ("_law_many", .cell), ("_law_number", .cell)] : List (Str × NameKind)) = some .cell ∨ List.lookup x ([(".0", .local), ("_law_k", .local), ("_law_many", .cell), ("_law_number", .cell)] : List (Str × NameKind)) = some .free := h
    have m := h'.imp PySem.mem_of_lookup PySem.mem_of_lookup
    have e : x = "_law_many" ∨ x = "_law_number" := by simpa using m
    rcases e with rfl | rfl
    · exact ⟨_, rfl⟩
    · exact ⟨_, rfl⟩
def sp_l_all : SpD := fun ds G Q => match ds with
  | [x] => ∃ n : Nat, x = .int (n : Nat) ∧ 1 ≤ n ∧ n ≤ 5 ∧ ∀ J, Q (.ref G.length) (G ++ [.lst ((allW n).map wD)] ++ J)
  | _ => False
theorem ok_l_all (T : Bl K mg) (Pl : Plc K mg "_law_all" s_l_all ["_law_many"]) : Fnc P w K mg base "_law_all" 1 ["_law_many"] sp_l_all := by
  have nd := sc_l_all.nd
  refine Pl.fn' sc_l_all fun f cdv A outer s H E hr => ⟨_, fun F => (dss_one' (ds_ret' (de_comp1' cm_l_all_1 (di_rng1' (da_cons' (de_shl' de_int' (de_var' 0)) da_nil') T.b_range) (fun _ _ _ _ _ _ => (dg_name' (i := 0) ndc_l_all_1)) (fun _ _ _ _ _ _ => dif_nil') (fun _ _ _ _ _ _ => (de_tupleof' (da_cons' (de_comp' cm_l_all_0 (di_rng1' (da_cons' (de_var' 1) da_nil') T.b_range) (fun _ _ _ _ _ _ => (dg_name' (i := 0) ndc_l_all_0)) (fun _ _ _ _ _ _ => dif_nil') (fun _ _ _ _ _ _ => (de_band' (de_shr' (de_var' 2) (de_sub' (de_sub' (de_var' 1) de_int') (de_var' 0))) de_int'))) da_nil') T.b_tuple))))), fun ds G Q hl hsp hb hG => ?_⟩
  unfold sp_l_all at hsp
  split at hsp
  · obtain ⟨n, rfl, h1, h5, hq⟩ := hsp
    have pw : (1 * 2 ^ ((n : Nat) : Int).toNat : Int) = ((2 ^ n : Nat) : Int) := by
      have h : n = 1 ∨ n = 2 ∨ n = 3 ∨ n = 4 ∨ n = 5 := by omega
      rcases h with rfl | rfl | rfl | rfl | rfl <;> rfl
    have p32 : 2 ^ n ≤ 32 := Nat.pow_le_pow_right (by decide) h5
    refine ⟨⟨by omega, by omega, by decide⟩, ⟨?_, ?_⟩, ?_⟩
    · show -(2 ^ 62) ≤ (1 * 2 ^ ((n : Nat) : Int).toNat : Int)
      rw [pw]; exact Int.le_trans (by decide) (Int.natCast_nonneg _)
    · show (1 * 2 ^ ((n : Nat) : Int).toNat : Int) < 2 ^ 62
      rw [pw]; omega
    have pn : (1 * 2 ^ ((n : Nat) : Int).toNat : Int).toNat = 2 ^ n := by rw [pw]; rfl
    rw [pn]
    refine compS (fun _ => true) (fun d => match d with | .int m => wD ((List.range n).map fun k => decide (m.toNat / 2 ^ (n - 1 - k) % 2 = 1)) | d => d) (fun _ _ => trivial) (by rw [rngD_len]; exact szlt _ (by omega)) (fun d _ acc J K h => h J) (fun d hd _ acc J K h => ?_) fun J => ?_
    · obtain ⟨m, hm, rfl⟩ := mem_rngD hd
      refine ⟨⟨by omega, by omega⟩, ?_⟩
      refine comp0S (fun _ => true) (fun d => match d with | .int k => .int (b2 (decide (m / 2 ^ (n - 1 - k.toNat) % 2 = 1))) | d => d) (fun _ => trivial) (by rw [rngD_len]; exact szlt _ (by omega)) (fun d _ acc K h => h) (fun d hd _ acc K h => ?_) ?_
      · obtain ⟨k, hk, rfl⟩ := mem_rngD hd
        have hk' : k < n := by omega
        refine ⟨by omega, ?_⟩
        have e : Builtin.bitAnd ((0 + (m : Nat) : Int) / 2 ^ ((n : Nat) - 1 - (0 + (k : Nat)) : Int).toNat) 1 = b2 (decide (m / 2 ^ (n - 1 - (0 + (k : Nat) : Int).toNat) % 2 = 1)) := by
          have e1 : ((n : Nat) - 1 - (0 + (k : Nat)) : Int).toNat = n - 1 - k := by omega
          have e2 : (0 + (k : Nat) : Int).toNat = k := by omega
          have e3 : ((0 + (m : Nat) : Int) / 2 ^ (n - 1 - k)) = ((m / 2 ^ (n - 1 - k) : Nat) : Int) := by
            rw [Int.zero_add]; simp
          rw [e1, e2, e3]
          exact bit_and _ (Nat.lt_of_le_of_lt (Nat.div_le_self _ _) (by omega))
        show K (.int (Builtin.bitAnd ((0 + (m : Nat) : Int) / 2 ^ ((n : Nat) - 1 - (0 + (k : Nat)) : Int).toNat) 1)) _
        rw [e]
        exact h
      · refine rdTuple_ref (cell_lst at_last) ?_
        rw [filter_all]
        have e : (rngD 0 ((n : Nat) : Int).toNat).map (fun d => match d with | .int k => .int (b2 (decide (m / 2 ^ (n - 1 - k.toNat) % 2 = 1))) | d => d) = ((List.range n).map fun k => decide (m / 2 ^ (n - 1 - k) % 2 = 1)).map fun b => Dt.int (b2 b) := by
          unfold rngD
          rw [Int.toNat_natCast, List.map_map, List.map_map]
          apply List.map_congr_left
          intro k _
          show Dt.int (b2 (decide (m / 2 ^ (n - 1 - (0 + (k : Nat) : Int).toNat) % 2 = 1))) = _
          have e2 : (0 + (k : Nat) : Int).toNat = k := by omega
          rw [e2]
          rfl
        rw [e, List.append_assoc]
        have := h (J ++ [Cl.lst (((List.range n).map fun k => decide (m / 2 ^ (n - 1 - k) % 2 = 1)).map fun b => Dt.int (b2 b))])
        have e2 : (0 + (m : Nat) : Int).toNat = m := by omega
        simp only [e2] at this
        exact this
    · rw [filter_all]
      refine RetD.all ?_
      have e : (rngD 0 (2 ^ n)).map (fun d => match d with | .int m => wD ((List.range n).map fun k => decide (m.toNat / 2 ^ (n - 1 - k) % 2 = 1)) | d => d) = (allW n).map wD := by
        rw [← lawW_eq h1 h5]
        unfold rngD lawW
        rw [List.map_map, List.map_map]
        apply List.map_congr_left
        intro m _
        show wD ((List.range n).map fun k => decide ((0 + (m : Nat) : Int).toNat / 2 ^ (n - 1 - k) % 2 = 1)) = _
        have e2 : (0 + (m : Nat) : Int).toNat = m := by omega
        rw [e2]
        rfl
      rw [e]
      exact hq J
  · exact hsp.elim
end
end K03
--LAW k03
namespace K03
open PySem PySem.Spec L2 DL TH KT KH KFM
local macro_rules | `(tactic| walk_at "dx") => `(tactic| (try simp only [↓dSeq, ↓dIfS, ↓dOr, ↓dAnd, ↓dNot, ↓dTru, ↓dIsi, ↓dVar, ↓dRet, ↓dC, ↓dNext, ↓dChain, ↓rdI0, ↓rdI, ↓dTest, ↓dOp, ↓endsD, ↓startD, ↓dAndV, ↓dOrV, ↓dNotV, ↓dIf, ↓dCall, ↓dCons, ↓dNil, ↓dTup, ↓dLst, ↓dSet, ↓dAsg, ↓dgName, ↓dgNil, ↓dgCons, ↓dgTup, ↓dDrop, ↓dCB, ↓dMGet, ↓rdLen_eq, ↓rdLen0, ↓rdIx_eq, ↓rdIx0, ↓rdIs, ↓rdEq_eq, ↓rdEq0, ↓rdAdd, ↓rdMul, ↓dUn, ↓dPart, ↓dNoPart, ↓dSl, ↓rdSl_eq, ↓rdSl0, ↓rdList, ↓rdTuple_eq, ↓rdTuple0, ↓rdAll, ↓dAppend, ↓rdAppend_eq, ↓rdAppend0, ↓dPop, ↓isLstC, ↓dFor, ↓diZip, ↓diSeq, ↓seqR_eq, ↓seqR0, ↓diRng1, ↓dWhile, ↓dDict, ↓dPairs, ↓keysD, ↓keyD, get_endz, get_endj, set_endz, set_endj, Option.some.injEq, Cl.lst.injEq, exists_eq', exists_eq, exists_eq_left,
  isi_non, isi_bl, isi_int, isi_str, isi_tup, isi_ref, tru_non, tru_bl, tru_int, tru_tup, tru_ref, len_tup, len_ref, at_tup, at_ref, at_refs, is_non_non, is_bl_bl, is_bl_non, is_non_bl, is_int_non, is_str_non, is_tup_non, is_ref_non, is_int_bl, is_str_bl, is_tup_bl, is_ref_bl, eqs_int, eqs_str, eqs_bl, seq_tup, seq_ref, atI_0, atI_1, atI_2, succ_eq0, zero_eq0, str_inj,
  List.map_cons, List.map_nil, List.length_cons, List.length_nil, List.replicate, List.cons_append, List.nil_append, List.append_nil, List.append_assoc, List.length_append, List.getElem?_cons_zero, List.getElem?_cons_succ, List.set_cons_zero, List.set_cons_succ, if_true, if_false, Bool.not_true, Bool.not_false, Bool.false_eq_true, Bool.or_true, Bool.or_false, Bool.true_or, Bool.false_or, Bool.and_true, Bool.and_false, Bool.true_and, Bool.false_and, Bool.false_xor, Bool.true_xor, Nat.sub_self, Nat.reduceAdd, Nat.reduceSub, decide_true, decide_false, true_and, and_true, ne_eq, String.reduceBEq, String.reduceEq, reduceIte, reduceCtorEq]))
/-! ### the program's worlds -/
abbrev s_all_worlds : Stmt := top 9
abbrev s_worlds : Stmt := top 10
theorem sc_all_worlds : FnScope ["many", "shorter", "k", "longer", "world"] ["many"] (defScope s_all_worlds) := ⟨rfl, rfl, rfl, by decide +kernel, rfl, by decide +kernel, by decide +kernel⟩
theorem sc_worlds : FnScope ["hall"] ["hall"] (defScope s_worlds) := ⟨rfl, rfl, rfl, by decide +kernel, rfl, by decide +kernel, by decide +kernel⟩
section
variable {P : Program} {w : World} {K : PySem.W.Frag} {mg : Str → Option Value} {base : Heap}
theorem stepW_len : ∀ a : List Wd, (stepW a).length = 2 * a.length
  | [] => rfl
  | x :: a => by
    have e : stepW (x :: a) = [x ++ [false], x ++ [true]] ++ stepW a := rfl
    rw [e, List.length_append, stepW_len a]
    simp
    omega
def sp_all_worlds : SpD := fun ds G Q => match ds with
  | [x] => ∃ n : Nat, x = .int (n : Nat) ∧ n ≤ 6 ∧ ∀ i G', Grw G G' → G'[i]? = some (.lst ((allW n).map wD)) → Q (.ref i) G'
  | _ => False
theorem ok_all_worlds (T : Bl K mg) (Pl : Plc K mg "all_worlds" s_all_worlds ["many"]) : Fnc P w K mg base "all_worlds" 1 ["many"] sp_all_worlds := by
  have nd := sc_all_worlds.nd
  refine Pl.fn' sc_all_worlds fun f cdv A outer s H E hr => ⟨_, fun F => (dss_cons' (ds_set' (i := 1) nd (de_lst' (da_cons' (de_tup' da_nil') da_nil')))
  (dss_cons' (ds_for' (di_rng1' (da_cons' (de_var' 0) da_nil') T.b_range) (fun _ => (dg_name' (i := 2) nd))
  (fun _ => (dss_cons' (ds_set' (i := 3) nd (de_lst' da_nil'))
  (dss_cons' (ds_for' (di_seq' (de_var' 1)) (fun _ => (dg_name' (i := 4) nd))
  (fun _ => (dss_cons' (ds_expr' (de_append' (de_var' 3) (da_cons' (de_add' (de_var' 4) (de_tup' (da_cons' de_int' da_nil'))) da_nil')))
  (dss_one' (ds_expr' (de_append' (de_var' 3) (da_cons' (de_add' (de_var' 4) (de_tup' (da_cons' de_int' da_nil'))) da_nil')))))))
  (dss_one' (ds_set' (i := 1) nd (de_var' 3)))))))
  (dss_one' (ds_ret' (de_var' 1))))), fun ds G Q hl hsp hb hG => ?_⟩
  unfold sp_all_worlds at hsp
  split at hsp
  · obtain ⟨n, rfl, h6, hq⟩ := hsp
    refine ⟨szl 0, szl 1, ?_⟩
    refine ⟨⟨by omega, by omega⟩, ?_⟩
    refine lp_ind (fun ds σ G' => ∃ (t i : Nat) (s2 s3 s4 : Option Dt), ds.length + t = n ∧ Grw G G' ∧ G'[i]? = some (.lst ((allW t).map wD)) ∧ σ = [some (.int (n : Nat)), some (.ref i), s2, s3, s4]) ?_ ?_ _ _ _ ⟨0, G.length, none, none, none, by rw [rngD_len]; simp, Grw.refl.push, at_last, rfl⟩
    · rintro σ G' ⟨t, i, s2, s3, s4, h1, g, hi, rfl⟩
      have e : t = n := by simpa using h1
      subst e
      exact ⟨trivial, RetD.all (hq i G' g hi)⟩
    · rintro d r K' hK σ G' ⟨t, i, s2, s3, s4, h1, g, hi, rfl⟩
      have ht : t + 1 ≤ 6 := by rw [List.length_cons] at h1; omega
      refine ⟨trivial, ?_⟩
      refine ⟨szl 0, ?_⟩
      refine seqR_ref (cell_lst (at_prev hi)) ?_
      have hil : i < G'.length := (List.getElem?_eq_some_iff.mp hi).1
      have hsz : ∀ a b : List Wd, allW t = a ++ b → ((stepW a).map wD).length + 1 < sizeLine := fun a b e => by
        have l1 : (stepW a).length = 2 * a.length := stepW_len a
        have l2 : (allW t).length ≤ 64 := by
          have : t = 0 ∨ t = 1 ∨ t = 2 ∨ t = 3 ∨ t = 4 ∨ t = 5 := by omega
          rcases this with rfl | rfl | rfl | rfl | rfl | rfl <;> decide +kernel
        have l3 : a.length ≤ 64 := by rw [e, List.length_append] at l2; omega
        rw [List.length_map, l1]
        exact szlt _ (by omega)
      refine lp_ind (fun ds σ G2 => ∃ (a b : List Wd) (s4 : Option Dt), allW t = a ++ b ∧ ds = b.map wD ∧ G2 = G' ++ [.lst ((stepW a).map wD)] ∧ σ = [some (.int (n : Nat)), some (.ref i), some d, some (.ref G'.length), s4]) ?_ ?_ _ _ _ ⟨[], allW t, s4, rfl, rfl, rfl, rfl⟩
      · rintro σ G2 ⟨a, b, s4', e, hd, rfl, rfl⟩
        cases b with
        | cons x b => cases hd
        | nil =>
          rw [List.append_nil] at e
          subst e
          exact ⟨cell_lst (at_prev hi), Wk.here (hK _ _ ⟨t + 1, G'.length, _, _, _, by rw [List.length_cons] at h1; omega, g.push, at_last, rfl⟩)⟩
      · rintro d' r' K2 hK2 σ G2 ⟨a, b, s4', e, hd, rfl, rfl⟩
        cases b with
        | nil => cases hd
        | cons x b =>
          cases hd
          refine ⟨cell_lst (at_prev hi), ?_⟩
          have hx : x.length = t := (mem_allW t x).mp (by rw [e]; simp)
          have hs2 := hsz a (x :: b) e
          have hxl : (x.map fun b => Dt.int (b2 b)).length + [Dt.int 0].length ≤ sizeLine := by rw [List.length_map, hx]; exact Nat.le_of_lt (szlt _ (by show t + 1 < _; omega))
          refine ⟨⟨_, at_last⟩, szl 1, hxl, ?_⟩
          refine rdAppend_of at_last (by omega) ?_
          rw [show ∀ c : Cl, (G' ++ [Cl.lst ((stepW a).map wD)]).set G'.length c = G' ++ [c] from fun c => by simp]
          refine ⟨⟨_, at_last⟩, szl 1, hxl, ?_⟩
          refine rdAppend_of at_last (by rw [List.length_append]; exact hs2) ?_
          rw [show ∀ c d : Cl, (G' ++ [d]).set G'.length c = G' ++ [c] from fun c d => by simp]
          refine Wk.here (hK2 _ _ ⟨a ++ [x], b, _, by rw [e]; simp, rfl, ?_, rfl⟩)
          rw [stepW_app, List.map_append, List.append_assoc]
          have e2 : (stepW [x]).map wD = [wD (x ++ [false]), wD (x ++ [true])] := rfl
          have e3 : ∀ c : Bool, wD (x ++ [c]) = .tup ((x.map fun b => Dt.int (b2 b)) ++ [Dt.int (b2 c)]) := fun c => by
            unfold wD; rw [List.map_append]; rfl
          rw [e2, e3, e3]
          rfl
  · exact hsp.elim
def sc_c_worlds_0 : Scope := { kind := .function, names := [(".0", .local), ("world", .local), ("fits", .globalImplicit), ("hall", .free)], isGenerator := false, isCoroutine := false, more := [] }
theorem ndc_worlds_0 : (["world", "hall"] : List Str).Nodup := by decide +kernel
theorem cm_worlds_0 {f : Addr} {cdv : Value} {A : Around} {outer : List Env} {s : Shared} {H : Hp} {E : XK} : CmpOk (cxOf CX0 P w K mg base ["hall"] "worlds" (defScope s_worlds) f cdv A outer s H E).nox sc_c_worlds_0 [("hall", s.heap.objs.size + 1)] ["world", "hall"] [none, some 0] where
  clos := by rfl
  cell := by decide +kernel
  kind := by rfl
  names := by decide +kernel
  lenN := by rfl
  capN := fun i j x h1 h2 => by
    match i, h1, h2 with
    | 0, h1, _ => cases h1
    | 1, h1, h2 =>
      cases h1
      cases h2
      exact ⟨rfl, Or.inr (Or.inl rfl), cellNe rfl, cellNe rfl, _, rfl, rfl⟩
  cls := fun x c h => by
    have m := PySem.mem_of_lookup h
    simp only [List.mem_cons, List.not_mem_nil, or_false, Prod.mk.injEq] at m
    rcases m with ⟨rfl, rfl⟩ <;> rfl
  has := fun x h => by
    have h' : List.lookup x ([(".0", .local), ("world", .local), ("fits", .globalImplicit), ("hall", .cell)] : List (Str × NameKind)) = some .cell ∨ List.lookup x ([(".0", .local), ("world", .local), ("fits", .globalImplicit), ("hall", .cell)] : List (Str × NameKind)) = some .free := h
    have m := h'.imp PySem.mem_of_lookup PySem.mem_of_lookup
    have e : x = "hall" := by simpa using m
    rcases e with rfl
    · exact ⟨_, rfl⟩
theorem bnd_worlds (m : Nat) (ws : List Wd) : bnd m (.tup (ws.map wD)) := bnds_of (bnd_wD m) ws
theorem worlds_len {n : Nat} (h : n ≤ 6) : (allW n).length ≤ 64 := by
  have : n = 0 ∨ n = 1 ∨ n = 2 ∨ n = 3 ∨ n = 4 ∨ n = 5 ∨ n = 6 := by omega
  rcases this with rfl | rfl | rfl | rfl | rfl | rfl | rfl <;> decide +kernel
/-- whether a datum is a world that fits -/
def fitD (ss : Sg) (d : Dt) : Bool := match d with
  | .tup xs => fits ss (xs.map fun x => match x with | .int i => decide (i = 1) | _ => false)
  | _ => false
theorem fitD_wD (ss : Sg) (w : Wd) : fitD ss (wD w) = fits ss w := by
  show fits ss ((w.map fun b => Dt.int (b2 b)).map _) = _
  rw [List.map_map]
  congr 1
  conv => rhs; rw [← List.map_id w]
  apply List.map_congr_left
  intro b _
  cases b <;> rfl
theorem filter_fitD (ss : Sg) (ws : List Wd) : (ws.map wD).filter (fitD ss) = (ws.filter (fits ss)).map wD := by
  rw [List.filter_map]
  congr 1
  apply List.filter_congr
  intro w _
  exact fitD_wD ss w
def sp_worlds (d : Nat) : SpD := fun ds G Q => match ds with
  | [x] => ∃ (n : Nat) (ss : Sg), x = hD n ss ∧ n ≤ 6 ∧ ss.wf n ∧ (∀ p ∈ ss, p.2.dep < d) ∧ Q (.tup ((worlds n ss).map wD)) G
  | _ => False
theorem ok_worlds {d : Nat} (T : Bl K mg) (f_all_worlds : Fnc P w K mg base "all_worlds" 1 ["many"] sp_all_worlds) (f_fits : Fnc P w K mg base "fits" (d + 3) ["hall", "world"] (sp_fits d)) (Pl : Plc K mg "worlds" s_worlds ["hall"]) : Fnc P w K mg base "worlds" (d + 4) ["hall"] (sp_worlds d) := by
  have nd := sc_worlds.nd
  refine Pl.fn' (k := d + 3) sc_worlds fun f cdv A outer s H E hr => ⟨_, fun F => (dss_one' (ds_ret' (de_tupleof' (da_cons' (de_comp' cm_worlds_0 (di_seq' (de_callF' f_all_worlds (hr.mono (by first | decide | omega)) (da_cons' (de_ix' hr (de_var' 0) de_int') da_nil'))) (fun _ _ _ _ _ _ => (dg_name' (i := 0) ndc_worlds_0)) (fun _ _ _ _ _ _ => (dif_one' (dt_tru' (de_callF' f_fits (hr.mono (by first | decide | omega)) (da_cons' (de_var' 1) (da_cons' (de_var' 0) da_nil')))))) (fun _ _ _ _ _ _ => (de_var' 0))) da_nil') T.b_tuple))), fun ds G Q hl hsp hb hG => ?_⟩
  unfold sp_worlds at hsp
  split at hsp
  · obtain ⟨n, ss, rfl, h6, hw, hd, hq⟩ := hsp
    refine rdIx_of atI_0 ?_
    refine ⟨rfl, n, rfl, h6, fun i G' g hi => ?_⟩
    refine seqR_ref (cell_lst hi) ?_
    refine compS (fitD ss) (fun d => d) (fun _ _ => cell_lst (at_more (at_prev hi))) (by rw [List.length_map]; exact szlt _ (Nat.lt_of_le_of_lt (worlds_len h6) (by decide))) (fun d hd acc J K h => ?_) (fun d hd _ acc J K h => h J) fun J => ?_
    · rw [List.mem_map] at hd
      obtain ⟨w, hw', rfl⟩ := hd
      have hl := (mem_allW n w).mp hw'
      refine ⟨rfl, n, ss, w, rfl, rfl, by rw [hl]; exact hw, hd, ?_⟩
      rw [fitD_wD] at h
      exact h J
    · refine rdTuple_ref (cell_lst get_at) ?_
      rw [filter_fitD, List.map_id']
      exact RetD.cut (g.push.more) hG (bnd_worlds _ _) hq
  · exact hsp.elim
end
end K03
--LAW k03
namespace K03
open PySem PySem.Spec L2 DL TH KT KH KFM
local macro_rules | `(tactic| walk_at "dx") => `(tactic| (try simp only [↓dSeq, ↓dIfS, ↓dOr, ↓dAnd, ↓dNot, ↓dTru, ↓dIsi, ↓dVar, ↓dRet, ↓dC, ↓dNext, ↓dChain, ↓rdI0, ↓rdI, ↓dTest, ↓dOp, ↓endsD, ↓startD, ↓dAndV, ↓dOrV, ↓dNotV, ↓dIf, ↓dCall, ↓dCons, ↓dNil, ↓dTup, ↓dLst, ↓dSet, ↓dAsg, ↓dgName, ↓dgNil, ↓dgCons, ↓dgTup, ↓dDrop, ↓dCB, ↓dMGet, ↓rdLen_eq, ↓rdLen0, ↓rdIx_eq, ↓rdIx0, ↓rdIs, ↓rdEq_eq, ↓rdEq0, ↓rdAdd, ↓rdMul, ↓dUn, ↓dPart, ↓dNoPart, ↓dSl, ↓rdSl_eq, ↓rdSl0, ↓rdList, ↓rdTuple_eq, ↓rdTuple0, ↓rdAll, ↓dAppend, ↓rdAppend_eq, ↓rdAppend0, ↓dPop, ↓isLstC, ↓dFor, ↓diZip, ↓diSeq, ↓seqR_eq, ↓seqR0, ↓diRng1, ↓dWhile, ↓dDict, ↓dPairs, ↓keysD, ↓keyD, get_endz, get_endj, set_endz, set_endj, Option.some.injEq, Cl.lst.injEq, exists_eq', exists_eq, exists_eq_left,
  isi_non, isi_bl, isi_int, isi_str, isi_tup, isi_ref, tru_non, tru_bl, tru_int, tru_tup, tru_ref, len_tup, len_ref, at_tup, at_ref, at_refs, is_non_non, is_bl_bl, is_bl_non, is_non_bl, is_int_non, is_str_non, is_tup_non, is_ref_non, is_int_bl, is_str_bl, is_tup_bl, is_ref_bl, eqs_int, eqs_str, eqs_bl, seq_tup, seq_ref, atI_0, atI_1, atI_2, succ_eq0, zero_eq0, str_inj,
  List.map_cons, List.map_nil, List.length_cons, List.length_nil, List.replicate, List.cons_append, List.nil_append, List.append_nil, List.append_assoc, List.length_append, List.getElem?_cons_zero, List.getElem?_cons_succ, List.set_cons_zero, List.set_cons_succ, if_true, if_false, Bool.not_true, Bool.not_false, Bool.false_eq_true, Bool.or_true, Bool.or_false, Bool.true_or, Bool.false_or, Bool.and_true, Bool.and_false, Bool.true_and, Bool.false_and, Bool.false_xor, Bool.true_xor, Nat.sub_self, Nat.reduceAdd, Nat.reduceSub, decide_true, decide_false, true_and, and_true, ne_eq, String.reduceBEq, String.reduceEq, reduceIte, reduceCtorEq]))
/-! ### the law's own fits, worlds -/
abbrev s_l_fits : Stmt := top 20
abbrev s_l_worlds : Stmt := top 22
theorem sc_l_fits : FnScope ["_law_hall_here", "_law_world", "_law_k", "_law_thing_here"] ["_law_hall_here", "_law_world"] (defScope s_l_fits) := ⟨rfl, rfl, rfl, by decide +kernel, rfl, by decide +kernel, by decide +kernel⟩
theorem sc_l_worlds : FnScope ["_law_hall_here"] ["_law_hall_here"] (defScope s_l_worlds) := ⟨rfl, rfl, rfl, by decide +kernel, rfl, by decide +kernel, by decide +kernel⟩
section
variable {P : Program} {w : World} {K : PySem.W.Frag} {mg : Str → Option Value} {base : Heap}
theorem ok_l_fits {d : Nat} (T : Bl K mg) (f__law_so : Fnc P w K mg base "_law_so" (d + 1) ["_law_thing_here", "_law_world"] (sp_l_so d)) (Pl : Plc K mg "_law_fits" s_l_fits ["_law_hall_here", "_law_world"]) : Fnc P w K mg base "_law_fits" (d + 2) ["_law_hall_here", "_law_world"] (sp_fits d) := by
  have nd := sc_l_fits.nd
  refine Pl.fn' (k := d + 1) sc_l_fits fun f cdv A outer s H E hr => ⟨_, fun F => (dss_cons' (ds_for' (di_seq' (de_ix' hr (de_var' 0) de_int')) (fun _ => (dg_tup' (n := 2) (dgs_cons' (i := 2) nd (dgs_cons' (i := 3) nd dgs_nil'))))
  (fun _ => (dss_one' (ds_if' (dt_ne' (de_eq' (de_ix' hr (de_var' 1) (de_var' 2)) de_int') (de_callF' f__law_so (hr.mono (by first | decide | omega)) (da_cons' (de_var' 3) (da_cons' (de_var' 1) da_nil'))))
  (dss_one' (ds_ret' de_bl'))
  dss_nil'))))
  (dss_one' (ds_ret' de_bl'))), fun ds G Q hl hsp hb hG => ?_⟩
  unfold sp_fits at hsp
  split at hsp
  · obtain ⟨n, ss, w, rfl, rfl, hw, hd, hq⟩ := hsp
    refine rdIx_of atI_1 ?_
    refine seqR_tup ?_
    refine lp_ind (fun ds σ G' => Grw G G' ∧ ∃ (r : Sg) (s2 s3 : Option Dt), ds = r.map sD ∧ (∀ p ∈ r, p ∈ ss) ∧ σ = [some (hD n ss), some (wD w), s2, s3] ∧ (fits r w = fits ss w)) ?_ ?_ _ _ _ ⟨Grw.refl, ss, none, none, rfl, fun p h => h, rfl, rfl⟩
    · rintro σ G' ⟨g, r, s2, s3, h1, h2, rfl, h3⟩
      cases r with
      | cons a r => cases h1
      | nil =>
        rw [← h3] at hq
        exact ⟨trivial, RetD.cut g hG trivial hq⟩
    · rintro d' r' K' hK σ G' ⟨g, r, s2, s3, h1, h2, rfl, h3⟩
      cases r with
      | nil => cases h1
      | cons p r =>
        cases h1
        have hp := h2 p List.mem_cons_self
        have hf : fits (p :: r) w = (fit w p && fits r w) := by unfold fits; rw [List.all_cons]
        rw [hf] at h3
        refine ⟨trivial, rfl, rfl, ?_⟩
        refine rdIx_of (atI_wd (hw p hp).1) ?_
        refine rdEq_int ?_
        refine ⟨rfl, p.2, w, rfl, rfl, (hw p hp).2, hd p hp, fun J => ?_⟩
        refine rdEq_bl ?_
        have e : (true ^^ decide ((false ^^ decide (b2 (w.getD p.1 false) = 1)) = p.2.so w)) = !(fit w p) := by
          unfold fit
          cases w.getD p.1 false <;> cases p.2.so w <;> rfl
        show if (true ^^ decide ((false ^^ decide (b2 (w.getD p.1 false) = 1)) = p.2.so w)) = true then _ else _
        rw [e]
        cases h : fit w p with
        | true =>
          rw [h, Bool.true_and] at h3
          exact iteF (Wk.here (hK _ _ ⟨g.more, r, _, _, rfl, fun p hp => h2 p (List.mem_cons_of_mem _ hp), rfl, h3⟩))
        | false =>
          rw [h, Bool.false_and] at h3
          rw [← h3] at hq
          exact iteT (RetD.cut g.more hG trivial hq)
  · exact hsp.elim
def sc_c_l_worlds_0 : Scope := { kind := .function, names := [(".0", .local), ("_law_world", .local), ("_law_fits", .globalImplicit), ("_law_hall_here", .free)], isGenerator := false, isCoroutine := false, more := [] }
theorem ndc_l_worlds_0 : (["_law_world", "_law_hall_here"] : List Str).Nodup := by decide +kernel
theorem cm_l_worlds_0 {f : Addr} {cdv : Value} {A : Around} {outer : List Env} {s : Shared} {H : Hp} {E : XK} : CmpOk (cxOf CX0 P w K mg base ["_law_hall_here"] "_law_worlds" (defScope s_l_worlds) f cdv A outer s H E).nox sc_c_l_worlds_0 [("_law_hall_here", s.heap.objs.size + 1)] ["_law_world", "_law_hall_here"] [none, some 0] where
  clos := by rfl
  cell := by decide +kernel
  kind := by rfl
  names := by decide +kernel
  lenN := by rfl
  capN := fun i j x h1 h2 => by
    match i, h1, h2 with
    | 0, h1, _ => cases h1
    | 1, h1, h2 =>
      cases h1
      cases h2
      exact ⟨rfl, Or.inr (Or.inl rfl), cellNe rfl, cellNe rfl, _, rfl, rfl⟩
  cls := fun x c h => by
    have m := PySem.mem_of_lookup h
    simp only [List.mem_cons, List.not_mem_nil, or_false, Prod.mk.injEq] at m
    rcases m with ⟨rfl, rfl⟩ <;> rfl
  has := fun x h => by
    have h' : List.lookup x ([(".0", .local), ("_law_world", .local), ("_law_fits", .globalImplicit), ("_law_hall_here", .cell)] : List (Str × NameKind)) = some .cell ∨ List.lookup x ([(".0", .local), ("_law_world", .local), ("_law_fits", .globalImplicit), ("_law_hall_here", .cell)] : List (Str × NameKind)) = some .free := h
    have m := h'.imp PySem.mem_of_lookup PySem.mem_of_lookup
    have e : x = "_law_hall_here" := by simpa using m
    rcases e with rfl
    · exact ⟨_, rfl⟩
def sp_l_worlds (d : Nat) : SpD := fun ds G Q => match ds with
  | [x] => ∃ (n : Nat) (ss : Sg), x = hD n ss ∧ 1 ≤ n ∧ n ≤ 5 ∧ ss.wf n ∧ (∀ p ∈ ss, p.2.dep < d) ∧ ∀ i G', Grw G G' → G'[i]? = some (.lst ((worlds n ss).map wD)) → Q (.ref i) G'
  | _ => False
theorem ok_l_worlds {d : Nat} (T : Bl K mg) (f__law_all : Fnc P w K mg base "_law_all" 1 ["_law_many"] sp_l_all) (f__law_fits : Fnc P w K mg base "_law_fits" (d + 2) ["_law_hall_here", "_law_world"] (sp_fits d)) (Pl : Plc K mg "_law_worlds" s_l_worlds ["_law_hall_here"]) : Fnc P w K mg base "_law_worlds" (d + 3) ["_law_hall_here"] (sp_l_worlds d) := by
  have nd := sc_l_worlds.nd
  refine Pl.fn' (k := d + 2) sc_l_worlds fun f cdv A outer s H E hr => ⟨_, fun F => (dss_one' (ds_ret' (de_comp' cm_l_worlds_0 (di_seq' (de_callF' f__law_all (hr.mono (by first | decide | omega)) (da_cons' (de_ix' hr (de_var' 0) de_int') da_nil'))) (fun _ _ _ _ _ _ => (dg_name' (i := 0) ndc_l_worlds_0)) (fun _ _ _ _ _ _ => (dif_one' (dt_tru' (de_callF' f__law_fits (hr.mono (by first | decide | omega)) (da_cons' (de_var' 1) (da_cons' (de_var' 0) da_nil')))))) (fun _ _ _ _ _ _ => (de_var' 0))))), fun ds G Q hl hsp hb hG => ?_⟩
  unfold sp_l_worlds at hsp
  split at hsp
  · obtain ⟨n, ss, rfl, h1, h5, hw, hd, hq⟩ := hsp
    refine rdIx_of atI_0 ?_
    refine ⟨rfl, n, rfl, h1, h5, fun J => ?_⟩
    refine seqR_ref (cell_lst get_at) ?_
    refine compS (fitD ss) (fun d => d) (fun _ _ => cell_lst (at_more (at_prev get_at))) (by rw [List.length_map]; exact szlt _ (Nat.lt_of_le_of_lt (worlds_len (by omega)) (by decide))) (fun d hd acc J K h => ?_) (fun d hd _ acc J K h => h J) fun J2 => ?_
    · rw [List.mem_map] at hd
      obtain ⟨w, hw', rfl⟩ := hd
      have hl := (mem_allW n w).mp hw'
      refine ⟨rfl, n, ss, w, rfl, rfl, by rw [hl]; exact hw, hd, ?_⟩
      rw [fitD_wD] at h
      exact h _
    · rw [filter_fitD, List.map_id']
      exact RetD.all (hq _ _ (Grw.refl.push.more.push.more) get_at)
  · exact hsp.elim
end
end K03
--LAW k03
namespace K03
open PySem PySem.Spec L2 DL TH KT KH KFM
local macro_rules | `(tactic| walk_at "dx") => `(tactic| (try simp only [↓dSeq, ↓dIfS, ↓dOr, ↓dAnd, ↓dNot, ↓dTru, ↓dIsi, ↓dVar, ↓dRet, ↓dC, ↓dNext, ↓dChain, ↓rdI0, ↓rdI, ↓dTest, ↓dOp, ↓endsD, ↓startD, ↓dAndV, ↓dOrV, ↓dNotV, ↓dIf, ↓dCall, ↓dCons, ↓dNil, ↓dTup, ↓dLst, ↓dSet, ↓dAsg, ↓dgName, ↓dgNil, ↓dgCons, ↓dgTup, ↓dDrop, ↓dCB, ↓dMGet, ↓rdLen_eq, ↓rdLen0, ↓rdIx_eq, ↓rdIx0, ↓rdIs, ↓rdEq_eq, ↓rdEq0, ↓rdAdd, ↓rdMul, ↓dUn, ↓dPart, ↓dNoPart, ↓dSl, ↓rdSl_eq, ↓rdSl0, ↓rdList, ↓rdTuple_eq, ↓rdTuple0, ↓rdAll, ↓dAppend, ↓rdAppend_eq, ↓rdAppend0, ↓dPop, ↓isLstC, ↓dFor, ↓diZip, ↓diSeq, ↓seqR_eq, ↓seqR0, ↓diRng1, ↓dWhile, ↓dDict, ↓dPairs, ↓keysD, ↓keyD, get_endz, get_endj, set_endz, set_endj, Option.some.injEq, Cl.lst.injEq, exists_eq', exists_eq, exists_eq_left,
  isi_non, isi_bl, isi_int, isi_str, isi_tup, isi_ref, tru_non, tru_bl, tru_int, tru_tup, tru_ref, len_tup, len_ref, at_tup, at_ref, at_refs, is_non_non, is_bl_bl, is_bl_non, is_non_bl, is_int_non, is_str_non, is_tup_non, is_ref_non, is_int_bl, is_str_bl, is_tup_bl, is_ref_bl, eqs_int, eqs_str, eqs_bl, seq_tup, seq_ref, atI_0, atI_1, atI_2, succ_eq0, zero_eq0, str_inj,
  List.map_cons, List.map_nil, List.length_cons, List.length_nil, List.replicate, List.cons_append, List.nil_append, List.append_nil, List.append_assoc, List.length_append, List.getElem?_cons_zero, List.getElem?_cons_succ, List.set_cons_zero, List.set_cons_succ, if_true, if_false, Bool.not_true, Bool.not_false, Bool.false_eq_true, Bool.or_true, Bool.or_false, Bool.true_or, Bool.false_or, Bool.and_true, Bool.and_false, Bool.true_and, Bool.false_and, Bool.false_xor, Bool.true_xor, Nat.sub_self, Nat.reduceAdd, Nat.reduceSub, decide_true, decide_false, true_and, and_true, ne_eq, String.reduceBEq, String.reduceEq, reduceIte, reduceCtorEq]))
/-! ### the number in all -/
abbrev s_number_in_all : Stmt := top 11
theorem sc_number_in_all : FnScope ["k", "fitting", "numbers"] ["k", "fitting"] (defScope s_number_in_all) := ⟨rfl, rfl, rfl, by decide +kernel, rfl, by decide +kernel, by decide +kernel⟩
section
variable {P : Program} {w : World} {K : PySem.W.Frag} {mg : Str → Option Value} {base : Heap}
def sc_c_number_in_all_0 : Scope := { kind := .function, names := [(".0", .local), ("world", .local), ("k", .free)], isGenerator := false, isCoroutine := false, more := [] }
theorem ndc_number_in_all_0 : (["world", "k"] : List Str).Nodup := by decide +kernel
theorem cm_number_in_all_0 {f : Addr} {cdv : Value} {A : Around} {outer : List Env} {s : Shared} {H : Hp} {E : XK} : CmpOk (cxOf CX0 P w K mg base ["k", "fitting", "numbers"] "number_in_all" (defScope s_number_in_all) f cdv A outer s H E).nox sc_c_number_in_all_0 [("k", s.heap.objs.size + 1)] ["world", "k"] [none, some 0] where
  clos := by rfl
  cell := by decide +kernel
  kind := by rfl
  names := by decide +kernel
  lenN := by rfl
  capN := fun i j x h1 h2 => by
    match i, h1, h2 with
    | 0, h1, _ => cases h1
    | 1, h1, h2 =>
      cases h1
      cases h2
      exact ⟨rfl, Or.inr (Or.inl rfl), cellNe rfl, cellNe rfl, _, rfl, rfl⟩
  cls := fun x c h => by
    have m := PySem.mem_of_lookup h
    simp only [List.mem_cons, List.not_mem_nil, or_false, Prod.mk.injEq] at m
    rcases m with ⟨rfl, rfl⟩ <;> rfl
  has := fun x h => by
    have h' : List.lookup x ([(".0", .local), ("world", .local), ("k", .cell)] : List (Str × NameKind)) = some .cell ∨ List.lookup x ([(".0", .local), ("world", .local), ("k", .cell)] : List (Str × NameKind)) = some .free := h
    have m := h'.imp PySem.mem_of_lookup PySem.mem_of_lookup
    have e : x = "k" := by simpa using m
    rcases e with rfl
    · exact ⟨_, rfl⟩
def sp_number_in_all : SpD := fun ds G Q => match ds with
  | [x, y] => ∃ (k : Nat) (ws : List Wd), x = .int (k : Nat) ∧ y = .tup (ws.map wD) ∧ ws ≠ [] ∧ ws.length ≤ 1000 ∧ (∀ w ∈ ws, k < w.length) ∧ Q (oD (knownB (ws.map fun w => w.getD k false))) G
  | _ => False
theorem ok_number_in_all (T : Bl K mg) (Pl : Plc K mg "number_in_all" s_number_in_all ["k", "fitting"]) : Fnc P w K mg base "number_in_all" 1 ["k", "fitting"] sp_number_in_all := by
  have nd := sc_number_in_all.nd
  refine Pl.fn' sc_number_in_all fun f cdv A outer s H E hr => ⟨_, fun F => (dss_cons' (ds_setC' (i := 2) nd cm_number_in_all_0 (di_seq' (de_var' 1)) (fun _ _ _ _ _ _ => (dg_name' (i := 0) ndc_number_in_all_0)) (fun _ _ _ _ _ _ => dif_nil') (fun _ _ _ _ _ _ => (de_ix' hr (de_var' 0) (de_var' 1))))
  (dss_one' (ds_ret' (de_if' (dt_eq' (de_min' (da_cons' (de_var' 2) da_nil') T.b_min) (de_max' (da_cons' (de_var' 2) da_nil') T.b_max)) (de_ix' hr (de_var' 2) de_int') de_non')))), fun ds G Q hl hsp hb hG => ?_⟩
  unfold sp_number_in_all at hsp
  split at hsp
  · obtain ⟨k, ws, rfl, rfl, hne, hlen, hw, hq⟩ := hsp
    refine seqR_tup ?_
    refine comp0S (fun _ => true) (fun d => match d with | .tup xs => xs.getD k .non | d => d) (fun _ => trivial) (by rw [List.length_map]; exact szlt _ (by omega)) (fun d _ acc K h => h) (fun d hd _ acc K h => ?_) ?_
    · rw [List.mem_map] at hd
      obtain ⟨w, hw', rfl⟩ := hd
      refine rdIx_of (atI_wd (hw w hw')) ?_
      have e : (w.map fun b => Dt.int (b2 b)).getD k .non = .int (b2 (w.getD k false)) := by
        have h1 := hw w hw'
        simp [List.getD, h1]
      have h' : K ((w.map fun b => Dt.int (b2 b)).getD k .non) (G ++ [.lst acc]) := h
      rw [e] at h'
      exact h'
    · have e : (List.filter (fun _ => true) (ws.map wD)).map (fun d => match d with | .tup xs => xs.getD k .non | d => d) = ws.map fun w => Dt.int (b2 (w.getD k false)) := by
        rw [filter_all, List.map_map]
        apply List.map_congr_left
        intro w hw'
        show (w.map fun b => Dt.int (b2 b)).getD k .non = _
        have h1 := hw w hw'
        simp [List.getD, h1]
      rw [e]
      have hn1 : (ws.map fun w => w.getD k false) ≠ [] := by simpa using hne
      have hn2 : (ws.map fun w => w.getD k false).map b2 ≠ [] := by simpa using hne
      refine rdMM_ref (cell_lst at_last) (intsD_b2 _ ws) hn2 ?_
      refine rdMM_ref (cell_lst at_last) (intsD_b2 _ ws) hn2 ?_
      rw [low_b2 hn1, top_b2 hn1]
      refine rdEq_int ?_
      show if (false ^^ decide (b2 _ = b2 _)) = true then _ else _
      rw [b2_eq, Bool.false_xor]
      obtain ⟨w0, wr, ew⟩ : ∃ w0 wr, ws = w0 :: wr := by
        cases ws with
        | nil => exact absurd rfl hne
        | cons a b => exact ⟨a, b, rfl⟩
      generalize hbs : (ws.map fun w => w.getD k false) = bs at hq hn1 ⊢
      have hb0 : ∃ br, bs = w0.getD k false :: br := ⟨wr.map fun w => w.getD k false, by rw [← hbs, ew]; rfl⟩
      unfold knownB at hq
      cases e1 : bs.all id with
      | true =>
        have e2 : bs.any id = true := by
          obtain ⟨br, rfl⟩ := hb0
          rw [List.all_cons, Bool.and_eq_true] at e1
          rw [List.any_cons, e1.1]; rfl
        have e3 : w0.getD k false = true := by
          obtain ⟨br, rfl⟩ := hb0
          rw [List.all_cons, Bool.and_eq_true] at e1
          exact e1.1
        rw [e1, if_pos rfl] at hq
        rw [e2]
        refine iteT ?_
        refine rdIx_of ((atD_lst at_last).trans (by rw [ew]; exact atI_0)) ?_
        dsimp only
        rw [e3]
        exact RetD.cut Grw.refl.push hG trivial hq
      | false =>
        rw [e1, if_neg Bool.false_ne_true] at hq
        cases e2 : bs.any id with
        | true =>
          rw [e2, if_pos rfl] at hq
          refine iteF ?_
          exact RetD.cut Grw.refl.push hG trivial hq
        | false =>
          have e3 : w0.getD k false = false := by
            obtain ⟨br, rfl⟩ := hb0
            rw [List.any_cons, Bool.or_eq_false_iff] at e2
            exact e2.1
          rw [e2, if_neg Bool.false_ne_true] at hq
          refine iteT ?_
          refine rdIx_of ((atD_lst at_last).trans (by rw [ew]; exact atI_0)) ?_
          dsimp only
          rw [e3]
          exact RetD.cut Grw.refl.push hG trivial hq
  · exact hsp.elim
end
end K03
--LAW k03
namespace K03
open PySem PySem.Spec L2 DL TH KT KH KFM
local macro_rules | `(tactic| walk_at "dx") => `(tactic| (try simp only [↓dSeq, ↓dIfS, ↓dOr, ↓dAnd, ↓dNot, ↓dTru, ↓dIsi, ↓dVar, ↓dRet, ↓dC, ↓dNext, ↓dChain, ↓rdI0, ↓rdI, ↓dTest, ↓dOp, ↓endsD, ↓startD, ↓dAndV, ↓dOrV, ↓dNotV, ↓dIf, ↓dCall, ↓dCons, ↓dNil, ↓dTup, ↓dLst, ↓dSet, ↓dAsg, ↓dgName, ↓dgNil, ↓dgCons, ↓dgTup, ↓dDrop, ↓dCB, ↓dMGet, ↓rdLen_eq, ↓rdLen0, ↓rdIx_eq, ↓rdIx0, ↓rdIs, ↓rdEq_eq, ↓rdEq0, ↓rdAdd, ↓rdMul, ↓dUn, ↓dPart, ↓dNoPart, ↓dSl, ↓rdSl_eq, ↓rdSl0, ↓rdList, ↓rdTuple_eq, ↓rdTuple0, ↓rdAll, ↓dAppend, ↓rdAppend_eq, ↓rdAppend0, ↓dPop, ↓isLstC, ↓dFor, ↓diZip, ↓diSeq, ↓seqR_eq, ↓seqR0, ↓diRng1, ↓dWhile, ↓dDict, ↓dPairs, ↓keysD, ↓keyD, get_endz, get_endj, set_endz, set_endj, Option.some.injEq, Cl.lst.injEq, exists_eq', exists_eq, exists_eq_left,
  isi_non, isi_bl, isi_int, isi_str, isi_tup, isi_ref, tru_non, tru_bl, tru_int, tru_tup, tru_ref, len_tup, len_ref, at_tup, at_ref, at_refs, is_non_non, is_bl_bl, is_bl_non, is_non_bl, is_int_non, is_str_non, is_tup_non, is_ref_non, is_int_bl, is_str_bl, is_tup_bl, is_ref_bl, eqs_int, eqs_str, eqs_bl, seq_tup, seq_ref, atI_0, atI_1, atI_2, succ_eq0, zero_eq0, str_inj,
  List.map_cons, List.map_nil, List.length_cons, List.length_nil, List.replicate, List.cons_append, List.nil_append, List.append_nil, List.append_assoc, List.length_append, List.getElem?_cons_zero, List.getElem?_cons_succ, List.set_cons_zero, List.set_cons_succ, if_true, if_false, Bool.not_true, Bool.not_false, Bool.false_eq_true, Bool.or_true, Bool.or_false, Bool.true_or, Bool.false_or, Bool.and_true, Bool.and_false, Bool.true_and, Bool.false_and, Bool.false_xor, Bool.true_xor, Nat.sub_self, Nat.reduceAdd, Nat.reduceSub, decide_true, decide_false, true_and, and_true, ne_eq, String.reduceBEq, String.reduceEq, reduceIte, reduceCtorEq]))
abbrev s_known : Stmt := top 12
abbrev s_l_known : Stmt := top 23
theorem sc_known : FnScope ["hall", "fitting"] ["hall"] (defScope s_known) := ⟨rfl, rfl, rfl, by decide +kernel, rfl, by decide +kernel, by decide +kernel⟩
theorem sc_l_known : FnScope ["_law_hall_here", "_law_found", "e"] ["_law_hall_here"] (defScope s_l_known) := ⟨rfl, rfl, rfl, by decide +kernel, rfl, by decide +kernel, by decide +kernel⟩
section
variable {P : Program} {w : World} {K : PySem.W.Frag} {mg : Str → Option Value} {base : Heap}
def knownA (n : Nat) (ss : Sg) : As := (List.range n).map fun k => knownB ((worlds n ss).map fun w => w.getD k false)
def sp_known (d : Nat) : SpX := fun ds G Q E => match ds with
  | [x] => ∃ (n : Nat) (ss : Sg), x = hD n ss ∧ n ≤ 6 ∧ ss.wf n ∧ (∀ p ∈ ss, p.2.dep < d) ∧ (worlds n ss ≠ [] → Q (aD (knownA n ss)) G) ∧ (worlds n ss = [] → E G)
  | _ => False
def sc_c_known_0 : Scope := { kind := .function, names := [(".0", .local), ("k", .local), ("number_in_all", .globalImplicit), ("fitting", .free)], isGenerator := false, isCoroutine := false, more := [] }
theorem ndc_known_0 : (["k", "fitting"] : List Str).Nodup := by decide +kernel
theorem cm_known_0 {f : Addr} {cdv : Value} {A : Around} {outer : List Env} {s : Shared} {H : Hp} {E : XK} : CmpOk (cxOf CX0 P w K mg base ["hall", "fitting"] "known" (defScope s_known) f cdv A outer s H E).nox sc_c_known_0 [("fitting", s.heap.objs.size + 1)] ["k", "fitting"] [none, some 1] where
  clos := by rfl
  cell := by decide +kernel
  kind := by rfl
  names := by decide +kernel
  lenN := by rfl
  capN := fun i j x h1 h2 => by
    match i, h1, h2 with
    | 0, h1, _ => cases h1
    | 1, h1, h2 =>
      cases h1
      cases h2
      exact ⟨rfl, Or.inr (Or.inl rfl), cellNe rfl, cellNe rfl, _, rfl, rfl⟩
  cls := fun x c h => by
    have m := PySem.mem_of_lookup h
    simp only [List.mem_cons, List.not_mem_nil, or_false, Prod.mk.injEq] at m
    rcases m with ⟨rfl, rfl⟩ <;> rfl
  has := fun x h => by
    have h' : List.lookup x ([(".0", .local), ("k", .local), ("number_in_all", .globalImplicit), ("fitting", .cell)] : List (Str × NameKind)) = some .cell ∨ List.lookup x ([(".0", .local), ("k", .local), ("number_in_all", .globalImplicit), ("fitting", .cell)] : List (Str × NameKind)) = some .free := h
    have m := h'.imp PySem.mem_of_lookup PySem.mem_of_lookup
    have e : x = "fitting" := by simpa using m
    rcases e with rfl
    · exact ⟨_, rfl⟩
theorem ok_known {d : Nat} {C : Addr} {c : Value} (T : Bl K mg) (O : OwnX K mg "NoWorld" "NoText" "HallError" C c) (f_worlds : Fnc P w K mg base "worlds" (d + 4) ["hall"] (sp_worlds d)) (f_number_in_all : Fnc P w K mg base "number_in_all" 1 ["k", "fitting"] sp_number_in_all) (Pl : Plc K mg "known" s_known ["hall"]) : FncX P w K mg base C "known" (d + 5) ["hall"] (sp_known d) := by
  have nd := sc_known.nd
  refine Plc.fnX (k := d + 4) Pl sc_known fun f cdv A outer s H E hr => ⟨fun Ed => _, fun F Ed L => (dss_cons' (ds_set' (i := 1) nd (de_callF' f_worlds (hr.mono (by first | decide | omega)) (da_cons' (de_var' 0) da_nil')))
  (dss_cons' (ds_if' (dt_eq' (de_len' (da_cons' (de_var' 1) da_nil') T.b_len) de_int')
  (dss_one' (ds_raise' L PySem.F.excBase_ValueError O.q O.T.m1 (da_cons' de_str' da_nil')))
  dss_nil')
  (dss_one' (DS'.nox (ds_ret' (de_tupleof' (da_cons' (de_comp' (cm_known_0 (E := E)) (di_rng1' (da_cons' (de_ix' hr (de_var' 0) de_int') da_nil') T.b_range) (fun _ _ _ _ _ _ => (dg_name' (i := 0) ndc_known_0)) (fun _ _ _ _ _ _ => dif_nil') (fun _ _ _ _ _ _ => (de_callF' f_number_in_all (hr.mono (by first | decide | omega)) (da_cons' (de_var' 0) (da_cons' (de_var' 1) da_nil'))))) da_nil') T.b_tuple)))))), fun ds G Q Ed hl hsp hb hG => ?_⟩
  unfold sp_known at hsp
  split at hsp
  · obtain ⟨n, ss, rfl, h6, hw, hd, hq, hE⟩ := hsp
    refine ⟨rfl, n, ss, rfl, h6, hw, hd, ?_⟩
    refine rdLen_of rfl ?_
    refine rdEq_int ?_
    have hlen : (worlds n ss).length ≤ 64 := Nat.le_trans (List.length_filter_le _ _) (worlds_len h6)
    by_cases hne : worlds n ss = []
    · refine iteTb (by rw [List.length_map, Bool.false_xor, decide_eq_true_iff, hne]; rfl) ?_
      exact ⟨by decide, hE hne⟩
    replace hq := hq hne
    refine iteFb (by rw [List.length_map, Bool.false_xor, decide_eq_false_iff_not]; have := List.length_pos_iff.mpr hne; omega) ?_
    refine rdIx_of atI_0 ?_
    refine ⟨⟨by omega, by omega⟩, ?_⟩
    refine comp0S (fun _ => true) (fun d => match d with | .int k => oD (knownB ((worlds n ss).map fun w => w.getD k.toNat false)) | d => d) (fun _ => trivial) (by rw [rngD_len]; exact szlt _ (by omega)) (fun d _ acc K h => h) (fun d hd _ acc K h => ?_) ?_
    · obtain ⟨k, hk, rfl⟩ := mem_rngD hd
      have hk' : k < n := by omega
      have e2 : (0 + (k : Nat) : Int).toNat = k := by omega
      refine ⟨rfl, k, worlds n ss, by rw [Int.zero_add], rfl, hne, by omega, fun w hw' => ?_, ?_⟩
      · have := (mem_allW n w).mp ((List.mem_filter.mp hw').1)
        omega
      · have h' : K (oD (knownB ((worlds n ss).map fun w => w.getD (0 + (k : Nat) : Int).toNat false))) (G ++ [.lst acc]) := h
        rw [e2] at h'
        exact h'
    · refine rdTuple_ref (cell_lst at_last) ?_
      rw [filter_all]
      have e : (rngD 0 ((n : Nat) : Int).toNat).map (fun d => match d with | .int k => oD (knownB ((worlds n ss).map fun w => w.getD k.toNat false)) | d => d) = (knownA n ss).map oD := by
        unfold rngD knownA
        rw [Int.toNat_natCast, List.map_map, List.map_map]
        apply List.map_congr_left
        intro k _
        show oD (knownB ((worlds n ss).map fun w => w.getD (0 + (k : Nat) : Int).toNat false)) = _
        have e2 : (0 + (k : Nat) : Int).toNat = k := by omega
        rw [e2]
        rfl
      rw [e]
      exact RetD.cut Grw.refl.push hG (bnd_aD _ _) hq
  · exact hsp.elim
def foundD (n : Nat) (ss : Sg) : Dt := if worlds n ss = [] then .non else aD (knownA n ss)
def sp_l_known (d : Nat) : SpD := fun ds G Q => match ds with
  | [x] => ∃ (n : Nat) (ss : Sg), x = hD n ss ∧ n ≤ 6 ∧ ss.wf n ∧ (∀ p ∈ ss, p.2.dep < d) ∧ Q (foundD n ss) G
  | _ => False
theorem ok_l_known {d : Nat} {C : Addr} {c : Value} (T : Bl K mg) (O : OwnX K mg "NoWorld" "NoText" "HallError" C c) (f_known : FncX P w K mg base C "known" (d + 5) ["hall"] (sp_known d)) (Pl : Plc K mg "_law_known" s_l_known ["_law_hall_here"]) : Fnc P w K mg base "_law_known" (d + 6) ["_law_hall_here"] (sp_l_known d) := by
  have nd := sc_l_known.nd
  refine Pl.fn' (k := d + 5) sc_l_known fun f cdv A outer s H E hr => ⟨_, fun F => (dss_cons' (ds_set' (i := 1) nd de_str')
  (dss_cons' (ds_try' (i := 1) (j := 2) f_known hr (da_cons' (de_var' 0) da_nil') (fun _ _ z => z) nd (by decide)
    (fun ea oe hc => pss_suite O.T hc nd rfl rfl rfl rfl rfl rfl rfl rfl (by decide) (by decide) (by decide) (by decide) (by decide) (by decide) rfl) (fun ea D σ H e q => ⟨e, q⟩) O.m O.x)
  (dss_one' (ds_ret' (de_var' 1))))), fun ds G Q hl hsp hb hG => ?_⟩
  unfold sp_l_known at hsp
  split at hsp
  · obtain ⟨n, ss, rfl, h6, hw, hd, hq⟩ := hsp
    refine ⟨rfl, (show 2 < 3 by decide), n, ss, rfl, h6, hw, hd, fun hne => ?_, fun he => ?_⟩
    · have e : foundD n ss = aD (knownA n ss) := by unfold foundD; rw [if_neg hne]
      rw [e] at hq
      exact RetD.all hq
    · have e : foundD n ss = .non := by unfold foundD; rw [if_pos he]
      rw [e] at hq
      exact RetD.all hq
  · exact hsp.elim
end
end K03
--LAW k03
namespace K03
open PySem PySem.Spec L2 DL TH KT KH KFM
local macro_rules | `(tactic| walk_at "dx") => `(tactic| (try simp only [↓dSeq, ↓dIfS, ↓dOr, ↓dAnd, ↓dNot, ↓dTru, ↓dIsi, ↓dVar, ↓dRet, ↓dC, ↓dNext, ↓dChain, ↓rdI0, ↓rdI, ↓dTest, ↓dOp, ↓endsD, ↓startD, ↓dAndV, ↓dOrV, ↓dNotV, ↓dIf, ↓dCall, ↓dCons, ↓dNil, ↓dTup, ↓dLst, ↓dSet, ↓dAsg, ↓dgName, ↓dgNil, ↓dgCons, ↓dgTup, ↓dDrop, ↓dCB, ↓dMGet, ↓rdLen_eq, ↓rdLen0, ↓rdIx_eq, ↓rdIx0, ↓rdIs, ↓rdEq_eq, ↓rdEq0, ↓rdAdd, ↓rdMul, ↓dUn, ↓dPart, ↓dNoPart, ↓dSl, ↓rdSl_eq, ↓rdSl0, ↓rdList, ↓rdTuple_eq, ↓rdTuple0, ↓rdAll, ↓dAppend, ↓rdAppend_eq, ↓rdAppend0, ↓dPop, ↓isLstC, ↓dFor, ↓diZip, ↓diSeq, ↓seqR_eq, ↓seqR0, ↓diRng1, ↓dWhile, ↓dDict, ↓dPairs, ↓keysD, ↓keyD, get_endz, get_endj, set_endz, set_endj, Option.some.injEq, Cl.lst.injEq, exists_eq', exists_eq, exists_eq_left,
  isi_non, isi_bl, isi_int, isi_str, isi_tup, isi_ref, tru_non, tru_bl, tru_int, tru_tup, tru_ref, len_tup, len_ref, at_tup, at_ref, at_refs, is_non_non, is_bl_bl, is_bl_non, is_non_bl, is_int_non, is_str_non, is_tup_non, is_ref_non, is_int_bl, is_str_bl, is_tup_bl, is_ref_bl, eqs_int, eqs_str, eqs_bl, seq_tup, seq_ref, atI_0, atI_1, atI_2, succ_eq0, zero_eq0, str_inj,
  List.map_cons, List.map_nil, List.length_cons, List.length_nil, List.replicate, List.cons_append, List.nil_append, List.append_nil, List.append_assoc, List.length_append, List.getElem?_cons_zero, List.getElem?_cons_succ, List.set_cons_zero, List.set_cons_succ, if_true, if_false, Bool.not_true, Bool.not_false, Bool.false_eq_true, Bool.or_true, Bool.or_false, Bool.true_or, Bool.false_or, Bool.and_true, Bool.and_false, Bool.true_and, Bool.false_and, Bool.false_xor, Bool.true_xor, Nat.sub_self, Nat.reduceAdd, Nat.reduceSub, decide_true, decide_false, true_and, and_true, ne_eq, String.reduceBEq, String.reduceEq, reduceIte, reduceCtorEq]))
--WHOLE list(_law_found) != _law_due
--WHOLE _law_known(_law_hall_here) == tuple(_law_rows)
abbrev s_l_whole : Stmt := top 18
abbrev s_law : Stmt := top 24
theorem sc_l_whole : FnScope ["_law_found"] ["_law_found"] (defScope s_l_whole) := ⟨rfl, rfl, rfl, by decide +kernel, rfl, by decide +kernel, by decide +kernel⟩
theorem sc_law : FnScope ["_law_script", "_law_hall_here", "_law_due", "_law_world", "_law_k", "_law_thing_here", "_law_found", "_law_rows", "_law_some"] ["_law_script"] (defScope s_law) := ⟨rfl, rfl, rfl, by decide +kernel, rfl, by decide +kernel, by decide +kernel⟩
theorem eqv_wD (a b : Wd) : PyData.eqv (pyD (wD a)) (pyD (wD b)) = decide (a = b) := by
  have h : ∀ a b : Wd, PyData.eqvAll (pyDs (a.map fun b => Dt.int (b2 b))) (pyDs (b.map fun b => Dt.int (b2 b))) = decide (a = b) := by
    intro a
    induction a with
    | nil => intro b; cases b <;> simp [pyDs, PyData.eqvAll]
    | cons x a ih =>
      intro b
      cases b with
      | nil => simp [pyDs, PyData.eqvAll]
      | cons y b =>
        have := ih b
        simp only [List.map_cons, pyDs, PyData.eqvAll, this]
        cases x <;> cases y <;> simp [pyD, PyData.eqv, b2]
  show PyData.eqv (.tuple _) (.tuple _) = _
  simp only [PyData.eqv]
  exact h a b
theorem in_worlds {n : Nat} {ss : Sg} {w : Wd} (h : w.length = n) : (((worlds n ss).map wD).any fun z => PyData.eqv (pyD z) (pyD (wD w))) = fits ss w := by
  rw [List.any_map, Bool.eq_iff_iff, List.any_eq_true]
  constructor
  · rintro ⟨v, hv, e⟩
    have e' : PyData.eqv (pyD (wD v)) (pyD (wD w)) = true := e
    rw [eqv_wD, decide_eq_true_eq] at e'
    rw [← e']
    exact (mem_worlds.mp hv).2
  · intro hf
    refine ⟨w, mem_worlds.mpr ⟨h, hf⟩, ?_⟩
    show PyData.eqv (pyD (wD w)) (pyD (wD w)) = true
    rw [eqv_wD]
    simp
def colN (bs : List Bool) : List Nat := SS.hs fun m => (bs.map b2).contains (m : Int)
theorem colN_eq (bs : List Bool) (h : bs ≠ []) : colN bs = if bs.all id = true then [1] else if bs.any id = true then [0, 1] else [0] := by
  have h0 : (bs.map b2).contains ((0 : Nat) : Int) = !(bs.all id) := by
    induction bs with
    | nil => exact absurd rfl h
    | cons b bs ih =>
      rw [List.map_cons, List.contains_cons, List.all_cons]
      by_cases hb : bs = []
      · subst hb; cases b <;> rfl
      · rw [ih hb]; cases b <;> cases bs.all id <;> rfl
  have h1 : (bs.map b2).contains ((1 : Nat) : Int) = bs.any id := by
    clear h h0
    induction bs with
    | nil => rfl
    | cons b bs ih =>
      rw [List.map_cons, List.contains_cons, List.any_cons, ih]
      cases b <;> cases bs.any id <;> rfl
  have h2 : ∀ m : Nat, (bs.map b2).contains ((m + 2 : Nat) : Int) = false := fun m => by
    rw [Bool.eq_false_iff]
    intro q
    rw [List.contains_iff_mem, List.mem_map] at q
    obtain ⟨b, _, e⟩ := q
    cases b <;> simp [b2] at e <;> omega
  have hany : bs.all id = true → bs.any id = true := fun q => by
    cases bs with
    | nil => exact absurd rfl h
    | cons b bs =>
      rw [List.all_cons, Bool.and_eq_true] at q
      rw [List.any_cons, q.1]
      rfl
  unfold colN SS.hs
  have e : List.range 8 = [0, 1, 0 + 2, 1 + 2, 2 + 2, 3 + 2, 4 + 2, 5 + 2] := rfl
  rw [e]
  simp only [List.filter_cons, List.filter_nil, h0, h1, h2]
  cases ha : bs.all id with
  | true => rw [hany ha]; rfl
  | false => cases hb : bs.any id <;> rfl
def natD (i : Nat) : Dt := .int (i : Nat)
theorem rng_nat (n : Nat) : rngD 0 n = (List.range n).map natD := by
  unfold rngD natD
  apply List.map_congr_left
  intro i _
  rw [Int.zero_add]
theorem lay_aD (as : As) : lay (aD as) = true := lays_map (f := oD) (fun o => by cases o <;> rfl) as
theorem dep_aD (as : As) : (pyD (aD as)).depth ≤ 1 := dep_tup (f := oD) (k := 0) (fun o => by cases o <;> simp [oD, pyD, PyData.depth]) as
theorem range_from {k n : Nat} (h : k < n) : List.range' k (n - k) = k :: List.range' (k + 1) (n - (k + 1)) := by
  have e : n - k = (n - (k + 1)) + 1 := by omega
  rw [e, List.range'_succ]
theorem at_lst {G : GD} {j : Nat} {xs : List Dt} {i : Nat} {d : Dt} (h : G[j]? = some (.lst xs)) (e : xs[i]? = some d) : atD G (.ref j) (.int (i : Nat)) = some d := by
  rw [at_ref, h]
  exact atI_nat e
def rowD (n : Nat) (ss : Sg) (k : Nat) : Dt := oD (knownB ((worlds n ss).map fun w => w.getD k false))
section
variable {P : Program} {w : World} {K : PySem.W.Frag} {mg : Str → Option Value} {base : Heap}
def sp_l_whole : SpD := fun ds G Q => match ds with
  | [x] => ∃ i, x = .int i ∧ Q (.bl true) G
  | _ => False
theorem ok_l_whole (T : Bl K mg) (Pl : Plc K mg "_law_whole" s_l_whole ["_law_found"]) : Fnc P w K mg base "_law_whole" 1 ["_law_found"] sp_l_whole := by
  have nd := sc_l_whole.nd
  refine Pl.fn' sc_l_whole fun f cdv A outer s H E hr => ⟨_, fun F => (dss_one' (ds_ret' (de_and' (de_isi' bt_int (by decide) (de_var' 0) T.b_isinstance T.b_int) (de_one' (de_not' (de_isi' bt_bool (by decide) (de_var' 0) T.b_isinstance T.b_bool)))))), fun ds G Q hl hsp hb hG => ?_⟩
  unfold sp_l_whole at hsp
  split at hsp
  · obtain ⟨i, rfl, hq⟩ := hsp
    walk_at "dx"
    exact RetD.all hq
  · exact hsp.elim
def sc_c_law_0 : Scope := { kind := .function, names := [(".0", .local), ("_law_world", .local), ("_law_k", .free)], isGenerator := false, isCoroutine := false, more := [] }
theorem ndc_law_0 : (["_law_world", "_law_k"] : List Str).Nodup := by decide +kernel
theorem cm_law_0 {f : Addr} {cdv : Value} {A : Around} {outer : List Env} {s : Shared} {H : Hp} {E : XK} : CmpOk (cxOf CX0 P w K mg base ["_law_script", "_law_hall_here", "_law_due", "_law_world", "_law_k", "_law_thing_here", "_law_found", "_law_rows", "_law_some"] "law" (defScope s_law) f cdv A outer s H E).nox sc_c_law_0 [("_law_k", s.heap.objs.size + 1)] ["_law_world", "_law_k"] [none, some 4] where
  clos := by rfl
  cell := by decide +kernel
  kind := by rfl
  names := by decide +kernel
  lenN := by rfl
  capN := fun i j x h1 h2 => by
    match i, h1, h2 with
    | 0, h1, _ => cases h1
    | 1, h1, h2 =>
      cases h1
      cases h2
      exact ⟨rfl, Or.inr (Or.inl rfl), cellNe rfl, cellNe rfl, _, rfl, rfl⟩
  cls := fun x c h => by
    have m := PySem.mem_of_lookup h
    simp only [List.mem_cons, List.not_mem_nil, or_false, Prod.mk.injEq] at m
    rcases m with ⟨rfl, rfl⟩ <;> rfl
  has := fun x h => by
    have h' : List.lookup x ([(".0", .local), ("_law_world", .local), ("_law_k", .cell)] : List (Str × NameKind)) = some .cell ∨ List.lookup x ([(".0", .local), ("_law_world", .local), ("_law_k", .cell)] : List (Str × NameKind)) = some .free := h
    have m := h'.imp PySem.mem_of_lookup PySem.mem_of_lookup
    have e : x = "_law_k" := by simpa using m
    rcases e with rfl
    · exact ⟨_, rfl⟩
theorem ok_law {fa : Addr} {fd : FuncData} (T : Bl K mg) (f__law_hall : Fnc P w K mg base "_law_hall" 6 ["_law_script"] sp_hall) (f__law_whole : Fnc P w K mg base "_law_whole" 1 ["_law_found"] sp_l_whole) (f__law_worlds : Fnc P w K mg base "_law_worlds" 7 ["_law_hall_here"] (sp_l_worlds 4)) (f__law_all : Fnc P w K mg base "_law_all" 1 ["_law_many"] sp_l_all)
    (f__law_so : Fnc P w K mg base "_law_so" 5 ["_law_thing_here", "_law_world"] (sp_l_so 4)) (f_so : Fnc P w K mg base "so" 6 ["thing", "world"] (sp_so 5)) (f_fits : Fnc P w K mg base "fits" 7 ["hall", "world"] (sp_fits 4)) (f_worlds : Fnc P w K mg base "worlds" 8 ["hall"] (sp_worlds 4)) (f__law_known : Fnc P w K mg base "_law_known" 10 ["_law_hall_here"] (sp_l_known 4))
    (Fn : Fun K "law" "law" s_law fa fd) : FnOk P w K mg base CX0 11 fa fd ["_law_script"] (liSp K 1 sp_law) := by
  have nd := sc_law.nd
  refine okD' Fn sc_law fun cdv A outer s H E hr => ⟨_, fun F => (dss_cons' (ds_set' (i := 1) nd (de_callF' f__law_hall (hr.mono (by first | decide | omega)) (da_cons' (de_var' 0) da_nil')))
  (dss_cons' (ds_set' (i := 2) nd (de_callF' f__law_worlds (hr.mono (by first | decide | omega)) (da_cons' (de_var' 1) da_nil')))
  (dss_cons' (ds_for' (di_seq' (de_callF' f__law_all (hr.mono (by first | decide | omega)) (da_cons' (de_ix' hr (de_var' 1) de_int') da_nil'))) (fun _ => (dg_name' (i := 3) nd))
  (fun _ => (dss_cons' (ds_for' (di_seq' (de_ix' hr (de_var' 1) de_int')) (fun _ => (dg_tup' (n := 2) (dgs_cons' (i := 4) nd (dgs_cons' (i := 5) nd dgs_nil'))))
  (fun _ => (dss_cons' (ds_set' (i := 6) nd (de_callF' f_so (hr.mono (by first | decide | omega)) (da_cons' (de_var' 5) (da_cons' (de_var' 3) da_nil'))))
  (dss_one' (ds_if' (dt_w' (dw_or' (dt_not' (dt_tru' (de_callF' f__law_whole (hr.mono (by first | decide | omega)) (da_cons' (de_var' 6) da_nil')))) (dw_or1' (dt_ne' (de_var' 6) (de_intof' (da_cons' (de_callF' f__law_so (hr.mono (by first | decide | omega)) (da_cons' (de_var' 5) (da_cons' (de_var' 3) da_nil'))) da_nil') T.b_int)))))
  (dss_one' (ds_ret' de_bl'))
  dss_nil')))))
  (dss_cons' (ds_set' (i := 6) nd (de_callF' f_fits (hr.mono (by first | decide | omega)) (da_cons' (de_var' 1) (da_cons' (de_var' 3) da_nil'))))
  (dss_one' (ds_if' (dt_w' (dw_or' (dt_not' (dt_tru' (de_isi' bt_bool (by decide) (de_var' 6) T.b_isinstance T.b_bool))) (dw_or1' (dt_ne' (de_var' 6) (de_in' hr (de_var' 3) (de_var' 2))))))
  (dss_one' (ds_ret' de_bl'))
  dss_nil'))))))
  (dss_cons' (ds_set' (i := 6) nd (de_callF' f_worlds (hr.mono (by first | decide | omega)) (da_cons' (de_var' 1) da_nil')))
  (dss_cons' (ds_if' (dt_w' (dw_or' (dt_not' (dt_tru' (de_isi' bt_tuple (by decide) (de_var' 6) T.b_isinstance T.b_tuple))) (dw_or1' (dt_neP' hr (de_listof' (da_cons' (de_var' 6) da_nil') T.b_list) (de_var' 2)))))
  (dss_one' (ds_ret' de_bl'))
  dss_nil')
  (dss_cons' (ds_if' (dt_not' (dt_tru' (de_var' 2)))
  (dss_one' (ds_ret' (de_is' (de_callF' f__law_known (hr.mono (by first | decide | omega)) (da_cons' (de_var' 1) da_nil')) de_non')))
  dss_nil')
  (dss_cons' (ds_set' (i := 7) nd (de_lst' da_nil'))
  (dss_cons' (ds_for' (di_rng1' (da_cons' (de_ix' hr (de_var' 1) de_int') da_nil') T.b_range) (fun _ => (dg_name' (i := 4) nd))
  (fun _ => (dss_cons' (ds_set' (i := 8) nd (de_sortsetL' (da_cons' (de_comp' cm_law_0 (di_seq' (de_var' 2)) (fun _ _ _ _ _ _ => (dg_name' (i := 0) ndc_law_0)) (fun _ _ _ _ _ _ => dif_nil') (fun _ _ _ _ _ _ => (de_ix' hr (de_var' 0) (de_var' 1)))) da_nil') T.b_sorted T.b_set))
  (dss_one' (ds_expr' (de_append' (de_var' 7) (da_cons' (de_ix' hr (de_lst' (da_cons' (de_ix' hr (de_var' 8) de_int') (da_cons' de_non' da_nil'))) (de_sub' (de_len' (da_cons' (de_var' 8) da_nil') T.b_len) de_int')) da_nil')))))))
  (dss_one' (ds_ret' (de_eqP' hr (de_callF' f__law_known (hr.mono (by first | decide | omega)) (da_cons' (de_var' 1) da_nil')) (de_tupleof' (da_cons' (de_var' 7) da_nil') T.b_tuple)))))))))))), fun ds G Q hl hsp hb hG => ?_⟩
  unfold sp_law at hsp
  split at hsp
  · rename_i i
    obtain ⟨ns, hi, hq⟩ := hsp
    obtain ⟨m1, m5⟩ := manyN_le ns
    have hwf := sg_wf ns
    have hsl := sg_len ns
    have hdp3 := sg_dep ns
    refine ⟨rfl, ns, hi, ?_⟩
    rw [hall_enc ns]
    generalize sgT ns = ss at hwf hdp3 hsl ⊢
    generalize manyN ns = n at m1 m5 hwf ⊢
    have hdp : ∀ p ∈ ss, p.2.dep < 4 := fun p hp => by have := hdp3 p hp; omega
    have hlen : (worlds n ss).length ≤ 64 := Nat.le_trans (List.length_filter_le _ _) (worlds_len (by omega))
    refine ⟨rfl, n, ss, rfl, m1, m5, hwf, hdp, fun i2 G2 g2 hi2 => ?_⟩
    refine rdIx_of atI_0 ?_
    refine ⟨rfl, n, rfl, m1, m5, fun J => ?_⟩
    refine seqR_ref (cell_lst get_at) ?_
    have hi3 : (G2 ++ [.lst ((allW n).map wD)] ++ J)[i2]? = some (.lst ((worlds n ss).map wD)) := at_more (at_prev hi2)
    have hall3 : (G2 ++ [.lst ((allW n).map wD)] ++ J : GD)[G2.length]? = some (.lst ((allW n).map wD)) := get_at
    generalize (G2 ++ [.lst ((allW n).map wD)] ++ J : GD) = G3 at hi3 hall3 ⊢
    refine lp_all (fun σ G' => Grw G3 G' ∧ ∃ s3 s4 s5 s6, σ = [some (.ref i), some (hD n ss), some (.ref i2), s3, s4, s5, s6, none, none]) (fun d => ∃ w : Wd, d = wD w ∧ w.length = n)
      (fun d hd => by rw [List.mem_map] at hd; obtain ⟨w, hw, rfl⟩ := hd; exact ⟨w, rfl, (mem_allW n w).mp hw⟩) ⟨Grw.refl, _, _, _, _, rfl⟩ (fun _ _ h => h.1.cell (cell_lst hall3)) ?_ ?_
    · rintro σ G4 ⟨g4, s3, s4, s5, s6, rfl⟩
      refine ⟨rfl, n, ss, rfl, by omega, hwf, hdp, ?_⟩
      have hi5 : (G4 ++ [.lst ((worlds n ss).map wD)] : GD)[i2]? = some (.lst ((worlds n ss).map wD)) := at_prev (g4.at hi3)
      refine rdEqP_refs (cell_lst at_last) (cell_lst hi5) (lays_map lay_wD _) (Nat.le_trans (dep_map dep_wD _) (by decide)) ?_
      refine iteFb rfl ?_
      generalize (G4 ++ [.lst ((worlds n ss).map wD)] : GD) = G5 at hi5 ⊢
      refine truM (tru_lst hi5) ?_
      by_cases hne : worlds n ss = []
      · rw [hne]
        refine iteTb rfl ?_
        refine ⟨rfl, n, ss, rfl, by omega, hwf, hdp, ?_⟩
        have e : foundD n ss = .non := by unfold foundD; rw [if_pos hne]
        rw [e]
        exact RetD.all (hq _)
      have ee : (!((worlds n ss).map wD).isEmpty) = true := by
        cases ew : worlds n ss with
        | nil => exact absurd ew hne
        | cons a b => rfl
      rw [ee]
      refine iteFb rfl ?_
      refine ⟨szl 0, ?_⟩
      refine rdIx_of atI_0 ?_
      refine ⟨⟨by omega, by omega⟩, ?_⟩
      rw [Int.toNat_natCast, rng_nat]
      have hlt : i2 < G5.length := (List.getElem?_eq_some_iff.mp hi5).1
      refine lp_ind (fun ds σ G' => ∃ (k : Nat) (s3 s4 s5 s6 s8 : Option Dt), k ≤ n ∧ ds = (List.range' k (n - k)).map natD ∧ G'[G5.length]? = some (.lst ((List.range k).map (rowD n ss))) ∧ G'[i2]? = some (.lst ((worlds n ss).map wD)) ∧ σ = [some (.ref i), some (hD n ss), some (.ref i2), s3, s4, s5, s6, some (.ref G5.length), s8]) ?_ ?_ _ _ _
        ⟨0, _, _, _, _, _, Nat.zero_le _, by rw [Nat.sub_zero, List.range_eq_range'], at_last, at_prev hi5, rfl⟩
      · rintro σ G6 ⟨k, s3, s4, s5, s6, s8, hk, hds, hrow, hdue, rfl⟩
        have ek : k = n := by
          by_cases h : k = n
          · exact h
          · rw [range_from (by omega)] at hds
            cases hds
        subst ek
        refine ⟨trivial, ?_⟩
        refine ⟨rfl, k, ss, rfl, by omega, hwf, hdp, ?_⟩
        have e : foundD k ss = aD (knownA k ss) := by unfold foundD; rw [if_neg hne]
        rw [e]
        refine rdTuple_ref (cell_lst hrow) ?_
        have e2 : (.tup ((List.range k).map (rowD k ss)) : Dt) = aD (knownA k ss) := by
          unfold aD knownA
          rw [List.map_map]
          rfl
        rw [e2]
        refine rdEqP_same (d := aD (knownA k ss)) (lay_aD _) (Nat.le_trans (dep_aD _) (by decide)) ?_
        exact RetD.all (hq _)
      · rintro d r K1 hK1 σ G6 ⟨k, s3, s4, s5, s6, s8, hk, hds, hrow, hdue, rfl⟩
        have hkn : k < n := by
          by_cases h : k < n
          · exact h
          · have : n - k = 0 := by omega
            rw [this] at hds
            cases hds
        rw [range_from hkn] at hds
        cases hds
        refine ⟨trivial, ?_⟩
        have hw : ∀ w ∈ worlds n ss, k < w.length := fun w h => by rw [(mem_worlds.mp h).1]; exact hkn
        refine seqR_ref (cell_lst hdue) ?_
        refine comp0S (fun _ => true) (fun d => match d with | .tup xs => xs.getD k .non | d => d) (fun _ => cell_lst (at_prev hdue)) (by rw [List.length_map]; exact szlt _ (by omega)) (fun d _ acc K h => h) (fun d hd _ acc K h => ?_) ?_
        · rw [List.mem_map] at hd
          obtain ⟨w, hw', rfl⟩ := hd
          refine rdIx_of (atI_wd (hw w hw')) ?_
          have e : (w.map fun b => Dt.int (b2 b)).getD k .non = .int (b2 (w.getD k false)) := by
            have h1 := hw w hw'
            simp [List.getD, h1]
          have h' : K ((w.map fun b => Dt.int (b2 b)).getD k .non) (G6 ++ [.lst acc]) := h
          rw [e] at h'
          exact h'
        have e : (List.filter (fun _ => true) ((worlds n ss).map wD)).map (fun d => match d with | .tup xs => xs.getD k .non | d => d) = (worlds n ss).map fun w => Dt.int (b2 (w.getD k false)) := by
          rw [filter_all, List.map_map]
          apply List.map_congr_left
          intro w hw'
          show (w.map fun b => Dt.int (b2 b)).getD k .non = _
          have h1 := hw w hw'
          simp [List.getD, h1]
        rw [e]
        have hn1 : ((worlds n ss).map fun w => w.getD k false) ≠ [] := by simpa using hne
        have hcol := colN_eq _ hn1
        refine ⟨⟨_, _, ((worlds n ss).map fun w => w.getD k false).map b2, rfl, cell_lst at_last, intsD_b2 _ _, fun q hq' => ?_, ?_⟩⟩
        · rw [List.mem_map] at hq'
          obtain ⟨b, _, rfl⟩ := hq'
          cases b <;> decide
        show _
        have hcol' : (SS.hs fun m => (((worlds n ss).map fun w => w.getD k false).map b2).contains (m : Int)) = _ := hcol
        rw [hcol']
        have hdue7 : ∀ c1 c2 : Cl, (G6 ++ [c1] ++ [c2])[i2]? = some (.lst ((worlds n ss).map wD)) := fun c1 c2 => at_prev (at_prev hdue)
        have hrow7 : ∀ c1 c2 : Cl, (G6 ++ [c1] ++ [c2])[G5.length]? = some (.lst ((List.range k).map (rowD n ss))) := fun c1 c2 => at_prev (at_prev hrow)
        generalize hG7 : (G6 ++ [Cl.lst ((worlds n ss).map fun w => Dt.int (b2 (w.getD k false)))] : GD) = G7
        have hdue8 : ∀ c2 : Cl, (G7 ++ [c2])[i2]? = some (.lst ((worlds n ss).map wD)) := fun c2 => by rw [← hG7]; exact hdue7 _ _
        have hrow8 : ∀ c2 : Cl, (G7 ++ [c2])[G5.length]? = some (.lst ((List.range k).map (rowD n ss))) := fun c2 => by rw [← hG7]; exact hrow7 _ _
        clear hdue7 hrow7 hG7
        have fin : ∀ (c2 c3 : Cl) (d : Dt), d = rowD n ss k → rdAppend G5.length d (G7 ++ [c2] ++ [c3]) (fun _ G' => Wk (G5 ++ [Cl.lst []] : GD).length K1 [some (.ref i), some (hD n ss), some (.ref i2), s3, some (natD k), s5, s6, some (.ref G5.length), some (.ref G7.length)] G') := fun c2 c3 d ed => by
          subst ed
          refine rdAppend_of (at_prev (hrow8 c2)) (by rw [List.length_map, List.length_range]; exact szlt _ (by omega)) ?_
          refine Wk.here (hK1 _ _ ⟨k + 1, _, _, _, _, _, hkn, rfl, ?_, ?_, rfl⟩)
          · rw [at_set (at_prev (hrow8 c2)), List.range_succ, List.map_append]
            rfl
          · exact at_set_ne (at_prev (hdue8 c2)) (by omega)
        unfold rowD knownB at fin
        cases ha : ((worlds n ss).map fun w => w.getD k false).all id with
        | true =>
          rw [ha] at fin
          rw [if_pos rfl]
          rw [show (([1] : List Nat).map fun (n : Nat) => Dt.int (n : Nat)) = [.int 1] from rfl]
          refine ⟨⟨_, hrow8 _⟩, ?_⟩
          refine rdIx_of (x := .ref G7.length) (y := .int 0) (d := .int 1) (at_lst (xs := [.int 1]) (i := 0) at_last (by rfl)) ?_
          refine ⟨szl 2, ?_⟩
          refine rdLen_of (len_lst (at_prev at_last)) ?_
          refine rdIx_of (d := .int 1) (at_lst (xs := [.int 1, .non]) (i := 0) at_last (by rfl)) ?_
          exact fin _ _ _ rfl
        | false =>
          rw [ha] at fin
          rw [if_neg Bool.false_ne_true]
          cases hb2 : ((worlds n ss).map fun w => w.getD k false).any id with
          | true =>
            rw [hb2] at fin
            rw [if_pos rfl]
            rw [show (([0, 1] : List Nat).map fun (n : Nat) => Dt.int (n : Nat)) = [.int 0, .int 1] from rfl]
            refine ⟨⟨_, hrow8 _⟩, ?_⟩
            refine rdIx_of (x := .ref G7.length) (y := .int 0) (d := .int 0) (at_lst (xs := [.int 0, .int 1]) (i := 0) at_last (by rfl)) ?_
            refine ⟨szl 2, ?_⟩
            refine rdLen_of (len_lst (at_prev at_last)) ?_
            refine rdIx_of (d := .non) (at_lst (xs := [.int 0, .non]) (i := 1) at_last (by rfl)) ?_
            exact fin _ _ _ rfl
          | false =>
            rw [hb2] at fin
            rw [if_neg Bool.false_ne_true]
            rw [show (([0] : List Nat).map fun (n : Nat) => Dt.int (n : Nat)) = [.int 0] from rfl]
            refine ⟨⟨_, hrow8 _⟩, ?_⟩
            refine rdIx_of (x := .ref G7.length) (y := .int 0) (d := .int 0) (at_lst (xs := [.int 0]) (i := 0) at_last (by rfl)) ?_
            refine ⟨szl 2, ?_⟩
            refine rdLen_of (len_lst (at_prev at_last)) ?_
            refine rdIx_of (d := .int 0) (at_lst (xs := [.int 0, .non]) (i := 0) at_last (by rfl)) ?_
            exact fin _ _ _ rfl
    · rintro d K1 ⟨w, rfl, hw⟩ hK1 σ G4 ⟨g4, s3, s4, s5, s6, rfl⟩
      have hwf' : ss.wf w.length := by rw [hw]; exact hwf
      refine rdIx_of atI_1 ?_
      refine seqR_tup ?_
      refine lp_all (fun σ G' => Grw G3 G' ∧ ∃ s4 s5 s6, σ = [some (.ref i), some (hD n ss), some (.ref i2), some (wD w), s4, s5, s6, none, none]) (fun d => ∃ p, d = sD p ∧ p ∈ ss)
        (fun d hd => by rw [List.mem_map] at hd; obtain ⟨p, hp, rfl⟩ := hd; exact ⟨p, rfl, hp⟩) ⟨g4, _, _, _, rfl⟩ (fun _ _ _ => trivial) ?_ ?_
      · rintro σ G5 ⟨g5, s4, s5, s6, rfl⟩
        refine ⟨rfl, n, ss, w, rfl, rfl, hwf', hdp, ?_⟩
        refine rdIn_ref (g5.cell (cell_lst hi3)) (fun i e => by cases e) (lay_wD w) (lays_map lay_wD _) (Nat.le_trans (dep_wD w) (by decide)) ?_
        rw [in_worlds hw]
        refine rdEq_bl ?_
        refine iteFb (by rw [Bool.false_xor, decide_eq_true rfl]; rfl) ?_
        exact hK1 _ _ ⟨g5, _, _, _, _, rfl⟩
      · rintro d K2 ⟨p, rfl, hp⟩ hK2 σ G5 ⟨g5, s4, s5, s6, rfl⟩
        refine ⟨rfl, rfl, ?_⟩
        refine ⟨rfl, p.2, w.map some, rfl, wD_a w, by rw [List.length_map]; exact (hwf' p hp).2, asd_all (n := w.length) (List.length_map _) (all_some w) _ (hwf' p hp).2, by have := hdp p hp; omega, ?_⟩
        rw [asW_some]
        refine ⟨rfl, _, rfl, ?_⟩
        refine iteFb rfl ?_
        refine ⟨rfl, p.2, w, rfl, rfl, (hwf' p hp).2, hdp p hp, fun J => ?_⟩
        refine rdEq_int ?_
        have e : (true ^^ decide (b2 (p.2.so w) = if p.2.so w = true then 1 else 0)) = false := by cases p.2.so w <;> rfl
        refine iteFb e ?_
        exact hK2 _ _ ⟨g5.more, _, _, _, rfl⟩
  · exact hsp.elim
end
open PySem PySem.Spec L2 DL TH KT KH
section
variable {P : Program} {w : World} {K : PySem.W.Frag} {mg : Str → Option Value} {base : Heap}
structure Tx (K : PySem.W.Frag) (mg : Str → Option Value) : Prop where
  T : Bl K mg
  p0 : Plc K mg "so_of_two" s_so_of_two ["word", "one", "other"]
  p1 : Plc K mg "so" s_so ["thing", "world"]
  p2 : Plc K mg "would_say" s_would_say ["saying"]
  p3 : Plc K mg "fits" s_fits ["hall", "world"]
  p4 : Plc K mg "all_worlds" s_all_worlds ["many"]
  p5 : Plc K mg "worlds" s_worlds ["hall"]
  p6 : Plc K mg "number_in_all" s_number_in_all ["k", "fitting"]
  p7 : Plc K mg "known" s_known ["hall"]
  p8 : Plc K mg "_law_cell" s_cell ["_law_script", "_law_k"]
  p9 : Plc K mg "_law_mix" s_mix ["_law_cell_here", "_law_prime", "_law_many"]
  p10 : Plc K mg "_law_thing" s_thing ["_law_cell_here", "_law_many", "_law_deep"]
  p11 : Plc K mg "_law_hall" s_hall ["_law_script"]
  p12 : Plc K mg "_law_whole" s_l_whole ["_law_found"]
  p13 : Plc K mg "_law_so" s_l_so ["_law_thing_here", "_law_world"]
  p14 : Plc K mg "_law_all" s_l_all ["_law_many"]
  p15 : Plc K mg "_law_fits" s_l_fits ["_law_hall_here", "_law_world"]
  p16 : Plc K mg "_law_worlds" s_l_worlds ["_law_hall_here"]
  p17 : Plc K mg "_law_known" s_l_known ["_law_hall_here"]
theorem law_fn {fa : Addr} {fd : FuncData} (X : Tx K mg) (F : Fun K "law" "law" s_law fa fd) : FnOk P w K mg base CX0 11 fa fd ["_law_script"] (liSp K 1 sp_law) := by
  obtain ⟨C, c, O⟩ := X.T.own
  have f_so_of_two := ok_so_of_two (P := P) (w := w) (base := base) X.T X.p0
  have f_so := ok_so (P := P) (w := w) (base := base) X.T f_so_of_two X.p1 5
  have f_would_say := ok_would_say (P := P) (w := w) (base := base) X.T X.p2
  have f_fits := ok_fits (P := P) (w := w) (base := base) X.T f_so f_would_say X.p3
  have f_all_worlds := ok_all_worlds (P := P) (w := w) (base := base) X.T X.p4
  have f_worlds := ok_worlds (P := P) (w := w) (base := base) X.T f_all_worlds f_fits X.p5
  have f_number_in_all := ok_number_in_all (P := P) (w := w) (base := base) X.T X.p6
  have f_known := ok_known (P := P) (w := w) (base := base) X.T O f_worlds f_number_in_all X.p7
  have f__law_cell := ok_cell (P := P) (w := w) (base := base) X.T X.p8
  have f__law_mix := ok_mix (P := P) (w := w) (base := base) X.T X.p9
  have f__law_thing := ok_thing (P := P) (w := w) (base := base) X.T f__law_mix X.p10 4
  have f__law_hall := ok_hall (P := P) (w := w) (base := base) X.T f__law_cell f__law_mix f__law_thing X.p11
  have f__law_whole := ok_l_whole (P := P) (w := w) (base := base) X.T X.p12
  have f__law_so := ok_l_so (P := P) (w := w) (base := base) X.T X.p13 4
  have f__law_all := ok_l_all (P := P) (w := w) (base := base) X.T X.p14
  have f__law_fits := ok_l_fits (P := P) (w := w) (base := base) X.T f__law_so X.p15
  have f__law_worlds := ok_l_worlds (P := P) (w := w) (base := base) X.T f__law_all f__law_fits X.p16
  have f__law_known := ok_l_known (P := P) (w := w) (base := base) X.T O f_known X.p17
  exact ok_law X.T f__law_hall f__law_whole f__law_worlds f__law_all f__law_so f_so f_fits f_worlds f__law_known F
end
end K03
open PySem PySem.W PyProof.Rows
set_option maxRecDepth 100000 in
set_option maxHeartbeats 0 in
theorem PySem.Challenge.cw_knavehall_k03_worlds_holds : PySem.Challenge.rw_knavehall_k03_worlds.Holds := by
  w_on; o_law; k_head; (case hw => w_witness2)
  k_fill
  refine KH.walk (m := 11) (by decide) (l := PySem.Challenge.rw_knavehall_k03_worlds) rfl rfl (fun w h Y => PySem.W.kIn_of Y) ?F
  case F =>
    intro w mg fa h KX G hmg
    have b_len := PySem.W.mg_none_of (n := "len") KX G (by k_is)
    have b_isinstance := PySem.W.mg_none_of (n := "isinstance") KX G (by k_is)
    have b_int := PySem.W.mg_none_of (n := "int") KX G (by k_is)
    have b_bool := PySem.W.mg_none_of (n := "bool") KX G (by k_is)
    have b_tuple := PySem.W.mg_none_of (n := "tuple") KX G (by k_is)
    have b_range := PySem.W.mg_none_of (n := "range") KX G (by k_is)
    have b_sum := PySem.W.mg_none_of (n := "sum") KX G (by k_is)
    have b_min := PySem.W.mg_none_of (n := "min") KX G (by k_is)
    have b_max := PySem.W.mg_none_of (n := "max") KX G (by k_is)
    have b_list := PySem.W.mg_none_of (n := "list") KX G (by k_is)
    have b_sorted := PySem.W.mg_none_of (n := "sorted") KX G (by k_is)
    have b_set := PySem.W.mg_none_of (n := "set") KX G (by k_is)
    have own : ∃ C c, DL.OwnX (L2.KOf KX) mg "NoWorld" "NoText" "HallError" C c := by
      dsimp only [L2.KOf]
      have m1 := PySem.W.mg_of (n := "NoWorld") KX G (by k_is)
      have m2 := PySem.W.mg_of (n := "NoText") KX G (by k_is)
      have m3 := PySem.W.mg_of (n := "HallError") KX G (by k_is)
      have b3 := PySem.W.mg_none_of (n := "ValueError") KX G (by k_is)
      have bi := PySem.W.mg_none_of (n := "isinstance") KX G (by k_is)
      refine' ⟨_, _, ⟨⟨?ga, ?gn, ?f1, ?f2, ?f3, ?mo, ?mb⟩, m1, ⟨_, m2, ?k2⟩, b3, DL.bt_VE, ?k1, ?k3, bi⟩, ?xq, m3, ?xx⟩
      (case ga => kernel_rfl); (case gn => kernel_rfl); (case f1 => kernel_rfl); (case f2 => kernel_rfl); (case f3 => kernel_rfl); (case mo => kernel_rfl); (case mb => kernel_rfl)
      (case k2 => kernel_rfl); (case k1 => kernel_rfl); (case k3 => kernel_rfl)
      (case xq => kernel_rfl)
      (case xx => kernel_rfl)
    have p0 : DL.Plc (L2.KOf KX) mg "so_of_two" K03.s_so_of_two ["word", "one", "other"] := by
      dsimp only [L2.KOf]
      refine' KH.plc_mk KX G ?a ?l ?c ?k ?b
      (case a => k_is); (case l => k_is); (case c => k_is); (case k => k_is)
      (case b => exact fun us hl => match us, hl with | [_, _, _], _ => rfl)
    have p1 : DL.Plc (L2.KOf KX) mg "so" K03.s_so ["thing", "world"] := by
      dsimp only [L2.KOf]
      refine' KH.plc_mk KX G ?a ?l ?c ?k ?b
      (case a => k_is); (case l => k_is); (case c => k_is); (case k => k_is)
      (case b => exact fun us hl => match us, hl with | [_, _], _ => rfl)
    have p2 : DL.Plc (L2.KOf KX) mg "would_say" K03.s_would_say ["saying"] := by
      dsimp only [L2.KOf]
      refine' KH.plc_mk KX G ?a ?l ?c ?k ?b
      (case a => k_is); (case l => k_is); (case c => k_is); (case k => k_is)
      (case b => exact fun us hl => match us, hl with | [_], _ => rfl)
    have p3 : DL.Plc (L2.KOf KX) mg "fits" K03.s_fits ["hall", "world"] := by
      dsimp only [L2.KOf]
      refine' KH.plc_mk KX G ?a ?l ?c ?k ?b
      (case a => k_is); (case l => k_is); (case c => k_is); (case k => k_is)
      (case b => exact fun us hl => match us, hl with | [_, _], _ => rfl)
    have p4 : DL.Plc (L2.KOf KX) mg "all_worlds" K03.s_all_worlds ["many"] := by
      dsimp only [L2.KOf]
      refine' KH.plc_mk KX G ?a ?l ?c ?k ?b
      (case a => k_is); (case l => k_is); (case c => k_is); (case k => k_is)
      (case b => exact fun us hl => match us, hl with | [_], _ => rfl)
    have p5 : DL.Plc (L2.KOf KX) mg "worlds" K03.s_worlds ["hall"] := by
      dsimp only [L2.KOf]
      refine' KH.plc_mk KX G ?a ?l ?c ?k ?b
      (case a => k_is); (case l => k_is); (case c => k_is); (case k => k_is)
      (case b => exact fun us hl => match us, hl with | [_], _ => rfl)
    have p6 : DL.Plc (L2.KOf KX) mg "number_in_all" K03.s_number_in_all ["k", "fitting"] := by
      dsimp only [L2.KOf]
      refine' KH.plc_mk KX G ?a ?l ?c ?k ?b
      (case a => k_is); (case l => k_is); (case c => k_is); (case k => k_is)
      (case b => exact fun us hl => match us, hl with | [_, _], _ => rfl)
    have p7 : DL.Plc (L2.KOf KX) mg "known" K03.s_known ["hall"] := by
      dsimp only [L2.KOf]
      refine' KH.plc_mk KX G ?a ?l ?c ?k ?b
      (case a => k_is); (case l => k_is); (case c => k_is); (case k => k_is)
      (case b => exact fun us hl => match us, hl with | [_], _ => rfl)
    have p8 : DL.Plc (L2.KOf KX) mg "_law_cell" K03.s_cell ["_law_script", "_law_k"] := by
      dsimp only [L2.KOf]
      refine' KH.plc_mk KX G ?a ?l ?c ?k ?b
      (case a => k_is); (case l => k_is); (case c => k_is); (case k => k_is)
      (case b => exact fun us hl => match us, hl with | [_, _], _ => rfl)
    have p9 : DL.Plc (L2.KOf KX) mg "_law_mix" K03.s_mix ["_law_cell_here", "_law_prime", "_law_many"] := by
      dsimp only [L2.KOf]
      refine' KH.plc_mk KX G ?a ?l ?c ?k ?b
      (case a => k_is); (case l => k_is); (case c => k_is); (case k => k_is)
      (case b => exact fun us hl => match us, hl with | [_, _, _], _ => rfl)
    have p10 : DL.Plc (L2.KOf KX) mg "_law_thing" K03.s_thing ["_law_cell_here", "_law_many", "_law_deep"] := by
      dsimp only [L2.KOf]
      refine' KH.plc_mk KX G ?a ?l ?c ?k ?b
      (case a => k_is); (case l => k_is); (case c => k_is); (case k => k_is)
      (case b => exact fun us hl => match us, hl with | [_, _, _], _ => rfl)
    have p11 : DL.Plc (L2.KOf KX) mg "_law_hall" K03.s_hall ["_law_script"] := by
      dsimp only [L2.KOf]
      refine' KH.plc_mk KX G ?a ?l ?c ?k ?b
      (case a => k_is); (case l => k_is); (case c => k_is); (case k => k_is)
      (case b => exact fun us hl => match us, hl with | [_], _ => rfl)
    have p12 : DL.Plc (L2.KOf KX) mg "_law_whole" K03.s_l_whole ["_law_found"] := by
      dsimp only [L2.KOf]
      refine' KH.plc_mk KX G ?a ?l ?c ?k ?b
      (case a => k_is); (case l => k_is); (case c => k_is); (case k => k_is)
      (case b => exact fun us hl => match us, hl with | [_], _ => rfl)
    have p13 : DL.Plc (L2.KOf KX) mg "_law_so" K03.s_l_so ["_law_thing_here", "_law_world"] := by
      dsimp only [L2.KOf]
      refine' KH.plc_mk KX G ?a ?l ?c ?k ?b
      (case a => k_is); (case l => k_is); (case c => k_is); (case k => k_is)
      (case b => exact fun us hl => match us, hl with | [_, _], _ => rfl)
    have p14 : DL.Plc (L2.KOf KX) mg "_law_all" K03.s_l_all ["_law_many"] := by
      dsimp only [L2.KOf]
      refine' KH.plc_mk KX G ?a ?l ?c ?k ?b
      (case a => k_is); (case l => k_is); (case c => k_is); (case k => k_is)
      (case b => exact fun us hl => match us, hl with | [_], _ => rfl)
    have p15 : DL.Plc (L2.KOf KX) mg "_law_fits" K03.s_l_fits ["_law_hall_here", "_law_world"] := by
      dsimp only [L2.KOf]
      refine' KH.plc_mk KX G ?a ?l ?c ?k ?b
      (case a => k_is); (case l => k_is); (case c => k_is); (case k => k_is)
      (case b => exact fun us hl => match us, hl with | [_, _], _ => rfl)
    have p16 : DL.Plc (L2.KOf KX) mg "_law_worlds" K03.s_l_worlds ["_law_hall_here"] := by
      dsimp only [L2.KOf]
      refine' KH.plc_mk KX G ?a ?l ?c ?k ?b
      (case a => k_is); (case l => k_is); (case c => k_is); (case k => k_is)
      (case b => exact fun us hl => match us, hl with | [_], _ => rfl)
    have p17 : DL.Plc (L2.KOf KX) mg "_law_known" K03.s_l_known ["_law_hall_here"] := by
      dsimp only [L2.KOf]
      refine' KH.plc_mk KX G ?a ?l ?c ?k ?b
      (case a => k_is); (case l => k_is); (case c => k_is); (case k => k_is)
      (case b => exact fun us hl => match us, hl with | [_], _ => rfl)
    have T : K03.Bl (L2.KOf KX) mg := ⟨b_len, b_isinstance, b_int, b_bool, b_tuple, b_range, b_sum, b_min, b_max, b_list, b_sorted, b_set, own⟩
    have X : K03.Tx (L2.KOf KX) mg := ⟨T, p0, p1, p2, p3, p4, p5, p6, p7, p8, p9, p10, p11, p12, p13, p14, p15, p16, p17⟩
    have L : ∃ fa' : Addr, ∃ fd : FuncData, mg "law" = some (.ref fa') ∧ L2.Fun (L2.KOf KX) "law" "law" K03.s_law fa' fd ∧ ∀ (s : Shared) (u : Value), BindsTo s fd ⟨[u], []⟩ [("_law_script", u)] := by
      dsimp only [L2.KOf]
      refine' ⟨_, _, PySem.W.mg_of KX G ?a, L2.fun_mk ?l ?c ?k, ?b⟩
      (case a => k_is); (case l => k_is); (case c => k_is); (case k => k_is)
      exact fun s u => .of_eq rfl
    obtain ⟨fa', fd, e, F, hb⟩ := L
    have e0 := hmg.symm.trans e
    cases e0
    exact ⟨fd, hb, fun base _ _ => K03.law_fn X F⟩
#print axioms PySem.Challenge.cw_knavehall_k03_worlds_holds
