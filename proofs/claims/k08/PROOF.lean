import PyProof.Rows.All
import Wide.All
import OpenK.AllK
import Wide.FinOn
import Lean
import PyProof.EqAt
import PyProof.EqKinds
import PyProof.TupleCall
import KE.KSortTup
import KE.KTryOn
import KE.KIsAll
import PyProof.NsDelKeeps
import KE.KRevIter
import PyProof.StrCalls2
import PyProof.StrLawsTight
import PyProof.ReprStr
import PyProof.StrLawsRepr
import PyProof.StrLawsJoin
import PySem.Challenge.RW_knavehall_k08_whole_plans
set_option Elab.async false
set_option linter.all false
set_option maxRecDepth 100000
set_option maxHeartbeats 8000000
-- CHANGE: your row's module here, as the last of these rows
/-! THE HAND LAYER, for ints, bools, texts, own classes, LISTS and tuples (index, slices, in, append, pop ..), calls, loops. Paste it whole ahead of your own text; what your proof does not reach may be deleted. -/
namespace L2
open PySem PySem.Spec PyProof.Rows

/-- a key: an int or a str -/
abbrev Key := Sum Int Str
def keyIs : Key → Value → Bool
  | .inl k, v => Value.isInt k v
  | .inr x, v => Value.isStrOf x v
def keyH (w : World) : Key → Int
  | .inl k => hashInt k
  | .inr x => hashStr w x
theorem keyIs_shape : ∀ {k : Key} {v : Value}, keyIs k v = true → (∃ i t, k = Sum.inl i ∧ v = Value.int i t) ∨ (∃ x t, k = Sum.inr x ∧ v = Value.str x t)
  | .inl i, v, h => by
    obtain ⟨t, e⟩ := Value.isInt_shape (k := i) (v := v) h
    exact .inl ⟨i, t, rfl, e⟩
  | .inr x, v, h => by
    obtain ⟨t, e⟩ := Value.isStrOf_shape (x := x) (v := v) h
    exact .inr ⟨x, t, rfl, e⟩
theorem keyIs_int (i : Int) (t : Tok) : keyIs (.inl i) (.int i t) = true := by simp [keyIs, Value.isInt]
theorem keyIs_str (x : Str) (t : Tok) : keyIs (.inr x) (.str x t) = true := by simp [keyIs, Value.isStrOf]
theorem key_ll (a b : Int) : decide ((Sum.inl a : Key) = Sum.inl b) = (a == b) := by
  by_cases e : a = b
  · subst e; simp
  · have h : ¬ (Sum.inl a : Key) = Sum.inl b := fun q => e (Sum.inl.inj q)
    rw [decide_eq_false h]
    exact (beq_eq_false_iff_ne.mpr e).symm
theorem key_rr (a b : Str) : decide ((Sum.inr a : Key) = Sum.inr b) = decide (a = b) := by
  by_cases e : a = b
  · subst e; simp
  · have h : ¬ (Sum.inr a : Key) = Sum.inr b := fun q => e (Sum.inr.inj q)
    rw [decide_eq_false h, decide_eq_false e]
theorem key_lr (a : Int) (b : Str) : decide ((Sum.inl a : Key) = Sum.inr b) = false := decide_eq_false (fun q => nomatch q)
theorem key_rl (a : Str) (b : Int) : decide ((Sum.inr a : Key) = Sum.inl b) = false := decide_eq_false (fun q => nomatch q)

def mixKind (prog : Program) (w : World) : PySem.KeyKind prog w Key where
  is := keyIs
  hash := keyH w
  inj := fun v a b ha hb => by
    rcases keyIs_shape ha with ⟨i, t, rfl, rfl⟩ | ⟨x, t, rfl, rfl⟩
    · rcases keyIs_shape hb with ⟨j, u, rfl, e⟩ | ⟨y, u, rfl, e⟩
      · injection e with e1 _; rw [e1]
      · exact nomatch e
    · rcases keyIs_shape hb with ⟨j, u, rfl, e⟩ | ⟨y, u, rfl, e⟩
      · exact nomatch e
      · injection e with e1 _; rw [e1]
  byValue := fun k v h => by
    rcases keyIs_shape h with ⟨i, t, rfl, rfl⟩ | ⟨x, t, rfl, rfl⟩ <;> rfl
  pyHash := fun hv h => by
    rcases keyIs_shape hv with ⟨i, t, rfl, rfl⟩ | ⟨x, t, rfl, rfl⟩
    · exact wpAny_pyHash_int h
    · exact wpAny_pyHash_str h
  eqBool := fun hu hv h => by
    rcases keyIs_shape hu with ⟨i, t, rfl, rfl⟩ | ⟨x, t, rfl, rfl⟩
    · rcases keyIs_shape hv with ⟨j, u, rfl, rfl⟩ | ⟨y, u, rfl, rfl⟩
      · rw [key_ll] at h; exact wpAny_eqBool_int h
      · rw [key_lr] at h; exact SeqAt.EqAt.int_str i t y u _ _ _ _ h
    · rcases keyIs_shape hv with ⟨j, u, rfl, rfl⟩ | ⟨y, u, rfl, rfl⟩
      · rw [key_rl] at h; exact SeqAt.EqAt.str_int x t j u _ _ _ _ h
      · rw [key_rr] at h; exact wpAny_eqBool_str h
  «strs» := fun k x t v h => by
    rcases keyIs_shape h with ⟨i, u, rfl, e⟩ | ⟨y, u, rfl, e⟩
    · exact nomatch e
    · injection e with e1 _
      subst e1
      cases v <;> rfl

theorem mixKind_int (prog : Program) (w : World) (i : Int) (t : Tok) : (mixKind prog w).is (.inl i) (.int i t) = true := keyIs_int i t
theorem mixKind_str (prog : Program) (w : World) (x : Str) (t : Tok) : (mixKind prog w).is (.inr x) (.str x t) = true := keyIs_str x t
end L2

namespace L2
open PySem PySem.Spec PyProof.Rows

/-- a value, without the heap -/
inductive V where
  | non | bl (b : Bool) | int (i : Int) | str (x : Str) | byt (b : Array UInt8) | flt (b : UInt64) | ref (a : Addr) | ty (n : String)
  deriving DecidableEq

def RelV : V → Value → Prop
  | .non, u => u = Value.none
  | .bl b, u => u = Value.bool b
  | .int i, u => ∃ t, u = Value.int i t
  | .str x, u => ∃ t, u = Value.str x t
  | .byt b, u => ∃ t, u = Value.bytes b t
  | .flt b, u => ∃ t, u = Value.float b t
  | .ref a, u => u = Value.ref a
  | .ty n, u => u = Value.type n

abbrev Vals : List V → List Value → Prop := Paired RelV
theorem Vals.length {xs : List V} {us : List Value} (r : Vals xs us) : xs.length = us.length := Paired.length r
theorem Vals.get : ∀ {xs : List V} {us : List Value} {i : Nat} {x : V}, Vals xs us → xs[i]? = some x → ∃ u, us[i]? = some u ∧ RelV x u
  | _, _, _, _, .nil, e => by simp at e
  | _, _, 0, _, .cons r _, e => by simp at e; subst e; exact ⟨_, rfl, r⟩
  | _, _, i + 1, x, .cons _ t, e => by
    obtain ⟨u, h1, h2⟩ := Vals.get (i := i) (x := x) t (by simpa using e)
    exact ⟨u, by simpa using h1, h2⟩
theorem Vals.set {x : V} {u : Value} (r : RelV x u) : ∀ {xs : List V} {us : List Value} (i : Nat), Vals xs us → Vals (xs.set i x) (us.set i u)
  | _, _, _, .nil => .nil
  | _, _, 0, .cons _ t => .cons r t
  | _, _, i + 1, .cons q t => .cons q (Vals.set r i t)
theorem Vals.append : ∀ {xs ys : List V} {us ws : List Value}, Vals xs us → Vals ys ws → Vals (xs ++ ys) (us ++ ws)
  | _, _, _, _, .nil, s => s
  | _, _, _, _, .cons r t, s => .cons r (Vals.append t s)
theorem Vals.take : ∀ {xs : List V} {us : List Value} (n : Nat), Vals xs us → Vals (xs.take n) (us.take n)
  | _, _, 0, _ => .nil
  | _, _, _ + 1, .nil => .nil
  | _, _, n + 1, .cons r t => .cons r (Vals.take n t)
theorem Vals.drop : ∀ {xs : List V} {us : List Value} (n : Nat), Vals xs us → Vals (xs.drop n) (us.drop n)
  | _, _, 0, r => r
  | _, _, _ + 1, .nil => .nil
  | _, _, n + 1, .cons _ t => Vals.drop n t
def RelO : Option V → Option Value → Prop
  | some v, some u => RelV v u
  | none, none => True
  | _, _ => False
def KV {κ : Type} : List (κ × V) → List (κ × Value) → Prop := Paired fun (p : κ × V) (q : κ × Value) => p.1 = q.1 ∧ RelV p.2 q.2

/-- a key of a dict (00_mix): an int or a text -/
def kV : Key → V
  | .inl i => .int i
  | .inr x => .str x

/-- what stands at a tracked address -/
inductive HO where
  /-- a list -/
  | lst (xs : List V)
  /-- a tuple (never changes) -/
  | tup (xs : List V)
  /-- a dict whose keys are ints and texts; one whose keys are tuples of ints and texts (the empty one is both) -/
  | dK (kvs : List (Key × V)) | dT (kvs : List (List Key × V))
  /-- a set of ints: its members, its size -/
  | set (S : Int → Bool) (n : Nat)
  /-- an instance of the class at C, its dict at dx, its attributes -/
  | ins (C dx : Addr) (fs : List (Str × V))
  /-- the dict of the instance at x -/
  | own (x : Addr)
  /-- the dict of an exception -/
  | xd (fs : List (Str × V))
  /-- a bound method, f of x -/
  | met (f x : Addr)
  /-- a range object lo, lo + 1, .. below hi -/
  | rng (lo hi : Int)
  /-- a thing that is known to the object (the script; a dict while a loop walks it): read, never written while it is so -/
  | frz (o : Obj) (u : HO)
  /-- a code object's table -/
  | tbl (ps : Array Value)
  /-- any other thing, by what is true of its one object (a def of one's own: SetO a S n := HO.ext fun h => ..) -/
  | ext (φ : Heap → Prop)

abbrev Hp := Addr → Option HO
def upd (H : Hp) (a : Addr) (o : HO) : Hp := fun b => if b = a then some o else H b
theorem upd_same {H : Hp} {a : Addr} {o : HO} : upd H a o a = some o := by unfold upd; rw [if_pos rfl]
theorem upd_ne {H : Hp} {a b : Addr} {o : HO} (h : b ≠ a) : upd H a o b = H b := by unfold upd; rw [if_neg h]
theorem ne_of_none {H : Hp} {a b : Addr} {o : HO} (h : H a = some o) (h' : H b = none) : a ≠ b := by
  intro e; subst e; rw [h] at h'; cases h'

/-- a tuple without attributes of its own -/
def IsTupN (h : Heap) (a : Addr) (items : Array Value) : Prop := ∃ o, h.get? a = some o ∧ o.cls = .type "tuple" ∧ (∃ n, o.data = .seq items n) ∧ o.dict = none
theorem IsTupN.tup {h : Heap} {a : Addr} {items : Array Value} (x : IsTupN h a items) : IsTup h a items := let ⟨o, e, c, d, _⟩ := x; ⟨o, e, c, d⟩
theorem IsTupN.new (h : Heap) (items : Array Value) : IsTupN (h.push { cls := .type "tuple", data := .seq items }) h.objs.size items := ⟨_, Heap.get?_push_size _ rfl, rfl, ⟨_, rfl⟩, rfl⟩
section
variable (P : Program) (w : World)
def ObjOk (H : Hp) (h : Heap) (a : Addr) : HO → Prop
  | .lst xs => xs.length ≤ sizeLine ∧ ∃ (its : List Value) (n : Nat), Vals xs its ∧ h.get? a = some { cls := .type "list", data := .seq its.toArray n }
  | .tup xs => xs.length ≤ sizeLine ∧ ∃ its : List Value, Vals xs its ∧ IsTupN h a its.toArray
  | .dK kvs => kvs.length ≤ sizeLine ∧ (a == sysModules) = false ∧ ∃ vs, KV kvs vs ∧ h.DictOf (mixKind P w) a vs
  | .dT kvs => kvs.length ≤ sizeLine ∧ (a == sysModules) = false ∧ ∃ xs : List (List Key × Addr × Value),
      Paired (fun (p : List Key × V) (q : List Key × Addr × Value) => p.1 = q.1 ∧ H q.2.1 = some (.tup (p.1.map kV)) ∧ RelV p.2 q.2.2) kvs xs ∧
      ∃ o es ep, h.get? a = some o ∧ o.ExactDict ∧ o.data = .dict es ep ∧ es.toList = xs.map (entryOfKey (tupleKind (mixKind P w))) ∧ (xs.map (·.1)).Nodup
  | .set S n => h.SetOf (intKind P w) a S n
  | .ins C dx fs => H dx = some (.own a) ∧ fs.length ≤ 1000 ∧ dx ≠ a ∧ h.get? a = some (PySem.W.instObj C dx) ∧
      ∃ mA, h.Ns1 dx mA ∧ (∀ f, RelO (fs.lookup f) (mA f)) ∧ PySem.Within mA (fs.map (·.1))
  | .own _ => ∃ o, h.get? a = some o
  | .xd fs => ∃ mA, h.Ns1 a mA ∧ ∀ f, RelO (fs.lookup f) (mA f)
  | .rng lo hi => ∃ t u v, h.get? a = some { cls := .type "range", data := .fields #[.int lo t, .int hi u, .int 1 v] }
  | .frz o u => h.get? a = some o ∧ ObjOk H h a u
  | .tbl ps => h.get? a = some { cls := .none, data := .fields ps }
  | .met f x => h.get? a = some (PySem.W.methodObj (.ref f) (.ref x))
  | .ext φ => φ h ∧ (∃ o, h.get? a = some o) ∧ ∀ h1 h2 : Heap, φ h1 → (∀ o, h1.get? a = some o → h2.get? a = some o) → φ h2
/-- the abstract heap is held -/
def HOk (H : Hp) (h : Heap) : Prop := ∀ a o, H a = some o → ObjOk P w H h a o
end

section
variable {P : Program} {w : World} {H H' : Hp} {h h' : Heap} {a : Addr} {o : HO}
theorem ObjOk.lt (x : ObjOk P w H h a o) : a < h.objs.size := by
  cases o with
  | lst xs => obtain ⟨_, _, _, _, e⟩ := x; exact Heap.lt_size e
  | tup xs => obtain ⟨_, _, _, p⟩ := x; exact p.tup.lt
  | dK kvs => obtain ⟨_, _, _, _, o, _, _, e, _⟩ := x; exact Heap.lt_size e
  | dT kvs => obtain ⟨_, _, _, _, o, _, _, e, _⟩ := x; exact Heap.lt_size e
  | set S n => obtain ⟨o, _, _, _, e, _⟩ := x; exact Heap.lt_size e
  | ins C dx fs => obtain ⟨_, _, _, e, _⟩ := x; exact Heap.lt_size e
  | own y => obtain ⟨_, e⟩ := x; exact Heap.lt_size e
  | xd fs => obtain ⟨_, ⟨_, _, _, e, _⟩, _⟩ := x; exact Heap.lt_size e
  | rng lo hi => obtain ⟨_, _, _, e⟩ := x; exact Heap.lt_size e
  | frz ob u => obtain ⟨e, _⟩ := x; exact Heap.lt_size e
  | tbl ps => exact Heap.lt_size (show h.get? a = some _ from x)
  | met f y => exact Heap.lt_size (show h.get? a = some _ from x)
  | ext φ => obtain ⟨_, ⟨_, e⟩, _⟩ := x; exact Heap.lt_size e
theorem Paired.mapP {α β : Type} {F G : α → β → Prop} : ∀ {l₁ : List α} {l₂ : List β}, Paired F l₁ l₂ → (∀ a b, F a b → G a b) → Paired G l₁ l₂
  | _, _, .nil, _ => .nil
  | _, _, .cons r t, f => .cons (f _ _ r) (Paired.mapP t f)
/-- what an object's description leans on: its own object, its own dict, the tuples -/
theorem ObjOk.stay (x : ObjOk P w H h a o) (k : ∀ b u, (b = a ∨ H b = some (.own a)) → h.get? b = some u → h'.get? b = some u)
    (ho : ∀ b, H b = some (.own a) → H' b = some (.own a)) (ht : ∀ b xs, H b = some (.tup xs) → H' b = some (.tup xs)) : ObjOk P w H' h' a o := by
  induction o with
  | lst xs => obtain ⟨z, its, n, r, e⟩ := x; exact ⟨z, its, n, r, k _ _ (.inl rfl) e⟩
  | tup xs => obtain ⟨z, its, r, ob, e, c⟩ := x; exact ⟨z, its, r, ob, k _ _ (.inl rfl) e, c⟩
  | dK kvs => obtain ⟨z, y, vs, r, ob, es, ep, e, c⟩ := x; exact ⟨z, y, vs, r, ob, es, ep, k _ _ (.inl rfl) e, c⟩
  | dT kvs =>
    obtain ⟨z, y, xs, r, ob, es, ep, e, c⟩ := x
    exact ⟨z, y, xs, Paired.mapP r fun p q z => ⟨z.1, ht _ _ z.2.1, z.2.2⟩, ob, es, ep, k _ _ (.inl rfl) e, c⟩
  | set S n => obtain ⟨ob, es, ep, t, e, c⟩ := x; exact ⟨ob, es, ep, t, k _ _ (.inl rfl) e, c⟩
  | ins C dx fs =>
    obtain ⟨d, z, ne, e, mA, ⟨od, es, ep, e2, c⟩, r⟩ := x
    exact ⟨ho _ d, z, ne, k _ _ (.inl rfl) e, mA, ⟨od, es, ep, k _ _ (.inr d) e2, c⟩, r⟩
  | own y => obtain ⟨ob, e⟩ := x; exact ⟨ob, k _ _ (.inl rfl) e⟩
  | xd fs => obtain ⟨mA, ⟨od, es, ep, e, c⟩, r⟩ := x; exact ⟨mA, ⟨od, es, ep, k _ _ (.inl rfl) e, c⟩, r⟩
  | rng lo hi => obtain ⟨t, u, v, e⟩ := x; exact ⟨t, u, v, k _ _ (.inl rfl) e⟩
  | frz ob u ih => obtain ⟨e, q⟩ := x; exact ⟨k _ _ (.inl rfl) e, ih q⟩
  | tbl ps =>
    have e : h.get? a = some { cls := .none, data := .fields ps } := x
    show h'.get? a = some { cls := .none, data := .fields ps }
    exact k a _ (.inl rfl) e
  | met f y =>
    have e : h.get? a = some (PySem.W.methodObj (.ref f) (.ref y)) := x
    show h'.get? a = some (PySem.W.methodObj (.ref f) (.ref y))
    exact k a _ (.inl rfl) e
  | ext φ => obtain ⟨p, ⟨o, e⟩, st⟩ := x; exact ⟨st _ _ p fun o q => k _ _ (.inl rfl) q, ⟨o, k _ _ (.inl rfl) e⟩, st⟩
theorem HOk.lt (x : HOk P w H h) (e : H a = some o) : a < h.objs.size := (x a o e).lt
theorem HOk.fresh (x : HOk P w H h) (e : h.objs.size ≤ a) : H a = none := by
  cases q : H a with
  | none => rfl
  | some u => exact absurd (Nat.lt_of_lt_of_le (x.lt q) e) (Nat.lt_irrefl _)
/-- every object of the heap is kept -/
theorem HOk.kept (x : HOk P w H h) (k : ∀ b u, h.get? b = some u → h'.get? b = some u) : HOk P w H h' := fun a o e =>
  (x a o e).stay (fun b u _ q => k b u q) (fun _ q => q) fun _ _ q => q
/-- a new object is laid and tracked -/
theorem HOk.laid (x : HOk P w H h) (k : ∀ b u, h.get? b = some u → h'.get? b = some u) (hp : h.objs.size ≤ a) (new : ObjOk P w (upd H a o) h' a o) : HOk P w (upd H a o) h' := fun b u e => by
  have hn := x.fresh hp
  by_cases hb : b = a
  · subst hb; rw [upd_same] at e; cases e; exact new
  · rw [upd_ne hb] at e
    exact (x b u e).stay (fun c v _ q => k c v q) (fun c q => by rw [upd_ne (ne_of_none q hn)]; exact q) fun c xs q => by rw [upd_ne (ne_of_none q hn)]; exact q
end

/-- what may be read as u: it is u, or a known u -/
def Rd (H : Hp) (a : Addr) (u : HO) : Prop := H a = some u ∨ ∃ o, H a = some (.frz o u)
theorem Rd.of {H : Hp} {a : Addr} {u : HO} (h : H a = some u) : Rd H a u := .inl h
theorem Rd.ok {P : Program} {w : World} {H : Hp} {h : Heap} {a : Addr} {u : HO} (r : Rd H a u) (x : HOk P w H h) : ObjOk P w H h a u := by
  rcases r with r | ⟨o, r⟩
  · exact x a u r
  · obtain ⟨_, q⟩ := x a _ r
    exact q
/-- what may be written -/
def Mut : Option HO → Prop
  | some (.lst _) => True
  | some (.dK _) => True
  | some (.dT _) => True
  | some (.set _ _) => True
  | some (.ins _ _ _) => True
  | some (.ext _) => True
  | _ => False
section
variable {P : Program} {w : World} {H : Hp} {h h' : Heap} {x e : Addr} {o' : HO}
/-- the object at e is changed: x itself, or the dict of the instance x -/
theorem HOk.write (ok : HOk P w H h) (mu : Mut (H x)) (he : e = x ∨ H e = some (.own x)) (k : ∀ b u, b ≠ e → h.get? b = some u → h'.get? b = some u) (heo : ∃ u, h'.get? e = some u)
    (new : ObjOk P w (upd H x o') h' x o') : HOk P w (upd H x o') h' := fun b u q => by
  have nown : ∀ c y, H c = some (.own y) → c ≠ x := fun c y r z => by subst z; rw [r] at mu; exact mu
  have ntup : ∀ c xs, H c = some (.tup xs) → c ≠ x := fun c xs r z => by subst z; rw [r] at mu; exact mu
  by_cases hb : b = x
  · subst hb; rw [upd_same] at q; cases q; exact new
  · rw [upd_ne hb] at q
    by_cases hbe : b = e
    · have q' : H b = some (.own x) := by
        rcases he with z | z
        · exact absurd (hbe.trans z) hb
        · rw [hbe]; exact z
      rw [q] at q'; cases q'
      obtain ⟨v, hv⟩ := heo
      exact ⟨v, by rw [hbe]; exact hv⟩
    · refine (ok b u q).stay (fun c v hc r => k c v ?_ r) (fun c r => by rw [upd_ne (nown c b r)]; exact r) fun c xs r => by rw [upd_ne (ntup c xs r)]; exact r
      rcases hc with rfl | hc
      · exact hbe
      · rintro rfl
        rcases he with z | z
        · exact nown c b hc z
        · rw [hc] at z; cases z; exact hb rfl
end

/-! ### kept unless tracked; of the frames at fs (the callers') the slots may change (an exception that passes writes there); of the records at ex (iterators) nothing is said -/
structure Un (fs ex : List Addr) (H H' : Hp) (h h' : Heap) : Prop where
  keep : ∀ b o, h.get? b = some o → H b = none → b ∉ fs → b ∉ ex → h'.get? b = some o
  slot : ∀ b o, h.get? b = some o → H b = none → b ∈ fs → b ∉ ex → ∃ sl, h'.get? b = some { o with slots := sl }
  free : ∀ b o, h.get? b = some o → H b = none → b ∉ ex → H' b = none
  there : ∀ b o, h.get? b = some o → b ∉ ex → ∃ o', h'.get? b = some o'
  tups : ∀ b xs, H b = some (.tup xs) → H' b = some (.tup xs)
  frzs : ∀ b o u, H b = some (.frz o u) → H' b = some (.frz o u)
  tbls : ∀ b ps, H b = some (.tbl ps) → ∃ more, H' b = some (.tbl (ps ++ more))
section
variable {fs fs' ex ex' : List Addr} {H H1 H2 : Hp} {h h1 h2 h' : Heap} {a x e : Addr} {o : HO}
theorem Un.any (u : Un fs ex H H1 h h1) {b : Addr} {ob : Obj} (q : h.get? b = some ob) (n : H b = none) (hx : b ∉ ex) : ∃ sl, h1.get? b = some { ob with slots := sl } := by
  by_cases hb : b ∈ fs
  · exact u.slot b ob q n hb hx
  · exact ⟨ob.slots, u.keep b ob q n hb hx⟩
theorem Un.trans (a : Un fs ex H H1 h h1) (b : Un fs ex H1 H2 h1 h2) : Un fs ex H H2 h h2 where
  keep := fun c ob q n hc hx => b.keep c ob (a.keep c ob q n hc hx) (a.free c ob q n hx) hc hx
  slot := fun c ob q n hc hx => by
    obtain ⟨sl, e1⟩ := a.slot c ob q n hc hx
    obtain ⟨sl', e2⟩ := b.slot c _ e1 (a.free c ob q n hx) hc hx
    exact ⟨sl', e2⟩
  free := fun c ob q n hx => by
    obtain ⟨o', e1⟩ := a.there c ob q hx
    exact b.free c o' e1 (a.free c ob q n hx) hx
  there := fun c ob q hx => by
    obtain ⟨o', e1⟩ := a.there c ob q hx
    exact b.there c o' e1 hx
  tups := fun c xs q => b.tups c xs (a.tups c xs q)
  frzs := fun c ob xs q => b.frzs c ob xs (a.frzs c ob xs q)
  tbls := fun c ps q => by
    obtain ⟨m1, e1⟩ := a.tbls c ps q
    obtain ⟨m2, e2⟩ := b.tbls c _ e1
    exact ⟨m1 ++ m2, by rw [e2, Array.append_assoc]⟩
theorem Un.kept (k : ∀ b u, h.get? b = some u → h'.get? b = some u) : Un fs ex H H h h' :=
  ⟨fun b ob q _ _ _ => k b ob q, fun b ob q _ _ _ => ⟨ob.slots, k b ob q⟩, fun _ _ _ n _ => n, fun b ob q _ => ⟨ob, k b ob q⟩, fun _ _ q => q, fun _ _ _ q => q, fun _ ps q => ⟨#[], by rw [q]; simp⟩⟩
theorem Un.refl : Un fs ex H H h h := Un.kept fun _ _ q => q
theorem Un.laid (k : ∀ b u, h.get? b = some u → h'.get? b = some u) (hp : h.objs.size ≤ a) (hn : H a = none) : Un fs ex H (upd H a o) h h' where
  keep := fun b u q _ _ _ => k b u q
  slot := fun b u q _ _ _ => ⟨u.slots, k b u q⟩
  free := fun b u q n _ => by rw [upd_ne (Nat.ne_of_lt (Nat.lt_of_lt_of_le (Heap.lt_size q) hp))]; exact n
  there := fun b u q _ => ⟨u, k b u q⟩
  tups := fun b xs q => by rw [upd_ne (ne_of_none q hn)]; exact q
  frzs := fun b u xs q => by rw [upd_ne (ne_of_none q hn)]; exact q
  tbls := fun b ps q => ⟨#[], by rw [upd_ne (ne_of_none q hn), q]; simp⟩
theorem Un.write (mu : Mut (H x)) (he : e = x ∨ H e = some (.own x)) (k : ∀ b u, b ≠ e → h.get? b = some u → h'.get? b = some u) (heo : ∃ u, h'.get? e = some u) : Un fs ex H (upd H x o) h h' := by
  have hx : ∀ b, H b = none → b ≠ x := fun b n z => by subst z; rw [n] at mu; exact mu
  have hb : ∀ b, H b = none → b ≠ e := fun b n z => by
    subst z
    rcases he with r | r
    · exact hx b n r
    · rw [n] at r; cases r
  have hm : ∀ b u, H b = some u → ¬ Mut (some u) → b ≠ x := fun b u q nm z => by subst z; rw [q] at mu; exact nm mu
  refine ⟨fun b u q n _ _ => k b u (hb b n) q, fun b u q n _ _ => ⟨u.slots, k b u (hb b n) q⟩, fun b u q n _ => by rw [upd_ne (hx b n)]; exact n, fun b u q _ => ?_,
    fun b xs q => by rw [upd_ne (hm b _ q fun z => z)]; exact q, fun b u xs q => by rw [upd_ne (hm b _ q fun z => z)]; exact q, fun b ps q => ⟨#[], by rw [upd_ne (hm b _ q fun z => z), q]; simp⟩⟩
  by_cases hbe : b = e
  · subst hbe; exact heo
  · exact ⟨u, k b u hbe q⟩
theorem Un.mono (u : Un fs ex H H1 h h1) (hs : ∀ b ∈ fs, b ∈ fs') (hx : ∀ b ∈ ex, b ∈ ex') : Un fs' ex' H H1 h h1 :=
  ⟨fun b ob q n hb he => u.keep b ob q n (fun z => hb (hs b z)) fun z => he (hx b z), fun _ _ q n _ he => u.any q n fun z => he (hx _ z), fun b ob q n he => u.free b ob q n fun z => he (hx b z), fun b ob q he => u.there b ob q fun z => he (hx b z), u.tups, u.frzs, u.tbls⟩
end

/-! ### the heap without what is tracked -/
def trk (h : Heap) (H : Hp) : List Addr := (List.range h.objs.size).filter fun a => (H a).isSome
def hidT (h : Heap) (H : Hp) : Heap := PySem.W.hideAll h (trk h H)
theorem hidT_size (h : Heap) (H : Hp) : (hidT h H).objs.size = h.objs.size := PySem.W.hideAll_size _ _
theorem hidT_get {h : Heap} {H : Hp} {b : Addr} {o : Obj} (e : h.get? b = some o) (n : H b = none) : (hidT h H).get? b = some o :=
  PySem.W.hideAll_get _ e fun hm => by
    have q : (H b).isSome = true := (List.mem_filter.mp hm).2
    rw [n] at q; simp at q
theorem of_hidT {h : Heap} {H : Hp} {b : Addr} {o : Obj} (e : (hidT h H).get? b = some o) : h.get? b = some o ∧ H b = none := by
  have e' : h.get? b = some o := PySem.W.of_hideAll (trk h H) e
  refine ⟨e', ?_⟩
  cases q : H b with
  | none => rfl
  | some x =>
    have hm : b ∈ trk h H := List.mem_filter.mpr ⟨List.mem_range.mpr (Heap.lt_size e'), by simp [q]⟩
    have z : (hidT h H).get? b = none := PySem.W.hideAll_none (trk h H) hm
    rw [z] at e; cases e

/-! ### OpenK's ledger, filled with every new object but one -/
def allNews (g h : Heap) (L : Addr) : List (Addr × Obj) := (List.range h.objs.size).filterMap fun a => if a = L ∨ (g.get? a).isSome = true then none else (h.get? a).map fun o => (a, o)
def rest (g h : Heap) (L d : Addr) : List (Addr × Obj) := (allNews g h L).filter fun p => decide (p.1 ≠ d)
end L2

namespace L2
open PySem PySem.Spec PyProof.Rows

/-- the module's facts, over the base: the heap at the law's entry without what is tracked there -/
structure Mod (K : PySem.W.Frag) (mg : Str → Option Value) (base : Heap) : Prop where
  kin : K.In base
  glob : base.Ns mainGlobals mg
  blt : ∃ mb, base.Ns builtinsNs mb ∧ ∀ x : Str, x ≠ "__name__" → mb x = bootBuiltins x
  nolimit : base.NoLimit

/-- the context: a def's body (or a comprehension's block) running. base: fixed through the whole law; s₀, H₀: the entry; outer: the frames whose slots others may change (a def's callers); stack: all frames that run;
   ex: iterators that were made ahead of the entry and are walked here (a comprehension's); fn: the names whose cells were made at the entry (a def: all; a comprehension's block: its own); calm: not within an except suite; pn: pins that every state bears; xe: what is wanted of an exception that leaves the code -/
structure Cx where
  prog : Program
  w : World
  K : PySem.W.Frag
  mg : Str → Option Value
  base : Heap
  A : Around
  N : List Str
  s₀ : Shared
  H₀ : Hp
  env : Env
  outer : List Env
  stack : List Env
  ex : List Addr
  fn : Str → Bool
  calm : Bool
  pn : List (Addr × Obj)
  xe : Value → Shared → Prop
/-- the callers' frames -/
def frs (l : List Env) : List Addr := l.filterMap (·.frame)
abbrev Cx.fs (X : Cx) : List Addr := frs X.outer

def Vis (sc : Scope) (x : Str) : Prop := sc.names.lookup x = some .local ∨ sc.names.lookup x = some .cell ∨ sc.names.lookup x = some .free
def Loc (sc : Scope) (x : Str) : Prop := sc.names.lookup x = some .local ∨ sc.names.lookup x = some .cell
def Look (env : Env) (h : Heap) (m : Str → Option Value) (x : Str) (u : Value) : Prop :=
  (env.kindOf x = some .local ∧ m x = some u) ∨ ((env.kindOf x = some .cell ∨ env.kindOf x = some .free) ∧ ∃ c, env.cells.lookup x = some c ∧ h.IsCell c (some u))

structure Cx.Ok (X : Cx) : Prop where
  mod : Mod X.K X.mg X.base
  kind : X.env.scope.kind = .function
  glob : X.env.globals = mainGlobals
  blt : X.env.builtins = builtinsNs
  above : X.s₀.heap.objs.size ≤ X.env.locals
  inj : ∀ x y c, X.env.cells.lookup x = some c → X.env.cells.lookup y = some c → x = y
  has : ∀ x, (X.env.kindOf x = some .cell ∨ X.env.kindOf x = some .free) → ∃ c, X.env.cells.lookup x = some c
  cab : ∀ x c, X.fn x = true → X.env.cells.lookup x = some c → X.s₀.heap.objs.size ≤ c
  hd : X.calm = true → X.A.handled = none
  frames : X.A.frames = some X.stack
  stk : X.stack = X.outer ∨ (X.stack = X.env :: X.outer ∧ X.env.frame = some X.env.locals)
  exf : ∀ b ∈ X.ex, b ≠ X.env.locals ∧ ∀ x c, X.env.cells.lookup x = some c → c ≠ b
  bs : ∀ b o, X.base.get? b = some o → X.s₀.heap.get? b = some o ∧ X.H₀ b = none
  bsz : X.base.objs.size ≤ X.s₀.heap.objs.size
  noex : ∀ b o, X.base.get? b = some o → b ∉ X.ex
  exfs : ∀ b ∈ X.ex, b ∉ X.fs
  funs : X.s₀.heap.FunFrames X.base X.outer
  frf : ∀ b ∈ X.fs, X.H₀ b = none

structure Inv (X : Cx) (pins : List (Addr × Obj)) (σ : List (Option V)) (H : Hp) (s : Shared) : Prop where
  ok : X.Ok
  os : s.os = X.s₀.os
  bare : AllBare s.gens
  base : Un X.fs X.ex X.H₀ H X.s₀.heap s.heap
  loc : ∃ m, s.heap.Ns X.env.locals m ∧ ∀ (i : Nat) (x : Str) (v : V), X.N[i]? = some x → σ[i]? = some (some v) → Vis X.env.scope x → ∃ u, RelV v u ∧ Look X.env s.heap m x u
  cell : ∀ x c, X.env.cells.lookup x = some c → ∃ v, s.heap.IsCell c v
  free : H X.env.locals = none
  freeC : ∀ x c, X.env.cells.lookup x = some c → H c = none
  pin : ∀ p ∈ X.pn ++ pins, s.heap.get? p.1 = some p.2 ∧ H p.1 = none ∧ p.1 ≠ X.env.locals ∧ p.1 ∉ X.fs ∧ ∀ v, p.2.data ≠ .cell v
  hok : HOk X.prog X.w H s.heap
  len : σ.length = X.N.length

section
variable {X : Cx} {pins : List (Addr × Obj)} {σ : List (Option V)} {H H' : Hp} {s : Shared} {h' : Heap}

theorem Cx.Ok.nofr (ok : X.Ok) {b : Addr} {o : Obj} (e : X.base.get? b = some o) : b ∉ X.fs := fun hb => by
  have := (ok.funs.mem hb).1
  rw [e] at this; cases this
theorem Inv.bs (I : Inv X pins σ H s) : ∀ b o, X.base.get? b = some o → s.heap.get? b = some o ∧ H b = none := fun b o e =>
  ⟨I.base.keep b o (I.ok.bs b o e).1 (I.ok.bs b o e).2 (I.ok.nofr e) (I.ok.noex b o e), I.base.free b o (I.ok.bs b o e).1 (I.ok.bs b o e).2 (I.ok.noex b o e)⟩
theorem Inv.bk (I : Inv X pins σ H s) : ∀ b o, X.base.get? b = some o → s.heap.get? b = some o := fun b o e => (I.bs b o e).1
theorem Inv.mod (I : Inv X pins σ H s) : Mod X.K X.mg X.base := I.ok.mod
theorem Inv.kIn (I : Inv X pins σ H s) : X.K.In s.heap := I.ok.mod.kin.keeps I.bk
theorem Inv.nolimit (I : Inv X pins σ H s) : s.heap.NoLimit := I.ok.mod.nolimit.keeps I.bk
theorem Inv.lt (I : Inv X pins σ H s) : X.env.locals < s.heap.objs.size := let ⟨_, hn, _⟩ := I.loc; hn.lt
theorem Inv.sz (I : Inv X pins σ H s) : X.s₀.heap.objs.size ≤ s.heap.objs.size := Nat.le_trans I.ok.above (Nat.le_of_lt I.lt)
theorem Inv.nofs (I : Inv X pins σ H s) {a : Addr} (h : s.heap.objs.size ≤ a) : a ∉ X.fs := fun hb => by
  obtain ⟨_, o, ho, _⟩ := I.ok.funs.mem hb
  exact absurd (Nat.lt_of_lt_of_le (Heap.lt_size ho) (Nat.le_trans I.sz h)) (Nat.lt_irrefl _)
theorem Inv.cne (I : Inv X pins σ H s) : ∀ x c, X.env.cells.lookup x = some c → c ≠ X.env.locals := fun x c e z => by
  obtain ⟨v, o, ho, hd⟩ := I.cell x c e
  obtain ⟨m, ⟨o', es, ep, ho', hd', _⟩, _⟩ := I.loc
  rw [z, ho'] at ho; cases ho; rw [hd'] at hd; cases hd
theorem Inv.funs (I : Inv X pins σ H s) : s.heap.FunFrames X.base X.outer := by
  have all : ∀ (l : List Env), (∀ b ∈ frs l, b ∈ X.fs) → X.s₀.heap.FunFrames X.base l → s.heap.FunFrames X.base l := by
    intro l
    induction l with
    | nil => intro _ _; trivial
    | cons env r ih =>
      intro hs hl
      obtain ⟨hk, ⟨L, o, hf, hn, ho, hd⟩, hr⟩ := hl
      have hL : L ∈ X.fs := hs L (by unfold frs; rw [List.filterMap_cons, hf]; exact List.mem_cons_self)
      obtain ⟨sl, e⟩ := I.base.slot L o ho (I.ok.frf L hL) hL fun z => I.ok.exfs L z hL
      exact ⟨hk, ⟨L, _, hf, hn, e, hd⟩, ih (fun b hb => hs b (by unfold frs; rw [List.filterMap_cons, hf]; exact List.mem_cons_of_mem _ hb)) hr⟩
  exact all X.outer (fun _ hb => hb) I.ok.funs

/-- the frames that run, for a call -/
theorem Inv.stack (I : Inv X pins σ H s) : s.heap.FunFrames X.base X.stack := by
  rcases I.ok.stk with e | ⟨e, hf⟩
  · rw [e]; exact I.funs
  · rw [e]
    obtain ⟨m, hn, _⟩ := I.loc
    refine .cons (by rw [I.ok.kind]; decide) hf hn ?_ I.funs
    exact Heap.get?_none_of_le (Nat.le_trans I.ok.bsz I.ok.above)
theorem Inv.stkSub (I : Inv X pins σ H s) : ∀ b ∈ frs X.stack, b ∈ X.env.locals :: X.fs := fun b hb => by
  rcases I.ok.stk with e | ⟨e, hf⟩
  · rw [e] at hb; exact List.mem_cons_of_mem _ hb
  · rw [e] at hb
    unfold frs at hb
    rw [List.filterMap_cons, hf] at hb
    exact hb
theorem Inv.stkFree (I : Inv X pins σ H s) : ∀ b ∈ frs X.stack, H b = none := fun b hb => by
  rcases List.mem_cons.mp (I.stkSub b hb) with e | hb
  · rw [e]; exact I.free
  · obtain ⟨_, o, ho, _⟩ := I.ok.funs.mem hb
    exact I.base.free b o ho (I.ok.frf b hb) fun z => I.ok.exfs b z hb

/-- THE STEP: the untracked objects but the frame and the records at ch are kept (the callers' frames up to slots), the frame's map is kept, the new abstract heap is held -/
theorem Inv.step {g' : Array GenState} {t' : Nat} {d' : Drawn} {ch : List Addr} (I : Inv X pins σ H s)
    (hch : ∀ b ∈ ch, (b ∈ X.ex ∨ X.s₀.heap.objs.size ≤ b) ∧ b ≠ X.env.locals ∧ (∀ x c, X.env.cells.lookup x = some c → c ≠ b) ∧ ∀ p ∈ X.pn ++ pins, p.1 ≠ b)
    (keep : ∀ b o, b ≠ X.env.locals → b ∉ X.fs → b ∉ ch → s.heap.get? b = some o → H b = none → h'.get? b = some o)
    (slot : ∀ b o, b ≠ X.env.locals → b ∈ X.fs → b ∉ ch → s.heap.get? b = some o → H b = none → ∃ sl, h'.get? b = some { o with slots := sl }) (free : ∀ b o, b ∉ ch → s.heap.get? b = some o → H b = none → H' b = none)
    (there : ∀ b o, b ∉ ch → s.heap.get? b = some o → ∃ o', h'.get? b = some o')
    (tups : ∀ b xs, H b = some (.tup xs) → H' b = some (.tup xs)) (frzs : ∀ b o u, H b = some (.frz o u) → H' b = some (.frz o u)) (tbls : ∀ b ps, H b = some (.tbl ps) → ∃ more, H' b = some (.tbl (ps ++ more)))
    (ns : ∀ m, s.heap.Ns X.env.locals m → h'.Ns X.env.locals m) (hok : HOk X.prog X.w H' h') (hg : AllBare g') :
    Inv X pins σ H' { s with heap := h', gens := g', drawn := d', toks := t' } := by
  have neL : ∀ b o, X.s₀.heap.get? b = some o → b ≠ X.env.locals := fun b o e => Nat.ne_of_lt (Nat.lt_of_lt_of_le (Heap.lt_size e) I.ok.above)
  have neC : ∀ b o, X.s₀.heap.get? b = some o → b ∉ X.ex → b ∉ ch := fun b o e hx hb => by
    rcases (hch b hb).1 with z | z
    · exact hx z
    · exact absurd (Nat.lt_of_lt_of_le (Heap.lt_size e) z) (Nat.lt_irrefl _)
  have cellK : ∀ x c, X.env.cells.lookup x = some c → ∀ v, s.heap.IsCell c v → h'.IsCell c v := fun x c e v ⟨o, ho, hd⟩ => by
    have nch : c ∉ ch := fun z => (hch c z).2.2.1 x c e rfl
    by_cases hc : c ∈ X.fs
    · obtain ⟨sl, q⟩ := slot c o (I.cne x c e) hc nch ho (I.freeC x c e)
      exact ⟨_, q, hd⟩
    · exact ⟨o, keep c o (I.cne x c e) hc nch ho (I.freeC x c e), hd⟩
  refine ⟨I.ok, I.os, hg, ⟨fun b o e n hb hx => ?_, fun b o e n hb hx => ?_, fun b o e n hx => ?_, fun b o e hx => ?_, fun b xs e => tups b xs (I.base.tups b xs e), fun b o xs e => frzs b o xs (I.base.frzs b o xs e), fun b ps e => ?_⟩, ?_, fun x c e => ?_, ?_, fun x c e => ?_, fun p hp => ?_, hok, I.len⟩
  · exact keep b o (neL b o e) hb (neC b o e hx) (I.base.keep b o e n hb hx) (I.base.free b o e n hx)
  · obtain ⟨sl, e1⟩ := I.base.slot b o e n hb hx
    obtain ⟨sl', e2⟩ := slot b _ (neL b o e) hb (neC b o e hx) e1 (I.base.free b o e n hx)
    exact ⟨sl', e2⟩
  · obtain ⟨o', e1⟩ := I.base.there b o e hx
    exact free b o' (neC b o e hx) e1 (I.base.free b o e n hx)
  · obtain ⟨o', e1⟩ := I.base.there b o e hx
    exact there b o' (neC b o e hx) e1
  · obtain ⟨m1, e1⟩ := I.base.tbls b ps e
    obtain ⟨m2, e2⟩ := tbls b _ e1
    exact ⟨m1 ++ m2, by rw [e2, Array.append_assoc]⟩
  · obtain ⟨m, hn, hl⟩ := I.loc
    refine ⟨m, ns m hn, fun i x v e1 e2 e3 => ?_⟩
    obtain ⟨u, r, l⟩ := hl i x v e1 e2 e3
    refine ⟨u, r, ?_⟩
    rcases l with l | ⟨k, c, e, z⟩
    · exact .inl l
    · exact .inr ⟨k, c, e, cellK x c e _ z⟩
  · obtain ⟨v, z⟩ := I.cell x c e
    exact ⟨v, cellK x c e v z⟩
  · obtain ⟨m, ⟨o, _, _, ho, _⟩, _⟩ := I.loc
    exact free _ o (fun z => (hch _ z).2.1 rfl) ho I.free
  · obtain ⟨v, o, ho, hd⟩ := I.cell x c e
    exact free c o (fun z => (hch c z).2.2.1 x c e rfl) ho (I.freeC x c e)
  · obtain ⟨e, n, ne, nf, d⟩ := I.pin p hp
    have nch : p.1 ∉ ch := fun z => (hch p.1 z).2.2.2 p hp rfl
    exact ⟨keep p.1 p.2 ne nf nch e n, free p.1 p.2 nch e n, ne, nf, d⟩
/-- .. where the frame's own object is kept too -/
theorem Inv.un {t' : Nat} (I : Inv X pins σ H s) (u : Un X.fs [] H H' s.heap h') (hok : HOk X.prog X.w H' h') : Inv X pins σ H' { s with heap := h', toks := t' } := by
  obtain ⟨m, ⟨o, es, ep, ho, r⟩, _⟩ := id I.loc
  obtain ⟨sl, hL⟩ := u.any ho I.free (by simp)
  exact I.step (g' := s.gens) (d' := s.drawn) (ch := []) (fun _ z => nomatch z) (fun b o _ hb _ e n => u.keep b o e n hb (by simp)) (fun b o _ hb _ e n => u.slot b o e n hb (by simp)) (fun b o _ e n => u.free b o e n (by simp)) (fun b o _ e => u.there b o e (by simp)) u.tups u.frzs u.tbls (fun m' hm => by
    obtain ⟨o', es', ep', ho', r'⟩ := hm
    rw [ho] at ho'; cases ho'
    exact ⟨_, es', ep', hL, r'⟩) hok I.bare
/-- behind a call (or a comprehension's block): the slots of this frame may have changed too, the records at ch may have turned -/
theorem Inv.call {g' : Array GenState} {t' : Nat} {d' : Drawn} {ch : List Addr} (I : Inv X pins σ H s) (u : Un (frs X.stack) ch H H' s.heap h') (hok : HOk X.prog X.w H' h') (hg : AllBare g')
    (hch : ∀ b ∈ ch, (b ∈ X.ex ∨ X.s₀.heap.objs.size ≤ b) ∧ b ≠ X.env.locals ∧ (∀ x c, X.env.cells.lookup x = some c → c ≠ b) ∧ ∀ p ∈ X.pn ++ pins, p.1 ≠ b) :
    Inv X pins σ H' { s with heap := h', gens := g', drawn := d', toks := t' } := by
  obtain ⟨m, ⟨o, es, ep, ho, r⟩, _⟩ := id I.loc
  obtain ⟨sl, hL⟩ := u.any ho I.free fun z => (hch _ z).2.1 rfl
  exact I.step (ch := ch) hch (fun b o hL hb hc e n => u.keep b o e n (fun z => (List.mem_cons.mp (I.stkSub b z)).elim hL hb) hc) (fun b o _ _ hc e n => u.any e n hc) (fun b o hc e n => u.free b o e n hc) (fun b o hc e => u.there b o e hc) u.tups u.frzs u.tbls (fun m' hm => by
    obtain ⟨o', es', ep', ho', r'⟩ := hm
    rw [ho] at ho'; cases ho'
    exact ⟨_, es', ep', hL, r'⟩) hok hg
/-- an untracked record of ours (an iterator) has turned -/
theorem Inv.turned {t' : Nat} {it : Addr} (I : Inv X pins σ H s) (k : ∀ b o, b ≠ it → s.heap.get? b = some o → h'.get? b = some o) (hn : H it = none) (hL : it ≠ X.env.locals)
    (h1 : it ∈ X.ex ∨ X.s₀.heap.objs.size ≤ it) (h2 : ∀ x c, X.env.cells.lookup x = some c → c ≠ it) (h3 : ∀ p ∈ X.pn ++ pins, p.1 ≠ it) : Inv X pins σ H { s with heap := h', toks := t' } := by
  have nit : ∀ b u, H b = some u → b ≠ it := fun b u e z => by rw [z, hn] at e; cases e
  refine I.step (g' := s.gens) (d' := s.drawn) (ch := [it]) (fun b hb => ?_) (fun b o _ _ hc e _ => k b o (fun z => hc (by simp [z])) e) (fun b o _ _ hc e _ => ⟨o.slots, k b o (fun z => hc (by simp [z])) e⟩) (fun _ _ _ _ n => n)
    (fun b o hc e => ⟨o, k b o (fun z => hc (by simp [z])) e⟩) (fun _ _ e => e) (fun _ _ _ e => e) (fun b ps e => ⟨#[], by rw [e]; simp⟩) (fun m hm => ?_) (fun b u e => ?_) I.bare
  · have e : b = it := by simpa using hb
    subst e
    exact ⟨h1, hL, h2, h3⟩
  · obtain ⟨o, es, ep, ho, r⟩ := hm
    exact ⟨o, es, ep, k _ o (Ne.symm hL) ho, r⟩
  · refine (I.hok b u e).stay (fun c v hc q => k c v ?_ q) (fun _ q => q) fun _ _ q => q
    rcases hc with z | z
    · rw [z]; exact nit b u e
    · exact nit c _ z
theorem Inv.tok (I : Inv X pins σ H s) (t : Nat) : Inv X pins σ H { s with toks := t } := I.un (h' := s.heap) (t' := t) Un.refl I.hok
/-- all objects kept -/
theorem Inv.kept {t' : Nat} (I : Inv X pins σ H s) (k : ∀ b u, s.heap.get? b = some u → h'.get? b = some u) : Inv X pins σ H { s with heap := h', toks := t' } := I.un (Un.kept k) (I.hok.kept k)
/-- a new object laid and tracked -/
theorem Inv.laid {a : Addr} {o : HO} {t' : Nat} (I : Inv X pins σ H s) (k : ∀ b u, s.heap.get? b = some u → h'.get? b = some u) (hp : s.heap.objs.size ≤ a) (new : ObjOk X.prog X.w (upd H a o) h' a o) :
    Inv X pins σ (upd H a o) { s with heap := h', toks := t' } := I.un (Un.laid k hp (I.hok.fresh hp)) (I.hok.laid k hp new)
/-- an object written -/
theorem Inv.write {x e : Addr} {o : HO} {t' : Nat} (I : Inv X pins σ H s) (mu : Mut (H x)) (he : e = x ∨ H e = some (.own x)) (k : ∀ b u, b ≠ e → s.heap.get? b = some u → h'.get? b = some u) (heo : ∃ u, h'.get? e = some u)
    (new : ObjOk X.prog X.w (upd H x o) h' x o) : Inv X pins σ (upd H x o) { s with heap := h', toks := t' } := I.un (Un.write mu he k heo) (I.hok.write mu he k heo new)
/-- forgetting slots, pins -/
theorem Inv.weak {σ' : List (Option V)} (I : Inv X pins σ H s) (hl : σ'.length = σ.length) (w : ∀ (i : Nat) v, σ'[i]? = some (some v) → σ[i]? = some (some v)) : Inv X pins σ' H s :=
  ⟨I.ok, I.os, I.bare, I.base, let ⟨m, hn, hl'⟩ := I.loc; ⟨m, hn, fun i x v e1 e2 e3 => hl' i x v e1 (w i v e2) e3⟩, I.cell, I.free, I.freeC, I.pin, I.hok, hl.trans I.len⟩
theorem Inv.pins_of {pins' : List (Addr × Obj)} (I : Inv X pins σ H s) (h : ∀ p ∈ pins', s.heap.get? p.1 = some p.2 ∧ H p.1 = none ∧ p.1 ≠ X.env.locals ∧ p.1 ∉ X.fs ∧ ∀ v, p.2.data ≠ .cell v) : Inv X pins' σ H s :=
  ⟨I.ok, I.os, I.bare, I.base, I.loc, I.cell, I.free, I.freeC, fun p hp => (List.mem_append.mp hp).elim (fun z => I.pin p (List.mem_append_left _ z)) (h p), I.hok, I.len⟩

theorem nodup_ix {N : List Str} (hN : N.Nodup) {i j : Nat} {x : Str} (a : N[i]? = some x) (b : N[j]? = some x) : i = j := by
  obtain ⟨h1, e1⟩ := List.getElem?_eq_some_iff.mp a
  obtain ⟨h2, e2⟩ := List.getElem?_eq_some_iff.mp b
  exact (List.getElem_inj hN).mp (e1.trans e2.symm)

/-- a name is stored; what changed -/
theorem store_ok2 {M : Model} {A : Around} {E : Value → Shared → Prop} {i : Nat} {x : Str} {v : V} {u : Value} {Q : Unit → Shared → Prop} (I : Inv X pins σ H s) (hN : X.N.Nodup) (hi : X.N[i]? = some x) (hx : Loc X.env.scope x) (r : RelV v u)
    (h : ∀ s', Inv X pins (σ.set i (some v)) H s' → (∃ a, Heap.SameBut a s.heap s'.heap ∧ (a = X.env.locals ∨ X.env.cells.lookup x = some a)) → Q () s') (hf : X.fn x = true ∨ X.env.scope.names.lookup x = some .local := by first | exact .inl rfl | exact .inr rfl | assumption) : wpAny M A (storeName X.env x u) Q E s := by
  obtain ⟨m, hn, hl⟩ := id I.loc
  have hcls : (X.env.scope.kind == .class || (X.env.scope.kind == .module && X.env.locals != X.env.globals)) = false := by rw [I.ok.kind]; rfl
  have hiσ : i < σ.length := by rw [I.len]; exact (List.getElem?_eq_some_iff.mp hi).1
  have cne := I.cne
  have tracked : ∀ {a : Addr} {h' : Heap}, (∃ o, s.heap.get? a = some o ∧ H a = none) → Heap.SameBut a s.heap h' → HOk X.prog X.w H h' := fun {a h'} ha hs b ob e => by
    obtain ⟨_, _, hfree⟩ := ha
    refine (I.hok b ob e).stay (fun c w' hc q => (hs.2 c ?_).trans q) (fun _ q => q) fun _ _ q => q
    rintro rfl
    rcases hc with rfl | hc
    · rw [hfree] at e; cases e
    · rw [hfree] at hc; cases hc
  rcases hx with hk | hk
  · refine wpAny_storeName_local hk hn (fun h' hn' hs => ?_) hcls
    obtain ⟨oL, _, _, hoL, _⟩ := id hn
    refine h _ ⟨I.ok, I.os, I.bare, ⟨fun b o e n hb hx => ?_, fun b o e n hb hx => ?_, I.base.free, fun b o e hx => ?_, I.base.tups, I.base.frzs, I.base.tbls⟩, ⟨_, hn', fun j y v' e1 e2 e3 => ?_⟩, fun y c e => ?_, I.free, I.freeC, fun p hp => ?_, tracked ⟨oL, hoL, I.free⟩ hs, by simpa using I.len⟩ ⟨_, hs, .inl rfl⟩
    · exact (hs.2 b (Nat.ne_of_lt (Nat.lt_of_lt_of_le (Heap.lt_size e) I.ok.above))).trans (I.base.keep b o e n hb hx)
    · obtain ⟨sl, e1⟩ := I.base.slot b o e n hb hx
      exact ⟨sl, (hs.2 b (Nat.ne_of_lt (Nat.lt_of_lt_of_le (Heap.lt_size e) I.ok.above))).trans e1⟩
    · obtain ⟨o', e1⟩ := I.base.there b o e hx
      exact ⟨o', (hs.2 b (Nat.ne_of_lt (Nat.lt_of_lt_of_le (Heap.lt_size e) I.ok.above))).trans e1⟩
    · by_cases hj : j = i
      · subst hj
        rw [hi] at e1; cases e1
        rw [List.getElem?_set_self hiσ] at e2
        cases e2
        exact ⟨u, r, .inl ⟨hk, by simp⟩⟩
      · rw [List.getElem?_set_ne (Ne.symm hj)] at e2
        obtain ⟨u', r', q⟩ := hl j y v' e1 e2 e3
        refine ⟨u', r', ?_⟩
        rcases q with ⟨k, e⟩ | ⟨k, c, e, z⟩
        · refine .inl ⟨k, ?_⟩
          have : y ≠ x := fun e => hj (nodup_ix hN e1 (e ▸ hi))
          simp [this, e]
        · exact .inr ⟨k, c, e, z.sameBut hs (cne y c e)⟩
    · obtain ⟨w', z⟩ := I.cell y c e
      exact ⟨w', z.sameBut hs (cne y c e)⟩
    · obtain ⟨e, n, ne, nf, d⟩ := I.pin p hp
      exact ⟨(hs.2 p.1 ne).trans e, n, ne, nf, d⟩
  · have hfn : X.fn x = true := by
      rcases hf with z | z
      · exact z
      · rw [z] at hk; cases hk
    obtain ⟨c, hc⟩ := I.ok.has x (.inl hk)
    obtain ⟨w', z⟩ := I.cell x c hc
    refine wpAny_storeName_cell I.ok.kind hk hc z (fun h' hc' hs => ?_)
    obtain ⟨oc, hoc, hocd⟩ := id z
    refine h { s with heap := h' } ⟨I.ok, I.os, I.bare, ⟨fun b o e n hb hx => ?_, fun b o e n hb hx => ?_, I.base.free, fun b o e hx => ?_, I.base.tups, I.base.frzs, I.base.tbls⟩, ⟨m, hn.sameBut hs (Ne.symm (cne x c hc)), fun j y v' e1 e2 e3 => ?_⟩, fun y c' e => ?_, I.free, I.freeC, fun p hp => ?_, tracked ⟨oc, hoc, I.freeC x c hc⟩ hs, by simpa using I.len⟩ ⟨c, hs, .inr hc⟩
    · exact (hs.2 b (Nat.ne_of_lt (Nat.lt_of_lt_of_le (Heap.lt_size e) (I.ok.cab x c hfn hc)))).trans (I.base.keep b o e n hb hx)
    · obtain ⟨sl, e1⟩ := I.base.slot b o e n hb hx
      exact ⟨sl, (hs.2 b (Nat.ne_of_lt (Nat.lt_of_lt_of_le (Heap.lt_size e) (I.ok.cab x c hfn hc)))).trans e1⟩
    · obtain ⟨o', e1⟩ := I.base.there b o e hx
      exact ⟨o', (hs.2 b (Nat.ne_of_lt (Nat.lt_of_lt_of_le (Heap.lt_size e) (I.ok.cab x c hfn hc)))).trans e1⟩
    · by_cases hj : j = i
      · subst hj
        rw [hi] at e1; cases e1
        rw [List.getElem?_set_self hiσ] at e2
        cases e2
        exact ⟨u, r, .inr ⟨.inl hk, c, hc, hc'⟩⟩
      · rw [List.getElem?_set_ne (Ne.symm hj)] at e2
        obtain ⟨u', r', q⟩ := hl j y v' e1 e2 e3
        refine ⟨u', r', ?_⟩
        rcases q with q | ⟨k, c', e, z'⟩
        · exact .inl q
        · refine .inr ⟨k, c', e, z'.sameBut hs ?_⟩
          rintro rfl
          exact hj (nodup_ix hN e1 (I.ok.inj _ _ _ e hc ▸ hi))
    · by_cases hcc : c' = c
      · subst hcc; exact ⟨_, hc'⟩
      · obtain ⟨w2, z2⟩ := I.cell y c' e
        exact ⟨w2, z2.sameBut hs hcc⟩
    · obtain ⟨e, n, ne, nf, d⟩ := I.pin p hp
      refine ⟨(hs.2 p.1 ?_).trans e, n, ne, nf, d⟩
      intro q
      rw [q, hoc] at e
      have q' : oc = p.2 := Option.some.inj e
      exact d w' (by rw [← q']; exact hocd)
theorem store_ok {M : Model} {A : Around} {E : Value → Shared → Prop} {i : Nat} {x : Str} {v : V} {u : Value} {Q : Unit → Shared → Prop} (I : Inv X pins σ H s) (hN : X.N.Nodup) (hi : X.N[i]? = some x) (hx : Loc X.env.scope x) (r : RelV v u)
    (h : ∀ s', Inv X pins (σ.set i (some v)) H s' → Q () s') (hf : X.fn x = true ∨ X.env.scope.names.lookup x = some .local := by first | exact .inl rfl | exact .inr rfl | assumption) : wpAny M A (storeName X.env x u) Q E s :=
  store_ok2 I hN hi hx r (fun s' I' _ => h s' I') hf
/-- behind a call or a block, the state as it is -/
theorem Inv.call' {s' : Shared} {ch : List Addr} (I : Inv X pins σ H s) (ho : s'.os = s.os) (u : Un (frs X.stack) ch H H' s.heap s'.heap) (hok : HOk X.prog X.w H' s'.heap) (hg : AllBare s'.gens)
    (hch : ∀ b ∈ ch, (b ∈ X.ex ∨ X.s₀.heap.objs.size ≤ b) ∧ b ≠ X.env.locals ∧ (∀ x c, X.env.cells.lookup x = some c → c ≠ b) ∧ ∀ p ∈ X.pn ++ pins, p.1 ≠ b) : Inv X pins σ H' s' := by
  obtain ⟨h', g', d', t', o'⟩ := s'
  have e : o' = s.os := ho
  subst e
  exact I.call (g' := g') (t' := t') (d' := d') u hok hg hch
end

/-! ### the judgements -/
/-- an exception: its class, its own dict's address (where it has one), the abstract heap behind it -/
abbrev XK := Value → Option Addr → Hp → Prop
abbrev St := List (Option V)
abbrev VK := V → Hp → Prop
/-- an expression's reading; a test's; an argument list's -/
abbrev TE := St → Hp → VK → Prop
abbrev TT := St → Hp → (Bool → Hp → Prop) → Prop
abbrev TA := St → Hp → (List V → Hp → Prop) → Prop
/-- what is wanted behind a statement -/
structure Ends where
  nx : St → Hp → Prop
  rt : VK
  bk : St → Hp → Prop := fun _ _ => False
  ct : St → Hp → Prop := fun _ _ => False
abbrev TS := Ends → St → Hp → Prop

def EP (X : Cx) (pins : List (Addr × Obj)) (σ : St) (Q : VK) (u : Value) (s' : Shared) : Prop := ∃ v H', Inv X pins σ H' s' ∧ RelV v u ∧ Q v H'
def TP (X : Cx) (pins : List (Addr × Obj)) (σ : St) (Q : Bool → Hp → Prop) (b : Bool) (s' : Shared) : Prop := ∃ H', Inv X pins σ H' s' ∧ Q b H'
def AP (X : Cx) (pins : List (Addr × Obj)) (σ : St) (Q : List V → Hp → Prop) (us : List Value) (s' : Shared) : Prop := ∃ vs H', Inv X pins σ H' s' ∧ Vals vs us ∧ Q vs H'
def SP (X : Cx) (pins : List (Addr × Obj)) (D : Ends) (f : Flow) (s' : Shared) : Prop :=
  match f with
  | .next => ∃ σ' H', Inv X pins σ' H' s' ∧ D.nx σ' H'
  | .brk => ∃ σ' H', Inv X pins σ' H' s' ∧ D.bk σ' H'
  | .cont => ∃ σ' H', Inv X pins σ' H' s' ∧ D.ct σ' H'
  | .ret u => ∃ v σ' H', Inv X pins σ' H' s' ∧ RelV v u ∧ D.rt v H'

def PE (X : Cx) (e : Expr) (t : TE) : Prop :=
  ∀ (pins : List (Addr × Obj)) (s : Shared) (σ : St) (H : Hp) (Q : VK), Inv X pins σ H s → t σ H Q → wpAny (model X.prog X.w) X.A (eval e X.env) (EP X pins σ Q) X.xe s
def PT (X : Cx) (e : Expr) (t : TT) : Prop :=
  ∀ (pins : List (Addr × Obj)) (s : Shared) (σ : St) (H : Hp) (Q : Bool → Hp → Prop), Inv X pins σ H s → t σ H Q → wpAny (model X.prog X.w) X.A (isTrue e X.env (eval e X.env)) (TP X pins σ Q) X.xe s
/-- a test whatever its 'whole' is (and, or) -/
def PW (X : Cx) (e : Expr) (t : TT) : Prop :=
  ∀ (whole : Sem Value) (pins : List (Addr × Obj)) (s : Shared) (σ : St) (H : Hp) (Q : Bool → Hp → Prop), Inv X pins σ H s → t σ H Q → wpAny (model X.prog X.w) X.A (isTrue e X.env whole) (TP X pins σ Q) X.xe s
theorem PW.pt {X : Cx} {e : Expr} {t : TT} (h : PW X e t) : PT X e t := h _
/-- an argument list (no star), from the left -/
def PA (X : Cx) (es : List Expr) (t : TA) : Prop :=
  ∀ (pos : Pos) (pins : List (Addr × Obj)) (s : Shared) (σ : St) (H : Hp) (Q : List V → Hp → Prop), Inv X pins σ H s → t σ H Q → wpAny (model X.prog X.w) X.A (spliced (backTo pos (starEach es X.env))) (AP X pins σ Q) X.xe s
def PS (X : Cx) (st : Stmt) (t : TS) : Prop :=
  ∀ (pins : List (Addr × Obj)) (s : Shared) (σ : St) (H : Hp) (D : Ends), Inv X pins σ H s → t D σ H → wpAny (model X.prog X.w) X.A (exec st X.env) (SP X pins D) X.xe s
def PSs (X : Cx) (st : List Stmt) (t : TS) : Prop :=
  ∀ (pins : List (Addr × Obj)) (s : Shared) (σ : St) (H : Hp) (D : Ends), Inv X pins σ H s → t D σ H → wpAny (model X.prog X.w) X.A (execs st X.env) (SP X pins D) X.xe s
/-- weaken the end -/
theorem thn {α : Type} {t : Sem α} {Q Q' : α → Shared → Prop} {M : Model} {A : Around} {E : Value → Shared → Prop} {s : Shared} (h : wpAny M A t Q E s) (hQ : ∀ a s, Q a s → Q' a s) : wpAny M A t Q' E s := wpAny_mono h hQ fun _ _ x => x
end L2

namespace L2
open PySem PySem.Spec PyProof.Rows
section
variable {X : Cx}

/-! ### names and constants -/
def tVar (i : Nat) : TE := fun σ H Q => ∃ v, σ[i]? = some (some v) ∧ Q v H
def tC (v : V) : TE := fun _ H Q => Q v H
theorem pe_var {i : Nat} {x : Str} {pos : Pos} (hN : X.N[i]? = some x) (hv : Vis X.env.scope x) (hd : (x == ("__debug__" : Str)) = false := by decide) (hcd : (x == ("__classdict__" : Str)) = false := by decide) : PE X (.Name x pos) (tVar i) := by
  intro pins s σ H Q I h
  obtain ⟨v, e, h⟩ := h
  obtain ⟨m, hn, hl⟩ := I.loc
  obtain ⟨u, r, l⟩ := hl i x v hN e hv
  have fin : EP X pins σ Q u s := ⟨v, H, I, r, h⟩
  rcases l with ⟨hk, hm⟩ | ⟨hk, c, hc, hcell⟩
  · exact wpAny_Name (wpAny_loadName_local I.ok.kind hk hn hm fin) hd
  · rcases hk with hk | hk
    · exact wpAny_Name (wpAny_loadName_cell I.ok.kind hk hc hcell fin) hd
    · exact wpAny_Name (wpAny_loadName_free I.ok.kind hk hc hcell fin hcd) hd
theorem pe_int {i j pos} : PE X (.Constant (.int i) j pos) (tC (.int i)) := fun _ _ _ H _ I h => wpAny_Constant_int ⟨.int i, H, I.tok _, ⟨_, rfl⟩, h⟩
theorem pe_bl {b j pos} : PE X (.Constant (.bool b) j pos) (tC (.bl b)) := fun _ _ _ H _ I h => Constant_bool ⟨.bl b, H, I, rfl, h⟩
theorem pe_non {j pos} : PE X (.Constant .none j pos) (tC .non) := fun _ _ _ H _ I h => Constant_none ⟨.non, H, I, rfl, h⟩
theorem pe_str {x j pos} : PE X (.Constant (.str x) j pos) (tC (.str x)) := fun _ _ _ H _ I h => Calls.Constant_str ⟨.str x, H, I.tok _, ⟨_, rfl⟩, h⟩

/-- a global name of the def -/
def Gl (X : Cx) (x : Str) : Prop := X.env.kindOf x = some .globalImplicit
theorem ld_glob {E : Value → Shared → Prop} {pins : List (Addr × Obj)} {s : Shared} {σ : St} {H : Hp} {x : Str} {u : Value} {pos : Pos} {Q : Value → Shared → Prop} (I : Inv X pins σ H s) (hg : Gl X x) (hm : X.mg x = some u) (h : Q u s)
    (hd : (x == ("__debug__" : Str)) = false := by decide) : wpAny (model X.prog X.w) X.A (eval (.Name x pos) X.env) Q E s :=
  Calls.Name_function_global I.ok.kind hg (Calls.loadGlobal_global (by rw [I.ok.glob]; exact I.mod.glob.keeps I.bk) hm h) hd
theorem ld_blt {E : Value → Shared → Prop} {pins : List (Addr × Obj)} {s : Shared} {σ : St} {H : Hp} {x : Str} {u : Value} {pos : Pos} {Q : Value → Shared → Prop} (I : Inv X pins σ H s) (hg : Gl X x) (hm : X.mg x = none) (hv : bootBuiltins x = some u) (h : Q u s)
    (hn : x ≠ "__name__" := by decide) (hd : (x == ("__debug__" : Str)) = false := by decide) : wpAny (model X.prog X.w) X.A (eval (.Name x pos) X.env) Q E s := by
  obtain ⟨mb, h1, h2⟩ := I.mod.blt
  exact Calls.Name_function_global I.ok.kind hg (Calls.loadGlobal_builtin (by rw [I.ok.glob]; exact I.mod.glob.keeps I.bk) hm (by rw [I.ok.blt]; exact h1.keeps I.bk) ((h2 x hn).trans hv) h) hd
theorem pe_bltn {x : Str} {v : V} {u : Value} {pos : Pos} (hg : Gl X x) (hm : X.mg x = none) (hv : bootBuiltins x = some u) (r : RelV v u) (hn : x ≠ "__name__" := by decide) (hd : (x == ("__debug__" : Str)) = false := by decide) : PE X (.Name x pos) (tC v) :=
  fun _ _ _ H _ I h => ld_blt I hg hm hv ⟨v, H, I, r, h⟩ hn hd

/-! ### arithmetic -/
variable {a b : Expr} {ta tb : TE} {pos : Pos}
/-! ### comparisons -/
def PC (X : Cx) (op : CmpOp) (a b : Expr) (t : TE) : Prop :=
  ∀ (pins : List (Addr × Obj)) (s : Shared) (σ : St) (H : Hp) (Q : VK), Inv X pins σ H s → t σ H Q →
    wpAny (model X.prog X.w) X.A (eval a X.env) (fun v s₁ => wpAny (model X.prog X.w) X.A (eval b X.env) (fun u s₂ => wpAny (model X.prog X.w) X.A (compareOp op v u) (EP X pins σ Q) X.xe s₂) X.xe s₁) X.xe s
theorem nobehind (b : Expr) {op : CmpOp} (h : op ≠ .In) (h2 : op ≠ .NotIn) : behindInMarks op b = false := by
  have e1 : (op == CmpOp.In) = false := by cases op <;> first | rfl | exact absurd rfl h
  have e2 : (op == CmpOp.NotIn) = false := by cases op <;> first | rfl | exact absurd rfl h2
  cases b <;> simp [behindInMarks, e1, e2]
/-- a comparison as a value, as a test -/
def tB (t : TE) : TT := fun σ H Q => t σ H fun x H1 => ∃ c, x = .bl c ∧ Q c H1
theorem pt_cmp {op : CmpOp} {t : TE} (h : PC X op a b t) (h1 : behindInMarks op b = false := by first | exact nobehind _ (by decide) (by decide) | rfl) : PT X (.Compare a [op] [b] pos) (tB t) := by
  intro pins s σ H Q I hw
  refine wpAny_isTrue_Compare1 (thn (h pins s σ H _ I hw) fun v s1 h1 => thn h1 fun u s2 h2 => thn h2 fun c s3 ⟨x, H1, I1, r1, q1⟩ => ?_) h1
  obtain ⟨d, rfl, q⟩ := q1
  cases r1
  exact wpAny_truthy_bool ⟨H1, I1, q⟩
/-! ### and, or, not -/
variable {tA tB' : TT} {rest : List Expr}
def tAnd (t u : TT) : TT := fun σ H Q => t σ H fun c H1 => if c = true then u σ H1 Q else Q false H1
def tOr (t u : TT) : TT := fun σ H Q => t σ H fun c H1 => if c = true then Q true H1 else u σ H1 Q
def tNot (t : TT) : TT := fun σ H Q => t σ H fun c H1 => Q (!c) H1
theorem pw_and1 (ha : PT X a tA) : PW X (.BoolOp .And [a] pos) tA := by
  intro wh pins s σ H Q I h
  refine isTrue_and (thn (ha pins s σ H Q I h) fun c s1 e => ?_)
  cases c with
  | true => exact isTrue_and_nil e
  | false => exact e
theorem pw_or1 (ha : PT X a tA) : PW X (.BoolOp .Or [a] pos) tA := by
  intro wh pins s σ H Q I h
  refine isTrue_or (thn (ha pins s σ H Q I h) fun c s1 e => ?_)
  cases c with
  | false => exact isTrue_or_nil e
  | true => exact e
theorem pw_and (ha : PT X a tA) (hb : PW X (.BoolOp .And (b :: rest) pos) tB') : PW X (.BoolOp .And (a :: b :: rest) pos) (tAnd tA tB') := by
  intro wh pins s σ H Q I h
  refine isTrue_and (thn (ha pins s σ H _ I h) fun c s1 ⟨H1, I1, q1⟩ => ?_)
  cases c with
  | true => exact hb wh pins s1 σ H1 Q I1 q1
  | false => exact ⟨H1, I1, q1⟩
theorem pw_or (ha : PT X a tA) (hb : PW X (.BoolOp .Or (b :: rest) pos) tB') : PW X (.BoolOp .Or (a :: b :: rest) pos) (tOr tA tB') := by
  intro wh pins s σ H Q I h
  refine isTrue_or (thn (ha pins s σ H _ I h) fun c s1 ⟨H1, I1, q1⟩ => ?_)
  cases c with
  | true => exact ⟨H1, I1, q1⟩
  | false => exact hb wh pins s1 σ H1 Q I1 q1
theorem pt_not (ha : PT X a tA) : PT X (.UnaryOp .Not a pos) (tNot tA) := by
  intro pins s σ H Q I h
  exact isTrue_not (ha pins s σ H (fun c H1 => Q (!c) H1) I h)
/-- .. as values (bools) -/
def tAndV (ta tb : TE) : TE := fun σ H Q => ta σ H fun x H1 => ∃ c, x = .bl c ∧ if c = true then tb σ H1 Q else Q (.bl false) H1
def tOrV (ta tb : TE) : TE := fun σ H Q => ta σ H fun x H1 => ∃ c, x = .bl c ∧ if c = true then Q (.bl true) H1 else tb σ H1 Q
def tNotV (ta : TE) : TE := fun σ H Q => ta σ H fun x H1 => ∃ c, x = .bl c ∧ Q (.bl (!c)) H1
theorem pe_one {op} {t : TE} (h : PE X a t) : PE X (.BoolOp op [a] pos) t := fun pins s σ H Q I hw => BoolOp_one (h pins s σ H Q I hw)
theorem pe_and (ha : PE X a ta) (hb : PE X (.BoolOp .And (b :: rest) pos) tb) : PE X (.BoolOp .And (a :: b :: rest) pos) (tAndV ta tb) := by
  intro pins s σ H Q I h
  refine BoolOp_and (thn (ha pins s σ H _ I h) fun v s1 ⟨x, H1, I1, r1, q1⟩ => ?_)
  obtain ⟨c, rfl, q1⟩ := q1
  cases r1
  refine wpAny_truthy_bool ?_
  cases c with
  | true => exact hb pins s1 σ H1 Q I1 q1
  | false => exact ⟨.bl false, H1, I1, rfl, q1⟩
theorem pe_or (ha : PE X a ta) (hb : PE X (.BoolOp .Or (b :: rest) pos) tb) : PE X (.BoolOp .Or (a :: b :: rest) pos) (tOrV ta tb) := by
  intro pins s σ H Q I h
  refine BoolOp_or (thn (ha pins s σ H _ I h) fun v s1 ⟨x, H1, I1, r1, q1⟩ => ?_)
  obtain ⟨c, rfl, q1⟩ := q1
  cases r1
  refine wpAny_truthy_bool ?_
  cases c with
  | false => exact hb pins s1 σ H1 Q I1 q1
  | true => exact ⟨.bl true, H1, I1, rfl, q1⟩
theorem pe_not (ha : PE X a ta) : PE X (.UnaryOp .Not a pos) (tNotV ta) := by
  intro pins s σ H Q I h
  refine UnaryOp_ (thn (ha pins s σ H _ I h) fun v s1 ⟨x, H1, I1, r1, q1⟩ => ?_)
  obtain ⟨c, rfl, q1⟩ := q1
  cases r1
  exact not_of (wpAny_truthy_bool ⟨.bl (!c), H1, I1, rfl, q1⟩)
/-- a if t else b -/
def tIf (t : TT) (ta tb : TE) : TE := fun σ H Q => t σ H fun c H1 => if c = true then ta σ H1 Q else tb σ H1 Q
theorem pe_ifExp {c : Expr} (hc : PT X c tA) (ha : PE X a ta) (hb : PE X b tb) : PE X (.IfExp c a b pos) (tIf tA ta tb) := by
  intro pins s σ H Q I h
  refine wpAny_IfExp (thn (hc pins s σ H _ I h) fun d s1 ⟨H1, I1, q1⟩ => ?_)
  cases d with
  | true => exact ha pins s1 σ H1 Q I1 q1
  | false => exact hb pins s1 σ H1 Q I1 q1
end
end L2

namespace L2
open PySem PySem.Spec PyProof.Rows

/-! ### a list, a tuple that is read: tracked, frozen, or an object of the module -/
def SqL (K : PySem.W.Frag) (H : Hp) (a : Addr) (xs : List V) : Prop :=
  Rd H a (.lst xs) ∨
    ∃ (o : Obj) (its : Array Value) (n : Nat), K.lookup a = some o ∧ o.cls = .type "list" ∧ o.dict = none ∧ o.data = .seq its n ∧ its.size ≤ sizeLine ∧ Vals xs its.toList
def SqT (K : PySem.W.Frag) (H : Hp) (a : Addr) (xs : List V) : Prop :=
  Rd H a (.tup xs) ∨
    ∃ (o : Obj) (its : Array Value) (n : Nat), K.lookup a = some o ∧ o.cls = .type "tuple" ∧ o.dict = none ∧ o.data = .seq its n ∧ its.size ≤ sizeLine ∧ Vals xs its.toList
def absV : Value → Option V
  | .none => some .non
  | .bool b => some (.bl b)
  | .int i _ => some (.int i)
  | .str x _ => some (.str x)
  | .bytes b _ => some (.byt b)
  | .float b _ => some (.flt b)
  | .ref a => some (.ref a)
  | .type n => some (.ty n)
  | _ => none
theorem RelV.abs {x : V} {u : Value} (r : RelV x u) : absV u = some x := by
  cases x with
  | non => cases r; rfl
  | bl _ => cases r; rfl
  | int _ => obtain ⟨t, rfl⟩ := r; rfl
  | str _ => obtain ⟨t, rfl⟩ := r; rfl
  | byt _ => obtain ⟨t, rfl⟩ := r; rfl
  | flt _ => obtain ⟨t, rfl⟩ := r; rfl
  | ref _ => cases r; rfl
  | ty _ => cases r; rfl
theorem RelV.inj {x y : V} {u : Value} (r : RelV x u) (q : RelV y u) : x = y := Option.some.inj (r.abs.symm.trans q.abs)
theorem Vals.inj : ∀ {xs ys : List V} {us : List Value}, Vals xs us → Vals ys us → xs = ys
  | _, _, _, .nil, .nil => rfl
  | _, _, _, .cons r t, .cons r' t' => by rw [r.inj r', Vals.inj t t']
section
variable {X : Cx} {pins : List (Addr × Obj)} {σ : St} {H : Hp} {s : Shared} {a : Addr} {xs ys : List V}
theorem SqL.of {K : PySem.W.Frag} (h : H a = some (.lst xs)) : SqL K H a xs := .inl (.inl h)
theorem SqT.of {K : PySem.W.Frag} (h : H a = some (.tup xs)) : SqT K H a xs := .inl (.inl h)
theorem Inv.list (I : Inv X pins σ H s) (h : SqL X.K H a xs) : ∃ its : List Value, Vals xs its ∧ PlainL s.heap a its.toArray ∧ xs.length ≤ sizeLine := by
  rcases h with h | ⟨o, its, n, hk, hc, hd, hs, hz, r⟩
  · obtain ⟨z, its, n, r, e⟩ := h.ok I.hok
    exact ⟨its, r, ⟨_, n, e, rfl, rfl, rfl⟩, z⟩
  · refine ⟨its.toList, r, ⟨o, n, I.kIn a o hk, hc, hd, by simpa using hs⟩, ?_⟩
    have e := r.length
    simp only [Array.length_toList] at e
    omega
theorem Inv.tupleN (I : Inv X pins σ H s) (h : SqT X.K H a xs) : ∃ its : List Value, Vals xs its ∧ IsTupN s.heap a its.toArray ∧ xs.length ≤ sizeLine := by
  rcases h with h | ⟨o, its, n, hk, hc, hn, hs, hz, r⟩
  · obtain ⟨z, its, r, p⟩ := h.ok I.hok
    exact ⟨its, r, p, z⟩
  · refine ⟨its.toList, r, ⟨o, I.kIn a o hk, hc, ⟨n, by simpa using hs⟩, hn⟩, ?_⟩
    have e := r.length
    simp only [Array.length_toList] at e
    omega
theorem Inv.tuple (I : Inv X pins σ H s) (h : SqT X.K H a xs) : ∃ its : List Value, Vals xs its ∧ IsTup s.heap a its.toArray ∧ xs.length ≤ sizeLine := by
  obtain ⟨its, r, p, z⟩ := I.tupleN h
  exact ⟨its, r, p.tup, z⟩
theorem Inv.list_inj (I : Inv X pins σ H s) (h : SqL X.K H a xs) (h' : SqL X.K H a ys) : xs = ys := by
  obtain ⟨its, r, ⟨o, n, e, _, _, d⟩, _⟩ := I.list h
  obtain ⟨its', r', ⟨o', n', e', _, _, d'⟩, _⟩ := I.list h'
  rw [e] at e'; cases e'
  rw [d] at d'
  injection d' with d1 _
  have : its = its' := by simpa using congrArg Array.toList d1
  subst this
  exact r.inj r'
theorem Inv.tuple_inj (I : Inv X pins σ H s) (h : SqT X.K H a xs) (h' : SqT X.K H a ys) : xs = ys := by
  obtain ⟨its, r, ⟨o, e, _, n, d⟩, _⟩ := I.tuple h
  obtain ⟨its', r', ⟨o', e', _, n', d'⟩, _⟩ := I.tuple h'
  rw [e] at e'; cases e'
  rw [d] at d'
  injection d' with d1 _
  have : its = its' := by simpa using congrArg Array.toList d1
  subst this
  exact r.inj r'
end

/-! ### another wish about exceptions -/
abbrev Cx.wish (X : Cx) (E : Value → Shared → Prop) : Cx := { X with xe := E }
/-- no exception leaves -/
abbrev Cx.nox (X : Cx) : Cx := X.wish fun _ _ => False
theorem Cx.Ok.wish {X : Cx} (ok : X.Ok) (E : Value → Shared → Prop) : (X.wish E).Ok :=
  ⟨ok.mod, ok.kind, ok.glob, ok.blt, ok.above, ok.inj, ok.has, ok.cab, ok.hd, ok.frames, ok.stk, ok.exf, ok.bs, ok.bsz, ok.noex, ok.exfs, ok.funs, ok.frf⟩
theorem Cx.Ok.unwish {X : Cx} {E : Value → Shared → Prop} (ok : (X.wish E).Ok) : X.Ok :=
  ⟨ok.mod, ok.kind, ok.glob, ok.blt, ok.above, ok.inj, ok.has, ok.cab, ok.hd, ok.frames, ok.stk, ok.exf, ok.bs, ok.bsz, ok.noex, ok.exfs, ok.funs, ok.frf⟩
section
variable {X : Cx} {pins : List (Addr × Obj)} {σ : St} {H : Hp} {s : Shared} {E : Value → Shared → Prop}
theorem Inv.wish (I : Inv X pins σ H s) (E : Value → Shared → Prop) : Inv (X.wish E) pins σ H s := ⟨I.ok.wish E, I.os, I.bare, I.base, I.loc, I.cell, I.free, I.freeC, I.pin, I.hok, I.len⟩
theorem Inv.unwish (I : Inv (X.wish E) pins σ H s) : Inv X pins σ H s := ⟨I.ok.unwish, I.os, I.bare, I.base, I.loc, I.cell, I.free, I.freeC, I.pin, I.hok, I.len⟩
theorem SP.unwish {D : Ends} {f : Flow} {s' : Shared} (h : SP (X.wish E) pins D f s') : SP X pins D f s' := by
  cases f with
  | next => obtain ⟨σ', H', I, q⟩ := h; exact ⟨σ', H', I.unwish, q⟩
  | brk => obtain ⟨σ', H', I, q⟩ := h; exact ⟨σ', H', I.unwish, q⟩
  | cont => obtain ⟨σ', H', I, q⟩ := h; exact ⟨σ', H', I.unwish, q⟩
  | ret u => obtain ⟨v, σ', H', I, r, q⟩ := h; exact ⟨v, σ', H', I.unwish, r, q⟩
theorem PE.nox {e : Expr} {t : TE} (h : PE X.nox e t) : PE X e t := fun pins s σ H Q I hw =>
  wpAny_mono (h pins s σ H Q (I.wish _) hw) (fun _ _ ⟨v, H', I', r, q⟩ => ⟨v, H', I'.unwish, r, q⟩) fun _ _ z => False.elim z
theorem PT.nox {e : Expr} {t : TT} (h : PT X.nox e t) : PT X e t := fun pins s σ H Q I hw =>
  wpAny_mono (h pins s σ H Q (I.wish _) hw) (fun _ _ ⟨H', I', q⟩ => ⟨H', I'.unwish, q⟩) fun _ _ z => False.elim z
theorem PSs.nox {st : List Stmt} {t : TS} (h : PSs X.nox st t) : PSs X st t := fun pins s σ H D I hw =>
  wpAny_mono (h pins s σ H D (I.wish _) hw) (fun _ _ q => q.unwish) fun _ _ z => False.elim z
end

/-! ### blocks and small statements -/
section
variable {X : Cx} {st : Stmt} {rest : List Stmt} {t u : TS} {e : Expr} {te : TE} {pos : Pos}
def tNext : TS := fun D σ H => D.nx σ H
def tSeq (t u : TS) : TS := fun D σ H => t { D with nx := u D } σ H
theorem pss_nil : PSs X [] tNext := fun _ _ σ H _ I h => wpAny_execs_nil ⟨σ, H, I, h⟩
theorem pss_cons (h1 : PS X st t) (h2 : PSs X rest u) : PSs X (st :: rest) (tSeq t u) := by
  intro pins s σ H D I h
  refine wpAny_execs_cons (thn (h1 pins s σ H { D with nx := u D } I h) fun f s1 q => ?_)
  cases f with
  | next =>
    obtain ⟨σ', H', I', q⟩ := q
    exact h2 pins s1 σ' H' D I' q
  | ret v => exact q
  | brk => exact q
  | cont => exact q
theorem pss_one (h1 : PS X st t) : PSs X [st] t := by
  intro pins s σ H D I h
  refine wpAny_execs_cons (thn (h1 pins s σ H D I h) fun f s1 q => ?_)
  cases f with
  | next => exact wpAny_execs_nil q
  | ret v => exact q
  | brk => exact q
  | cont => exact q
/-- in a def's body nothing is shown -/
theorem Inv.quiet {pins : List (Addr × Obj)} {σ : St} {H : Hp} {s : Shared} (I : Inv X pins σ H s) : interactive X.env = false := by simp [interactive, I.ok.kind]
/-- an expression whose value is dropped -/
def tDrop (te : TE) : TS := fun D σ H => te σ H fun _ H1 => D.nx σ H1
theorem ps_expr (he : PE X e te) (hs : swapsWith e none pos.line X.env = pure false := by rfl) : PS X (.Expr e pos) (tDrop te) := by
  intro pins s σ H D I h
  exact wpAny_Expr_any (thn (he pins s σ H _ I h) fun v s1 ⟨x, H1, I1, r1, q1⟩ => ⟨σ, H1, I1, q1⟩) I.quiet hs
def tRet (te : TE) : TS := fun D σ H => te σ H D.rt
theorem ps_ret (he : PE X e te) : PS X (.Return (some e) pos) (tRet te) := by
  intro pins s σ H D I h
  exact wpAny_Return_some (thn (he pins s σ H _ I h) fun v s1 ⟨x, H1, I1, r1, q1⟩ => ⟨x, σ, H1, I1, r1, q1⟩)
def tIfS (c : TT) (t u : TS) : TS := fun D σ H => c σ H fun b H1 => if b = true then t D σ H1 else u D σ H1
theorem ps_if {c : Expr} {a b : List Stmt} {tc : TT} (hc : PT X c tc) (ha : PSs X a t) (hb : PSs X b u) : PS X (.If c a b pos) (tIfS tc t u) := by
  intro pins s σ H D I h
  refine wpAny_If (thn (hc pins s σ H _ I h) fun d s1 ⟨H1, I1, q1⟩ => ?_)
  cases d with
  | true => exact ha pins s1 σ H1 D I1 q1
  | false => exact hb pins s1 σ H1 D I1 q1
end

/-! ### targets -/
abbrev TG := V → St → Hp → (St → Hp → Prop) → Prop
abbrev TGs := List V → St → Hp → (St → Hp → Prop) → Prop
def PG (X : Cx) (target : Expr) (t : TG) : Prop :=
  ∀ (pins : List (Addr × Obj)) (s : Shared) (σ : St) (H : Hp) (v : V) (u : Value) (Q : St → Hp → Prop), Inv X pins σ H s → RelV v u → t v σ H Q →
    wpAny (model X.prog X.w) X.A (assign target X.env u) (fun _ s' => ∃ σ' H', Inv X pins σ' H' s' ∧ Q σ' H') X.xe s
/-- several targets, one after another -/
def PGs (X : Cx) (ts : List Expr) (t : TGs) : Prop :=
  ∀ (pins : List (Addr × Obj)) (s : Shared) (σ : St) (H : Hp) (vs : List V) (us : List Value) (Q : St → Hp → Prop), Inv X pins σ H s → Vals vs us → t vs σ H Q →
    wpAny (model X.prog X.w) X.A (assignInOrder ((assignEach ts X.env).map (·.2)) us) (fun _ s' => ∃ σ' H', Inv X pins σ' H' s' ∧ Q σ' H') X.xe s
/-- a op= b, by values -/
abbrev TIp := V → V → Hp → VK → Prop
def PIp (X : Cx) (op : Operator) (t : TIp) : Prop :=
  ∀ (pins : List (Addr × Obj)) (s : Shared) (σ : St) (H : Hp) (x y : V) (v u : Value) (Q : VK), Inv X pins σ H s → RelV x v → RelV y u → t x y H Q →
    wpAny (model X.prog X.w) X.A (inplaceOp op v u) (EP X pins σ Q) X.xe s
section
variable {X : Cx} {pos : Pos}
def gName (i : Nat) : TG := fun v σ H Q => Q (σ.set i (some v)) H
theorem pg_name {i : Nat} {x : Str} (hN : X.N.Nodup) (hi : X.N[i]? = some x) (hx : Loc X.env.scope x) (hf : X.fn x = true ∨ X.env.scope.names.lookup x = some .local := by first | exact .inl rfl | exact .inr rfl | assumption) : PG X (.Name x pos) (gName i) := by
  intro pins s σ H v u Q I r h
  exact wpAny_assign_Name (store_ok I hN hi hx r (fun s' I' => ⟨_, H, I', h⟩) hf)
def gNil : TGs := fun vs σ H Q => vs = [] ∧ Q σ H
def gCons (t : TG) (u : TGs) : TGs := fun vs σ H Q => ∃ v r, vs = v :: r ∧ t v σ H fun σ' H' => u r σ' H' Q
theorem pgs_nil : PGs X [] gNil := by
  intro pins s σ H vs us Q I r h
  obtain ⟨e, h⟩ := h
  subst e
  cases r
  exact assignInOrder_nil ⟨σ, H, I, h⟩
theorem pgs_cons {e : Expr} {es : List Expr} {t : TG} {u : TGs} (h1 : PG X e t) (h2 : PGs X es u)
    (hs : (assignEach (e :: es) X.env).map (·.2) = assign e X.env :: (assignEach es X.env).map (·.2) := by rfl) : PGs X (e :: es) (gCons t u) := by
  intro pins s σ H vs us Q I r h
  obtain ⟨v, vr, e1, h⟩ := h
  subst e1
  cases r with
  | cons r rr =>
    rw [hs]
    refine assignInOrder_cons (thn (h1 pins s σ H _ _ _ I r h) fun _ s1 ⟨σ1, H1, I1, q1⟩ => ?_)
    exact h2 pins s1 σ1 H1 _ _ Q I1 rr q1
/-- (a, b, ..) = a tuple of that length -/
def gTup (K : PySem.W.Frag) (n : Nat) (t : TGs) : TG := fun v σ H Q => ∃ a xs, v = .ref a ∧ SqT K H a xs ∧ xs.length = n ∧ t xs σ H Q
theorem pg_tup {es : List Expr} {k : Nat} {t : TGs} {n : Nat} (hc : X.calm = true) (h : PGs X es t)
    (hn : (assignEach es X.env).length = n := by rfl) (hst : (assignEach es X.env).findIdx? (·.1) = none := by rfl) : PG X (.Tuple es k pos) (gTup X.K n t) := by
  intro pins s σ H v u Q I r hw
  obtain ⟨a, xs, e1, hq, hl, hw⟩ := hw
  subst e1
  cases r
  obtain ⟨its, rv, ht, hz⟩ := I.tuple hq
  refine assign_Tuple_tuple (I.ok.hd hc) ht (by simp [hn, ← hl, rv.length]) hst fun h' hx => ?_
  have I1 : Inv X pins σ H { s with heap := h' } := I.kept (t' := s.toks) fun b o e => hx b o (Nat.ne_of_lt (Heap.lt_size e)) e
  exact h pins _ σ H xs _ Q I1 (by simpa using rv) hw
/-- target = value -/
def tAsg (te : TE) (g : TG) : TS := fun D σ H => te σ H fun x H1 => g x σ H1 D.nx
/-- name = value -/
theorem ps_set {i : Nat} {x : Str} {e : Expr} {te : TE} {pos' : Pos} (hN : X.N.Nodup) (hi : X.N[i]? = some x) (hx : Loc X.env.scope x) (he : PE X e te) (hs : swapsWith e (some (.Name x pos')) pos.line X.env = pure false := by rfl) (hf : X.fn x = true ∨ X.env.scope.names.lookup x = some .local := by first | exact .inl rfl | exact .inr rfl | assumption) :
    PS X (.Assign [.Name x pos'] e pos) (tAsg te (gName i)) := by
  intro pins s σ H D I h
  refine wpAny_Assign_Name (thn (he pins s σ H _ I h) fun v s1 ⟨y, H1, I1, r1, q1⟩ => ?_) hs
  exact store_ok I1 hN hi hx r1 (fun s2 I2 => ⟨_, H1, I2, q1⟩) hf
/-- name op= e -/
def tAug (i : Nat) (te : TE) (ti : TIp) : TS := fun D σ H => ∃ x, σ[i]? = some (some x) ∧ te σ H fun y H1 => ti x y H1 fun z H2 => D.nx (σ.set i (some z)) H2
theorem ps_aug {i : Nat} {x : Str} {e : Expr} {te : TE} {op : Operator} {ti : TIp} {pos' : Pos} (hN : X.N.Nodup) (hi : X.N[i]? = some x) (hx : Loc X.env.scope x) (he : PE X e te) (ho : PIp X op ti) (hf : X.fn x = true ∨ X.env.scope.names.lookup x = some .local := by first | exact .inl rfl | exact .inr rfl | assumption) :
    PS X (.AugAssign (.Name x pos') op e pos) (tAug i te ti) := by
  intro pins s σ H D I h
  obtain ⟨v, e1, h⟩ := h
  obtain ⟨m, hn, hl⟩ := I.loc
  have vis : Vis X.env.scope x := by rcases hx with k | k; exact .inl k; exact .inr (.inl k)
  obtain ⟨u, r, l⟩ := hl i x v hi e1 vis
  refine wpAny_AugAssign_Name ?_
  have go : wpAny (model X.prog X.w) X.A (eval e X.env) (fun w s₂ => wpAny (model X.prog X.w) X.A (inplaceOp op u w) (fun r s₃ => wpAny (model X.prog X.w) X.A (storeName X.env x r) (fun _ => SP X pins D .next) X.xe s₃) X.xe s₂) X.xe s := by
    refine thn (he pins s σ H _ I h) fun w s1 ⟨y, H1, I1, r1, q1⟩ => ?_
    refine thn (ho pins s1 σ H1 v y u w _ I1 r r1 q1) fun z s2 ⟨zv, H2, I2, r2, q2⟩ => ?_
    exact store_ok I2 hN hi hx r2 (fun s3 I3 => ⟨_, H2, I3, q2⟩) hf
  rcases l with ⟨hk, hm⟩ | ⟨hk, c, hc, hcell⟩
  · exact wpAny_loadName_local I.ok.kind hk hn hm go
  · rcases hk with hk | hk
    · exact wpAny_loadName_cell I.ok.kind hk hc hcell go
    · rcases hx with k | k
      · have : X.env.scope.names.lookup x = some .free := hk
        rw [k] at this; cases this
      · have : X.env.scope.names.lookup x = some .free := hk
        rw [k] at this; cases this
/-- ints -/
def ipI (f : Int → Int → Int) : TIp := fun x y H Q => ∃ i j, x = .int i ∧ y = .int j ∧ Q (.int (f i j)) H
theorem ip_add : PIp X .Add (ipI fun i j => i + j) := by
  intro pins s σ H x y v u Q I r1 r2 h
  obtain ⟨i, j, e1, e2, q⟩ := h
  subst e1; subst e2
  obtain ⟨t, rfl⟩ := r1
  obtain ⟨t', rfl⟩ := r2
  exact iadd_int ⟨.int _, H, I.tok _, ⟨_, rfl⟩, q⟩
end

/-! ### while -/
section
variable {X : Cx} {pos : Pos}
/-- the invariant W with its measure -/
def tWhile (c : TT) (tb : TS) : TS := fun D σ H => ∃ W : Nat → St → Hp → Prop, (∃ m, W m σ H) ∧ ∀ m σ H, W m σ H →
  c σ H fun b H1 => if b = true then ∃ N : St → Hp → Prop, (∀ σ' H', N σ' H' → ∃ m', m' < m ∧ W m' σ' H') ∧ tb { D with nx := N, ct := N, bk := D.nx } σ H1 else D.nx σ H1
theorem ps_while {c : Expr} {body : List Stmt} {tc : TT} {tb : TS} (hp : PassesOwn (model X.prog X.w) X.A X.env X.xe) (hc : PT X c tc) (hb : PSs X body tb) : PS X (.While c body [] pos) (tWhile tc tb) := by
  intro pins s σ H D I h
  obtain ⟨W, ⟨m0, w0⟩, turn⟩ := h
  refine wpAny_While (codeAny_whileLoop (fun n s' => ∃ σ' H', Inv X pins σ' H' s' ∧ W n σ' H') ?_ m0 ⟨σ, H, I, w0⟩)
  rintro n s1 ⟨σ1, H1, I1, w1⟩
  refine wpAny_passesOwn hp (thn (hc pins s1 σ1 H1 _ I1 (turn n σ1 H1 w1)) fun b s2 ⟨H2, I2, q2⟩ => ?_)
  cases b with
  | true =>
    obtain ⟨N, hN, q2⟩ := q2
    rw [if_pos rfl]
    refine wpAny_passesOwn hp (thn (hb pins s2 σ1 H2 _ I2 q2) fun f s3 q3 => ?_)
    cases f with
    | next =>
      obtain ⟨σ3, H3, I3, n3⟩ := q3
      obtain ⟨m', hm, w3⟩ := hN σ3 H3 n3
      exact ⟨m', hm, σ3, H3, I3, w3⟩
    | cont =>
      obtain ⟨σ3, H3, I3, n3⟩ := q3
      obtain ⟨m', hm, w3⟩ := hN σ3 H3 n3
      exact ⟨m', hm, σ3, H3, I3, w3⟩
    | brk => exact q3
    | ret v => exact q3
  | false =>
    rw [if_neg Bool.false_ne_true]
    exact wpAny_execs_nil ⟨σ1, H2, I2, q2⟩
end

/-! ### what a loop or a comprehension walks -/
/-- at turn i: it yields x (the heap may grow), or it stops -/
structure It where
  go : Nat → Hp → Prop
  yld : Nat → Hp → V → Hp → Prop
  stop : Nat → Hp → Prop
/-- the iterator's own objects may turn: they are not the frame's, not pinned, younger than the entry (or a comprehension's own) -/
def FpOk (X : Cx) (pins : List (Addr × Obj)) (H : Hp) (b : Addr) : Prop :=
  H b = none ∧ b ≠ X.env.locals ∧ b ∉ X.fs ∧ (b ∈ X.ex ∨ X.s₀.heap.objs.size ≤ b) ∧ (∀ x c, X.env.cells.lookup x = some c → c ≠ b) ∧ ∀ p ∈ X.pn ++ pins, p.1 ≠ b
theorem Inv.fpOk {X : Cx} {pins : List (Addr × Obj)} {σ : St} {H H' : Hp} {s : Shared} {b : Addr} (I : Inv X pins σ H s) (hb : s.heap.objs.size ≤ b) (hn : H' b = none) : FpOk X pins H' b := by
  refine ⟨hn, Nat.ne_of_gt (Nat.lt_of_lt_of_le I.lt hb), I.nofs hb, .inr (Nat.le_trans I.sz hb), fun x c e z => ?_, fun p hp z => ?_⟩
  · obtain ⟨v, q⟩ := I.cell x c e
    exact absurd (Nat.lt_of_lt_of_le q.lt (by rw [z]; exact hb)) (Nat.lt_irrefl _)
  · exact absurd (Nat.lt_of_lt_of_le (Heap.lt_size (I.pin p hp).1) (by rw [z]; exact hb)) (Nat.lt_irrefl _)
structure Turn (P : Program) (w : World) (K : PySem.W.Frag) (tg : Expr) (J : It) (fp : List Addr) (it : Addr) (tn : Nat → Heap → Prop) : Prop where
  mem : it ∈ fp
  obj : ∀ i h, tn i h → ∀ b ∈ fp, ∃ o, h.get? b = some o ∧ ∀ v, o.data ≠ .cell v
  keep : ∀ i h h', tn i h → (∀ b ∈ fp, ∀ o, h.get? b = some o → h'.get? b = some o) → tn i h'
  item : ∀ (X : Cx), X.prog = P → X.w = w → X.K = K → X.calm = true → ∀ (i : Nat) (pins : List (Addr × Obj)) (s : Shared) (σ : St) (H : Hp) (E : Value → Shared → Prop), Inv X pins σ H s → (∀ b ∈ fp, FpOk X pins H b) → tn i s.heap → J.go i H →
    wpAny (model P w) X.A (pyNext (.ref it)) (fun r s1 => ∃ u, r = some u ∧
      wpAny (model P w) X.A (letOwnedTupleGo tg (.ref it) u) (fun _ s2 => ∃ x H', Inv X pins σ H' s2 ∧ RelV x u ∧ J.yld i H x H' ∧ tn (i + 1) s2.heap ∧ ∀ b ∈ fp, H' b = none) E s1) E s
  done : ∀ (X : Cx), X.prog = P → X.w = w → X.K = K → X.calm = true → ∀ (i : Nat) (pins : List (Addr × Obj)) (s : Shared) (σ : St) (H : Hp) (E : Value → Shared → Prop), Inv X pins σ H s → (∀ b ∈ fp, FpOk X pins H b) → tn i s.heap → J.stop i H →
    wpAny (model P w) X.A (pyNext (.ref it)) (fun r s1 => r = none ∧ Inv X pins σ H s1) E s
  self : ∀ (A : Around) (i : Nat) (s : Shared) (Q : Value → Shared → Prop) (E : Value → Shared → Prop), tn i s.heap → Q (.ref it) s → wpAny (model P w) A (pyIter (.ref it)) Q E s
abbrev TI := St → Hp → (It → Hp → Prop) → Prop
/-- an iterator has come -/
def PIE (X : Cx) (pins : List (Addr × Obj)) (σ : St) (tg : Expr) (R : It → Hp → Prop) (itv : Value) (s2 : Shared) : Prop :=
  ∃ (it : Addr) (fp : List Addr) (tn : Nat → Heap → Prop) (J : It) (H' : Hp), itv = .ref it ∧ Inv X pins σ H' s2 ∧ Turn X.prog X.w X.K tg J fp it tn ∧ tn 0 s2.heap ∧ (∀ b ∈ fp, FpOk X pins H' b) ∧ R J H'
def PI (X : Cx) (tg iter : Expr) (wi : TI) : Prop :=
  ∀ (pins : List (Addr × Obj)) (s : Shared) (σ : St) (H : Hp) (R : It → Hp → Prop), Inv X pins σ H s → wi σ H R →
    wpAny (model X.prog X.w) X.A (eval iter X.env) (fun v s1 => wpAny (model X.prog X.w) X.A (pyIter v) (PIE X pins σ tg R) X.xe s1) X.xe s

/-- the step ahead of the store is nothing for an iterator that keeps no tuple -/
theorem go_of {M : Model} {A : Around} {E : Value → Shared → Prop} {s : Shared} {tg : Expr} {it : Addr} {u : Value} {o : Obj} {n : String} {vs : Array Value} {Q : Unit → Shared → Prop} (ho : s.heap.get? it = some o) (hc : o.cls = .type n) (hd : o.data = .fields vs)
    (hn : ["enumerate", "zip", "dict_itemiterator", "dict_reverseitemiterator", "odict_iterator", "itertools.zip_longest", "itertools.pairwise"].contains n = false) (hQ : Q () s) : wpAny M A (letOwnedTupleGo tg (.ref it) u) Q E s := by
  unfold letOwnedTupleGo
  cases tg <;> first
    | exact wpAny_pure hQ
    | (cases u <;> first
        | exact wpAny_pure hQ
        | (refine wpAny_bind (wpAny_load ho ?_)
           rw [hc, hd]
           show wpAny M A (if (["enumerate", "zip", "dict_itemiterator", "dict_reverseitemiterator", "odict_iterator", "itertools.zip_longest", "itertools.pairwise"].contains n && vs[0]? == some (rawInt _)) = true then _ else _) Q E s
           rw [if_neg (by intro h; rw [hn, Bool.false_and] at h; cases h)]
           exact wpAny_pure hQ))

/-- the list at a, as it stands at each turn (a loop may append to it) -/
def Itl (K : PySem.W.Frag) (a : Addr) : It :=
  ⟨fun i H => ∃ xs x, SqL K H a xs ∧ xs[i]? = some x, fun i H x H' => H' = H ∧ ∀ xs, SqL K H a xs → xs[i]? = some x, fun i H => ∃ xs, SqL K H a xs ∧ xs.length ≤ i⟩
def Itt (K : PySem.W.Frag) (a : Addr) : It :=
  ⟨fun i H => ∃ xs x, SqT K H a xs ∧ xs[i]? = some x, fun i H x H' => H' = H ∧ ∀ xs, SqT K H a xs → xs[i]? = some x, fun i H => ∃ xs, SqT K H a xs ∧ xs.length ≤ i⟩
/-- lo, lo + 1, .. (n of them) -/
def Itr (lo : Int) (n : Nat) : It := ⟨fun i _ => i < n, fun i H x H' => H' = H ∧ x = .int (lo + i), fun i _ => n ≤ i⟩
theorem turn_list {P : Program} {w : World} {K : PySem.W.Frag} {tg : Expr} (a it : Addr) : Turn P w K tg (Itl K a) [it] it (fun i h => h.IsListIter it a i) where
  mem := by simp
  obj := fun i h st b hb => by
    have e : b = it := by simpa using hb
    subst e
    obtain ⟨o, e, c, d⟩ := st
    exact ⟨o, e, fun v z => by rw [d] at z; cases z⟩
  keep := fun i h h' st k => st.at fun o e => k it (by simp) o e
  item := by
    intro X hP hw hK hc i pins s σ H E I hf st hg
    subst hP hw hK
    obtain ⟨xs, x, hq, hx⟩ := hg
    obtain ⟨its, rv, p, hz⟩ := I.list hq
    obtain ⟨u, hu, ru⟩ := rv.get hx
    obtain ⟨f0, f1, f2, f3, f4, f5⟩ := hf it (by simp)
    refine wpAny_pyNext_list_item st p.isList (x := u) (by simpa using hu) fun h' st' sb => ?_
    have I1 : Inv X pins σ H { s with heap := h' } := I.turned (t' := s.toks) (fun b o hb e => (sb.2 b hb).trans e) f0 f1 f3 f4 f5
    obtain ⟨o, e, c, d⟩ := id st'
    exact ⟨u, rfl, go_of (s := { s with heap := h' }) e c d (by decide) ⟨x, H, I1, ru, ⟨rfl, fun ys hy => by rw [I.list_inj hy hq]; exact hx⟩, st', fun b hb => (hf b hb).1⟩⟩
  done := by
    intro X hP hw hK hc i pins s σ H E I hf st hg
    subst hP hw hK
    obtain ⟨xs, hq, hx⟩ := hg
    obtain ⟨its, rv, p, hz⟩ := I.list hq
    obtain ⟨f0, f1, f2, f3, f4, f5⟩ := hf it (by simp)
    have hl := rv.length
    exact wpAny_pyNext_list_end (I.ok.hd hc) st p.isList (by simp; omega) fun h' eb => ⟨rfl, I.turned (t' := s.toks) (fun b o hb e => eb b o hb e) f0 f1 f3 f4 f5⟩
  self := fun _ _ _ _ _ st h => wpAny_pyIter_listiter st h
theorem turn_tuple {P : Program} {w : World} {K : PySem.W.Frag} {tg : Expr} (a it : Addr) : Turn P w K tg (Itt K a) [it] it (fun i h => h.IsTupleIter it a i) where
  mem := by simp
  obj := fun i h st b hb => by
    have e : b = it := by simpa using hb
    subst e
    obtain ⟨o, e, c, d⟩ := st
    exact ⟨o, e, fun v z => by rw [d] at z; cases z⟩
  keep := fun i h h' st k => st.at fun o e => k it (by simp) o e
  item := by
    intro X hP hw hK hc i pins s σ H E I hf st hg
    subst hP hw hK
    obtain ⟨xs, x, hq, hx⟩ := hg
    obtain ⟨its, rv, p, hz⟩ := I.tuple hq
    obtain ⟨u, hu, ru⟩ := rv.get hx
    obtain ⟨f0, f1, f2, f3, f4, f5⟩ := hf it (by simp)
    refine wpAny_pyNext_tuple_item st (show s.heap.IsTuple a its.toArray from p) (x := u) (by simpa using hu) fun h' st' sb => ?_
    have I1 : Inv X pins σ H { s with heap := h' } := I.turned (t' := s.toks) (fun b o hb e => (sb.2 b hb).trans e) f0 f1 f3 f4 f5
    obtain ⟨o, e, c, d⟩ := id st'
    exact ⟨u, rfl, go_of (s := { s with heap := h' }) e c d (by decide) ⟨x, H, I1, ru, ⟨rfl, fun ys hy => by rw [I.tuple_inj hy hq]; exact hx⟩, st', fun b hb => (hf b hb).1⟩⟩
  done := by
    intro X hP hw hK hc i pins s σ H E I hf st hg
    subst hP hw hK
    obtain ⟨xs, hq, hx⟩ := hg
    obtain ⟨its, rv, p, hz⟩ := I.tuple hq
    obtain ⟨f0, f1, f2, f3, f4, f5⟩ := hf it (by simp)
    have hl := rv.length
    exact wpAny_pyNext_tuple_end (I.ok.hd hc) st (show s.heap.IsTuple a its.toArray from p) (by simp; omega) fun h' eb => ⟨rfl, I.turned (t' := s.toks) (fun b o hb e => eb b o hb e) f0 f1 f3 f4 f5⟩
  self := fun _ _ _ _ _ st h => wpAny_pyIter_tupleiter st h
theorem turn_range {P : Program} {w : World} {K : PySem.W.Frag} {tg : Expr} (it : Addr) (lo : Int) (n : Nat) : Turn P w K tg (Itr lo n) [it] it (fun i h => IsRangeIter h it (lo + (i : Nat) * 1) ((n : Int) - (i : Nat)) 1) where
  mem := by simp
  obj := fun i h st b hb => by
    have e : b = it := by simpa using hb
    subst e
    exact ⟨_, st, fun v z => by
      have z' : Data.fields _ = Data.cell v := z
      cases z'⟩
  keep := fun i h h' st k => k it (by simp) _ st
  item := by
    intro X hP hw hK hc i pins s σ H E I hf st hg
    subst hP hw hK
    obtain ⟨f0, f1, f2, f3, f4, f5⟩ := hf it (by simp)
    have W := Walks.range (prog := X.prog) (w := X.w) (I.ok.hd hc) it lo 1 n
    refine W.item i s _ _ hg st fun v h' tk hv st' kk => ?_
    obtain ⟨t, rfl⟩ := hv
    have I1 : Inv X pins σ H { s with heap := h', toks := tk } := I.turned (fun b o hb e => kk b o (by simpa using hb) e) f0 f1 f3 f4 f5
    refine ⟨_, rfl, go_of (s := { s with heap := h', toks := tk }) (n := "range_iterator") st' rfl rfl (by decide) ⟨.int (lo + i), H, I1, ⟨t, ?_⟩, ⟨rfl, rfl⟩, st', fun b hb => (hf b hb).1⟩⟩
    rw [Int.mul_one]
  done := by
    intro X hP hw hK hc i pins s σ H E I hf st hg
    subst hP hw hK
    obtain ⟨f0, f1, f2, f3, f4, f5⟩ := hf it (by simp)
    exact wpAny_pyNext_range_end (I.ok.hd hc) st (by have : n ≤ i := hg; omega) fun h' eb => ⟨rfl, I.turned (t' := s.toks) (fun b o hb e => eb b o hb e) f0 f1 f3 f4 f5⟩
  self := fun _ _ _ _ _ st h => wpAny_pyIter_rangeiter st h
end L2

namespace L2
open PySem PySem.Spec PyProof.Rows
section
variable {X : Cx} {tg : Expr}
/-- a range object just made, walked -/
theorem range_it {pins : List (Addr × Obj)} {σ : St} {H : Hp} {s : Shared} {R : It → Hp → Prop} {E : Value → Shared → Prop} {lo hi : Int} {t u v : Tok} {tk : Nat} (I : Inv X pins σ H s) (h1 : -(2 ^ 62) ≤ lo) (h2 : lo < 2 ^ 62) (h3 : -(2 ^ 62) ≤ hi) (h4 : hi < 2 ^ 62)
    (q : R (Itr lo (hi - lo).toNat) H) : wpAny (model X.prog X.w) X.A (pyIter (.ref s.heap.objs.size)) (PIE X pins σ tg R) E { s with heap := s.heap.push { cls := .type "range", data := .fields #[.int lo t, .int hi u, .int 1 v] }, toks := tk } := by
  refine wpAny_pyIter_range (IsRange.new ..) (small_one h1 h2 h3 h4) ?_
  have I1 : Inv X pins σ H { s with heap := s.heap.push { cls := .type "range", data := .fields #[.int lo t, .int hi u, .int 1 v] }, toks := tk } := I.kept fun b o e => Heap.get?_push_of_some _ e
  refine ⟨(s.heap.push { cls := .type "range", data := .fields #[.int lo t, .int hi u, .int 1 v] }).objs.size, [(s.heap.push { cls := .type "range", data := .fields #[.int lo t, .int hi u, .int 1 v] }).objs.size], _, _, H, rfl,
    I1.kept (t' := tk) fun b o e => Heap.get?_push_of_some _ e, turn_range _ lo (hi - lo).toNat, ?_, fun b hb => ?_, q⟩
  · have e1 : lo + ((0 : Nat) : Int) * 1 = lo := by simp
    have e2 : (((hi - lo).toNat : Nat) : Int) - ((0 : Nat) : Int) = Builtin.Range.rangeSize lo hi 1 := by rw [rangeSize_one]; split <;> omega
    show IsRangeIter _ _ (lo + ((0 : Nat) : Int) * 1) ((((hi - lo).toNat : Nat) : Int) - ((0 : Nat) : Int)) 1
    rw [e1, e2]
    exact Heap.get?_push_size _ rfl
  · have e : b = (s.heap.push { cls := .type "range", data := .fields #[.int lo t, .int hi u, .int 1 v] }).objs.size := by simpa using hb
    subst e
    exact I1.fpOk (Nat.le_refl _) (I1.hok.fresh (Nat.le_refl _))
def iRng1 (ta : TA) : TI := fun σ H R => ta σ H fun vs H1 => ∃ j : Int, vs = [.int j] ∧ -(2 ^ 62) ≤ j ∧ j < 2 ^ 62 ∧ R (Itr 0 j.toNat) H1
theorem pi_range1 {a : Expr} {ta : TA} {p pos : Pos} (hg : Gl X "range") (hm : X.mg "range" = none) (ha : PA X [a] ta) (hs : starEach [a] X.env = [(false, eval a X.env)] := by rfl) : PI X tg (.Call (.Name "range" p) [a] [] pos) (iRng1 ta) := by
  intro pins s σ H R I h
  refine Call_ (ld_blt I hg hm boot_range (PyProof.Rows.callWith_type1 (thn (ha pos pins s σ H _ I h) fun us s1 ⟨vs, H1, I1, r1, q1⟩ => ?_) hs rfl))
  obtain ⟨j, e, q1, q2, q⟩ := q1
  subst e
  cases r1 with
  | cons r rr =>
    cases rr
    obtain ⟨t, rfl⟩ := r
    exact call_range_1 (range_it I1 (by omega) (by omega) q1 q2 (by simpa using q))
/-! ### for -/
/-- W: the invariant by the turn and a measure; N: what the body is to reach -/
def tFor (wi : TI) (g : TG) (tb : TS) : TS := fun D σ H => wi σ H fun J H1 => ∃ W : Nat → Nat → St → Hp → Prop, (∃ m, W 0 m σ H1) ∧ ∀ i m σ H, W i m σ H →
  (J.stop i H ∧ D.nx σ H) ∨ (J.go i H ∧ ∃ N : St → Hp → Prop, (∀ σ' H', N σ' H' → ∃ m', m' < m ∧ W (i + 1) m' σ' H') ∧ ∀ x H', J.yld i H x H' → g x σ H' fun σ2 H2 => tb { D with nx := N, ct := N, bk := D.nx } σ2 H2)
/-- the records at fp as they stand -/
def pinsAt (fp : List Addr) (h : Heap) : List (Addr × Obj) := fp.filterMap fun b => (h.get? b).map fun o => (b, o)
theorem mem_pinsAt {fp : List Addr} {h : Heap} {b : Addr} {o : Obj} (hb : b ∈ fp) (e : h.get? b = some o) : (b, o) ∈ pinsAt fp h := List.mem_filterMap.mpr ⟨b, hb, by rw [e]; rfl⟩
theorem of_pinsAt {fp : List Addr} {h : Heap} {p : Addr × Obj} (hp : p ∈ pinsAt fp h) : p.1 ∈ fp ∧ h.get? p.1 = some p.2 := by
  obtain ⟨b, hb, e⟩ := List.mem_filterMap.mp hp
  cases q : h.get? b with
  | none => rw [q] at e; cases e
  | some o =>
    rw [q] at e
    have e' : (b, o) = p := Option.some.inj e
    subst e'
    exact ⟨hb, q⟩
theorem Inv.pinned {pins : List (Addr × Obj)} {σ : St} {H : Hp} {s : Shared} {fp : List Addr} (I : Inv X pins σ H s) (hf : ∀ b ∈ fp, FpOk X pins H b) (ho : ∀ b ∈ fp, ∃ o, s.heap.get? b = some o ∧ ∀ v, o.data ≠ .cell v) : Inv X (pins ++ pinsAt fp s.heap) σ H s :=
  I.pins_of fun p hp => (List.mem_append.mp hp).elim (fun z => I.pin p (List.mem_append_right _ z)) fun z => by
    obtain ⟨hb, e⟩ := of_pinsAt z
    obtain ⟨f0, f1, f2, _⟩ := hf p.1 hb
    obtain ⟨o, e', d⟩ := ho p.1 hb
    rw [e] at e'; cases e'
    exact ⟨e, f0, f1, f2, d⟩
theorem Inv.unpinned {pins pl : List (Addr × Obj)} {σ : St} {H : Hp} {s : Shared} (I : Inv X (pins ++ pl) σ H s) : Inv X pins σ H s := I.pins_of fun p hp => I.pin p (List.mem_append_right _ (List.mem_append_left _ hp))
theorem ps_for {iter : Expr} {body : List Stmt} {wi : TI} {g : TG} {tb : TS} {pos : Pos} (hp : PassesOwn (model X.prog X.w) X.A X.env X.xe) (hc : X.calm = true) (hi : PI X tg iter wi) (hg : PG X tg g) (hb : PSs X body tb)
    (hs : ∀ x, foldedSetIterable iter X.env x = pure x := by intro _; rfl) : PS X (.For tg iter body [] pos) (tFor wi g tb) := by
  intro pins s σ H D I h
  refine wpAny_For (thn (hi pins s σ H _ I h) fun v s1 h1 => thn h1 fun itv s2 h2 => ?_) hs
  obtain ⟨it, fp, tn, J, H2, e, I2, T, st2, f2, W, ⟨m0, w0⟩, turn⟩ := h2
  subst e
  -- what stays true of the iterator's objects through the loop
  have stat : ∀ {H' : Hp}, (∀ b ∈ fp, H' b = none) → ∀ b ∈ fp, FpOk X pins H' b := fun hn b hb => ⟨hn b hb, (f2 b hb).2⟩
  refine codeAny_forLoop_any (fun n s' => ∃ i σ' H', Inv X pins σ' H' s' ∧ tn i s'.heap ∧ (∀ b ∈ fp, H' b = none) ∧ W i n σ' H') ?_ m0 ⟨0, σ, H2, I2, st2, fun b hb => (f2 b hb).1, w0⟩
  rintro n s3 ⟨i, σ3, H3, I3, st3, fr3, w3⟩
  rcases turn i n σ3 H3 w3 with ⟨stop, qn⟩ | ⟨go, N, hN, step⟩
  · refine wpAny_passesOwn hp (thn (T.done X rfl rfl rfl hc i pins s3 σ3 H3 X.xe I3 (stat fr3) st3 stop) fun r s4 ⟨hr, I4⟩ => ?_)
    subst hr
    exact wpAny_execs_nil ⟨σ3, H3, I4, qn⟩
  · refine wpAny_passesOwn hp (thn (T.item X rfl rfl rfl hc i pins s3 σ3 H3 X.xe I3 (stat fr3) st3 go) fun r s4 ⟨u, hr, h4⟩ => ?_)
    subst hr
    refine wpAny_passesOwn hp (thn h4 fun _ s5 ⟨x, H5, I5, r5, y5, st5, fr5⟩ => ?_)
    have I5' := I5.pinned (stat fr5) (T.obj _ _ st5)
    refine wpAny_passesOwn hp (thn (hg _ s5 σ3 H5 x u _ I5' r5 (step x H5 y5)) fun _ s6 ⟨σ6, H6, I6, q6⟩ => ?_)
    refine wpAny_passesOwn hp (thn (hb _ s6 σ6 H6 _ I6 q6) fun f s7 q7 => ?_)
    have again : ∀ {σ7 : St} {H7 : Hp}, Inv X (pins ++ pinsAt fp s5.heap) σ7 H7 s7 → N σ7 H7 → ∃ m, m < n ∧ ∃ i σ' H', Inv X pins σ' H' s7 ∧ tn i s7.heap ∧ (∀ b ∈ fp, H' b = none) ∧ W i m σ' H' := fun {σ7 H7} I7 n7 => by
      obtain ⟨m', hm, w7⟩ := hN σ7 H7 n7
      refine ⟨m', hm, i + 1, σ7, H7, I7.unpinned, T.keep _ _ _ st5 fun b hb o e => (I7.pin (b, o) (List.mem_append_right _ (List.mem_append_right _ (mem_pinsAt hb e)))).1, fun b hb => ?_, w7⟩
      obtain ⟨o, e, d⟩ := T.obj _ _ st5 b hb
      exact (I7.pin (b, o) (List.mem_append_right _ (List.mem_append_right _ (mem_pinsAt hb e)))).2.1
    cases f with
    | next => obtain ⟨σ7, H7, I7, n7⟩ := q7; exact again I7 n7
    | cont => obtain ⟨σ7, H7, I7, n7⟩ := q7; exact again I7 n7
    | brk => obtain ⟨σ7, H7, I7, q7⟩ := q7; exact ⟨σ7, H7, I7.unpinned, q7⟩
    | ret v => obtain ⟨x7, σ7, H7, I7, r7, q7⟩ := q7; exact ⟨x7, σ7, H7, I7.unpinned, r7, q7⟩
end

/-! ### the forms one uses -/
end L2

namespace L2
open PySem PySem.Spec PyProof.Rows

abbrev R2 := V → V → Hp → VK → Prop
/-- a two-place operation on values: f is binaryOp op, inplaceOp op or compareOp op -/
def OpR (X : Cx) (f : Value → Value → Sem Value) (r : R2) : Prop :=
  ∀ (pins : List (Addr × Obj)) (s : Shared) (σ : St) (H : Hp) (x y : V) (v u : Value) (Q : VK), Inv X pins σ H s → RelV x v → RelV y u → r x y H Q →
    wpAny (model X.prog X.w) X.A (f v u) (EP X pins σ Q) X.xe s
/-- a call of a value that is known (a builtin, a type) with values -/
def CallR (X : Cx) (f : Value) (r : List V → Hp → VK → Prop) : Prop :=
  ∀ (pins : List (Addr × Obj)) (s : Shared) (σ : St) (H : Hp) (xs : List V) (us : List Value) (Q : VK), Inv X pins σ H s → Vals xs us → r xs H Q →
    wpAny (model X.prog X.w) X.A (call f us) (EP X pins σ Q) X.xe s
/-- a value's truth -/
def TruR (X : Cx) (r : V → Hp → (Bool → Hp → Prop) → Prop) : Prop :=
  ∀ (pins : List (Addr × Obj)) (s : Shared) (σ : St) (H : Hp) (x : V) (v : Value) (Q : Bool → Hp → Prop), Inv X pins σ H s → RelV x v → r x H Q →
    wpAny (model X.prog X.w) X.A (truthy v) (TP X pins σ Q) X.xe s

def tOp (r : R2) (ta tb : TE) : TE := fun σ H Q => ta σ H fun x H1 => tb σ H1 fun y H2 => r x y H2 Q
/-- ints in, under C, and a value out -/
def rI (C : Int → Int → Prop) (g : Int → Int → V) : R2 := fun x y H Q => ∃ i j, x = .int i ∧ y = .int j ∧ C i j ∧ Q (g i j) H
def rI0 (g : Int → Int → V) : R2 := fun x y H Q => ∃ i j, x = .int i ∧ y = .int j ∧ Q (g i j) H
section
variable {X : Cx} {a b c : Expr} {ta tb tc : TE} {pos : Pos}

theorem binT (ha : PE X a ta) (hb : PE X b tb) {pins : List (Addr × Obj)} {s : Shared} {σ : St} {H : Hp} {R : V → V → Hp → Prop} (I : Inv X pins σ H s)
    (h : ta σ H fun x H1 => tb σ H1 fun y H2 => R x y H2) {Q : Value → Shared → Prop} {f : Value → Value → Sem Value}
    (hf : ∀ v u s2 x y H2, Inv X pins σ H2 s2 → RelV x v → RelV y u → R x y H2 → wpAny (model X.prog X.w) X.A (f v u) Q X.xe s2) :
    wpAny (model X.prog X.w) X.A (eval a X.env) (fun v s₁ => wpAny (model X.prog X.w) X.A (eval b X.env) (fun u s₂ => wpAny (model X.prog X.w) X.A (f v u) Q X.xe s₂) X.xe s₁) X.xe s := by
  refine thn (ha pins s σ H _ I h) fun v s1 ⟨x, H1, I1, r1, q1⟩ => ?_
  refine thn (hb pins s1 σ H1 _ I1 q1) fun u s2 ⟨y, H2, I2, r2, q2⟩ => ?_
  exact hf v u s2 x y H2 I2 r1 r2 q2

theorem pe_op {op : Operator} {r : R2} (ho : OpR X (binaryOp op) r) (ha : PE X a ta) (hb : PE X b tb) : PE X (.BinOp a op b pos) (tOp r ta tb) := by
  intro pins s σ H Q I h
  exact wpAny_BinOp (binT ha hb I h fun v u s2 x y H2 I2 rx ry q => ho pins s2 σ H2 x y v u Q I2 rx ry q)
/-! ### ints -/
theorem opI {f : Value → Value → Sem Value} {C : Int → Int → Prop} {g : Int → Int → Int}
    (rule : ∀ (i j : Int) (t u : Tok) (s : Shared) (Q : Value → Shared → Prop) (E : Value → Shared → Prop), C i j → Q (.int (g i j) s.toks) { s with toks := s.toks + 1 } → wpAny (model X.prog X.w) X.A (f (.int i t) (.int j u)) Q E s) :
    OpR X f (rI C fun i j => .int (g i j)) := by
  intro pins s σ H x y v u Q I rx ry h
  obtain ⟨i, j, rfl, rfl, hc, q⟩ := h
  obtain ⟨t, rfl⟩ := rx
  obtain ⟨t', rfl⟩ := ry
  exact rule i j t t' s _ _ hc ⟨.int (g i j), H, I.tok _, ⟨_, rfl⟩, q⟩
theorem opI0 {f : Value → Value → Sem Value} {g : Int → Int → Int}
    (rule : ∀ (i j : Int) (t u : Tok) (s : Shared) (Q : Value → Shared → Prop) (E : Value → Shared → Prop), Q (.int (g i j) s.toks) { s with toks := s.toks + 1 } → wpAny (model X.prog X.w) X.A (f (.int i t) (.int j u)) Q E s) :
    OpR X f (rI0 fun i j => .int (g i j)) := by
  intro pins s σ H x y v u Q I rx ry h
  obtain ⟨i, j, rfl, rfl, q⟩ := h
  obtain ⟨t, rfl⟩ := rx
  obtain ⟨t', rfl⟩ := ry
  exact rule i j t t' s _ _ ⟨.int (g i j), H, I.tok _, ⟨_, rfl⟩, q⟩
theorem opB0 {f : Value → Value → Sem Value} {g : Int → Int → Bool}
    (rule : ∀ (i j : Int) (t u : Tok) (s : Shared) (Q : Value → Shared → Prop) (E : Value → Shared → Prop), Q (.bool (g i j)) s → wpAny (model X.prog X.w) X.A (f (.int i t) (.int j u)) Q E s) :
    OpR X f (rI0 fun i j => .bl (g i j)) := by
  intro pins s σ H x y v u Q I rx ry h
  obtain ⟨i, j, rfl, rfl, q⟩ := h
  obtain ⟨t, rfl⟩ := rx
  obtain ⟨t', rfl⟩ := ry
  exact rule i j t t' s _ _ ⟨.bl (g i j), H, I, rfl, q⟩

def CPow (i j : Int) : Prop := 0 ≤ j ∧ j ≤ 1000000 ∧ i.natAbs < 2 ^ 64
def CMul (i j : Int) : Prop := (-(2 ^ 64) < i ∧ i < 2 ^ 64) ∨ (-(2 ^ 64) < j ∧ j < 2 ^ 64)
theorem CMul.ok {i j : Int} (h : CMul i j) : IntMulOk i j := by
  rcases h with ⟨h1, h2⟩ | ⟨h1, h2⟩
  · exact .of_left (intBits_le_64 h1 h2)
  · exact .of_right (intBits_le_64 h1 h2)
theorem two_pow_nn (k : Nat) : (0 : Int) ≤ 2 ^ k := by
  rw [two_pow_cast]
  exact Int.natCast_nonneg _

theorem op_add : OpR X (binaryOp .Add) (rI0 fun i j => .int (i + j)) := opI0 fun _ _ _ _ _ _ _ q => add_int q
theorem op_sub : OpR X (binaryOp .Sub) (rI0 fun i j => .int (i - j)) := opI0 fun _ _ _ _ _ _ _ q => sub_int q
theorem op_mul : OpR X (binaryOp .Mult) (rI CMul fun i j => .int (i * j)) := opI fun _ _ _ _ _ _ _ hc q => mul_int q hc.ok
/-- % by a positive divisor of any size -/
theorem op_mod : OpR X (binaryOp .Mod) (rI (fun _ j => 0 < j) fun i j => .int (i % j)) := opI fun i j _ _ _ _ _ hc q => by
  have h1 : (0 : Int) < j := hc
  exact mod_int' (by omega) (by rw [Int.fmod_eq_emod_of_nonneg i (by omega)]; exact q)
theorem op_shl : OpR X (binaryOp .LShift) (rI CPow fun i j => .int (i * 2 ^ j.toNat)) := opI fun _ _ _ _ _ _ _ hc q => lshift_int_small hc.1 hc.2.1 hc.2.2 q
theorem op_shr : OpR X (binaryOp .RShift) (rI (fun _ j => 0 ≤ j) fun i j => .int (i / 2 ^ j.toNat)) := opI fun i j _ _ _ _ _ hc q =>
  rshift_int hc (by rw [Int.fdiv_eq_ediv_of_nonneg i (two_pow_nn _)]; exact q)
theorem op_and : OpR X (binaryOp .BitAnd) (rI0 fun i j => .int (Builtin.bitAnd i j)) := opI0 fun _ _ _ _ _ _ _ q => and_int q
/-! ### bools among ints: n += (a < b) -/
end

/-! ### comparisons -/
/-- the scalars that == tells apart as data does -/
def scal : V → V → Bool
  | .non, .non => true | .non, .int _ => true | .int _, .non => true | .non, .bl _ => true | .bl _, .non => true | .non, .str _ => true | .str _, .non => true
  | .int _, .int _ => true | .bl _, .bl _ => true | .str _, .str _ => true | .byt _, .byt _ => true
  | .int _, .str _ => true | .str _, .int _ => true | .bl _, .str _ => true | .str _, .bl _ => true
  | _, _ => false
def rEq : R2 := fun x y H Q => scal x y = true ∧ Q (.bl (decide (x = y))) H
def rNe : R2 := fun x y H Q => scal x y = true ∧ Q (.bl (!decide (x = y))) H

theorem dec_int {i j : Int} : decide (V.int i = V.int j) = (i == j) := by
  rw [Bool.eq_iff_iff]
  simp
theorem dec_bl {i j : Bool} : decide (V.bl i = V.bl j) = (i == j) := by
  rw [Bool.eq_iff_iff]
  simp
theorem dec_str {i j : Str} : decide (V.str i = V.str j) = (i == j) := by
  rw [Bool.eq_iff_iff]
  simp
theorem dec_byt {i j : Array UInt8} : decide (V.byt i = V.byt j) = (i.toList == j.toList) := by
  rw [Bool.eq_iff_iff]
  cases i
  cases j
  simp

section
variable {X : Cx} {a b c : Expr} {ta tb tc : TE} {pos : Pos}
theorem fin_bl {pins : List (Addr × Obj)} {σ : St} {H : Hp} {s : Shared} {Q : VK} {k k' : Bool} (I : Inv X pins σ H s) (q : Q (.bl k) H) (e : k = k') : EP X pins σ Q (.bool k') s := by
  subst e
  exact ⟨.bl k, H, I, rfl, q⟩
theorem op_eq : OpR X (compareOp .Eq) rEq := by
  intro pins s σ H x y v u Q I rx ry h
  obtain ⟨hs, q⟩ := h
  cases x with
  | non =>
    cases rx
    cases y with
    | non => cases ry; exact PySem.EqNone.eq_none_none (fin_bl I q (by simp))
    | bl j => cases ry; exact PySem.EqNone.eq_none_bool (fin_bl I q (by simp))
    | int j => obtain ⟨t', rfl⟩ := ry; exact PySem.EqNone.eq_none_int (fin_bl I q (by simp))
    | str j => obtain ⟨t', rfl⟩ := ry; exact PySem.EqNone.eq_none_str (fin_bl I q (by simp))
    | _ => exact absurd (show false = true from hs) Bool.false_ne_true
  | bl i =>
    cases rx
    cases y with
    | non => cases ry; exact PySem.EqNone.eq_bool_none (fin_bl I q (by simp))
    | bl j => cases ry; exact eq_bool (fin_bl I q dec_bl)
    | str j => obtain ⟨t', rfl⟩ := ry; exact PySem.EqMixed.eq_bool_str (fin_bl I q (by simp))
    | _ => exact absurd (show false = true from hs) Bool.false_ne_true
  | int i =>
    obtain ⟨t, rfl⟩ := rx
    cases y with
    | non => cases ry; exact PySem.EqNone.eq_int_none (fin_bl I q (by simp))
    | int j => obtain ⟨t', rfl⟩ := ry; exact eq_int (fin_bl I q dec_int)
    | str j => obtain ⟨t', rfl⟩ := ry; exact PySem.EqMixed.eq_int_str (fin_bl I q (by simp))
    | _ => exact absurd (show false = true from hs) Bool.false_ne_true
  | str i =>
    obtain ⟨t, rfl⟩ := rx
    cases y with
    | non => cases ry; exact PySem.EqNone.eq_str_none (fin_bl I q (by simp))
    | bl j => cases ry; exact PySem.EqMixed.eq_str_bool (fin_bl I q (by simp))
    | int j => obtain ⟨t', rfl⟩ := ry; exact PySem.EqMixed.eq_str_int (fin_bl I q (by simp))
    | str j => obtain ⟨t', rfl⟩ := ry; exact eq_str (fin_bl I q dec_str)
    | _ => exact absurd (show false = true from hs) Bool.false_ne_true
  | byt i =>
    obtain ⟨t, rfl⟩ := rx
    cases y with
    | byt j => obtain ⟨t', rfl⟩ := ry; exact PySem.W.eq_bytes (fin_bl I q dec_byt)
    | _ => exact absurd (show false = true from hs) Bool.false_ne_true
  | _ => cases y <;> exact absurd (show false = true from hs) Bool.false_ne_true
theorem op_ne : OpR X (compareOp .NotEq) rNe := by
  intro pins s σ H x y v u Q I rx ry h
  obtain ⟨hs, q⟩ := h
  cases x with
  | non =>
    cases rx
    cases y with
    | non => cases ry; exact PySem.EqNone.ne_none_none (fin_bl I q (by simp))
    | bl j => cases ry; exact PySem.EqNone.ne_none_bool (fin_bl I q (by simp))
    | int j => obtain ⟨t', rfl⟩ := ry; exact PySem.EqNone.ne_none_int (fin_bl I q (by simp))
    | str j => obtain ⟨t', rfl⟩ := ry; exact PySem.EqNone.ne_none_str (fin_bl I q (by simp))
    | _ => exact absurd (show false = true from hs) Bool.false_ne_true
  | bl i =>
    cases rx
    cases y with
    | non => cases ry; exact PySem.EqNone.ne_bool_none (fin_bl I q (by simp))
    | bl j => cases ry; exact ne_bool (fin_bl I q (congrArg not dec_bl))
    | str j => obtain ⟨t', rfl⟩ := ry; exact PySem.EqMixed.ne_bool_str (fin_bl I q (by simp))
    | _ => exact absurd (show false = true from hs) Bool.false_ne_true
  | int i =>
    obtain ⟨t, rfl⟩ := rx
    cases y with
    | non => cases ry; exact PySem.EqNone.ne_int_none (fin_bl I q (by simp))
    | int j => obtain ⟨t', rfl⟩ := ry; exact ne_int (fin_bl I q (congrArg not dec_int))
    | str j => obtain ⟨t', rfl⟩ := ry; exact PySem.EqMixed.ne_int_str (fin_bl I q (by simp))
    | _ => exact absurd (show false = true from hs) Bool.false_ne_true
  | str i =>
    obtain ⟨t, rfl⟩ := rx
    cases y with
    | non => cases ry; exact PySem.EqNone.ne_str_none (fin_bl I q (by simp))
    | bl j => cases ry; exact PySem.EqMixed.ne_str_bool (fin_bl I q (by simp))
    | int j => obtain ⟨t', rfl⟩ := ry; exact PySem.EqMixed.ne_str_int (fin_bl I q (by simp))
    | str j => obtain ⟨t', rfl⟩ := ry; exact ne_str (fin_bl I q (congrArg not dec_str))
    | _ => exact absurd (show false = true from hs) Bool.false_ne_true
  | byt i =>
    obtain ⟨t, rfl⟩ := rx
    cases y with
    | byt j => obtain ⟨t', rfl⟩ := ry; exact PySem.W.ne_bytes (fin_bl I q (congrArg not dec_byt))
    | _ => exact absurd (show false = true from hs) Bool.false_ne_true
  | _ => cases y <;> exact absurd (show false = true from hs) Bool.false_ne_true

theorem op_lt : OpR X (compareOp .Lt) (rI0 fun i j => .bl (decide (i < j))) := opB0 fun _ _ _ _ _ _ _ q => lt_int q
theorem op_ge : OpR X (compareOp .GtE) (rI0 fun i j => .bl (decide (j ≤ i))) := opB0 fun _ _ _ _ _ _ _ q => ge_int q
/-- two rules for one operation: by cases -/
theorem OpR.or {f : Value → Value → Sem Value} {r r' : R2} (h : OpR X f r) (h' : OpR X f r') : OpR X f (fun x y H Q => r x y H Q ∨ r' x y H Q) := by
  intro pins s σ H x y v u Q I rx ry q
  rcases q with q | q
  · exact h pins s σ H x y v u Q I rx ry q
  · exact h' pins s σ H x y v u Q I rx ry q

theorem nomark (b : Expr) {op : CmpOp} (h : op ≠ .In := by decide) (h2 : op ≠ .NotIn := by decide) : behindInMarks op b = false := by
  have e1 : (op == CmpOp.In) = false := by cases op <;> first | rfl | exact absurd rfl h
  have e2 : (op == CmpOp.NotIn) = false := by cases op <;> first | rfl | exact absurd rfl h2
  cases b <;> simp [behindInMarks, e1, e2]
/-- a comparison as a value; hm: nomark b, or (for in, not in) by with_unfolding_all rfl -/
theorem pe_cmpR {op : CmpOp} {r : R2} (ho : OpR X (compareOp op) r) (ha : PE X a ta) (hb : PE X b tb) (hm : behindInMarks op b = false) : PE X (.Compare a [op] [b] pos) (tOp r ta tb) := by
  intro pins s σ H Q I h
  exact wpAny_Compare1 (binT ha hb I h fun v u s2 x y H2 I2 rx ry q => ho pins s2 σ H2 x y v u Q I2 rx ry q) hm
/-- a reading of a value as a test -/
def tTest (t : TE) : TT := fun σ H Q => t σ H fun x H' => ∃ k, x = .bl k ∧ Q k H'
theorem pt_cmpR {op : CmpOp} {r : R2} (ho : OpR X (compareOp op) r) (ha : PE X a ta) (hb : PE X b tb) (hm : behindInMarks op b = false) : PT X (.Compare a [op] [b] pos) (tTest (tOp r ta tb)) := by
  intro pins s σ H Q I h
  refine wpAny_isTrue_Compare1 (thn (ha pins s σ H _ I h) fun v s1 ⟨x, H1, I1, r1, q1⟩ => thn (hb pins s1 σ H1 _ I1 q1) fun u s2 ⟨y, H2, I2, r2, q2⟩ =>
    thn (ho pins s2 σ H2 x y v u _ I2 r1 r2 q2) fun c s3 ⟨z, H3, I3, r3, k, e, q3⟩ => ?_) hm
  subst e
  cases r3
  exact wpAny_truthy_bool ⟨H3, I3, q3⟩
/-! ### truth -/
/-- a value's truth by the abstract heap -/
def TruV (K : PySem.W.Frag) (x : V) (H : Hp) (k : Bool) : Prop :=
  match x with
  | .non => k = false
  | .bl b => k = b
  | .int i => k = (i != 0)
  | .str y => y.length ≤ sizeLine ∧ k = ((y.length : Int) != 0)
  | .byt y => y.size ≤ sizeLine ∧ k = ((y.size : Int) != 0)
  | .ref p => (∃ xs, SqL K H p xs ∧ k = !xs.isEmpty) ∨ (∃ xs, SqT K H p xs ∧ k = !xs.isEmpty) ∨ ∃ kvs, H p = some (.dK kvs) ∧ k = !kvs.isEmpty
  | _ => False
theorem isEmpty_kv {κ : Type} {kvs : List (κ × V)} {vs : List (κ × Value)} (r : KV kvs vs) : (!vs.isEmpty) = !kvs.isEmpty := by
  cases r <;> rfl
theorem isEmpty_of {xs : List V} {its : List Value} (r : Vals xs its) : (!its.toArray.isEmpty) = !xs.isEmpty := by
  cases r <;> simp
theorem line63 : (sizeLine : Nat) < 2 ^ 63 := by rw [sizeLine_eq]; decide
theorem tru_ok : TruR X (fun x H Q => ∃ k, TruV X.K x H k ∧ Q k H) := by
  intro pins s σ H x v Q I rx h
  obtain ⟨k, e, q⟩ := h
  have hl := line63
  have hs : sizeLine = 16777216 := sizeLine_eq
  cases x with
  | non =>
    cases rx
    have e' : k = false := e
    subst e'
    exact truthy_none ⟨H, I, q⟩
  | bl b =>
    cases rx
    have e' : k = b := e
    subst e'
    exact wpAny_truthy_bool ⟨H, I, q⟩
  | int i =>
    obtain ⟨t, rfl⟩ := rx
    have e' : k = (i != 0) := e
    subst e'
    exact PySem.P.truthy_int ⟨H, I, q⟩
  | str y =>
    obtain ⟨t, rfl⟩ := rx
    obtain ⟨hy, e'⟩ : y.length ≤ sizeLine ∧ k = ((y.length : Int) != 0) := e
    subst e'
    exact PySem.P.truthy_str (by omega) ⟨H, I.tok _, q⟩
  | byt y =>
    obtain ⟨t, rfl⟩ := rx
    obtain ⟨hy, e'⟩ : y.size ≤ sizeLine ∧ k = ((y.size : Int) != 0) := e
    subst e'
    exact PySem.W.truthy_bytes (by omega) ⟨H, I.tok _, q⟩
  | ref p =>
    cases rx
    have e' : (∃ xs, SqL X.K H p xs ∧ k = !xs.isEmpty) ∨ (∃ xs, SqT X.K H p xs ∧ k = !xs.isEmpty) ∨ ∃ kvs, H p = some (.dK kvs) ∧ k = !kvs.isEmpty := e
    rcases e' with ⟨xs, hx, e'⟩ | ⟨xs, hx, e'⟩ | ⟨kvs, hx, e'⟩
    · subst e'
      obtain ⟨its, r, pl, hz⟩ := I.list hx
      have hlen := r.length
      exact wpAny_truthy_list pl.isList (by simp only [List.size_toArray]; omega) ⟨H, I.tok _, by rw [isEmpty_of r]; exact q⟩
    · subst e'
      obtain ⟨its, r, pl, hz⟩ := I.tuple hx
      have hlen := r.length
      exact truthy_tuple pl (by simp only [List.size_toArray]; omega) ⟨H, I.tok _, by rw [isEmpty_of r]; exact q⟩
    · subst e'
      obtain ⟨hz, hS, vs, r, m⟩ : kvs.length ≤ sizeLine ∧ (p == sysModules) = false ∧ ∃ vs, KV kvs vs ∧ s.heap.DictOf (mixKind X.prog X.w) p vs := I.hok p _ hx
      have hlen : kvs.length = vs.length := Paired.length r
      exact wpAny_truthy_dict hS m (by omega) ⟨H, I.tok _, by rw [isEmpty_kv r]; exact q⟩
  | _ => exact (show False from e).elim
/-- any expression whose test is its value's truth (a name, a call, a subscript, a field ..: he by fun _ => rfl) -/
theorem pt_truth (ha : PE X a ta) (he : ∀ whole, isTrue a X.env whole = (do let v ← whole; standAt a.pos; holding [v] (truthy v))) :
    PT X a (fun σ H Q => ta σ H fun x H' => ∃ k, TruV X.K x H' k ∧ Q k H') := by
  intro pins s σ H Q I h
  exact isTrue_plain (thn (ha pins s σ H _ I h) fun v s1 ⟨x, H1, I1, r1, q1⟩ => tru_ok pins s1 σ H1 x v Q I1 r1 q1) (he _)

/-! ### strs and bytes -/
theorem op_add_str : OpR X (binaryOp .Add) (fun x y H Q => ∃ i j, x = .str i ∧ y = .str j ∧ i.length + j.length ≤ sizeLine ∧ Q (.str (i ++ j)) H) := by
  intro pins s σ H x y v u Q I rx ry h
  obtain ⟨i, j, rfl, rfl, hz, q⟩ := h
  obtain ⟨t, rfl⟩ := rx
  obtain ⟨t', rfl⟩ := ry
  exact add_str (fun t' tk => ⟨.str (i ++ j), H, I.tok _, ⟨_, rfl⟩, q⟩) hz
/-! ### scalar builtins, by CallR -/
theorem vals1 {x : V} {us : List Value} (r : Vals [x] us) : ∃ u, us = [u] ∧ RelV x u := by
  cases r with
  | cons r1 r2 => cases r2; exact ⟨_, rfl, r1⟩
theorem vals2 {x y : V} {us : List Value} (r : Vals [x, y] us) : ∃ u w', us = [u, w'] ∧ RelV x u ∧ RelV y w' := by
  cases r with
  | cons r1 r2 =>
    cases r2 with
    | cons r3 r4 => cases r4; exact ⟨_, _, rfl, r1, r3⟩
theorem call_max2 (hc : X.calm = true) : CallR X (.builtin "max") (fun xs H Q => ∃ i j, xs = [.int i, .int j] ∧ Q (.int (if j > i then j else i)) H) := by
  intro pins s σ H xs us Q I r h
  obtain ⟨i, j, rfl, q⟩ := h
  obtain ⟨u, w', rfl, ⟨t, rfl⟩, ⟨t', rfl⟩⟩ := vals2 r
  refine max_two_ints (I.ok.hd hc) fun h' tk k => ⟨_, H, I.kept k, ?_, q⟩
  by_cases hj : j > i
  · rw [if_pos hj, if_pos hj]; exact ⟨_, rfl⟩
  · rw [if_neg hj, if_neg hj]; exact ⟨_, rfl⟩
theorem call_min2 (hc : X.calm = true) : CallR X (.builtin "min") (fun xs H Q => ∃ i j, xs = [.int i, .int j] ∧ Q (.int (if j < i then j else i)) H) := by
  intro pins s σ H xs us Q I r h
  obtain ⟨i, j, rfl, q⟩ := h
  obtain ⟨u, w', rfl, ⟨t, rfl⟩, ⟨t', rfl⟩⟩ := vals2 r
  refine min_two_ints (I.ok.hd hc) fun h' tk k => ⟨_, H, I.kept k, ?_, q⟩
  by_cases hj : j < i
  · rw [if_pos hj, if_pos hj]; exact ⟨_, rfl⟩
  · rw [if_neg hj, if_neg hj]; exact ⟨_, rfl⟩
theorem call_int1 : CallR X (.type "int") (fun xs H Q => (∃ i, xs = [.int i] ∧ Q (.int i) H) ∨ ∃ k, xs = [.bl k] ∧ Q (.int (if k then 1 else 0)) H) := by
  intro pins s σ H xs us Q I r h
  rcases h with ⟨i, rfl, q⟩ | ⟨k, rfl, q⟩
  · obtain ⟨u, rfl, t, rfl⟩ := vals1 r
    exact call_int_int ⟨.int i, H, I, ⟨_, rfl⟩, q⟩
  · obtain ⟨u, rfl, r1⟩ := vals1 r
    cases r1
    exact call_int_bool ⟨.int (if k then 1 else 0), H, I.tok _, ⟨_, rfl⟩, q⟩
end
end L2

namespace L2
open PySem PySem.Spec PyProof.Rows

/-! ### an instance, its attributes a map -/
section
variable {prog : Program} {w : World} {A : Around} {E : Value → Shared → Prop} {s : Shared} {K : PySem.W.Frag} {x dx C f : Addr} {mA : Str → Option Value} {name : Str} {v : Value}

end

/-! ### the attributes as a list of pairs -/
theorem RelO.some_of {v : V} {o : Option Value} (r : RelO (some v) o) : ∃ u, o = some u ∧ RelV v u := by
  cases o with
  | none => exact (show False from r).elim
  | some u => exact ⟨u, rfl, r⟩

/-! ### what of the text a class must have -/
structure Cls (K : PySem.W.Frag) (C : Addr) : Prop where
  pg : PySem.W.plainGet K C Str.empty = true
  hd : PySem.W.hasDictIn K C = true
  po : PySem.W.plainOver K C = true
  sa : PySem.W.findIn K (.ref C) "__setattr__" = some (some (.builtin "object.__setattr__"))
theorem Cls.get {K : PySem.W.Frag} {C : Addr} (c : Cls K C) (f : Str) : PySem.W.plainGet K C f = true := c.pg
section
variable {X : Cx} {pins : List (Addr × Obj)} {σ : St} {H : Hp} {s : Shared} {a C dx : Addr} {fs : List (Str × V)} {f : Str} {v : V} {A : Around} {E : Value → Shared → Prop}

/-- a new instance, tracked, without attributes -/
theorem Inv.made (I : Inv X pins σ H s) : Inv X pins σ (upd (upd H s.heap.objs.size (.own (s.heap.objs.size + 1))) (s.heap.objs.size + 1) (.ins C s.heap.objs.size []))
    { s with heap := (s.heap.push PySem.W.emptyDict).push (PySem.W.instObj C s.heap.objs.size) } := by
  have e1 : (s.heap.push PySem.W.emptyDict).get? s.heap.objs.size = some PySem.W.emptyDict := Heap.get?_push_size s.heap rfl
  have e2 : ((s.heap.push PySem.W.emptyDict).push (PySem.W.instObj C s.heap.objs.size)).get? (s.heap.objs.size + 1) = some (PySem.W.instObj C s.heap.objs.size) := by
    have := Heap.get?_push_size (s.heap.push PySem.W.emptyDict) (o := PySem.W.instObj C s.heap.objs.size) rfl
    rwa [Heap.size_push] at this
  have e3 : (s.heap.push PySem.W.emptyDict).Ns s.heap.objs.size (fun _ => none) := ⟨PySem.W.emptyDict, #[], _, e1, rfl, (fun e he => absurd he (by simp)), fun _ => rfl⟩
  have I1 := I.laid (a := s.heap.objs.size) (o := .own (s.heap.objs.size + 1)) (h' := s.heap.push PySem.W.emptyDict) (t' := s.toks) (fun b u q => Heap.get?_push_of_some _ q) (Nat.le_refl _) ⟨_, e1⟩
  refine I1.laid (a := s.heap.objs.size + 1) (o := .ins C s.heap.objs.size []) (t' := s.toks) (fun b u q => Heap.get?_push_of_some _ q) (Nat.le_of_eq (Heap.size_push _ _)) ?_
  have ne : s.heap.objs.size ≠ s.heap.objs.size + 1 := Nat.ne_of_lt (Nat.lt_succ_self _)
  refine ⟨by rw [upd_ne ne, upd_same], Nat.zero_le _, ne, e2, fun _ => none, (Heap.Ns1.of_empty e3).at fun o q => Heap.get?_push_of_some _ q, fun _ => True.intro, fun y hy => absurd rfl hy⟩

end

/-! ### readings and rules -/

/-! ### isinstance -/
end L2

namespace L2
open PySem PySem.Spec PyProof.Rows

/-! ### room -/
structure Room (k : Nat) (A : Around) : Prop where
  hd : A.handled = none
  dp : A.depth + 3 * k + 5 < recursionLimit
  un : A.units + 16 * k + 200 < cLine
theorem Room.mono {j k : Nat} {A : Around} (r : Room k A) (h : j ≤ k) : Room j A := ⟨r.hd, by have := r.dp; omega, by have := r.un; omega⟩
theorem Room.deeper {k : Nat} {A : Around} (r : Room (k + 1) A) (env : Env) : Room k (A.deeper env) :=
  ⟨r.hd, by have := r.dp; show A.depth + 1 + 3 * k + 5 < _; omega, by have := r.un; show A.units + 3 + 16 * k + 200 < _; omega⟩
theorem Room.in1 {k : Nat} {A : Around} (r : Room (k + 1) A) : Room k A.in1 :=
  ⟨r.hd, by have := r.dp; show A.depth + 3 * k + 5 < _; omega, by have := r.un; show A.units + 1 + 16 * k + 200 < _; omega⟩
theorem Room.depth {k : Nat} {A : Around} (r : Room k A) : A.depth < recursionLimit := by have := r.dp; omega
theorem Room.units {k : Nat} {A : Around} (r : Room k A) : A.units + 64 < cLine := by have := r.un; omega
/-! ### argument lists and displays -/
def tNil : TA := fun _ H Q => Q [] H
def tCons (ta : TE) (tr : TA) : TA := fun σ H Q => ta σ H fun x H1 => tr σ H1 fun xs H2 => Q (x :: xs) H2
section
variable {X : Cx} {e : Expr} {es : List Expr} {te : TE} {t : TA} {pos : Pos}
theorem pa_nil : PA X [] tNil := fun _ _ _ _ H Q I h => Calls.spliced_nil ⟨[], H, I, .nil, h⟩
theorem pa_cons (ha : PE X e te) (hr : PA X es t) (hs : starEach (e :: es) X.env = (false, eval e X.env) :: starEach es X.env := by rfl) : PA X (e :: es) (tCons te t) := by
  intro pos pins s σ H Q I h
  rw [hs]
  show wpAny _ _ (spliced ((false, eval e X.env) :: backTo pos (starEach es X.env))) _ _ s
  refine Calls.spliced_cons (thn (ha pins s σ H _ I h) fun u s1 ⟨x, H1, I1, r1, q1⟩ => ?_)
  exact thn (hr pos pins s1 σ H1 _ I1 q1) fun us s2 ⟨xs, H2, I2, r2, q2⟩ => ⟨x :: xs, H2, I2, .cons r1 r2, q2⟩

/-- a tuple, a list of written items -/
def tTup (t : TA) : TE := fun σ H Q => t σ H fun xs H1 => xs.length ≤ sizeLine ∧ ∀ p, H1 p = none → Q (.ref p) (upd H1 p (.tup xs))
def tLst (t : TA) : TE := fun σ H Q => t σ H fun xs H1 => xs.length ≤ sizeLine ∧ ∀ p, H1 p = none → Q (.ref p) (upd H1 p (.lst xs))
theorem pe_tup {x1} (h : PA X es t) : PE X (.Tuple es x1 pos) (tTup t) := by
  intro pins s σ H Q I hq
  refine wpAny_Tuple_spliced (thn (h pos pins s σ H _ I hq) fun us s1 ⟨xs, H1, I1, r, z, q⟩ => ⟨by rw [← r.length]; exact z, ?_⟩)
  have hf : H1 s1.heap.objs.size = none := I1.hok.fresh (Nat.le_refl _)
  refine ⟨.ref s1.heap.objs.size, upd H1 s1.heap.objs.size (.tup xs), I1.laid (t' := s1.toks) (fun b u e => Heap.get?_push_of_some _ e) (Nat.le_refl _) ?_, rfl, q _ hf⟩
  exact ⟨z, us, r, ⟨_, Heap.get?_push_size _ rfl, rfl, ⟨_, rfl⟩, rfl⟩⟩
theorem pe_lst (h : PA X es t) : PE X (.List es pos) (tLst t) := by
  intro pins s σ H Q I hq
  refine wpAny_List_spliced (thn (h pos pins s σ H _ I hq) fun us s1 ⟨xs, H1, I1, r, z, q⟩ => ⟨by rw [← r.length]; exact z, ?_⟩)
  have hf : H1 s1.heap.objs.size = none := I1.hok.fresh (Nat.le_refl _)
  refine ⟨.ref s1.heap.objs.size, upd H1 s1.heap.objs.size (.lst xs), I1.laid (t' := s1.toks) (fun b u e => Heap.get?_push_of_some _ e) (Nat.le_refl _) ?_, rfl, q _ hf⟩
  exact ⟨z, us, 0, r, Heap.get?_push_size _ rfl⟩
end

/-! ### what a def promises -/
/-- a def's promise: the bound arguments in the parameters' order, the heap, the wanted end, the wanted exception -/
abbrev Sp := List V → Hp → VK → XK → Prop
/-- how an exception lies behind a call (file 08 gives it): the callers' frames, abstract heap and state ahead of the call, the wish, the exception, the state -/
abbrev CXT := List Env → Hp → Shared → XK → Value → Shared → Prop

/-- the state at a call -/
structure Env0 (P : Program) (w : World) (K : PySem.W.Frag) (mg : Str → Option Value) (base : Heap) (A : Around) (outer : List Env) (s : Shared) (H : Hp) : Prop where
  frames : A.frames = some outer
  mod : Mod K mg base
  bs : ∀ b o, base.get? b = some o → s.heap.get? b = some o ∧ H b = none
  bsz : base.objs.size ≤ s.heap.objs.size
  funs : s.heap.FunFrames base outer
  frf : ∀ b ∈ frs outer, H b = none
  hok : HOk P w H s.heap
  bare : AllBare s.gens
/-- a call's end -/
def CE (outer : List Env) (P : Program) (w : World) (H : Hp) (s : Shared) (Q : VK) (u : Value) (s' : Shared) : Prop :=
  ∃ v H', s'.os = s.os ∧ AllBare s'.gens ∧ Un (frs outer) [] H H' s.heap s'.heap ∧ HOk P w H' s'.heap ∧ RelV v u ∧ Q v H'
def CR (CX : CXT) (outer : List Env) (P : Program) (w : World) (H : Hp) (s : Shared) (Q : VK) (E : XK) (r : Result) (s' : Shared) : Prop :=
  match r with
  | .ok (.ret u) => CE outer P w H s Q u s'
  | .ok _ => False
  | .error e => CX outer H s E e s'
structure FnOk (P : Program) (w : World) (K : PySem.W.Frag) (mg : Str → Option Value) (base : Heap) (CX : CXT) (k : Nat) (f : Addr) (fd : FuncData) (ps : List Str) (sp : Sp) : Prop where
  len : ∀ vs H Q E, sp vs H Q E → vs.length = ps.length
  run : ∀ (A : Around) (outer : List Env) (s : Shared) (H : Hp) (args : Args) (us : List Value) (vs : List V) (Q : VK) (E : XK), Room k A → Env0 P w K mg base A outer s H → BindsTo s fd args (ps.zip us) → Vals vs us → sp vs H Q E →
    codeAny (model P w) A (.call (.ref f) args) (CR CX outer P w H s Q E) s
theorem FnOk.mono {P : Program} {w : World} {K : PySem.W.Frag} {mg : Str → Option Value} {base : Heap} {CX : CXT} {j k : Nat} {f : Addr} {fd : FuncData} {ps : List Str} {sp : Sp} (F : FnOk P w K mg base CX j f fd ps sp) (h : j ≤ k) :
    FnOk P w K mg base CX k f fd ps sp := ⟨F.len, fun A outer s H args us vs Q E hr => F.run A outer s H args us vs Q E (hr.mono h)⟩
/-- a weaker promise -/
theorem FnOk.imp {P : Program} {w : World} {K : PySem.W.Frag} {mg : Str → Option Value} {base : Heap} {CX : CXT} {k : Nat} {f : Addr} {fd : FuncData} {ps : List Str} {sp sp' : Sp} (F : FnOk P w K mg base CX k f fd ps sp)
    (h : ∀ vs H Q E, sp' vs H Q E → sp vs H Q E) : FnOk P w K mg base CX k f fd ps sp' :=
  ⟨fun vs H Q E q => F.len vs H Q E (h _ _ _ _ q), fun A outer s H args us vs Q E hr he hb hv hs => F.run A outer s H args us vs Q E hr he hb hv (h _ _ _ _ hs)⟩

theorem Env0.in1 {P : Program} {w : World} {K : PySem.W.Frag} {mg : Str → Option Value} {base : Heap} {A : Around} {outer : List Env} {s : Shared} {H : Hp} (e : Env0 P w K mg base A outer s H) :
    Env0 P w K mg base A.in1 outer s H := ⟨e.frames, e.mod, e.bs, e.bsz, e.funs, e.frf, e.hok, e.bare⟩

section
variable {X : Cx} {pins : List (Addr × Obj)} {σ : St} {H : Hp} {s s' : Shared}
/-- from a body: what a callee wants -/
theorem Inv.env0 (I : Inv X pins σ H s) : Env0 X.prog X.w X.K X.mg X.base X.A X.stack s H :=
  ⟨I.ok.frames, I.ok.mod, I.bs, Nat.le_trans I.ok.bsz I.sz, I.stack, I.stkFree, I.hok, I.bare⟩
/-- behind a call -/
theorem Inv.after {Q : VK} {u : Value} (I : Inv X pins σ H s) (h : CE X.stack X.prog X.w H s Q u s') : EP X pins σ Q u s' := by
  obtain ⟨v, H', os, bare, un, hok, r, q⟩ := h
  obtain ⟨hh, g, d, t, os'⟩ := s'
  obtain rfl : os' = s.os := os
  exact ⟨v, H', I.call (h' := hh) (g' := g) (d' := d) (t' := t) (ch := []) un hok bare (fun b z => absurd z (by simp)), r, q⟩
end

/-! ### calls -/
/-- f(..): the written arguments, then the defaults dvs; E: what is wanted of an exception -/
def tCall (sp : Sp) (dvs : List V) (E : XK) (t : TA) : TE := fun σ H Q => t σ H fun vs H1 => sp (vs ++ dvs) H1 Q E
/-- how the parameters are bound: us the positional arguments, kw the keywords' values by name, ds the defaults that fill up -/
def Binds (K : PySem.W.Frag) (fd : FuncData) (ps : List Str) (ds : List Value) : Prop :=
  ∀ (s : Shared) (us : List Value), K.In s.heap → (us ++ ds).length = ps.length → BindsTo s fd ⟨us, []⟩ (ps.zip (us ++ ds))
/-- every parameter is given -/
theorem Binds.all {K : PySem.W.Frag} {fd : FuncData} {ps : List Str} (h : ∀ us : List Value, us.length = ps.length → bindArgs fd ⟨us, []⟩ = pure (ps.zip us)) : Binds K fd ps [] := fun s us _ hl => by
  rw [List.append_nil] at hl ⊢
  exact .of_eq (h us hl)

/-- an exception of a callee reaches what this body wants of exceptions -/
def Passes (CX : CXT) (X : Cx) (E : XK) : Prop := ∀ (pins : List (Addr × Obj)) (σ : St) (H : Hp) (s : Shared) (e : Value) (s' : Shared), Inv X pins σ H s → CX X.stack H s E e s' → X.xe e s'

section
variable {X : Cx} {CX : CXT} {k : Nat} {f C : Addr} {fd : FuncData} {ps : List Str} {sp : Sp} {dvs : List V} {ds : List Value} {E : XK} {x m : Str} {p pos apos : Pos} {e o : Expr} {es : List Expr} {ta : TE} {t : TA}

/-- the callee runs -/
theorem run_fn {pins : List (Addr × Obj)} {σ : St} {H : Hp} {s : Shared} {Q : VK} {us : List Value} {vs : List V} (F : FnOk X.prog X.w X.K X.mg X.base CX k f fd ps sp) (hr : Room k X.A) (hb : Binds X.K fd ps ds) (hd : Vals dvs ds) (hx : Passes CX X E)
    (I : Inv X pins σ H s) (r : Vals vs us) (h : sp (vs ++ dvs) H Q E) : wpAny (model X.prog X.w) X.A (call (.ref f) us) (EP X pins σ Q) X.xe s := by
  have r2 : Vals (vs ++ dvs) (us ++ ds) := r.append hd
  have hl : (us ++ ds).length = ps.length := by rw [← r2.length]; exact F.len _ _ _ _ h
  refine wpAny_call (codeAny_mono (F.run X.A X.stack s H ⟨us, []⟩ (us ++ ds) (vs ++ dvs) Q E hr I.env0 (hb s us I.kIn hl) r2 h) fun r s' hq => ?_)
  cases r with
  | error e => exact hx pins σ H s e s' I hq
  | ok fl =>
    cases fl with
    | ret u => exact I.after hq
    | next => exact False.elim hq
    | brk => exact False.elim hq
    | cont => exact False.elim hq

theorem pe_call (F : FnOk X.prog X.w X.K X.mg X.base CX k f fd ps sp) (hr : Room k X.A) (hg : Gl X x) (hm : X.mg x = some (.ref f)) (hk : PySem.W.keepIn X.K (.ref f) = true) (hb : Binds X.K fd ps ds) (hd : Vals dvs ds) (hx : Passes CX X E)
    (ha : PA X (e :: es) t) (hdb : (x == ("__debug__" : Str)) = false := by decide) (he : starEach (e :: es) X.env = (false, eval e X.env) :: starEach es X.env := by rfl) (hpl : (backTo pos (starEach es X.env)).any (·.1) = false := by rfl) :
    PE X (.Call (.Name x p) (e :: es) [] pos) (tCall sp dvs E t) := by
  intro pins s σ H Q I h
  refine wpAny_Call_Name_kw (ld_glob I hg hm ?_ hdb)
  refine PySem.W.callWith_K (h₀ := X.base) I.ok.mod.kin hk (thn (ha pos pins s σ H _ I h) fun us s1 ⟨vs, H1, I1, r, q⟩ => ⟨I1.kIn, ?_⟩) he hpl
  exact run_fn F hr hb hd hx I1 r q
end

/-! ### keywords -/

/-! ### a def's body keeps its promise -/
/-- names: the parameters first -/
structure FnScope (N P : List Str) (sc : Scope) : Prop where
  kind : sc.kind = .function
  co : sc.isCoroutine = false
  gen : sc.isGenerator = false
  nd : N.Nodup
  pre : N.take P.length = P
  par : ∀ x ∈ P, sc.names.lookup x = some .local ∨ sc.names.lookup x = some .cell
  nofree : ∀ y ∈ sc.names, y.2 ≠ .free

theorem bindL_out {kindOf : Str → Option NameKind} {x : Str} : ∀ {binds : List (Str × Value)} {m : Str → Option Value}, (∀ v, (x, v) ∉ binds) → bindL kindOf binds m x = m x
  | [], _, _ => rfl
  | (n, v) :: r, m, h => by
    unfold bindL
    rw [bindL_out fun w hw => h w (List.mem_cons_of_mem _ hw)]
    split
    · have : x ≠ n := by rintro rfl; exact h v List.mem_cons_self
      simp [this]
    · rfl
theorem bindC_out {kindOf : Str → Option NameKind} {x : Str} : ∀ {binds : List (Str × Value)} {m : Str → Option Value}, (∀ v, (x, v) ∉ binds) → bindC kindOf binds m x = m x
  | [], _, _ => rfl
  | (n, v) :: r, m, h => by
    unfold bindC
    rw [bindC_out fun w hw => h w (List.mem_cons_of_mem _ hw)]
    split
    · rfl
    · have : x ≠ n := by rintro rfl; exact h v List.mem_cons_self
      simp [this]
theorem bindL_get {kindOf : Str → Option NameKind} {x : Str} {v : Value} : ∀ {P : List Str} {vs : List Value} {i : Nat} {m : Str → Option Value}, P.Nodup → P[i]? = some x → vs[i]? = some v → kindOf x = some .local →
    bindL kindOf (P.zip vs) m x = some v
  | [], _, _, _, _, h, _, _ => by simp at h
  | _ :: _, [], _, _, _, _, h, _ => by simp at h
  | p :: P, w :: vs, 0, m, nd, h1, h2, hk => by
    simp at h1 h2; subst h1; subst h2
    show bindL kindOf ((p, w) :: P.zip vs) m p = _
    unfold bindL
    rw [bindL_out fun v hv => (List.nodup_cons.mp nd).1 (List.of_mem_zip hv).1, if_pos hk]
    simp
  | p :: P, w :: vs, i + 1, m, nd, h1, h2, hk => by
    show bindL kindOf ((p, w) :: P.zip vs) m x = _
    unfold bindL
    exact bindL_get (i := i) (List.nodup_cons.mp nd).2 (by simpa using h1) (by simpa using h2) hk
theorem bindC_get {kindOf : Str → Option NameKind} {x : Str} {v : Value} : ∀ {P : List Str} {vs : List Value} {i : Nat} {m : Str → Option Value}, P.Nodup → P[i]? = some x → vs[i]? = some v → kindOf x ≠ some .local →
    bindC kindOf (P.zip vs) m x = some v
  | [], _, _, _, _, h, _, _ => by simp at h
  | _ :: _, [], _, _, _, _, h, _ => by simp at h
  | p :: P, w :: vs, 0, m, nd, h1, h2, hk => by
    simp at h1 h2; subst h1; subst h2
    show bindC kindOf ((p, w) :: P.zip vs) m p = _
    unfold bindC
    rw [bindC_out fun v hv => (List.nodup_cons.mp nd).1 (List.of_mem_zip hv).1, if_neg hk]
    simp
  | p :: P, w :: vs, i + 1, m, nd, h1, h2, hk => by
    show bindC kindOf ((p, w) :: P.zip vs) m x = _
    unfold bindC
    exact bindC_get (i := i) (List.nodup_cons.mp nd).2 (by simpa using h1) (by simpa using h2) hk

/-- the names' values at the entry -/
def start (N : List Str) (vs : List V) : St := vs.map some ++ List.replicate (N.length - vs.length) none

/-- the context of a def's body, at its entry; an exception leaves the frame, then lies as CX says -/
def cxOf (CX : CXT) (P : Program) (w : World) (K : PySem.W.Frag) (mg : Str → Option Value) (base : Heap) (N : List Str) (qual : Str) (scope : Scope) (f : Addr) (cd : Value) (A : Around) (outer : List Env) (s : Shared) (H : Hp) (E : XK) : Cx where
  prog := P
  w := w
  K := K
  mg := mg
  base := base
  A := A.deeper (envOfC qual scope s.heap.objs.size f cd)
  N := N
  s₀ := s
  H₀ := H
  env := envOfC qual scope s.heap.objs.size f cd
  outer := outer
  stack := envOfC qual scope s.heap.objs.size f cd :: outer
  ex := []
  calm := true
  fn := fun _ => true
  pn := []
  xe := fun e s' => wpAny (model P w) (A.deeper (envOfC qual scope s.heap.objs.size f cd)) (leaving (envOfC qual scope s.heap.objs.size f cd) e) (fun _ s'' => CX outer H s E e s'') (fun e' s'' => CX outer H s E e' s'') s'

theorem cell_has {sc : Scope} {n : Nat} {x : Str} (h : sc.names.lookup x = some .cell) : ∃ c, (cellsFrom n sc.names []).lookup x = some c := by
  have q := PySem.W.cellsFrom_some sc.names n [] (.inl h)
  exact Option.isSome_iff_exists.mp q

theorem inv_start {CX : CXT} {P : Program} {w : World} {K : PySem.W.Frag} {mg : Str → Option Value} {base : Heap} {N ps : List Str} {qual : Str} {scope : Scope} {f : Addr} {cd : Value} {A : Around} {outer : List Env} {s s1 : Shared} {H : Hp} {E : XK} {us : List Value} {vs : List V}
    (S : FnScope N ps scope) (hd : A.handled = none) (e0 : Env0 P w K mg base A outer s H) (hl : vs.length = ps.length) (r : Vals vs us)
    (x : InCallC s s.heap.objs.size (bindL (envOfC qual scope s.heap.objs.size f cd).kindOf (ps.zip us) fun _ => none) (cellsFrom (s.heap.objs.size + 1) scope.names []) (bindC (envOfC qual scope s.heap.objs.size f cd).kindOf (ps.zip us) fun _ => none) s1) :
    Inv (cxOf CX P w K mg base N qual scope f cd A outer s H E) [] (start N vs) H s1 := by
  have hpl : ps.length ≤ N.length := by have := congrArg List.length S.pre; rw [List.length_take] at this; omega
  obtain ⟨h1, tk, rfl, hk⟩ := x.done
  have noA : ∀ b : Addr, b ∉ (cxOf CX P w K mg base N qual scope f cd A outer s H E).ex := fun b z => absurd (show b ∈ ([] : List Addr) from z) (by simp)
  refine ⟨⟨e0.mod, S.kind, rfl, rfl, Nat.le_refl _, fun y z c h1 h2 => ?_, fun y hy => ?_, fun y c _ h => ?_, fun _ => hd, Around.frames_deeper e0.frames, .inr ⟨rfl, rfl⟩, fun b z => absurd z (noA b), e0.bs, e0.bsz, fun b _ _ => noA b, fun b z => absurd z (noA b), e0.funs, e0.frf⟩,
    rfl, e0.bare, Un.kept hk, ⟨_, x.toInCall.ns, fun i y v h1 h2 h3 => ?_⟩, fun y c h => ⟨_, x.cell y c h⟩, e0.hok.fresh (Nat.le_refl _), fun y c h => ?_, fun p hp => absurd (show p ∈ ([] : List (Addr × Obj)) from hp) (by simp), e0.hok.kept hk, ?_⟩
  · exact name_of_addr x.apart (PySem.mem_of_lookup h1) (PySem.mem_of_lookup h2)
  · have hy : scope.names.lookup y = some .cell ∨ scope.names.lookup y = some .free := hy
    rcases hy with hy | hy
    · exact cell_has hy
    · exact absurd rfl (S.nofree _ (PySem.mem_of_lookup hy))
  · exact Nat.le_of_lt (x.above y c (PySem.mem_of_lookup h))
  · have hi : i < vs.length := by
      unfold start at h2
      by_cases hi : i < vs.length
      · exact hi
      · rw [List.getElem?_append_right (by simpa using hi)] at h2
        rw [List.getElem?_replicate] at h2
        split at h2 <;> cases h2
    have ha : vs[i]? = some v := by
      unfold start at h2
      rw [List.getElem?_append_left (by simpa using hi), List.getElem?_map] at h2
      cases e : vs[i]? with
      | none => rw [e] at h2; cases h2
      | some a => rw [e] at h2; cases h2; rfl
    obtain ⟨u, hu, rv⟩ := r.get ha
    have hp : ps[i]? = some y := by
      rw [← S.pre, List.getElem?_take_of_lt (by omega)]; exact h1
    have ndP : ps.Nodup := by rw [← S.pre]; exact S.nd.sublist (List.take_sublist _ _)
    refine ⟨u, rv, ?_⟩
    rcases S.par y (List.mem_of_getElem? hp) with k | k
    · exact .inl ⟨k, bindL_get ndP hp hu k⟩
    · obtain ⟨c, e⟩ := cell_has (n := s.heap.objs.size + 1) k
      refine .inr ⟨.inl k, c, e, ?_⟩
      have q := x.cell y c e
      rw [bindC_get ndP hp hu (by show scope.names.lookup y ≠ _; rw [k]; decide)] at q
      exact q
  · exact e0.hok.fresh (Nat.le_of_lt (x.above y c (PySem.mem_of_lookup h)))
  · unfold start
    show _ = N.length
    rw [List.length_append, List.length_map, List.length_replicate]
    omega

/-- THE RULE: a def (or a method) of the text, by its body. The body's reading t is chosen for each entry; it is run at the parameters' values -/
theorem fn_of {CX : CXT} {P : Program} {w : World} {K : PySem.W.Frag} {mg : Str → Option Value} {base : Heap} {k : Nat} {f : Addr} {name qual : Str} {params : Arguments} {body : List Stmt} {scope : Scope} {dV kV doc pm cdv ct oc : Value} {an od : Option Addr}
    {osl : Array (Option Value)} {N ps : List Str} {sp : Sp} (lk : K.lookup f = some ⟨oc, od, .func (PySem.W.fnOf name qual params body scope dV kV doc pm an cdv ct), osl⟩) (hcd : PySem.W.codeIn K cdv qual = true) (S : FnScope N ps scope)
    (len : ∀ vs H Q E, sp vs H Q E → vs.length = ps.length)
    (hbody : ∀ (A : Around) (outer : List Env) (s : Shared) (H : Hp) (vs : List V) (Q : VK) (E : XK), Room k (A.deeper (envOfC qual scope s.heap.objs.size f cdv)) → sp vs H Q E →
      ∃ t, PSs (cxOf CX P w K mg base N qual scope f cdv A outer s H E) body t ∧ t { nx := fun _ H' => Q .non H', rt := Q } (start N vs) H) :
    FnOk P w K mg base CX (k + 1) f (PySem.W.fnOf name qual params body scope dV kV doc pm an cdv ct) ps sp := by
  refine ⟨len, fun A outer s H args us vs Q E hr e0 hb r hsp => ?_⟩
  have hl := len _ _ _ _ hsp
  have KX : K.In s.heap := e0.mod.kin.keeps fun b o e => (e0.bs b o e).1
  have lim : s.heap.NoLimit := e0.mod.nolimit.keeps fun b o e => (e0.bs b o e).1
  have hkind : ∀ y ∈ ps.zip us, scope.names.lookup y.1 = some .local ∨ (scope.names.lookup y.1 = some .cell ∧ ((cellsFrom (s.heap.objs.size + 1) scope.names []).lookup y.1).isSome = true) := fun ⟨n, v⟩ hy => by
    rcases S.par n (List.of_mem_zip hy).1 with q | q
    · exact .inl q
    · exact .inr ⟨q, PySem.W.cellsFrom_some _ _ _ (.inl q)⟩
  refine codeAny_call_function hr.depth (KX _ _ lk) rfl S.co S.gen rfl (PySem.W.codeRec_of KX hcd) (hb _ _ _ _ ?_)
  refine wpAny_newFunctionEnv_cells S.kind hkind fun env he s1 x => ?_
  subst he
  refine ⟨lim.keeps x.toInCall.keep, codeAny_func ?_⟩
  obtain ⟨t, ht, hq⟩ := hbody A outer s H vs Q E (hr.deeper _) hsp
  have I : Inv (cxOf CX P w K mg base N qual scope f cdv A outer s H E) [] (start N vs) H s1 := inv_start S hr.hd e0 hl r x
  refine wpAny_mono (ht [] s1 (start N vs) H _ I hq) (fun fl s' hs => ?_) fun e s' hs => hs
  have fin : ∀ {σ' : St} {H' : Hp} {v : V} {u : Value}, Inv (cxOf CX P w K mg base N qual scope f cdv A outer s H E) [] σ' H' s' → RelV v u → Q v H' → CE outer P w H s Q u s' :=
    fun {σ' H' v u} J rv q => ⟨v, H', J.os, J.bare, J.base, J.hok, rv, q⟩
  cases fl with
  | ret u =>
    obtain ⟨v, σ', H', J, rv, q⟩ := hs
    exact fin J rv q
  | next =>
    obtain ⟨σ', H', J, q⟩ := hs
    exact fin (v := V.non) (u := Value.none) J rfl q
  | brk =>
    obtain ⟨_, _, _, q⟩ := hs
    exact False.elim q
  | cont =>
    obtain ⟨_, _, _, q⟩ := hs
    exact False.elim q
end L2

namespace L2
open PySem PySem.Spec PyProof.Rows
section
variable {X : Cx} {x : Str} {p pos : Pos} {e : Expr} {es : List Expr} {t : TA} {id T : String} {r : List V → Hp → VK → Prop}

def tCB (r : List V → Hp → VK → Prop) (t : TA) : TE := fun σ H Q => t σ H fun vs H1 => r vs H1 Q
/-- f(e, ..), f a built-in function -/
theorem pe_callB (hc : CallR X (.builtin id) r) (hg : Gl X x) (hm : X.mg x = none) (hv : bootBuiltins x = some (.builtin id)) (ha : PA X (e :: es) t) (hn : x ≠ "__name__" := by decide) (hdb : (x == ("__debug__" : Str)) = false := by decide)
    (he : starEach (e :: es) X.env = (false, eval e X.env) :: starEach es X.env := by rfl) (hpl : (backTo pos (starEach es X.env)).any (·.1) = false := by rfl) : PE X (.Call (.Name x p) (e :: es) [] pos) (tCB r t) := by
  intro pins s σ H Q I h
  refine wpAny_Call_Name_kw (ld_blt I hg hm hv ?_ hn hdb)
  exact PyProof.Rows.callWith_builtin1 (thn (ha pos pins s σ H _ I h) fun us s1 ⟨vs, H1, I1, r1, q1⟩ => hc pins s1 σ H1 vs us Q I1 r1 q1) he hpl
/-- T(e, ..), T a built-in type -/
theorem pe_callTy (hc : CallR X (.type T) r) (hg : Gl X x) (hm : X.mg x = none) (hv : bootBuiltins x = some (.type T)) (ha : PA X (e :: es) t) (hn : x ≠ "__name__" := by decide) (hdb : (x == ("__debug__" : Str)) = false := by decide)
    (he : starEach (e :: es) X.env = (false, eval e X.env) :: starEach es X.env := by rfl) (hpl : (backTo pos (starEach es X.env)).any (·.1) = false := by rfl) : PE X (.Call (.Name x p) (e :: es) [] pos) (tCB r t) := by
  intro pins s σ H Q I h
  refine wpAny_Call_Name_kw (ld_blt I hg hm hv ?_ hn hdb)
  exact PyProof.Rows.callWith_type1 (thn (ha pos pins s σ H _ I h) fun us s1 ⟨vs, H1, I1, r1, q1⟩ => hc pins s1 σ H1 vs us Q I1 r1 q1) he hpl
end
end L2

namespace HT
open PySem PyProof.Rows

section
open PySem.SeqAt
open PySem.AutoSeq1 (wpAny_loadPart')
open PySem.MeetsSeq PySem.MeetsSeq2 PySem.MeetsSeq3

end

section
variable {prog : Program} {w : World} {A : Around} {E : Value → Shared → Prop} {s : Shared}

/-- t + u, t not empty -/
theorem cat_tup {t b : Addr} {vs ws : List Value} {Q : Value → Shared → Prop} (ht : IsTup s.heap t vs.toArray) (hb : IsTup s.heap b ws.toArray) (hv : vs ≠ [])
    (h1 : ws = [] → Q (.ref t) s) (h2 : ws ≠ [] → Q (.ref s.heap.objs.size) { s with heap := s.heap.push { cls := .type "tuple", data := .seq (vs ++ ws).toArray } })
    (hsz : vs.length + ws.length ≤ sizeLine) : wpAny (model prog w) A (binaryOp .Add (.ref t) (.ref b)) Q E s := by
  obtain ⟨⟨cls, dd, data, sl⟩, ho, hc, n, hd⟩ := id ht
  obtain ⟨⟨cls2, dd2, data2, sl2⟩, ho2, hc2, n2, hd2⟩ := id hb
  simp only at hc hd hc2 hd2
  subst hc hd hc2 hd2
  have e : vs.toArray ++ ws.toArray = (vs ++ ws).toArray := by simp
  by_cases hw : ws = []
  · exact concat_meets ⟨_, ho, rfl⟩ ⟨_, ho2, rfl⟩ noFill_tuple_add seq_tuple_add PySem.F.slot_tuple_add PySem.F.entry_tuple_add (PySem.F.args_tuple_add_2 _ _)
      (tuple_addW1 t b vs.toArray ws.toArray n n2 dd dd2 sl sl2 (by simpa using hv) (by simp [hw])) ⟨ho, ho2, h1 hw⟩
  · refine concat_meets ⟨_, ho, rfl⟩ ⟨_, ho2, rfl⟩ noFill_tuple_add seq_tuple_add PySem.F.slot_tuple_add PySem.F.entry_tuple_add (PySem.F.args_tuple_add_2 _ _)
      (tuple_addW2 t b vs.toArray ws.toArray n n2 dd dd2 sl sl2 (by simpa using hv) (by simpa using hw) (by rw [List.size_toArray, List.size_toArray]; exact hsz)) ⟨ho, ho2, ?_⟩
    rw [e]
    exact h2 hw

/-! ### t[a:b], not the whole -/
/-- a slice's bound as a place among n (d where it is left out) -/
def sIx (n d : Nat) : Option Int → Nat
  | none => d
  | some v => if v < 0 then (v + (n : Int)).toNat else min v.toNat n
theorem sIx_nat (n d k : Nat) : sIx n d (some (k : Int)) = min k n := by
  show (if (k : Int) < 0 then ((k : Int) + (n : Int)).toNat else min (k : Int).toNat n) = min k n
  rw [if_neg (by omega), Int.toNat_natCast]
theorem sIx_le (n d : Nat) (hd : d ≤ n) (o : Option Int) : sIx n d o ≤ n := by
  cases o with
  | none => exact hd
  | some v =>
    show (if v < 0 then (v + (n : Int)).toNat else min v.toNat n) ≤ n
    by_cases hv : v < 0
    · rw [if_pos hv]; omega
    · rw [if_neg hv]; exact Nat.min_le_right _ _
theorem clip_eq (v : Int) (n d : Nat) : (if v < 0 then max (v + (n : Int)) 0 else min v (n : Int)) = ((sIx n d (some v) : Nat) : Int) := by
  show (if v < 0 then max (v + (n : Int)) 0 else min v (n : Int)) = (((if v < 0 then (v + (n : Int)).toNat else min v.toNat n) : Nat) : Int)
  by_cases hv : v < 0
  · simp only [if_pos hv]; omega
  · simp only [if_neg hv]; omega
theorem adjust_gen (lo hi : Option Int) (n : Nat) : Builtin.Slice.sliceAdjust lo hi 1 (n : Int) = (((sIx n 0 lo : Nat) : Int), ((sIx n n hi : Nat) : Int)) := by
  have h1 : ¬ ((1 : Int) < 0) := by omega
  unfold Builtin.Slice.sliceAdjust
  simp only [h1, if_false]
  refine Prod.ext ?_ ?_
  · cases lo with
    | none => rfl
    | some v => exact clip_eq v n 0
  · cases hi with
    | none => rfl
    | some v => exact clip_eq v n n
theorem places_gen (i j : Nat) : Builtin.Slice.slicePlaces (i : Int) (j : Int) 1 = j - i := by
  unfold Builtin.Slice.slicePlaces
  have h1 : (1 : Int) > 0 := by omega
  simp only [h1, if_true, Int.ediv_one]
  split <;> omega
theorem slicePart_ {v : Value} {o : Option Int} {Q : Option Int → Shared → Prop} (p : IsPart v o) (h : Q o s) : wpAny (model prog w) A (Builtin.Slice.slicePartIndex v) Q E s := by
  cases p with
  | none => exact slicePart_none h
  | int i t => exact slicePart_int h
theorem sliceApplied_gen {sl : Addr} {vl vu : Value} {lo hi : Option Int} {n : Nat} {Q : Int × Int × Nat → Shared → Prop} (hs : s.heap.IsSliceOf sl vl vu .none) (pl : IsPart vl lo) (pu : IsPart vu hi)
    (h : Q (((sIx n 0 lo : Nat) : Int), 1, sIx n n hi - sIx n 0 lo) s) : wpAny (model prog w) A (Builtin.Slice.sliceApplied (.ref sl) (pure (n : Int))) Q E s := by
  obtain ⟨os, hos, hcs, hds⟩ := id hs
  unfold Builtin.Slice.sliceApplied Builtin.Slice.sliceFields
  refine wpAny_bind (wpAny_bind (wpAny_field hos hds (x := vl) rfl (wpAny_bind (wpAny_field hos hds (x := vu) rfl (wpAny_bind (wpAny_field hos hds (x := .none) rfl (wpAny_pure ?_)))))))
  refine wpAny_bind (slicePart_none ?_)
  show wpAny _ _ (if ((1 : Int) == 0) = true then _ else _) _ _ s
  rw [if_neg (by decide)]
  refine wpAny_bind (slicePart_ pl (wpAny_bind (slicePart_ pu (wpAny_bind (wpAny_pure ?_)))))
  show wpAny _ _ (match Builtin.Slice.sliceAdjust lo hi 1 (n : Int) with | (lo, hi) => pure (lo, (1 : Int), Builtin.Slice.slicePlaces lo hi 1)) _ _ s
  rw [adjust_gen lo hi n]
  show wpAny _ _ (pure (((sIx n 0 lo : Nat) : Int), (1 : Int), Builtin.Slice.slicePlaces ((sIx n 0 lo : Nat) : Int) ((sIx n n hi : Nat) : Int) 1)) _ _ s
  rw [places_gen]
  exact wpAny_pure h
theorem pick_gen (xs : Array Value) (i k : Nat) : ((List.range k).filterMap fun (m : Nat) => xs[((i : Int) + (m : Int) * 1).toNat]?).toArray = ((xs.toList.drop i).take k).toArray := by
  have e : (fun (m : Nat) => xs[((i : Int) + (m : Int) * 1).toNat]?) = fun m => xs[i + m]? := by
    funext m
    have : ((i : Int) + (m : Int) * 1).toNat = i + m := by omega
    rw [this]
  rw [e]
  have := pick_run xs i k
  rw [List.filterMap_map] at this
  have e2 : ((fun x => xs[x]?) ∘ fun x => i + x) = fun m => xs[i + m]? := rfl
  rw [e2] at this
  rw [this]

theorem getItem_tuple_cut {t sl : Addr} {items : Array Value} {vl vu : Value} {lo hi : Option Int} {Q : Value → Shared → Prop} (ht : IsTup s.heap t items) (hs : s.heap.IsSliceOf sl vl vu .none) (pl : IsPart vl lo) (pu : IsPart vu hi)
    (hw : ¬ (sIx items.size 0 lo = 0 ∧ sIx items.size items.size hi = items.size))
    (h : Q (.ref s.heap.objs.size) { s with heap := s.heap.push { cls := .type "tuple", data := .seq ((items.toList.drop (sIx items.size 0 lo)).take (sIx items.size items.size hi - sIx items.size 0 lo)).toArray } })
    (hsz : items.size ≤ sizeLine) : wpAny (model prog w) A (getItem (.ref t) (.ref sl)) Q E s := by
  have htake : sizeOk (.seq ((items.toList.drop (sIx items.size 0 lo)).take (sIx items.size items.size hi - sIx items.size 0 lo)).toArray) := by
    show ((items.toList.drop (sIx items.size 0 lo)).take (sIx items.size items.size hi - sIx items.size 0 lo)).toArray.size ≤ sizeLine
    rw [List.size_toArray, List.length_take, List.length_drop, Array.length_toList]
    omega
  have hj : sIx items.size items.size hi ≤ items.size := sIx_le _ _ (Nat.le_refl _) hi
  obtain ⟨os, hos, hcs, hds⟩ := id hs
  have hTs : s.TypeIs (.ref sl) "slice" := ⟨os, hos, hcs⟩
  unfold getItem
  try with_reducible refine wpAny_holding ?_
  first | refine wpAny_bind (wpAny_pure ?_) | skip
  refine wpAny_bind (wpAny_sequenceKey ht.typeIs (by decide) ?_)
  refine wpAny_bind (wpAny_callSpecial?_slot (name := Str.ofString "__getitem__") ht.typeIs PyProof.Rows.slot_tuple_getitem
    (wpAny_call_entry PyProof.Rows.slot_tuple_getitem ht.typeIs entry_tuple_getitem ?_ (args_tuple_getitem _ _)))
  show wpAny _ _ (Builtin.Tuple.tupleItemsOf (.ref t) >>= _) _ _ s
  refine wpAny_bind (tupleItemsOf_ ht ?_)
  refine wpAny_bind (wpAny_typeOf hTs ?_)
  rw [if_pos (by decide)]
  refine wpAny_bind (sliceApplied_gen hs pl pu ?_)
  have hno : ¬ ((((sIx items.size 0 lo : Nat) : Int) == 0 && (1 : Int) == 1 && (sIx items.size items.size hi - sIx items.size 0 lo) == items.size) = true) := by
    intro q
    rw [Bool.and_eq_true, Bool.and_eq_true] at q
    have q1 : ((sIx items.size 0 lo : Nat) : Int) = 0 := eq_of_beq q.1.1
    have q2 : sIx items.size items.size hi - sIx items.size 0 lo = items.size := eq_of_beq q.2
    exact hw ⟨by omega, by omega⟩
  show wpAny _ _ (if (((sIx items.size 0 lo : Nat) : Int) == 0 && (1 : Int) == 1 && (sIx items.size items.size hi - sIx items.size 0 lo) == items.size) = true then _ else _) _ _ s
  rw [if_neg hno, pick_gen]
  first
    | exact wpAny_bind (m := Builtin.Tuple.tupleExact _) (wpAny_newObj_type (wpAny_pure ⟨_, rfl, wpAny_pure h⟩) htake)
    | exact wpAny_bind (m := Builtin.Tuple.tupleExact _) (wpAny_newObj_type (wpAny_bind (wpAny_pure (wpAny_pure ⟨_, rfl, wpAny_pure h⟩))) htake)
    | exact wpAny_bind (wpAny_bind (m := Builtin.Tuple.tupleExact _) (wpAny_newObj_type (wpAny_pure (wpAny_pure ⟨_, rfl, wpAny_pure h⟩)) htake))
    | exact wpAny_bind (wpAny_bind (m := Builtin.Tuple.tupleExact _) (wpAny_newObj_type (wpAny_pure ⟨_, rfl, wpAny_pure h⟩) htake))
end
end HT

namespace L2
open PySem PySem.Spec PyProof.Rows

/-! ### the parts of a slice -/
abbrev TO := St → Hp → (Option Int → Hp → Prop) → Prop
/-- a slice's part (left out, or an int) -/
def PO (X : Cx) (e : Option Expr) (t : TO) : Prop :=
  ∀ (pins : List (Addr × Obj)) (s : Shared) (σ : St) (H : Hp) (Q : Option Int → Hp → Prop), Inv X pins σ H s → t σ H Q →
    wpAny (model X.prog X.w) X.A (evalPart e X.env) (fun u s' => ∃ o H', Inv X pins σ H' s' ∧ IsPart u o ∧ Q o H') X.xe s
def tPart (t : TE) : TO := fun σ H Q => t σ H fun x H1 => ∃ i, x = .int i ∧ Q (some i) H1

theorem intsAre_of {ns : List Int} : ∀ {us : List Value}, Vals (ns.map V.int) us → IntsAre us ns := by
  induction ns with
  | nil => intro us r; rw [List.map_nil] at r; cases r; exact .nil
  | cons n ns ih =>
    intro us r
    rw [List.map_cons] at r
    cases r with
    | cons r1 r2 =>
      obtain ⟨t, e⟩ := r1
      subst e
      exact .cons n t (ih r2)

section
variable {X : Cx} {e : Expr} {te : TE} {lo hi : Option Expr} {tl th : TO} {pos p2 : Pos}

theorem po_some (h : PE X e te) : PO X (some e) (tPart te) := by
  intro pins s σ H Q I hw
  rw [evalPart_some]
  refine thn (h pins s σ H _ I hw) fun u s1 ⟨x, H1, I1, r1, q1⟩ => ?_
  obtain ⟨i, rfl, q⟩ := q1
  obtain ⟨t, rfl⟩ := r1
  exact ⟨some i, H1, I1, .int i t, q⟩

/-- what a slice of a value is, by values: the slice object stands at sl -/
def SlR (X : Cx) (r : V → Option Int → Option Int → Hp → VK → Prop) : Prop :=
  ∀ (pins : List (Addr × Obj)) (s : Shared) (σ : St) (H : Hp) (x : V) (v vl vu : Value) (lo hi : Option Int) (sl : Addr) (Q : VK), Inv X pins σ H s → RelV x v → s.heap.IsSliceOf sl vl vu .none → IsPart vl lo → IsPart vu hi → r x lo hi H Q →
    ∃ T id, typeLookup (.type T) "__getitem__" = pure (some (.builtin id)) ∧ s.TypeIs v T ∧ wpAny (model X.prog X.w) X.A (getItem v (.ref sl)) (EP X pins σ Q) X.xe s
theorem SlR.or {r r' : V → Option Int → Option Int → Hp → VK → Prop} (h : SlR X r) (h' : SlR X r') : SlR X (fun x lo hi H Q => r x lo hi H Q ∨ r' x lo hi H Q) := by
  intro pins s σ H x v vl vu lo hi sl Q I rx hs pl pu q
  rcases q with q | q
  · exact h pins s σ H x v vl vu lo hi sl Q I rx hs pl pu q
  · exact h' pins s σ H x v vl vu lo hi sl Q I rx hs pl pu q
def tSl (r : V → Option Int → Option Int → Hp → VK → Prop) (te : TE) (tl th : TO) : TE := fun σ H Q => te σ H fun x H1 => tl σ H1 fun l H2 => th σ H2 fun u H3 => r x l u H3 Q
/-- a[lo:hi], any a -/
theorem pe_slice {r : V → Option Int → Option Int → Hp → VK → Prop} (hr : SlR X r) (he : PE X e te) (hl : PO X lo tl) (hu : PO X hi th) : PE X (.Subscript e (.Slice lo hi none p2) pos) (tSl r te tl th) := by
  intro pins s σ H Q I h
  refine Subscript_ (thn (he pins s σ H _ I h) fun v s1 ⟨x, H1, I1, r1, q1⟩ => ?_)
  refine wpAny_Slice (thn (hl pins s1 σ H1 _ I1 q1) fun vl s2 ⟨l, H2, I2, pl, q2⟩ => thn (hu pins s2 σ H2 _ I2 q2) fun vu s3 ⟨u, H3, I3, pu, q3⟩ => ?_)
  rw [evalPart_none]
  refine wpAny_pure ?_
  have I4 : Inv X pins σ H3 { s3 with heap := s3.heap.push { cls := .type "slice", data := .fields #[vl, vu, .none] } } := I3.kept (t' := s3.toks) fun b ob q => Heap.get?_push_of_some _ q
  obtain ⟨T, id, hT, ht, hg⟩ := hr pins { s3 with heap := s3.heap.push { cls := .type "slice", data := .fields #[vl, vu, .none] } } σ H3 x v vl vu l u s3.heap.objs.size Q I4 r1 (Heap.IsSliceOf.new ..) pl pu q3
  show wpAny (model X.prog X.w) X.A (subscriptTail e (.Slice lo hi none p2) v (.ref s3.heap.objs.size)) (EP X pins σ Q) X.xe { s3 with heap := s3.heap.push { cls := .type "slice", data := .fields #[vl, vu, .none] } }
  exact tail_any (ops := [.ref s3.heap.objs.size, v]) ht hT hg (by with_unfolding_all rfl)

/-- the items of xs[lo:hi] -/
def cutV (xs : List V) (lo hi : Option Int) : List V := (xs.drop (HT.sIx xs.length 0 lo)).take (HT.sIx xs.length xs.length hi - HT.sIx xs.length 0 lo)
theorem cutV_length (xs : List V) (lo hi : Option Int) : (cutV xs lo hi).length ≤ xs.length := by
  unfold cutV
  rw [List.length_take, List.length_drop]
  omega
/-- t[lo:hi], not the whole of it (the whole would be t itself) -/
def rSlT (K : PySem.W.Frag) : V → Option Int → Option Int → Hp → VK → Prop := fun x lo hi H Q => ∃ a xs, x = .ref a ∧ SqT K H a xs ∧
  ¬ (HT.sIx xs.length 0 lo = 0 ∧ HT.sIx xs.length xs.length hi = xs.length) ∧ ∀ p, H p = none → Q (.ref p) (upd H p (.tup (cutV xs lo hi)))
theorem sl_tup : SlR X (rSlT X.K) := by
  intro pins s σ H x v vl vu lo hi sl Q I rx hs pl pu h
  obtain ⟨a, xs, rfl, hx, hw, q⟩ := h
  cases rx
  obtain ⟨its, r, ht, hz⟩ := I.tuple hx
  have hlen : its.toArray.size = xs.length := by rw [List.size_toArray]; exact r.length.symm
  refine ⟨"tuple", _, PyProof.Rows.slot_tuple_getitem.lookup, ht.typeIs, ?_⟩
  refine HT.getItem_tuple_cut ht hs pl pu (by rw [hlen]; exact hw) ?_ (by rw [hlen]; exact hz)
  rw [hlen]
  refine ⟨.ref s.heap.objs.size, _, I.laid (t' := s.toks) (o := .tup (cutV xs lo hi)) (fun b ob q => Heap.get?_push_of_some _ q) (Nat.le_refl _) ?_, rfl, q _ (I.hok.fresh (Nat.le_refl _))⟩
  exact ⟨Nat.le_trans (cutV_length xs lo hi) hz, _, (r.drop (HT.sIx xs.length 0 lo)).take (HT.sIx xs.length xs.length hi - HT.sIx xs.length 0 lo), IsTupN.new _ _⟩

/-! ### t < u, t + u -/
/-- t + u, t not empty: u empty gives t itself -/
def rCatT (K : PySem.W.Frag) : R2 := fun x y H Q => ∃ a b xs ys, x = .ref a ∧ y = .ref b ∧ SqT K H a xs ∧ SqT K H b ys ∧ xs ≠ [] ∧ xs.length + ys.length ≤ sizeLine ∧
  (ys = [] → Q (.ref a) H) ∧ (ys ≠ [] → ∀ p, H p = none → Q (.ref p) (upd H p (.tup (xs ++ ys))))
theorem Vals.nil_iff {xs : List V} {us : List Value} (r : Vals xs us) : us = [] ↔ xs = [] := by
  cases r with
  | nil => simp
  | cons _ _ => simp
theorem op_catT : OpR X (binaryOp .Add) (rCatT X.K) := by
  intro pins s σ H x y v u Q I rx ry h
  obtain ⟨a, b, xs, ys, rfl, rfl, ha, hb, hx, hz, q1, q2⟩ := h
  cases rx
  cases ry
  obtain ⟨its, r1, p1, _⟩ := I.tuple ha
  obtain ⟨its2, r2, p2, _⟩ := I.tuple hb
  refine HT.cat_tup p1 p2 (fun z => hx (r1.nil_iff.mp z)) (fun z => ⟨.ref a, H, I, rfl, q1 (r2.nil_iff.mp z)⟩) (fun z => ?_) (by rw [← r1.length, ← r2.length]; exact hz)
  refine ⟨.ref s.heap.objs.size, _, I.laid (t' := s.toks) (o := .tup (xs ++ ys)) (fun b ob q => Heap.get?_push_of_some _ q) (Nat.le_refl _) ?_, rfl, q2 (fun w => z (r2.nil_iff.mpr w)) _ (I.hok.fresh (Nat.le_refl _))⟩
  exact ⟨by rw [List.length_append]; exact hz, _, r1.append r2, IsTupN.new _ _⟩
end
end L2

namespace L2
open PySem PySem.Spec PyProof.Rows

/-! ### places -/
/-- the place that an index of any sign means -/
def ixN (n : Nat) (i : Int) : Option Nat := if 0 ≤ i then (if i < n then some i.toNat else none) else if -(n : Int) ≤ i then some (i + n).toNat else none
def atI {α : Type} (xs : List α) (i : Int) : Option α := (ixN xs.length i).bind fun j => xs[j]?
theorem ixN_seq {n : Nat} {i : Int} {j : Nat} (h : ixN n i = some j) : seqIndex? i n = some j ∧ j < n ∧ -(n : Int) ≤ i ∧ i < n := by
  unfold ixN at h
  by_cases h0 : 0 ≤ i
  · rw [if_pos h0] at h
    by_cases h1 : i < n
    · rw [if_pos h1] at h
      have e : i.toNat = j := Option.some.inj h
      exact ⟨by rw [seqIndex_of h0 h1, e], by omega, by omega, h1⟩
    · rw [if_neg h1] at h; cases h
  · rw [if_neg h0] at h
    by_cases h1 : -(n : Int) ≤ i
    · rw [if_pos h1] at h
      have e : (i + n).toNat = j := Option.some.inj h
      exact ⟨by rw [seqIndex_neg (by omega) h1, e], by omega, h1, by omega⟩
    · rw [if_neg h1] at h; cases h
theorem atI_get {α : Type} {xs : List α} {i : Int} {v : α} (h : atI xs i = some v) : ∃ j, seqIndex? i xs.length = some j ∧ xs[j]? = some v ∧ j < xs.length ∧ -(xs.length : Int) ≤ i ∧ i < xs.length := by
  unfold atI at h
  cases e : ixN xs.length i with
  | none => rw [e] at h; cases h
  | some j =>
    rw [e] at h
    obtain ⟨h1, h2, h3, h4⟩ := ixN_seq e
    exact ⟨j, h1, h, h2, h3, h4⟩
theorem atI_nat {α : Type} {xs : List α} {j : Nat} {v : α} (h : xs[j]? = some v) : atI xs (j : Int) = some v := by
  have hj : j < xs.length := (List.getElem?_eq_some_iff.mp h).1
  have e : ixN xs.length (j : Int) = some j := by
    unfold ixN
    rw [if_pos (by omega), if_pos (by omega)]; simp
  unfold atI; rw [e]; exact h
/-! ### what may be subscripted -/
/-- what stands as an index of a plain subscript -/
def PlainIx (b : Expr) : Prop := ∀ o i, subscripted b false o i = operate [o, i] (getItem o i)
/-- a subscript by values -/
def IxR (X : Cx) (r : R2) : Prop :=
  ∀ (value slice : Expr) (pins : List (Addr × Obj)) (s : Shared) (σ : St) (H : Hp) (x y : V) (v u : Value) (Q : VK), Inv X pins σ H s → RelV x v → RelV y u → r x y H Q →
    subscripted slice false v u = operate [v, u] (getItem v u) → wpAny (model X.prog X.w) X.A (subscriptTail value slice v u) (EP X pins σ Q) X.xe s
/-- a call of a builtin's method by values: the receiver, the arguments -/
def MtR (X : Cx) (id : String) (r : V → List V → Hp → VK → Prop) : Prop :=
  ∀ (pins : List (Addr × Obj)) (s : Shared) (σ : St) (H : Hp) (x : V) (xs : List V) (v : Value) (us : List Value) (Q : VK), Inv X pins σ H s → RelV x v → Vals xs us → r x xs H Q →
    wpAny (model X.prog X.w) X.A (call (.builtin id) (v :: us)) (EP X pins σ Q) X.xe s
section
variable {X : Cx} {a b : Expr} {ta tb : TE} {pos : Pos}
theorem IxR.or {r r' : R2} (h : IxR X r) (h' : IxR X r') : IxR X (fun x y H Q => r x y H Q ∨ r' x y H Q) := by
  intro value slice pins s σ H x y v u Q I rx ry q hs
  rcases q with q | q
  · exact h value slice pins s σ H x y v u Q I rx ry q hs
  · exact h' value slice pins s σ H x y v u Q I rx ry q hs
theorem MtR.or {id : String} {r r' : V → List V → Hp → VK → Prop} (h : MtR X id r) (h' : MtR X id r') : MtR X id (fun x xs H Q => r x xs H Q ∨ r' x xs H Q) := by
  intro pins s σ H x xs v us Q I rx rs q
  rcases q with q | q
  · exact h pins s σ H x xs v us Q I rx rs q
  · exact h' pins s σ H x xs v us Q I rx rs q
/-- a[b] -/
theorem pe_ix {r : R2} (hr : IxR X r) (ha : PE X a ta) (hb : PE X b tb) (hs : PlainIx b) : PE X (.Subscript a b pos) (tOp r ta tb) := by
  intro pins s σ H Q I h
  exact Subscript_ (binT ha hb I h fun v u s2 x y H2 I2 rx ry q => hr a b pins s2 σ H2 x y v u Q I2 rx ry q (hs _ _))

def rIxL (K : PySem.W.Frag) : R2 := fun x y H Q => ∃ p xs i v, x = .ref p ∧ y = .int i ∧ SqL K H p xs ∧ atI xs i = some v ∧ Q v H
def rIxT (K : PySem.W.Frag) : R2 := fun x y H Q => ∃ p xs i v, x = .ref p ∧ y = .int i ∧ SqT K H p xs ∧ atI xs i = some v ∧ Q v H
def rIxS : R2 := fun x y H Q => ∃ z i c, x = .str z ∧ y = .int i ∧ z.length ≤ sizeLine ∧ atI z.cps.toList i = some c ∧ Q (.str ⟨#[c]⟩) H
theorem ix_list : IxR X (rIxL X.K) := by
  intro value slice pins s σ H x y v u Q I rx ry h hs
  obtain ⟨p, xs, i, z, rfl, rfl, hq, he, q⟩ := h
  cases rx
  obtain ⟨t, rfl⟩ := ry
  obtain ⟨its, r, pl, hz⟩ := I.list hq
  obtain ⟨j, h1, h2, h3, h4, h5⟩ := atI_get he
  obtain ⟨w, ew, rw'⟩ := r.get h2
  have hl := r.length
  have hn := line63
  have fin : EP X pins σ Q w s := ⟨z, H, I, rw', q⟩
  by_cases h0 : 0 ≤ i
  · have hj : i.toNat = j := by
      rw [seqIndex_of h0 h5] at h1
      exact Option.some.inj h1
    exact item_listR pl.isList h0 (by omega) (by rw [hj]; simpa using ew) fin hs
  · have hj : (i + (its.toArray.size : Int)).toNat = j := by
      rw [seqIndex_neg (by omega) h4] at h1
      rw [List.size_toArray, ← hl]
      exact Option.some.inj h1
    exact subscriptTail_builtinR (x := w) pl.isList.typeIs slot_list_getitem.lookup
      (wpAny_getItem_list_neg (Q := fun r s' => r = w ∧ EP X pins σ Q r s') pl.isList (by omega) (by rw [List.size_toArray] <;> omega) (by omega) (by rw [hj]; simpa using ew) ⟨rfl, fin⟩) hs
theorem ix_tup : IxR X (rIxT X.K) := by
  intro value slice pins s σ H x y v u Q I rx ry h hs
  obtain ⟨p, xs, i, z, rfl, rfl, hq, he, q⟩ := h
  cases rx
  obtain ⟨t, rfl⟩ := ry
  obtain ⟨its, r, pl, hz⟩ := I.tuple hq
  obtain ⟨j, h1, h2, h3, h4, h5⟩ := atI_get he
  obtain ⟨w, ew, rw'⟩ := r.get h2
  have hl := r.length
  have hn := line63
  have fin : EP X pins σ Q w s := ⟨z, H, I, rw', q⟩
  exact subscriptTail_builtinR (x := w) pl.typeIs slot_tuple_getitem.lookup
    (getItem_tuple (j := j) (Q := fun r s' => r = w ∧ EP X pins σ Q r s') pl (by omega) (by omega) (by rw [List.size_toArray, ← hl]; exact h1) (by simpa using ew) ⟨rfl, fin⟩) hs
theorem ix_str : IxR X rIxS := by
  intro value slice pins s σ H x y v u Q I rx ry h hs
  obtain ⟨z, i, c, rfl, rfl, hz, he, q⟩ := h
  obtain ⟨t, rfl⟩ := rx
  obtain ⟨t', rfl⟩ := ry
  obtain ⟨j, h1, h2, h3, h4, h5⟩ := atI_get he
  have hl : z.cps.toList.length = z.length := by simp [Str.length]
  rw [hl] at h1 h4 h5
  have hn := line63
  exact tail_any (typeIs_str s z t) slot_str_getitem.lookup (getItem_str (c := c) (by
    have e1 : decide (i < -(2 ^ 63 : Int)) = false := decide_eq_false (by omega)
    have e2 : decide (i ≥ 2 ^ 63) = false := decide_eq_false (by omega)
    rw [e1, e2, Bool.or_false]) (by rw [h1]; simpa using h2) ⟨.str ⟨#[c]⟩, H, I.tok _, ⟨_, rfl⟩, q⟩) hs
/-- list, tuple or str -/
def rIx (K : PySem.W.Frag) : R2 := fun x y H Q => rIxL K x y H Q ∨ rIxT K x y H Q ∨ rIxS x y H Q
theorem ix_seq : IxR X (rIx X.K) := ix_list.or (ix_tup.or ix_str)

/-! ### xs[i] = v, any sign -/
theorem Inv.lst {pins : List (Addr × Obj)} {σ : St} {H : Hp} {s : Shared} {p : Addr} {xs : List V} (I : Inv X pins σ H s) (h : H p = some (.lst xs)) :
    ∃ (its : List Value) (n : Nat), Vals xs its ∧ s.heap.get? p = some { cls := .type "list", data := .seq its.toArray n } ∧ xs.length ≤ sizeLine := by
  obtain ⟨z, its, n, r, e⟩ := I.hok p _ h
  exact ⟨its, n, r, e, z⟩
/-! ### slices -/
theorem slice_bounds (lo hi : Option Int) (n : Nat) : (sliceBounds lo hi none n).1 = ((HT.sIx n 0 lo : Nat) : Int) ∧ (sliceBounds lo hi none n).2.1 = ((HT.sIx n n hi : Nat) : Int) ∧ (sliceBounds lo hi none n).2.2 = 1 := by
  refine ⟨?_, ?_, rfl⟩
  · cases lo with
    | none => simp [sliceBounds, HT.sIx]
    | some i =>
      simp only [sliceBounds, HT.sIx, Option.getD_none, show (1 : Int) > 0 by decide, if_true]
      by_cases h : i < 0
      · simp only [h, if_true] <;> omega
      · simp only [h, if_false] <;> omega
  · cases hi with
    | none => simp [sliceBounds, HT.sIx]
    | some i =>
      simp only [sliceBounds, HT.sIx, Option.getD_none, show (1 : Int) > 0 by decide, if_true]
      by_cases h : i < 0
      · simp only [h, if_true] <;> omega
      · simp only [h, if_false] <;> omega
theorem slicePick_cut (its : List Value) (lo hi : Option Int) : slicePick its.toArray lo hi none = ((its.drop (HT.sIx its.length 0 lo)).take (HT.sIx its.length its.length hi - HT.sIx its.length 0 lo)).toArray := by
  obtain ⟨h1, h2, h3⟩ := slice_bounds lo hi its.toArray.size
  unfold slicePick
  rw [h1, h2, h3]
  simp only [sliceRange_one, pick_run, List.size_toArray] <;> rfl
/-- xs[lo:hi] of a list: a new list -/
def rSlL (K : PySem.W.Frag) : V → Option Int → Option Int → Hp → VK → Prop := fun x lo hi H Q => ∃ a xs, x = .ref a ∧ SqL K H a xs ∧ ∀ p, H p = none → Q (.ref p) (upd H p (.lst (cutV xs lo hi)))
theorem sl_list : SlR X (rSlL X.K) := by
  intro pins s σ H x v vl vu lo hi sl Q I rx hs pl pu h
  obtain ⟨a, xs, rfl, hx, q⟩ := h
  cases rx
  obtain ⟨its, r, ht, hz⟩ := I.list hx
  have hlen := r.length
  refine ⟨"list", _, slot_list_getitem.lookup, ht.isList.typeIs, ?_⟩
  refine wpAny_getItem_list_slice ht.isList hs pl pu .none (by simp) ?_ (by rw [List.size_toArray] <;> omega)
  rw [slicePick_cut, ← hlen]
  refine ⟨.ref s.heap.objs.size, _, I.laid (t' := s.toks) (o := .lst (cutV xs lo hi)) (fun b ob q => Heap.get?_push_of_some _ q) (Nat.le_refl _) ?_, rfl, q _ (I.hok.fresh (Nat.le_refl _))⟩
  exact ⟨Nat.le_trans (cutV_length xs lo hi) hz, _, 0, (r.drop (HT.sIx xs.length 0 lo)).take (HT.sIx xs.length xs.length hi - HT.sIx xs.length 0 lo), Heap.get?_push_size _ rfl⟩

/-! ### in, not in: flat items -/
def flatV : V → Bool
  | .non => true
  | .bl _ => true
  | .int _ => true
  | .str _ => true
  | _ => false
/-- == of flat values -/
def eqV : V → V → Bool
  | .non, .non => true
  | .bl a, .bl b => a == b
  | .bl a, .int b => (if a then 1 else 0) == b
  | .int a, .bl b => a == (if b then 1 else 0)
  | .int a, .int b => a == b
  | .str a, .str b => a == b
  | _, _ => false
theorem eqAt_V {A : Around} {s : Shared} {y x : V} {u v : Value} (ry : RelV y u) (rx : RelV x v) (fy : flatV y = true) (fx : flatV x = true) : SeqAt.EqAt A s u v (eqV y x) := by
  cases y with
  | non =>
    cases ry
    cases x with
    | non => cases rx; exact SeqAt.EqAt.same _
    | bl b => cases rx; exact SeqAt.EqAt.none_bool b
    | int b => obtain ⟨t, rfl⟩ := rx; exact SeqAt.EqAt.none_int b t
    | str b => obtain ⟨t, rfl⟩ := rx; exact SeqAt.EqAt.none_str b t
    | _ => exact absurd (show false = true from fx) Bool.false_ne_true
  | bl a =>
    cases ry
    cases x with
    | non => cases rx; exact SeqAt.EqAt.bool_none a
    | bl b => cases rx; exact SeqAt.EqAt.bool_bool a b
    | int b => obtain ⟨t, rfl⟩ := rx; exact SeqAt.EqAt.bool_int a b t
    | str b => obtain ⟨t, rfl⟩ := rx; exact SeqAt.EqAt.bool_str a b t
    | _ => exact absurd (show false = true from fx) Bool.false_ne_true
  | int a =>
    obtain ⟨t', rfl⟩ := ry
    cases x with
    | non => cases rx; exact SeqAt.EqAt.int_none a t'
    | bl b => cases rx; exact SeqAt.EqAt.int_bool a t' b
    | int b => obtain ⟨t, rfl⟩ := rx; exact SeqAt.EqAt.int_int a t' b t
    | str b => obtain ⟨t, rfl⟩ := rx; exact SeqAt.EqAt.int_str a t' b t
    | _ => exact absurd (show false = true from fx) Bool.false_ne_true
  | str a =>
    obtain ⟨t', rfl⟩ := ry
    cases x with
    | non => cases rx; exact SeqAt.EqAt.str_none a t'
    | bl b => cases rx; exact SeqAt.EqAt.str_bool a t' b
    | int b => obtain ⟨t, rfl⟩ := rx; exact SeqAt.EqAt.str_int a t' b t
    | str b => obtain ⟨t, rfl⟩ := rx; exact SeqAt.EqAt.str_str a t' b t
    | _ => exact absurd (show false = true from fx) Bool.false_ne_true
  | _ => exact absurd (show false = true from fy) Bool.false_ne_true
/-- the items' answers, read off the values (a value's own answer does not lean on its token) -/
def eqU (x : V) (u : Value) : Bool := match u with
  | .none => eqV .non x
  | .bool b => eqV (.bl b) x
  | .int i _ => eqV (.int i) x
  | .str z _ => eqV (.str z) x
  | _ => false
theorem eqU_of {x y : V} {u : Value} (r : RelV y u) (f : flatV y = true) : eqU x u = eqV y x := by
  cases y with
  | non => cases r; rfl
  | bl b => cases r; rfl
  | int i => obtain ⟨t, rfl⟩ := r; rfl
  | str z => obtain ⟨t, rfl⟩ := r; rfl
  | _ => exact absurd (show false = true from f) Bool.false_ne_true
theorem mem_eqAt {A : Around} {s : Shared} {x : V} {v : Value} (rx : RelV x v) (fx : flatV x = true) : ∀ {xs : List V} {us : List Value}, Vals xs us → xs.all flatV = true → ∀ u ∈ us, SeqAt.EqAt A s u v (eqU x u)
  | _, _, .nil, _ => fun u hu => by cases hu
  | y :: xs, u :: us, .cons r t, f => fun u' hu => by
    rw [List.all_cons, Bool.and_eq_true] at f
    rcases List.mem_cons.mp hu with rfl | hu
    · rw [eqU_of r f.1]; exact eqAt_V r rx f.1 fx
    · exact mem_eqAt rx fx t f.2 u' hu
/-! ### len, list(x), tuple(x) of any list or tuple that is read -/
theorem call_len_seq : CallR X (.builtin "len") (fun xs H Q => ∃ p ys, xs = [.ref p] ∧ (SqL X.K H p ys ∨ SqT X.K H p ys) ∧ Q (.int ys.length) H) := by
  intro pins s σ H xs us Q I r h
  obtain ⟨p, ys, rfl, hq, q⟩ := h
  obtain ⟨u, rfl, rx⟩ := vals1 r
  cases rx
  have hn := line63
  rcases hq with hq | hq
  · obtain ⟨its, r', pl, hz⟩ := I.list hq
    have hlen := r'.length
    exact Calls.call_len_list pl.isList (by simp only [List.size_toArray] <;> omega) ⟨.int ys.length, H, I.tok _, ⟨s.toks + 1, by rw [List.size_toArray, hlen]⟩, q⟩
  · obtain ⟨its, r', pl, hz⟩ := I.tuple hq
    have hlen := r'.length
    exact len_tuple pl (by simp only [List.size_toArray] <;> omega) ⟨.int ys.length, H, I.tok _, ⟨s.toks + 1, by rw [List.size_toArray, hlen]⟩, q⟩
theorem CallR.or {f : Value} {r r' : List V → Hp → VK → Prop} (h : CallR X f r) (h' : CallR X f r') : CallR X f (fun xs H Q => r xs H Q ∨ r' xs H Q) := by
  intro pins s σ H xs us Q I rs q
  rcases q with q | q
  · exact h pins s σ H xs us Q I rs q
  · exact h' pins s σ H xs us Q I rs q
theorem call_tuple_of : CallR X (.type "tuple") (fun xs H Q => ∃ p ys, xs = [.ref p] ∧ ((SqL X.K H p ys ∧ ∀ l, H l = none → Q (.ref l) (upd H l (.tup ys))) ∨ (SqT X.K H p ys ∧ Q (.ref p) H))) := by
  intro pins s σ H xs us Q I r h
  obtain ⟨p, ys, rfl, h⟩ := h
  obtain ⟨u, rfl, rx⟩ := vals1 r
  cases rx
  rcases h with ⟨hq, q⟩ | ⟨hq, q⟩
  · obtain ⟨its, r', pl, hz⟩ := I.list hq
    have hlen := r'.length
    refine call_tuple_list pl.isList (fun h' kp => ?_) (by simp only [List.size_toArray] <;> omega)
    have I1 : Inv X pins σ H { s with heap := h' } := I.kept (t' := s.toks) kp
    have I2 : Inv X pins σ (upd H h'.objs.size (.tup ys)) { s with heap := h'.push { cls := .type "tuple", data := .seq its.toArray } } :=
      I1.laid (t' := s.toks) (fun b o e => Heap.get?_push_of_some _ e) (Nat.le_refl _) (show ObjOk X.prog X.w _ _ _ (.tup ys) from ⟨hz, its, r', IsTupN.new _ _⟩)
    exact ⟨.ref h'.objs.size, _, I2, rfl, q _ (I1.hok.fresh (Nat.le_refl _))⟩
  · obtain ⟨its, r', pl, hz⟩ := I.tuple hq
    exact call_tuple_same pl ⟨.ref p, H, I, rfl, q⟩

/-! ### the call of a builtin's method: o.m(..) -/
/-- the value is of that builtin type -/
def tyV (K : PySem.W.Frag) (T : String) (x : V) (H : Hp) : Prop := match x with
  | .str _ => T = "str"
  | .int _ => T = "int"
  | .ref p => (T = "list" ∧ ∃ xs, SqL K H p xs) ∨ (T = "tuple" ∧ ∃ xs, SqT K H p xs) ∨
      (T = "dict" ∧ ((∃ kvs, H p = some (.dK kvs)) ∨ ∃ kvs, H p = some (.dT kvs))) ∨ (T = "set" ∧ ∃ S n, H p = some (.set S n))
  | _ => False
theorem tyV_is {pins : List (Addr × Obj)} {σ : St} {H : Hp} {s : Shared} {T : String} {x : V} {v : Value} (I : Inv X pins σ H s) (r : RelV x v) (ty : tyV X.K T x H) :
    s.TypeIs v T ∧ ∀ a, v = .ref a → ∃ ob, s.heap.get? a = some ob ∧ ob.dict = none := by
  cases x with
  | str z =>
    obtain ⟨t, rfl⟩ := r
    cases (show T = "str" from ty)
    exact ⟨typeIs_str s z t, fun _ e => nomatch e⟩
  | int i =>
    obtain ⟨t, rfl⟩ := r
    cases (show T = "int" from ty)
    exact ⟨typeIs_int s i t, fun _ e => nomatch e⟩
  | ref p =>
    cases r
    rcases ty with ⟨rfl, xs, hq⟩ | ⟨rfl, xs, hq⟩ | ⟨rfl, hk⟩ | ⟨rfl, S, n, hk⟩
    · obtain ⟨its, _, pl, _⟩ := I.list hq
      refine ⟨pl.isList.typeIs, fun a e => ?_⟩
      cases e
      obtain ⟨o, n, e, c, hd, _⟩ := pl
      exact ⟨o, e, hd⟩
    · obtain ⟨its, _, ⟨o, e, c, _, hd⟩, _⟩ := I.tupleN hq
      refine ⟨⟨o, e, c⟩, fun a z => ?_⟩
      cases z
      exact ⟨o, e, hd⟩
    · have z : ∃ o, s.heap.get? p = some o ∧ o.ExactDict := by
        rcases hk with ⟨kvs, hk⟩ | ⟨kvs, hk⟩
        · obtain ⟨_, _, _, _, o, _, _, e, ex, _⟩ := I.hok p _ hk
          exact ⟨o, e, ex⟩
        · obtain ⟨_, _, _, _, o, _, _, e, ex, _⟩ := I.hok p _ hk
          exact ⟨o, e, ex⟩
      obtain ⟨o, e, ex⟩ := z
      refine ⟨⟨o, e, ex.1⟩, fun a e2 => ?_⟩
      cases e2
      exact ⟨o, e, ex.2.1⟩
    · obtain ⟨o, _, _, _, e, ex, _⟩ := I.hok p _ hk
      refine ⟨⟨o, e, ex.1⟩, fun a e2 => ?_⟩
      cases e2
      exact ⟨o, e, ex.2.1⟩
  | _ => exact False.elim ty
def tBM (K : PySem.W.Frag) (T : String) (r : V → List V → Hp → VK → Prop) (to : TE) (t : TA) : TE := fun σ H Q => to σ H fun x H1 => tyV K T x H1 ∧ t σ H1 fun xs H2 => r x xs H2 Q
variable {o e : Expr} {es : List Expr} {to : TE} {t : TA} {name : Str} {apos cpos : Pos} {T id : String} {r : V → List V → Hp → VK → Prop}
theorem pe_bm (pa : PlainAttrs T) (slot : Slot T name id) (hty : typeOf (.builtin id) = pure (.type "method_descriptor")) (hm : MtR X id r) (ho : PE X o to) (ha : PA X (e :: es) t)
    (hbase : attributeBase o name X.env (eval o X.env) = eval o X.env := by rfl)
    (hfew : ((backTo cpos (starEach (e :: es) X.env)).all (fun x => !x.1) && (backToKw cpos (keywordEach [] X.env)).all (fun x => x.1.isSome)
      && decide ((e :: es).length + ([] : List Keyword).length + (if ([] : List Keyword).isEmpty then 0 else 1) < 30)) = true := by rfl)
    (hline : (apos.endLine == cpos.line) = true := by rfl) (hs : starEach (e :: es) X.env = (false, eval e X.env) :: starEach es X.env := by rfl) (hplain : (backTo cpos (starEach es X.env)).any (·.1) = false := by rfl) :
    PE X (.Call (.Attribute o name apos) (e :: es) [] cpos) (tBM X.K T r to t) := by
  intro pins s σ H Q I h
  refine wpAny_Call_method_late hbase hfew hline rfl (thn (ho pins s σ H _ I h) fun v s1 ⟨x, H1, I1, r1, ty, q1⟩ => ?_)
  obtain ⟨h1, h2⟩ := tyV_is I1 r1 ty
  refine ⟨T, id, pa, slot, hty, h1, h2, ?_⟩
  have hA := ha cpos pins s1 σ H1 _ I1 q1
  rw [hs] at hA ⊢
  refine Calls.callWith_builtin (by show (false || (backTo cpos (starEach es X.env)).any (·.1)) = false; rw [hplain] <;> rfl) (Calls.evalArgs_plain ?_)
  exact thn hA fun us s2 ⟨vs, H2, I2, r2, q2⟩ => hm pins s2 σ H2 x vs v us Q I2 r1 r2 q2
/- xs.append(e), list.index on a module's tuple .. are MtR facts of 06m -/
end
end L2

namespace L2
open PySem PySem.Spec PyProof.Rows

def MtM (X : Cx) (id : String) (r : V → List V → Hp → VK → Prop) : Prop :=
  ∀ (pins : List (Addr × Obj)) (s : Shared) (σ : St) (H : Hp) (x : V) (xs : List V) (v : Value) (us : List Value) (Q : VK), Inv X pins σ H s → RelV x v → Vals xs us → r x xs H Q →
    wpAny (model X.prog X.w) X.A (call (.builtin id) (v :: us)) (EP X pins σ Q) X.xe s

/-! ### lists of values -/
theorem Vals.one : ∀ {x : V} {us : List Value}, Vals [x] us → ∃ u, us = [u] ∧ RelV x u
  | _, _, .cons r .nil => ⟨_, rfl, r⟩
theorem Vals.two : ∀ {x y : V} {us : List Value}, Vals [x, y] us → ∃ u v, us = [u, v] ∧ RelV x u ∧ RelV y v
  | _, _, _, .cons r (.cons q .nil) => ⟨_, _, rfl, r, q⟩
theorem Vals.zero : ∀ {us : List Value}, Vals [] us → us = []
  | _, .nil => rfl
theorem Vals.dropLast {xs : List V} {us : List Value} (h : Vals xs us) : Vals xs.dropLast us.dropLast := by
  induction h with
  | nil => exact .nil
  | cons r t ih =>
    cases t with
    | nil => exact .nil
    | cons q t' => exact .cons r ih
theorem Vals.rep {xs : List V} {us : List Value} (h : Vals xs us) : ∀ k : Nat, Vals (List.replicate k xs).flatten (List.replicate k us).flatten
  | 0 => .nil
  | k + 1 => by
    rw [List.replicate_succ, List.replicate_succ, List.flatten_cons, List.flatten_cons]
    exact Vals.append h (Vals.rep h k)
theorem foldl_rep (its : List Value) : ∀ (k : Nat) (acc : List Value),
    List.foldl (fun x1 x2 => x1 ++ x2) acc.toArray (List.replicate k its.toArray) = (acc ++ (List.replicate k its).flatten).toArray
  | 0, acc => by simp
  | k + 1, acc => by
    have e : acc.toArray ++ its.toArray = (acc ++ its).toArray := by simp
    have e2 : (acc ++ its) ++ (List.replicate k its).flatten = acc ++ (List.replicate (k + 1) its).flatten := by
      rw [List.replicate_succ, List.flatten_cons, List.append_assoc]
    rw [← e2, ← foldl_rep its k (acc ++ its), ← e, List.replicate_succ, List.foldl_cons]

section
variable {X : Cx} {pins : List (Addr × Obj)} {σ : St} {H : Hp} {s : Shared} {l b : Addr} {xs ys zs : List V}

/-! ### the two steps: a tracked list is rewritten, a new list is laid -/
theorem Inv.lset {its its' : List Value} {n : Nat} {f : Array Value → Array Value} {t' : Nat} (I : Inv X pins σ H s) (hH : H l = some (.lst xs))
    (e : s.heap.get? l = some { cls := .type "list", data := .seq its.toArray n }) (hf : f its.toArray = its'.toArray) (hv : Vals ys its') (hz : ys.length ≤ sizeLine) :
    Inv X pins σ (upd H l (.lst ys)) { s with heap := s.heap.update l (Obj.mapSeq f), toks := t' } := by
  have q := PySem.IsL.update e f
  rw [hf] at q
  refine I.write (x := l) (e := l) (by rw [hH]; exact trivial) (.inl rfl) (fun b' u hb hu => (Heap.get?_update_other s.heap (Obj.mapSeq f) (Ne.symm hb)).trans hu) ⟨_, q⟩ ?_
  exact ⟨hz, its', _, hv, q⟩
theorem Inv.lnew {its : List Value} {t' : Nat} (I : Inv X pins σ H s) (hv : Vals ys its) (hz : ys.length ≤ sizeLine) :
    Inv X pins σ (upd H s.heap.objs.size (.lst ys)) { s with heap := s.heap.push { cls := .type "list", data := .seq its.toArray }, toks := t' } :=
  I.laid (fun _ _ q => Heap.get?_push_of_some _ q) (Nat.le_refl _) ⟨hz, its, 0, hv, Heap.get?_push_size _ rfl⟩
theorem Inv.fresh (I : Inv X pins σ H s) : H s.heap.objs.size = none := I.hok.fresh (Nat.le_refl _)
theorem Inv.lstM (I : Inv X pins σ H s) (hH : H l = some (.lst xs)) : xs.length ≤ sizeLine ∧ ∃ (its : List Value) (n : Nat), Vals xs its ∧ xs.length = its.length ∧ s.heap.get? l = some { cls := .type "list", data := .seq its.toArray n } := by
  obtain ⟨z, its, n, r, e⟩ := I.hok l _ hH
  exact ⟨z, its, n, r, r.length, e⟩

end

section
variable {X : Cx}

/-! ### methods -/
def rAppend : V → List V → Hp → VK → Prop := fun x vs H Q => ∃ l xs y, x = .ref l ∧ vs = [y] ∧ H l = some (.lst xs) ∧ xs.length < sizeLine ∧ Q .non (upd H l (.lst (xs ++ [y])))
theorem mt_append : MtM X "list.append" rAppend := by
  intro pins s σ H x vs v us Q I rx rv h
  obtain ⟨l, xs, y, rfl, rfl, hH, hz, q⟩ := h
  cases rx
  obtain ⟨u, rfl, ru⟩ := rv.one
  obtain ⟨z, its, n, r, hl, e⟩ := I.lstM hH
  refine call_meets F.slot_list_append ⟨_, e, rfl⟩ F.entry_list_append (F.args_list_append_2 _ _) (PySem.list_append l its.toArray n u (by rw [List.size_toArray]; omega)) ⟨e, ?_⟩
  refine ⟨.non, _, I.lset (its' := its ++ [u]) hH e (by simp) (r.append (.cons ru .nil)) ?_, rfl, q⟩
  rw [List.length_append, List.length_singleton]
  omega

/-! ### list + list, list += list, list * int -/
def rCat : R2 := fun x y H Q => ∃ l b xs zs, x = .ref l ∧ y = .ref b ∧ H l = some (.lst xs) ∧ H b = some (.lst zs) ∧ xs.length + zs.length ≤ sizeLine ∧ ∀ p, H p = none → Q (.ref p) (upd H p (.lst (xs ++ zs)))
theorem op_cat : OpR X (binaryOp .Add) rCat := by
  intro pins s σ H x y v u Q I rx ry h
  obtain ⟨l, b, xs, zs, rfl, rfl, hH, hB, hz, q⟩ := h
  cases rx
  cases ry
  obtain ⟨z, its, n, r, hl, e⟩ := I.lstM hH
  obtain ⟨z2, its2, n2, r2, hl2, e2⟩ := I.lstM hB
  refine PySem.P.add_list e e2 ?_ (by rw [List.size_toArray, List.size_toArray]; omega)
  have ea : its.toArray ++ its2.toArray = (its ++ its2).toArray := by simp
  rw [ea]
  exact ⟨.ref _, _, I.lnew (t' := s.toks) (r.append r2) (by rw [List.length_append]; omega), rfl, q _ I.fresh⟩
theorem len_rep {α : Type} (xs : List α) (k : Nat) : (List.replicate k xs).flatten.length = k * xs.length := by
  induction k with
  | zero => simp
  | succ k ih => rw [List.replicate_succ, List.flatten_cons, List.length_append, ih, Nat.succ_mul, Nat.add_comm]
/-! ### del xs[i] -/
end

/-! ### xs[a:b] = ys -/

end L2

namespace Att
open PySem PySem.W PySem.Calls PyProof.Rows

/-! ### the script -/
theorem ints_of_wellAll {P : Params} {h : Heap} : ∀ (ns : List Int) (vs : List Value), WellAll P h vs (ns.map WData.int) → IntsAre vs ns := by
  intro ns
  induction ns with
  | nil =>
    intro vs w
    rw [List.map_nil] at w
    cases w
    exact .nil
  | cons n ns ih =>
    intro vs w
    rw [List.map_cons] at w
    cases w with
    | cons a b =>
      cases a
      exact .cons _ _ (ih _ b)

theorem script_of {l : OpenLaw} {n : Nat} (hn : l.most = some n) {P : Params} {h : Heap} {args : List WData} {vals : List Value}
    (hpre : l.row.toRowW.claim.pre args = true) (hwl : WellAll P h vals args) :
    ∃ a vs ns, vals = [Value.ref a] ∧ args = [WData.list (ns.map WData.int)] ∧ h.get? a = some { cls := .type "list", data := .seq vs.toArray } ∧ IntsAre vs ns ∧ ns.length ≤ n := by
  have hsh : WShape.hasAll [] args [.list .int] = true := (pre_splitW hpre).1
  have hc : l.pre.holds [] { args := args } = true := (pre_splitW hpre).2
  obtain ⟨d, r, rfl, h1, h2⟩ := hasAllW_cons hsh
  obtain rfl := hasAllW_nil h2
  obtain ⟨xs, rfl, h3⟩ := hasW_list h1
  obtain ⟨ns, rfl⟩ := items_int h3
  have hlen : ns.length ≤ n := by
    unfold OpenLaw.pre at hc
    have h4 : (WTm.not (.lt (.lit (.int (n : Int))) (.len (.arg 0)))).holds [] { args := [.list (ns.map .int)] } = true := by
      have h4 := (holds_andW hc).1
      rw [hn] at h4
      exact h4
    have h5 := condW_of h4 (w_not (w_lt w_lit (w_len_list (w_arg rfl))))
    rw [List.length_map] at h5
    refine Nat.le_of_not_lt fun q => ?_
    have q' : (n : Int) < ((ns.length : Nat) : Int) := by omega
    first
      | (rw [decide_eq_true q'] at h5; exact absurd h5 (by decide))
      | (simp at h5; omega)
  cases hwl with
  | cons w1 w2 =>
    cases w2
    cases w1 with
    | list ho hall => exact ⟨_, _, ns, rfl, rfl, ho, ints_of_wellAll ns _ hall, hlen⟩

theorem post_true (l : OpenLaw) (args : List WData) : l.row.toRowW.claim.post args (.bool true) args = true :=
  postW_of (r := l.row.toRowW) (X := (true == true))
    (show WShape.has [] (.bool true) .bool = true by first | rfl | decide | simp [WShape.has, WShape.arms, WShape.armsAll])
    (show (WTm.eq .res (.lit (.bool true))).value [] { args := args, res := some (.bool true), after := args } = some (.bool (true == true)) from w_eq_bool (w_res rfl) w_lit) rfl

/-! ### the attachment: holds_open's last premise (the goal 'hc' behind k_head) from a wpAny of the law's body -/
/-- the same from a codeAny of the CALL (for a layer whose function contracts speak of calls) -/
theorem attach_call {l : OpenLaw} {n : Nat} {q : Program} {loose : List Str} {XP : (Str → Option Value) → Heap → Prop} {YP : World → Heap → Prop} {d : DefRec}
    (hn : l.most = some n) (hdf : d.params.defaults = [])
    (call : ∀ (w : World) (s₀ s₁ : Shared) (mg mb : Str → Option Value) (fa : Addr) (o : Obj) (pm cd doc : Value) (a : Addr) (vs : List Value) (ns : List Int),
      Ground q loose [] XP w s₀ mg mb s₁.heap → YP w s₁.heap →
      s₁.heap.get? fa = some o → o.data = .func (docDef d.name d.params d.body d.scope pm cd doc) → s₁.heap.CodeRec cd d.name → mg d.name = some (.ref fa) →
      s₁.heap.get? a = some { cls := .type "list", data := .seq vs.toArray } → IntsAre vs ns → ns.length ≤ n → s₁.gens = #[] →
      codeAny (model l.prog w) callerA (.call (.ref fa) ⟨[.ref a], []⟩) (fun r s' => r = .ok (.ret (.bool true)) ∧ OldK s₁.heap s'.heap ∧ s'.os = s₁.os ∧ AllBare s'.gens) s₁) :
    WalkO q loose XP YP l.row.toRowW d [] (fun f vs => PySem.call f vs) := by
  intro w s₀ s₁ mg mb G Y fa o pm cd doc dV kV ho hd hcd hD hmg hg args vals as hpre hlay hrd hwl hlo
  obtain rfl : dV = .none := Dflts.none hD hdf
  obtain rfl : kV = .none := Dflts.noKw hD
  obtain ⟨a, vs, ns, rfl, rfl, hobj, hints, hlen⟩ := script_of hn hpre hwl
  refine enter_call (codeAny_mono (call w s₀ s₁ mg mb fa o pm cd doc a vs ns G Y ho (fd_plain hd) hcd hmg hobj hints hlen hg) fun r s' hq => ?_)
  obtain ⟨rfl, h2, h3, h4⟩ := hq
  exact ⟨.inl ⟨.bool true, .bool true, [], rfl, fun _ => rfl, .bool true, post_true l _, fun _ => ⟨List.Pairwise.nil, fun _ hm => (nomatch hm)⟩⟩, h2, h3, h4⟩

/-! ### rules over ANY heap (no ledger) from facts about the written part K: the library's own take a ledger (News) for what they write -/
section
variable {prog : Program} {w : World} {A : Around} {E : Value → Shared → Prop} {s : Shared} {K : Frag}

/-! the whole heap as the ledger: makes every rule that writes through a ledger a rule over any heap -/
end
end Att

namespace L2
open PySem PySem.Spec PyProof.Rows

theorem vals_ints : ∀ {vs : List Value} {ns : List Int}, IntsAre vs ns → Vals (ns.map V.int) vs
  | _, _, .nil => .nil
  | _, _, .cons n t h => .cons ⟨t, rfl⟩ (vals_ints h)

/-- nothing is tracked but the script, known to the object (or it is an object of the module) -/
def Only (H : Hp) : Prop := ∀ b, H b = none ∨ ∃ o xs, H b = some (.frz o (.lst xs))

/-- THE HEAD: the law's promise, at the heap behind the top. F, the promise of the law's def, may use that base is part of the heap (so K.In base, base.Ns mainGlobals mg stand in Mod) -/
theorem law_call {P : Program} {w : World} {K : PySem.W.Frag} {mg mb : Str → Option Value} {CX : CXT} {k : Nat} {fa a : Addr} {fd : FuncData} {x : Str} {sp : Sp} {s₁ : Shared} {vs : List Value} {ns : List Int}
    (KX : K.In s₁.heap) (hns : s₁.heap.Ns mainGlobals mg) (hb : s₁.heap.Ns builtinsNs mb) (hbb : ∀ x : Str, x ≠ "__name__" → mb x = bootBuiltins x) (hlim : s₁.heap.NoLimit) (hg : s₁.gens = #[])
    (ha : s₁.heap.get? a = some { cls := .type "list", data := .seq vs.toArray }) (hi : IntsAre vs ns) (hl : ns.length ≤ sizeLine) (hr : Room k callerA)
    (F : ∀ base : Heap, K.In base → base.Ns mainGlobals mg → FnOk P w K mg base CX k fa fd [x] sp) (hbind : ∀ (s : Shared) (u : Value), BindsTo s fd ⟨[u], []⟩ [(x, u)])
    (hsp : ∀ H : Hp, Only H → SqL K H a (ns.map V.int) → sp [.ref a] H (fun v _ => v = .bl true) fun _ _ _ => False)
    (hCX : ∀ H e s', CX [] H s₁ (fun _ _ _ => False) e s' → False) :
    codeAny (model P w) callerA (.call (.ref fa) ⟨[.ref a], []⟩) (fun r s' => r = .ok (.ret (.bool true)) ∧ OldK s₁.heap s'.heap ∧ s'.os = s₁.os ∧ AllBare s'.gens) s₁ := by
  have rv := vals_ints hi
  have lenV := hi.length
  -- from an abstract heap in which nothing but the script may be tracked
  have core : ∀ H : Hp, Only H → SqL K H a (ns.map V.int) → HOk P w H s₁.heap → (∀ b, H b ≠ none → b = a) → (H a ≠ none → K.lookup a = none) →
      codeAny (model P w) callerA (.call (.ref fa) ⟨[.ref a], []⟩) (fun r s' => r = .ok (.ret (.bool true)) ∧ OldK s₁.heap s'.heap ∧ s'.os = s₁.os ∧ AllBare s'.gens) s₁ := by
    intro H hO hS hok hA hK
    have base_of : ∀ {b : Addr} {o : Obj}, s₁.heap.get? b = some o → H b = none → (hidT s₁.heap H).get? b = some o := fun e n => hidT_get e n
    have noA : ∀ {b : Addr} {o : Obj} {es : Array DictEntry} {ep : Nat}, s₁.heap.get? b = some o → o.data = .dict es ep → H b = none := fun {b o es ep} e d => by
      cases q : H b with
      | none => rfl
      | some u =>
        have e' : b = a := hA b (by rw [q]; simp)
        subst e'
        rw [ha] at e; cases e
        have d' : Data.seq vs.toArray _ = Data.dict es ep := d
        cases d'
    have nsK : ∀ {b : Addr} {m : Str → Option Value}, s₁.heap.Ns b m → (hidT s₁.heap H).Ns b m := fun {b m} ⟨o, es, ep, e, d, r⟩ => ⟨o, es, ep, base_of e (noA e d), d, r⟩
    have hKb : K.In (hidT s₁.heap H) := fun b o e => base_of (KX b o e) (by
      cases q : H b with
      | none => rfl
      | some u =>
        have e' : b = a := hA b (by rw [q]; simp)
        subst e'
        rw [hK (by rw [q]; simp)] at e; cases e)
    have hM : Mod K mg (hidT s₁.heap H) := ⟨hKb, nsK hns, ⟨mb, nsK hb, hbb⟩, let ⟨mc, h1, h2⟩ := hlim; ⟨mc, nsK h1, h2⟩⟩
    have e0 : Env0 P w K mg (hidT s₁.heap H) callerA [] s₁ H := ⟨rfl, hM, fun b o e => of_hidT e, Nat.le_of_eq (hidT_size _ _), trivial, fun b hb => absurd (show b ∈ ([] : List Addr) from hb) (by simp), hok, .of_eq hg⟩
    refine codeAny_mono ((F _ hKb (nsK hns)).run callerA [] s₁ H ⟨[.ref a], []⟩ [.ref a] [.ref a] _ _ hr e0 (hbind s₁ (.ref a)) (.cons rfl .nil) (hsp H hO hS)) fun r s' h => ?_
    cases r with
    | error e => exact (hCX H e s' h).elim
    | ok fl =>
      cases fl with
      | next => exact False.elim h
      | brk => exact False.elim h
      | cont => exact False.elim h
      | ret u =>
        obtain ⟨v, H', os, bare, un, hok', r', q⟩ := h
        have q' : v = .bl true := q
        subst q'
        obtain rfl : u = Value.bool true := r'
        refine ⟨rfl, OldK.of_keep fun b o e => ?_, os, bare⟩
        cases q : H b with
        | none => exact un.keep b o e q (by intro z; exact absurd (show b ∈ ([] : List Addr) from z) (by simp)) (by simp)
        | some u =>
          rcases hO b with z | ⟨ob, xs, z⟩
          · rw [q] at z; cases z
          · have z2 := un.frzs b ob _ z
            obtain ⟨e1, _⟩ := hok b _ z
            obtain ⟨e2, _⟩ := hok' b _ z2
            rw [e] at e1; cases e1
            exact e2
  cases hk : K.lookup a with
  | some o =>
    -- the script is one of the module's own objects
    have e := KX a o hk
    rw [ha] at e
    cases e
    refine core (fun _ => none) (fun _ => .inl rfl) (.inr ⟨_, vs.toArray, _, hk, rfl, rfl, rfl, by rw [List.size_toArray, lenV]; exact hl, by simpa using rv⟩) (fun b u z => by have z' : (none : Option HO) = some u := z; cases z') (fun b z => absurd rfl z) fun z => absurd rfl z
  | none =>
    refine core (fun b => if b = a then some (.frz { cls := .type "list", data := .seq vs.toArray } (.lst (ns.map V.int))) else none) (fun b => ?_) (.inl (.inr ⟨{ cls := .type "list", data := .seq vs.toArray }, if_pos rfl⟩)) (fun b u z => ?_) (fun b z => ?_) fun _ => hk
    · by_cases hb : b = a
      · exact .inr ⟨_, _, if_pos hb⟩
      · exact .inl (if_neg hb)
    · by_cases hb : b = a
      · have z' := (if_pos hb).symm.trans z
        cases z'
        subst hb
        exact ⟨ha, by rw [List.length_map]; exact hl, vs, _, rv, ha⟩
      · have z' := (if_neg hb).symm.trans z
        cases z'
    · by_cases hb : b = a
      · exact hb
      · exact absurd (if_neg hb) z
end L2

namespace L2
open PySem PySem.Spec PyProof.Rows

abbrev KOf {K : PySem.W.Frag} {h : Heap} (_ : K.In h) : PySem.W.Frag := K

/-- the goal that k_head leaves (case hc), from the law's promise. F gives the function object fd (K's own) once, then the promise over every base -/
theorem walk_of {l : PySem.W.OpenLaw} {n k : Nat} {q : Program} {loose : List Str} {XP : (Str → Option Value) → Heap → Prop} {YP : World → Heap → Prop} {d : DefRec} {K : Params → PySem.W.Frag} {CX : World → CXT} {sp : World → Sp} {x : Str}
    (hn : l.most = some n) (hn2 : n ≤ sizeLine) (hdf : d.params.defaults = []) (hr : Room k callerA)
    (hY : ∀ (w : World) (h : Heap), YP w h → (K w.params).In h)
    (F : ∀ (w : World) (mg : Str → Option Value) (fa : Addr) (h : Heap), (K w.params).In h → h.Ns mainGlobals mg → mg d.name = some (.ref fa) →
      ∃ fd : FuncData, (∀ (s : Shared) (u : Value), BindsTo s fd ⟨[u], []⟩ [(x, u)]) ∧
        ∀ base : Heap, (K w.params).In base → base.Ns mainGlobals mg → FnOk l.prog w (K w.params) mg base (CX w) k fa fd [x] (sp w))
    (hsp : ∀ (w : World) (H : Hp) (a : Addr) (ns : List Int), ns.length ≤ n → Only H → SqL (K w.params) H a (ns.map V.int) → sp w [.ref a] H (fun v _ => v = .bl true) fun _ _ _ => False)
    (hCX : ∀ (w : World) (H : Hp) (s : Shared) (e : Value) (s' : Shared), CX w [] H s (fun _ _ _ => False) e s' → False) :
    PySem.W.WalkO q loose XP YP l.row.toRowW d [] (fun f vs => PySem.call f vs) := by
  refine Att.attach_call hn hdf fun w s₀ s₁ mg mb fa o pm cd doc a vs ns G Y ho hd hcd hmg hobj hints hlen hg => ?_
  have KX := hY w _ Y
  obtain ⟨fd, hb, hF⟩ := F w mg fa _ KX G.T.g hmg
  exact law_call KX G.T.g G.T.b G.T.builtins G.T.nolimit hg hobj hints (Nat.le_trans hlen hn2) hr hF hb (fun H hO hS => hsp w H a ns hlen hO hS) fun H e s' => hCX w H s₁ e s'
end L2

/- THE LAST THEOREM (shape; LID, My.* are yours):
   My.Adr: a structure of the addresses that your layer names (classes, functions); My.Txt K t: a structure (Prop) of the equations over K;
   My.txt_mk : {K} {implicit addresses ..} (e1 : nsIn K mainGlobals "law" = some (some (.ref f))) (e2 : K.lookup f = some ⟨oc, od, .func (fnOf "law" "law" params body scope dV kV doc pm an cdv ct), sl⟩) (e3 : codeIn K cdv "law" = true) .. : ∃ t, My.Txt K t

set_option maxRecDepth 100000 in
set_option maxHeartbeats 0 in
theorem PySem.Challenge.cw_LID_holds : PySem.Challenge.rw_LID.Holds := by
  w_on; o_law; k_head; (case hw => w_witness2)
  k_fill
  refine L2.walk_of (l := PySem.Challenge.rw_LID) (n := 63) (k := 40) (x := "script") (CX := fun w => ..) (sp := fun _ => My.sp_law) rfl (by decide) rfl ⟨rfl, by decide, by decide⟩ (fun w h Y => PySem.W.kIn_of Y) ?F ?S ?C
  case F =>
    intro w mg fa h KX G hmg
    have T : ∃ t, My.Txt (L2.KOf KX) t := by
      dsimp only [L2.KOf]                          -- K must stand as «<heap const> w.params» for k_is
      refine' My.txt_mk ?e1 ?e2 ?e3 ..
      (case e1 => PySem.W.k_is)                    -- in the order: a name -> its address -> its object -> its parts
      (case e2 => PySem.W.k_is)
      ..
    obtain ⟨t, T⟩ := T
    have e0 := hmg.symm.trans (PySem.W.mg_of KX G T.law)
    cases e0                                       -- fa is the law's own address
    exact ⟨_, fun s u => .of_eq rfl, fun base kb nb => My.law_fn T kb nb⟩     -- if «.of_eq rfl» comes too early: refine' ⟨_, ?b, fun base kb nb => My.law_fn T kb nb⟩; exact fun s u => .of_eq rfl
  case S => exact fun w H a ns hl hO hS => ..
  case C => exact ..
(the tactic k_is has no namespace: write k_is) -/

/-! SHORT WORDS over the layer: a def of the text, its body, what a loop and a test want. -/
namespace L2
open PySem PySem.Spec PyProof.Rows

/-! ### the text by places -/
def defArgs (s : Stmt) : Arguments := match s with
  | .FunctionDef _ a _ _ _ _ _ _ _ _ => a
  | _ => { posonlyargs := [], args := [], vararg := none, kwonlyargs := [], kw_defaults := [], kwarg := none, defaults := [] }
def defBody (s : Stmt) : List Stmt := match s with
  | .FunctionDef _ _ b _ _ _ _ _ _ _ => b
  | _ => []
def defScope (s : Stmt) : Scope := match s with
  | .FunctionDef _ _ _ _ _ _ sc _ _ _ => sc
  | _ => { kind := .function, names := [], isGenerator := false, isCoroutine := false }

/-! ### no exception leaves a def -/
abbrev CX0 : CXT := fun _ _ _ _ _ _ => False
abbrev E0 : XK := fun _ _ _ => False
theorem pass0 {X : Cx} : Passes CX0 X E0 := fun _ _ _ _ _ _ _ h => h.elim

/-! ### a def (or method) of the text as it stands behind the top -/
structure Fun (K : PySem.W.Frag) (x qual : Str) (st : Stmt) (f : Addr) (fd : FuncData) : Prop where
  ex : ∃ (oc : Value) (od : Option Addr) (kV doc pm : Value) (an : Option Addr) (cdv ct : Value) (osl : Array (Option Value)),
    fd = PySem.W.fnOf x qual (defArgs st) (defBody st) (defScope st) .none kV doc pm an cdv ct ∧ K.lookup f = some ⟨oc, od, .func fd, osl⟩ ∧ PySem.W.codeIn K cdv qual = true
  kp : PySem.W.keepIn K (.ref f) = true
section
variable {P : Program} {w : World} {K : PySem.W.Frag} {mg : Str → Option Value} {base : Heap}
/-- THE RULE for a def: its body as a term of rules, and the reading of that term -/
theorem Fun.ok {x qual : Str} {st : Stmt} {f : Addr} {fd : FuncData} {N ps : List Str} {k : Nat} {sp : Sp} (F : Fun K x qual st f fd) (S : FnScope N ps (defScope st)) (len : ∀ vs H Q E, sp vs H Q E → vs.length = ps.length)
    (hbody : ∀ (cdv : Value) (A : Around) (outer : List Env) (s : Shared) (H : Hp) (vs : List V) (Q : VK) (E : XK), Room k (A.deeper (envOfC qual (defScope st) s.heap.objs.size f cdv)) → sp vs H Q E →
      ∃ t, PSs (cxOf CX0 P w K mg base N qual (defScope st) f cdv A outer s H E).nox (defBody st) t ∧ t { nx := fun _ H' => Q .non H', rt := Q } (start N vs) H) : FnOk P w K mg base CX0 (k + 1) f fd ps sp := by
  obtain ⟨oc, od, kV, doc, pm, an, cdv, ct, osl, rfl, lk, hcd⟩ := F.ex
  refine fn_of lk hcd S len fun A outer s H vs Q E hr hsp => ?_
  obtain ⟨t, h, q⟩ := hbody cdv A outer s H vs Q E hr hsp
  exact ⟨t, h.nox, q⟩
/-- how its arguments bind (no defaults): h is «fun _ _ _ _ _ _ us hl => match us, hl with | [_, _], _ => rfl», one _ a parameter -/
theorem Fun.binds {x qual : Str} {st : Stmt} {f : Addr} {fd : FuncData} {ps : List Str} (F : Fun K x qual st f fd)
    (h : ∀ (kV doc pm : Value) (an : Option Addr) (cdv ct : Value) (us : List Value), us.length = ps.length → bindArgs (PySem.W.fnOf x qual (defArgs st) (defBody st) (defScope st) .none kV doc pm an cdv ct) ⟨us, []⟩ = pure (ps.zip us)) : Binds K fd ps [] := by
  obtain ⟨oc, od, kV, doc, pm, an, cdv, ct, osl, rfl, lk, hcd⟩ := F.ex
  exact .all (h kV doc pm an cdv ct)
theorem fun_mk {x qual : Str} {st : Stmt} {f : Addr} {oc : Value} {od an : Option Addr} {osl : Array (Option Value)} {kV doc pm cdv ct : Value} (l : K.lookup f = some ⟨oc, od, .func (PySem.W.fnOf x qual (defArgs st) (defBody st) (defScope st) .none kV doc pm an cdv ct), osl⟩)
    (c : PySem.W.codeIn K cdv qual = true) (k : PySem.W.keepIn K (.ref f) = true) : Fun K x qual st f (PySem.W.fnOf x qual (defArgs st) (defBody st) (defScope st) .none kV doc pm an cdv ct) := ⟨⟨oc, od, kV, doc, pm, an, cdv, ct, osl, rfl, l, c⟩, k⟩
end
theorem hu_of {A : Around} {k : Nat} (hr : Room k A) : A.units + 1 < cLine := Nat.lt_of_le_of_lt (Nat.add_le_add_left (by decide : 1 ≤ 64) _) hr.units
/-! ### expressions in short: the name that stands in the i-th slot -/

/-! ### tests -/
theorem iteF {A B : Prop} (h : B) : if false = true then A else B := by
  rw [if_neg Bool.false_ne_true]
  exact h
theorem iteT {A B : Prop} (h : A) : if true = true then A else B := by
  rw [if_pos rfl]
  exact h
/-! ### heaps -/
/-- all that was tracked is as it was -/
def Same (H H' : Hp) : Prop := ∀ b o, H b = some o → H' b = some o
theorem Same.refl (H : Hp) : Same H H := fun _ _ h => h
theorem Same.trans {H H1 H2 : Hp} (a : Same H H1) (b : Same H1 H2) : Same H H2 := fun c o h => b c o (a c o h)
theorem Same.free {H H' : Hp} (e : Same H H') {l : Addr} (h : H' l = Option.none) : H l = Option.none := by
  cases q : H l with
  | none => rfl
  | some o =>
    rw [e l o q] at h
    cases h
theorem Same.seq {K : PySem.W.Frag} {H H' : Hp} {a : Addr} {xs : List V} (e : Same H H') (h : SqL K H a xs) : SqL K H' a xs := by
  rcases h with (h | ⟨o, h⟩) | h
  · exact .inl (.inl (e _ _ h))
  · exact .inl (.inr ⟨o, e _ _ h⟩)
  · exact .inr h

end L2

namespace L2
open PySem PySem.Spec PyProof.Rows

/-! ### lists of pairs as tables -/
section
variable {κ : Type} [DecidableEq κ]
def valV (kvs : List (κ × V)) (k : κ) : Option V := (kvs.find? fun kv => decide (kv.1 = k)).map (·.2)
/-- in its place, or at the end -/
def putK (kvs : List (κ × V)) (k : κ) (v : V) : List (κ × V) :=
  if (kvs.any fun kv => decide (kv.1 = k)) = true then kvs.map (fun kv => if kv.1 = k then (kv.1, v) else kv) else kvs ++ [(k, v)]
def dropK (kvs : List (κ × V)) (k : κ) : List (κ × V) := kvs.filter fun kv => decide (kv.1 ≠ k)

theorem valV_pos {p : κ × V} {r : List (κ × V)} {k : κ} (e : p.1 = k) : valV (p :: r) k = some p.2 := by simp [valV, List.find?_cons, e]
theorem valV_neg {p : κ × V} {r : List (κ × V)} {k : κ} (e : ¬ p.1 = k) : valV (p :: r) k = valV r k := by simp [valV, List.find?_cons, e]
theorem valV_any (k : κ) : ∀ kvs : List (κ × V), (kvs.any fun kv => decide (kv.1 = k)) = (valV kvs k).isSome
  | [] => rfl
  | p :: r => by
    rw [List.any_cons]
    by_cases e : p.1 = k
    · simp only [valV_pos e, decide_eq_true e, Bool.true_or, Option.isSome_some]
    · rw [valV_neg e, decide_eq_false e, Bool.false_or]; exact valV_any k r
theorem RelO.isSome_eq {o : Option V} {u : Option Value} (r : RelO o u) : o.isSome = u.isSome := by
  cases o with
  | none => cases u with
    | none => rfl
    | some _ => exact (show False from r).elim
  | some _ => cases u with
    | none => exact (show False from r).elim
    | some _ => rfl
theorem RelO.getD {o : Option V} {u : Option Value} {d : V} {d' : Value} (r : RelO o u) (rd : RelV d d') : RelV (o.getD d) (u.getD d') := by
  cases o with
  | none => cases u with
    | none => exact rd
    | some _ => exact (show False from r).elim
  | some _ => cases u with
    | none => exact (show False from r).elim
    | some _ => exact r

/-- raw tables of the same keys -/
theorem KV.val {kvs : List (κ × V)} {vs : List (κ × Value)} (r : KV kvs vs) (k : κ) : RelO (valV kvs k) (valueAt vs k) := by
  unfold KV at r
  induction r with
  | nil => exact True.intro
  | @cons p q ps qs h t ih =>
    obtain ⟨h1, h2⟩ := h
    by_cases e : p.1 = k
    · have e' : q.1 = k := h1.symm.trans e
      have b : valueAt (q :: qs) k = some q.2 := by simp [valueAt, List.find?_cons, e']
      rw [valV_pos e, b]; exact h2
    · have e' : ¬ q.1 = k := fun z => e (h1.trans z)
      have b : valueAt (q :: qs) k = valueAt qs k := by simp [valueAt, List.find?_cons, e']
      rw [valV_neg e, b]; exact ih
theorem KV.any {kvs : List (κ × V)} {vs : List (κ × Value)} (r : KV kvs vs) (k : κ) : (kvs.any fun kv => decide (kv.1 = k)) = vs.any fun kv => decide (kv.1 = k) := by
  unfold KV at r
  induction r with
  | nil => rfl
  | cons h t ih => rw [List.any_cons, List.any_cons, ih, h.1]
theorem KV.repl {kvs : List (κ × V)} {vs : List (κ × Value)} (r : KV kvs vs) (k : κ) {y : V} {u : Value} (ry : RelV y u) :
    KV (kvs.map fun kv => if kv.1 = k then (kv.1, y) else kv) (vs.map fun kv => if kv.1 = k then (kv.1, u) else kv) := by
  unfold KV at r ⊢
  induction r with
  | nil => exact .nil
  | @cons p q ps qs h t ih =>
    rw [List.map_cons, List.map_cons]
    refine .cons ?_ ih
    obtain ⟨h1, h2⟩ := h
    by_cases e : p.1 = k
    · rw [if_pos e, if_pos (h1.symm.trans e)]; exact ⟨h1, ry⟩
    · rw [if_neg e, if_neg (fun z => e (h1.trans z))]; exact ⟨h1, h2⟩
theorem KV.put {kvs : List (κ × V)} {vs : List (κ × Value)} (r : KV kvs vs) (k : κ) {y : V} {u : Value} (ry : RelV y u) : KV (putK kvs k y) (stored vs k u) := by
  unfold putK stored
  rw [r.any k]
  by_cases e : (vs.any fun kv => decide (kv.1 = k)) = true
  · rw [if_pos e, if_pos e]; exact r.repl k ry
  · rw [if_neg e, if_neg e]; exact Paired.snoc r ⟨rfl, ry⟩
theorem KV.drop {kvs : List (κ × V)} {vs : List (κ × Value)} (r : KV kvs vs) (k : κ) : KV (dropK kvs k) (without vs k) := by
  unfold KV at r ⊢
  unfold dropK without
  induction r with
  | nil => exact .nil
  | @cons p q ps qs h t ih =>
    obtain ⟨h1, h2⟩ := h
    rw [List.filter_cons, List.filter_cons]
    by_cases e : p.1 = k
    · have a : ¬ decide (p.1 ≠ k) = true := by simp [e]
      have b : ¬ decide (q.1 ≠ k) = true := by simp [h1.symm.trans e]
      rw [if_neg a, if_neg b]; exact ih
    · have e' : ¬ q.1 = k := fun z => e (h1.trans z)
      have a : decide (p.1 ≠ k) = true := by simp [e]
      have b : decide (q.1 ≠ k) = true := by simp [e']
      rw [if_pos a, if_pos b]; exact .cons ⟨h1, h2⟩ ih
theorem KV.keys {kvs : List (κ × V)} {vs : List (κ × Value)} (r : KV kvs vs) : kvs.map (·.1) = vs.map (·.1) := by
  unfold KV at r
  induction r with
  | nil => rfl
  | cons h t ih => rw [List.map_cons, List.map_cons, ih, h.1]
theorem KV.length {kvs : List (κ × V)} {vs : List (κ × Value)} (r : KV kvs vs) : kvs.length = vs.length := Paired.length r
end


/-! ### a tracked dict, its keys ints and texts or tuples of these -/
theorem kV_is {P : Program} {w : World} {k : Key} {u : Value} (r : RelV (kV k) u) : (mixKind P w).is k u = true := by
  cases k with
  | inl i => obtain ⟨t, e⟩ := (show ∃ t, u = Value.int i t from r); subst e; exact mixKind_int P w i t
  | inr x => obtain ⟨t, e⟩ := (show ∃ t, u = Value.str x t from r); subst e; exact mixKind_str P w x t
theorem items_are {P : Program} {w : World} : ∀ {ks : List Key} {us : List Value}, Vals (ks.map kV) us → ItemsAre (mixKind P w) ks us
  | [], _, r => by rw [List.map_nil] at r; cases r; exact .nil
  | k :: ks, _, r => by
    rw [List.map_cons] at r
    cases r with
    | cons h t => exact .cons (kV_is h) (items_are t)

/-- raw entries of a dict with tuple keys -/
abbrev KT (H : Hp) : List (List Key × V) → List (List Key × Addr × Value) → Prop := Paired fun p q => p.1 = q.1 ∧ H q.2.1 = some (.tup (p.1.map kV)) ∧ RelV p.2 q.2.2
theorem KT.val {H : Hp} {kvs : List (List Key × V)} {xs : List (List Key × Addr × Value)} (r : KT H kvs xs) (k : List Key) : RelO (valV kvs k) ((atKey xs k).map (·.2)) := by
  induction r with
  | nil => exact True.intro
  | @cons p q ps qs h t ih =>
    obtain ⟨h1, _, h2⟩ := h
    by_cases e : p.1 = k
    · have e' : q.1 = k := h1.symm.trans e
      have b : atKey (q :: qs) k = some q.2 := by simp [atKey, List.find?_cons, e']
      rw [valV_pos e, b]; exact h2
    · have e' : ¬ q.1 = k := fun z => e (h1.trans z)
      have b : atKey (q :: qs) k = atKey qs k := by simp [atKey, List.find?_cons, e']
      rw [valV_neg e, b]; exact ih
theorem KT.repl {H : Hp} {kvs : List (List Key × V)} {xs : List (List Key × Addr × Value)} (r : KT H kvs xs) (k : List Key) {y : V} {u : Value} (ry : RelV y u) :
    KT H (kvs.map fun kv => if kv.1 = k then (kv.1, y) else kv) (xs.map (putAt k u)) := by
  induction r with
  | nil => exact .nil
  | @cons p q ps qs h t ih =>
    rw [List.map_cons, List.map_cons]
    refine .cons ?_ ih
    obtain ⟨h1, h2, h3⟩ := h
    unfold putAt
    by_cases e : p.1 = k
    · rw [if_pos e, if_pos (h1.symm.trans e)]; exact ⟨h1, h2, ry⟩
    · rw [if_neg e, if_neg (fun z => e (h1.trans z))]; exact ⟨h1, h2, h3⟩
theorem KT.put {H : Hp} {kvs : List (List Key × V)} {xs : List (List Key × Addr × Value)} (r : KT H kvs xs) (k : List Key) {b : Addr} {y : V} {u : Value} (hb : H b = some (.tup (k.map kV))) (ry : RelV y u) :
    KT H (putK kvs k y) (storedH xs k b u) := by
  have e : (kvs.any fun kv => decide (kv.1 = k)) = (atKey xs k).isSome := by
    rw [valV_any, (r.val k).isSome_eq, Option.isSome_map]
  unfold putK storedH
  rw [e]
  by_cases q : (atKey xs k).isSome = true
  · rw [if_pos q, if_pos q]; exact r.repl k ry
  · rw [if_neg q, if_neg q]; exact Paired.snoc r ⟨rfl, hb, ry⟩
theorem KT.keeps {H H' : Hp} {kvs : List (List Key × V)} {xs : List (List Key × Addr × Value)} (r : KT H kvs xs) (ht : ∀ b ys, H b = some (.tup ys) → H' b = some (.tup ys)) : KT H' kvs xs :=
  Paired.mapP r fun _ _ z => ⟨z.1, ht _ _ z.2.1, z.2.2⟩

section
variable {P : Program} {w : World} {H : Hp} {h : Heap} {a : Addr}
theorem rd_of {u : HO} (ok : HOk P w H h) (e : Rd H a u) : ObjOk P w H h a u := e.ok ok
theorem dk_rd {kvs : List (Key × V)} (ok : HOk P w H h) (e : Rd H a (.dK kvs)) : kvs.length ≤ sizeLine ∧ (a == sysModules) = false ∧ ∃ vs, KV kvs vs ∧ h.DictOf (mixKind P w) a vs :=
  show ObjOk P w H h a (.dK kvs) from rd_of ok e
/-- a tracked tuple of ints and texts is a key -/
theorem key_of {ks : List Key} (ok : HOk P w H h) (e : H a = some (.tup (ks.map kV))) : (tupleKind (mixKind P w)).is h ks a := by
  obtain ⟨_, its, r, o, h1, h2, ⟨n, h3⟩, _⟩ := (show ObjOk P w H h a (.tup (ks.map kV)) from ok a _ e)
  exact ⟨o, its.toArray, n, h1, h2, h3, by simpa using items_are r⟩
theorem dt_rd {kvs : List (List Key × V)} (ok : HOk P w H h) (e : Rd H a (.dT kvs)) : kvs.length ≤ sizeLine ∧ (a == sysModules) = false ∧
    ∃ xs, KT H kvs xs ∧ h.DictOfH (tupleKind (mixKind P w)) a xs := by
  obtain ⟨z, y, xs, r, o, es, ep, h1, h2, h3, h4, h5⟩ := (show ObjOk P w H h a (.dT kvs) from rd_of ok e)
  refine ⟨z, y, xs, r, o, es, ep, h1, h2, h3, h4, fun x hx => ?_, h5⟩
  have all : ∀ {l : List (List Key × V)} {m : List (List Key × Addr × Value)}, KT H l m → ∀ x ∈ m, (tupleKind (mixKind P w)).is h x.1 x.2.1 := by
    intro l m q
    induction q with
    | nil => intro x hx; exact nomatch hx
    | @cons p q ps qs hq t ih =>
      intro x hx
      rcases List.mem_cons.mp hx with e | hx
      · subst e
        exact key_of ok (by rw [← hq.1]; exact hq.2.1)
      · exact ih x hx
  exact all r x hx
end

/-- what the dict at a holds at the key y -/
def DGet (H : Hp) (a : Addr) (y : V) (r : Option V) : Prop :=
  (∃ kvs k, Rd H a (.dK kvs) ∧ y = kV k ∧ r = valV kvs k) ∨ ∃ kvs k b, Rd H a (.dT kvs) ∧ y = .ref b ∧ H b = some (.tup (k.map kV)) ∧ r = valV kvs k
/-- the heap behind a[y] = v -/
def DPut (H : Hp) (a : Addr) (y v : V) (H' : Hp) : Prop :=
  (∃ kvs k, H a = some (.dK kvs) ∧ y = kV k ∧ kvs.length < sizeLine ∧ H' = upd H a (.dK (putK kvs k v))) ∨
  ∃ kvs k b, H a = some (.dT kvs) ∧ y = .ref b ∧ H b = some (.tup (k.map kV)) ∧ kvs.length < sizeLine ∧ H' = upd H a (.dT (putK kvs k v))
theorem DGet.k {H : Hp} {a : Addr} {kvs : List (Key × V)} {k : Key} (e : H a = some (.dK kvs)) : DGet H a (kV k) (valV kvs k) := .inl ⟨kvs, k, .inl e, rfl, rfl⟩
theorem DGet.t {H : Hp} {a b : Addr} {kvs : List (List Key × V)} {k : List Key} (e : H a = some (.dT kvs)) (eb : H b = some (.tup (k.map kV))) : DGet H a (.ref b) (valV kvs k) := .inr ⟨kvs, k, b, .inl e, rfl, eb, rfl⟩
theorem DPut.k {H : Hp} {a : Addr} {kvs : List (Key × V)} {k : Key} {v : V} (e : H a = some (.dK kvs)) (hl : kvs.length < sizeLine) : DPut H a (kV k) v (upd H a (.dK (putK kvs k v))) := .inl ⟨kvs, k, e, rfl, hl, rfl⟩
theorem DPut.t {H : Hp} {a b : Addr} {kvs : List (List Key × V)} {k : List Key} {v : V} (e : H a = some (.dT kvs)) (eb : H b = some (.tup (k.map kV))) (hl : kvs.length < sizeLine) :
    DPut H a (.ref b) v (upd H a (.dT (putK kvs k v))) := .inr ⟨kvs, k, b, e, rfl, eb, hl, rfl⟩


section
variable {X : Cx} {pins : List (Addr × Obj)} {σ : St} {H : Hp} {s : Shared} {a : Addr} {y v : V} {u r : Value} {o : Option V} {A : Around} {E : Value → Shared → Prop}

theorem Inv.big (I : Inv X pins σ H s) : sysModules < s.heap.objs.size := by
  have h : mainGlobals < s.heap.objs.size := (I.mod.glob.keeps I.bk).lt
  exact Nat.lt_trans (by decide) h

/-- d[y], there -/
theorem d_getItem {Q : Value → Shared → Prop} (hu : A.units + 1 < cLine) (I : Inv X pins σ H s) (g : DGet H a y (some v)) (ry : RelV y u) (h : ∀ w' s', Inv X pins σ H s' → RelV v w' → Q w' s') :
    wpAny (model X.prog X.w) A (getItem (.ref a) u) Q E s := by
  rcases g with ⟨kvs, k, e, ey, l⟩ | ⟨kvs, k, b, e, ey, eb, l⟩
  · subst ey
    obtain ⟨z, hd, vs, rel, dd⟩ := dk_rd I.hok e
    obtain ⟨w', hw, rw'⟩ := RelO.some_of (v := v) (o := valueAt vs k) (by rw [l]; exact rel.val k)
    exact wpAny_getItem_of (kV_is ry) dd.mapOf hw (h w' _ (I.tok _) rw')
  · subst ey
    cases (show u = Value.ref b from ry)
    obtain ⟨z, hd, xs, rel, dd⟩ := dt_rd I.hok e
    obtain ⟨w', hw, rw'⟩ := RelO.some_of (v := v) (o := (atKey xs k).map (·.2)) (by rw [l]; exact rel.val k)
    obtain ⟨p, hp, hp2⟩ := Option.map_eq_some_iff.mp hw
    refine wpAny_getItem_heap (tupleKind_room_in1 hu) (key_of I.hok eb) dd hp ?_
    rw [hp2]
    exact h w' _ (I.tok _) rw'
/-- a dict's object is replaced -/
theorem d_write {h' : Heap} {t' : Nat} {ob : HO} (I : Inv X pins σ H s) (mu : Mut (H a)) (hs : Heap.SameBut a s.heap h') (he : ∃ q, h'.get? a = some q) (new : ObjOk X.prog X.w (upd H a ob) h' a ob) :
    Inv X pins σ (upd H a ob) { s with heap := h', toks := t' } :=
  I.write (x := a) (e := a) mu (.inl rfl) (fun b q hb z => (hs.2 b hb).trans z) he new
end

section
variable {X : Cx} {pins : List (Addr × Obj)} {σ : St} {H : Hp} {s : Shared} {a : Addr} {kvs : List (Key × V)} {k : Key} {u : Value} {A : Around} {E : Value → Shared → Prop}
/-- len(d) -/
theorem d_len {Q : Value → Shared → Prop} (I : Inv X pins σ H s) (e : Rd H a (.dK kvs)) (h : ∀ t s', Inv X pins σ H s' → Q (.int kvs.length t) s') : wpAny (model X.prog X.w) A (call (.builtin "len") [.ref a]) Q E s := by
  obtain ⟨z, hd, vs, rel, dd⟩ := dk_rd I.hok e
  refine call_len_dict hd dd (by rw [← rel.length]; rw [sizeLine_eq] at z; omega) ?_
  rw [← rel.length]
  exact h _ _ (I.tok _)
end


/-! ### readings and rules -/
theorem dict_typeIs {X : Cx} {pins : List (Addr × Obj)} {σ : St} {H : Hp} {s : Shared} {a : Addr} {y : V} {o : Option V} (I : Inv X pins σ H s) (g : DGet H a y o) : s.TypeIs (.ref a) "dict" := by
  rcases g with ⟨kvs, k, e, _, _⟩ | ⟨kvs, k, b, e, _, _, _⟩
  · obtain ⟨_, _, vs, _, dd⟩ := dk_rd I.hok e
    exact dd.typeIs
  · obtain ⟨_, _, xs, _, dd⟩ := dt_rd I.hok e
    exact dd.typeIs


/-! ### displays -/

/-! ### methods -/


/-! ### dict(d): a copy -/


end L2
/-! DATA: values as trees, lists and dicts as numbered cells; a reading over these for each piece of the text. -/
namespace DL
open PySem PySem.Spec L2
open PyProof.Rows hiding St

/-- a value: tuples whole, lists and dicts by the number of their cell -/
inductive Dt where
  | non
  | bl (b : Bool)
  | int (i : Int)
  | str (x : Str)
  | tup (xs : List Dt)
  | ref (i : Nat)
/-- a cell: a list, a list that nobody changes, a dict -/
inductive Cl where
  | lst (xs : List Dt)
  | fz (xs : List Dt)
  | dct (kvs : List (Key × Dt))
  | dT (kds : List (List Int × Dt))
  | dG (kds : List (List (List Int) × Dt))
def Cl.mu : Cl → Bool
  | .fz _ => false
  | _ => true
abbrev SD := List (Option Dt)
abbrev GD := List Cl
abbrev KD := Dt → GD → Prop

section
variable (K : PySem.W.Frag) (H : Hp) (ι : List Addr)
mutual
def Rp : Dt → V → Prop
  | .non, v => v = V.non
  | .bl b, v => v = V.bl b
  | .int i, v => v = V.int i
  | .str x, v => v = V.str x
  | .tup ds, v => ∃ a vs, v = V.ref a ∧ SqT K H a vs ∧ Rps ds vs
  | .ref i, v => ∃ a, v = V.ref a ∧ ι[i]? = some a
def Rps : List Dt → List V → Prop
  | [], vs => vs = []
  | d :: ds, vs => ∃ v r, vs = v :: r ∧ Rp d v ∧ Rps ds r
end
end

structure Gr (K : PySem.W.Frag) (H : Hp) (ι : List Addr) (H' : Hp) (ι' : List Addr) : Prop where
  pre : ∃ r, ι' = ι ++ r
  tup : ∀ a xs, SqT K H a xs → SqT K H' a xs

section
variable {K : PySem.W.Frag} {H H' H'' : Hp} {ι ι' ι'' : List Addr}
theorem Gr.refl : Gr K H ι H ι := ⟨⟨[], by simp⟩, fun _ _ h => h⟩
theorem Gr.trans (a : Gr K H ι H' ι') (b : Gr K H' ι' H'' ι'') : Gr K H ι H'' ι'' := by
  obtain ⟨r, e⟩ := a.pre
  obtain ⟨r', e'⟩ := b.pre
  exact ⟨⟨r ++ r', by rw [e', e, List.append_assoc]⟩, fun c xs h => b.tup c xs (a.tup c xs h)⟩
theorem Gr.at (g : Gr K H ι H' ι') {i : Nat} {a : Addr} (h : ι[i]? = some a) : ι'[i]? = some a := by
  obtain ⟨r, e⟩ := g.pre
  rw [e, List.getElem?_append_left (by have := (List.getElem?_eq_some_iff.mp h).1; exact this)]
  exact h
theorem Gr.le (g : Gr K H ι H' ι') : ι.length ≤ ι'.length := by
  obtain ⟨r, e⟩ := g.pre
  rw [e, List.length_append]; omega
mutual
theorem Rp.mono (g : Gr K H ι H' ι') : ∀ (d : Dt) (v : V), Rp K H ι d v → Rp K H' ι' d v
  | .non, _, h => h
  | .bl _, _, h => h
  | .int _, _, h => h
  | .str _, _, h => h
  | .tup ds, v, h => by
    obtain ⟨a, vs, e, s, r⟩ := h
    exact ⟨a, vs, e, g.tup _ _ s, Rps.mono g ds vs r⟩
  | .ref i, v, h => by
    obtain ⟨a, e, q⟩ := h
    exact ⟨a, e, g.at q⟩
theorem Rps.mono (g : Gr K H ι H' ι') : ∀ (ds : List Dt) (vs : List V), Rps K H ι ds vs → Rps K H' ι' ds vs
  | [], _, h => h
  | d :: ds, vs, h => by
    obtain ⟨v, r, e, a, b⟩ := h
    exact ⟨v, r, e, Rp.mono g d v a, Rps.mono g ds r b⟩
end
theorem Rp.up (g : Gr K H ι H' ι') {d : Dt} {v : V} (h : Rp K H ι d v) : Rp K H' ι' d v := Rp.mono g d v h
theorem Rps.up (g : Gr K H ι H' ι') {d : List Dt} {v : List V} (h : Rps K H ι d v) : Rps K H' ι' d v := Rps.mono g d v h

theorem Rps.len : ∀ {ds : List Dt} {vs : List V}, Rps K H ι ds vs → ds.length = vs.length
  | [], vs, h => by have e : vs = [] := h; rw [e]; rfl
  | d :: ds, vs, h => by
    obtain ⟨v, r, e, a, b⟩ := h
    rw [e, List.length_cons, List.length_cons, Rps.len b]
theorem Rps.nil : Rps K H ι [] [] := rfl
theorem Rps.cons {d : Dt} {v : V} {ds : List Dt} {vs : List V} (a : Rp K H ι d v) (b : Rps K H ι ds vs) : Rps K H ι (d :: ds) (v :: vs) := ⟨v, vs, rfl, a, b⟩
theorem Rps.app : ∀ {ds es : List Dt} {vs ws : List V}, Rps K H ι ds vs → Rps K H ι es ws → Rps K H ι (ds ++ es) (vs ++ ws)
  | [], es, vs, ws, h, h2 => by have e : vs = [] := h; rw [e]; exact h2
  | d :: ds, es, vs, ws, h, h2 => by
    obtain ⟨v, r, e, a, b⟩ := h
    rw [e]
    exact ⟨v, r ++ ws, rfl, a, Rps.app b h2⟩
theorem Rps.take : ∀ (n : Nat) {ds : List Dt} {vs : List V}, Rps K H ι ds vs → Rps K H ι (ds.take n) (vs.take n)
  | 0, _, _, _ => rfl
  | n + 1, [], vs, h => by have e : vs = [] := h; rw [e]; rfl
  | n + 1, d :: ds, vs, h => by
    obtain ⟨v, r, e, a, b⟩ := h
    rw [e]
    exact ⟨v, r.take n, rfl, a, Rps.take n b⟩
theorem Rps.drop : ∀ (n : Nat) {ds : List Dt} {vs : List V}, Rps K H ι ds vs → Rps K H ι (ds.drop n) (vs.drop n)
  | 0, _, _, h => h
  | n + 1, [], vs, h => by have e : vs = [] := h; rw [e]; rfl
  | n + 1, d :: ds, vs, h => by
    obtain ⟨v, r, e, a, b⟩ := h
    rw [e]
    exact Rps.drop n b
theorem Rps.get : ∀ {i : Nat} {ds : List Dt} {vs : List V} {d : Dt}, Rps K H ι ds vs → ds[i]? = some d → ∃ v, vs[i]? = some v ∧ Rp K H ι d v
  | i, [], vs, d, h, q => by simp at q
  | 0, d' :: ds, vs, d, h, q => by
    obtain ⟨v, r, e, a, b⟩ := h
    rw [e]
    simp at q
    subst q
    exact ⟨v, rfl, a⟩
  | i + 1, d' :: ds, vs, d, h, q => by
    obtain ⟨v, r, e, a, b⟩ := h
    rw [e]
    obtain ⟨v', e', r'⟩ := Rps.get (i := i) (d := d) b (by simpa using q)
    exact ⟨v', by simpa using e', r'⟩
theorem Rps.getV {i : Nat} {ds : List Dt} {vs : List V} {v : V} (h : Rps K H ι ds vs) (q : vs[i]? = some v) : ∃ d, ds[i]? = some d ∧ Rp K H ι d v := by
  have hl := h.len
  have hi : i < ds.length := by rw [hl]; exact (List.getElem?_eq_some_iff.mp q).1
  obtain ⟨v', e, r⟩ := h.get (i := i) (d := ds[i]) (by simp [hi])
  rw [q] at e
  cases e
  exact ⟨_, by simp [hi], r⟩
theorem Rps.set {d : Dt} {v : V} (a : Rp K H ι d v) : ∀ (i : Nat) {ds : List Dt} {vs : List V}, Rps K H ι ds vs → Rps K H ι (ds.set i d) (vs.set i v)
  | i, [], vs, h => by have e : vs = [] := h; rw [e]; rfl
  | 0, d' :: ds, vs, h => by
    obtain ⟨v', r, e, _, b⟩ := h
    rw [e]
    exact ⟨v, r, rfl, a, b⟩
  | i + 1, d' :: ds, vs, h => by
    obtain ⟨v', r, e, q, b⟩ := h
    rw [e]
    exact ⟨v', r.set i v, rfl, q, Rps.set a i b⟩
theorem Rps.dropLast {ds : List Dt} {vs : List V} (h : Rps K H ι ds vs) : Rps K H ι ds.dropLast vs.dropLast := by
  have e1 : ds.dropLast = ds.take (ds.length - 1) := by simp [List.dropLast_eq_take]
  have e2 : vs.dropLast = vs.take (vs.length - 1) := by simp [List.dropLast_eq_take]
  rw [e1, e2, h.len]
  exact h.take _
theorem Rps.rep {ds : List Dt} {vs : List V} (h : Rps K H ι ds vs) : ∀ k : Nat, Rps K H ι (List.replicate k ds).flatten (List.replicate k vs).flatten
  | 0 => rfl
  | k + 1 => by
    rw [List.replicate_succ, List.replicate_succ, List.flatten_cons, List.flatten_cons]
    exact h.app (Rps.rep h k)
end

/-! ### bounded references -/
mutual
def bnd (n : Nat) : Dt → Prop
  | .tup ds => bnds n ds
  | .ref i => i < n
  | _ => True
def bnds (n : Nat) : List Dt → Prop
  | [] => True
  | d :: ds => bnd n d ∧ bnds n ds
end
def bndC (n : Nat) : Cl → Prop
  | .lst xs => bnds n xs
  | .fz xs => bnds n xs
  | .dct kvs => bnds n (kvs.map (·.2))
  | .dT kvs => bnds n (kvs.map (·.2))
  | .dG kvs => bnds n (kvs.map (·.2))
def bndG (n : Nat) (G : GD) : Prop := ∀ c ∈ G, bndC n c
section
variable {K : PySem.W.Frag} {H H' H'' : Hp} {ι ι' ι'' : List Addr}
mutual
theorem Rp.bd : ∀ (d : Dt) (v : V), Rp K H ι d v → bnd ι.length d
  | .non, _, _ => trivial
  | .bl _, _, _ => trivial
  | .int _, _, _ => trivial
  | .str _, _, _ => trivial
  | .tup ds, v, h => by
    obtain ⟨a, vs, e, s, r⟩ := h
    exact Rps.bd ds vs r
  | .ref i, v, h => by
    obtain ⟨a, e, q⟩ := h
    exact (List.getElem?_eq_some_iff.mp q).1
theorem Rps.bd : ∀ (ds : List Dt) (vs : List V), Rps K H ι ds vs → bnds ι.length ds
  | [], _, _ => trivial
  | d :: ds, vs, h => by
    obtain ⟨v, r, e, a, b⟩ := h
    exact ⟨Rp.bd d v a, Rps.bd ds r b⟩
end
mutual
theorem Rp.cut (n : Nat) : ∀ (d : Dt) (v : V), Rp K H ι d v → bnd n d → Rp K H (ι.take n) d v
  | .non, _, h, _ => h
  | .bl _, _, h, _ => h
  | .int _, _, h, _ => h
  | .str _, _, h, _ => h
  | .tup ds, v, h, hb => by
    obtain ⟨a, vs, e, s, r⟩ := h
    exact ⟨a, vs, e, s, Rps.cut n ds vs r hb⟩
  | .ref i, v, h, hb => by
    obtain ⟨a, e, q⟩ := h
    have hb' : i < n := hb
    exact ⟨a, e, by rw [List.getElem?_take_of_lt hb']; exact q⟩
theorem Rps.cut (n : Nat) : ∀ (ds : List Dt) (vs : List V), Rps K H ι ds vs → bnds n ds → Rps K H (ι.take n) ds vs
  | [], _, h, _ => h
  | d :: ds, vs, h, hb => by
    obtain ⟨v, r, e, a, b⟩ := h
    exact ⟨v, r, e, Rp.cut n d v a hb.1, Rps.cut n ds r b hb.2⟩
end
mutual
theorem bnd_mono {n m : Nat} (h : n ≤ m) : ∀ (d : Dt), bnd n d → bnd m d
  | .non, _ => trivial
  | .bl _, _ => trivial
  | .int _, _ => trivial
  | .str _, _ => trivial
  | .tup ds, q => bnds_mono h ds q
  | .ref i, q => Nat.lt_of_lt_of_le (show i < n from q) h
theorem bnds_mono {n m : Nat} (h : n ≤ m) : ∀ (ds : List Dt), bnds n ds → bnds m ds
  | [], _ => trivial
  | d :: ds, q => ⟨bnd_mono h d q.1, bnds_mono h ds q.2⟩
end
end

/-! ### the cells -/
/-- a list of the module -/
def KL (K : PySem.W.Frag) (a : Addr) (xs : List V) : Prop :=
  ∃ (o : Obj) (its : Array Value) (n : Nat), K.lookup a = some o ∧ o.cls = .type "list" ∧ o.dict = none ∧ o.data = .seq its n ∧ its.size ≤ sizeLine ∧ Vals xs its.toList
def RpK (K : PySem.W.Frag) (H : Hp) (ι : List Addr) : List (Key × Dt) → List (Key × V) → Prop
  | [], vs => vs = []
  | p :: ds, vs => ∃ v r, vs = (p.1, v) :: r ∧ Rp K H ι p.2 v ∧ RpK K H ι ds r
/-- dicts whose keys are tuples: a world, a group of worlds -/
def encT (k : List Int) : Dt := .tup (k.map .int)
def encG (ks : List (List Int)) : Dt := .tup (ks.map encT)
def hashT (k : List Int) : Int := reduceHash (Builtin.Tuple.tupleHashOf (k.map hashInt))
def hashG (ks : List (List Int)) : Int := reduceHash (Builtin.Tuple.tupleHashOf (ks.map hashT))
/-- the very object of such a dict -/
def DX {κ : Type} (hash : κ → Int) (a : Addr) (xs : List (κ × Addr × Value)) (h : Heap) : Prop :=
  (a == sysModules) = false ∧ xs.length ≤ sizeLine ∧ ∃ o es ep, h.get? a = some o ∧ o.ExactDict ∧ o.data = .dict es ep ∧ es.toList = xs.map (fun x => (⟨hash x.1, .ref x.2.1, x.2.2⟩ : DictEntry)) ∧ (xs.map (·.1)).Nodup
def RpH {κ : Type} (enc : κ → Dt) (K : PySem.W.Frag) (H : Hp) (ι : List Addr) : List (κ × Dt) → List (κ × Addr × Value) → Prop
  | [], xs => xs = []
  | p :: ds, xs => ∃ b u r, xs = (p.1, b, u) :: r ∧ Rp K H ι (enc p.1) (.ref b) ∧ (∃ v, RelV v u ∧ Rp K H ι p.2 v) ∧ RpH enc K H ι ds r
def CellH {κ : Type} (enc : κ → Dt) (hash : κ → Int) (K : PySem.W.Frag) (H : Hp) (ι : List Addr) (kds : List (κ × Dt)) (a : Addr) : Prop :=
  ∃ xs, H a = some (.ext (DX hash a xs)) ∧ RpH enc K H ι kds xs
def CellOk (K : PySem.W.Frag) (H : Hp) (ι : List Addr) : Cl → Addr → Prop
  | .lst ds, a => ∃ vs, H a = some (.lst vs) ∧ Rps K H ι ds vs
  | .fz ds, a => ∃ vs, ((∃ o, H a = some (.frz o (.lst vs))) ∨ KL K a vs) ∧ Rps K H ι ds vs
  | .dct kds, a => ∃ kvs, H a = some (.dK kvs) ∧ RpK K H ι kds kvs
  | .dT kds, a => CellH encT hashT K H ι kds a
  | .dG kds, a => CellH encG hashG K H ι kds a
structure HG (K : PySem.W.Frag) (G : GD) (H : Hp) (ι : List Addr) : Prop where
  len : ι.length = G.length
  cel : ∀ (i : Nat) (c : Cl) (a : Addr), G[i]? = some c → ι[i]? = some a → CellOk K H ι c a
  nd : ∀ (i j : Nat) (ci cj : Cl) (a : Addr), G[i]? = some ci → G[j]? = some cj → ci.mu = true → cj.mu = true → ι[i]? = some a → ι[j]? = some a → i = j

section
variable {K : PySem.W.Frag} {H H' H'' : Hp} {ι ι' ι'' : List Addr} {G G' : GD}
theorem RpK.up (g : Gr K H ι H' ι') : ∀ {ds : List (Key × Dt)} {vs : List (Key × V)}, RpK K H ι ds vs → RpK K H' ι' ds vs
  | [], _, h => h
  | p :: ds, vs, h => by
    obtain ⟨v, r, e, a, b⟩ := h
    exact ⟨v, r, e, a.up g, RpK.up g b⟩
theorem RpK.vals : ∀ {ds : List (Key × Dt)} {vs : List (Key × V)}, RpK K H ι ds vs → Rps K H ι (ds.map (·.2)) (vs.map (·.2)) ∧ ds.map (·.1) = vs.map (·.1)
  | [], vs, h => by have e : vs = [] := h; rw [e]; exact ⟨rfl, rfl⟩
  | p :: ds, vs, h => by
    obtain ⟨v, r, e, a, b⟩ := h
    obtain ⟨x, y⟩ := RpK.vals b
    rw [e]
    exact ⟨⟨v, _, rfl, a, x⟩, by simp [y]⟩
theorem RpK.cut (n : Nat) : ∀ {ds : List (Key × Dt)} {vs : List (Key × V)}, RpK K H ι ds vs → bnds n (ds.map (·.2)) → RpK K H (ι.take n) ds vs
  | [], _, h, _ => h
  | p :: ds, vs, h, hb => by
    obtain ⟨v, r, e, a, b⟩ := h
    exact ⟨v, r, e, Rp.cut n _ _ a hb.1, RpK.cut n b hb.2⟩
theorem RpH.up {κ : Type} {enc : κ → Dt} (g : Gr K H ι H' ι') : ∀ {ds : List (κ × Dt)} {xs : List (κ × Addr × Value)}, RpH enc K H ι ds xs → RpH enc K H' ι' ds xs
  | [], _, h => h
  | p :: ds, xs, h => by
    obtain ⟨b, u, r, e, a, ⟨v, rv, q⟩, t⟩ := h
    exact ⟨b, u, r, e, a.up g, ⟨v, rv, q.up g⟩, RpH.up g t⟩
theorem RpH.bd {κ : Type} {enc : κ → Dt} : ∀ {ds : List (κ × Dt)} {xs : List (κ × Addr × Value)}, RpH enc K H ι ds xs → bnds ι.length (ds.map (·.2))
  | [], _, h => trivial
  | p :: ds, xs, h => by
    obtain ⟨b, u, r, e, a, ⟨v, rv, q⟩, t⟩ := h
    exact ⟨Rp.bd _ _ q, RpH.bd t⟩
theorem bnds_all {n : Nat} : ∀ {ds : List Dt}, (∀ d ∈ ds, bnd n d) → bnds n ds
  | [], _ => trivial
  | d :: ds, h => ⟨h d (by simp), bnds_all fun x hx => h x (List.mem_cons_of_mem _ hx)⟩
theorem bnd_encT (n : Nat) (k : List Int) : bnd n (encT k) := bnds_all fun d hd => by
  rw [List.mem_map] at hd
  obtain ⟨i, _, rfl⟩ := hd
  exact trivial
theorem bnd_encG (n : Nat) (k : List (List Int)) : bnd n (encG k) := bnds_all fun d hd => by
  rw [List.mem_map] at hd
  obtain ⟨i, _, rfl⟩ := hd
  exact bnd_encT n i
theorem RpH.cut {κ : Type} {enc : κ → Dt} (n : Nat) (be : ∀ k, bnd n (enc k)) : ∀ {ds : List (κ × Dt)} {xs : List (κ × Addr × Value)}, RpH enc K H ι ds xs → bnds n (ds.map (·.2)) → RpH enc K H (ι.take n) ds xs
  | [], _, h, _ => h
  | p :: ds, xs, h, hb => by
    obtain ⟨b, u, r, e, a, ⟨v, rv, q⟩, t⟩ := h
    exact ⟨b, u, r, e, Rp.cut n _ _ a (be _), ⟨v, rv, Rp.cut n _ _ q hb.1⟩, RpH.cut n be t hb.2⟩
/-- a cell whose own object is as it was -/
theorem CellOk.up {c : Cl} {a : Addr} (h : CellOk K H ι c a) (g : Gr K H ι H' ι') (e : ∀ o, H a = some o → H' a = some o) : CellOk K H' ι' c a := by
  cases c with
  | lst ds => obtain ⟨vs, q, r⟩ := h; exact ⟨vs, e _ q, r.up g⟩
  | fz ds =>
    obtain ⟨vs, q, r⟩ := h
    refine ⟨vs, ?_, r.up g⟩
    rcases q with ⟨o, q⟩ | q
    · exact .inl ⟨o, e _ q⟩
    · exact .inr q
  | dct kds => obtain ⟨kvs, q, r⟩ := h; exact ⟨kvs, e _ q, r.up g⟩
  | dT kds => obtain ⟨kvs, q, r⟩ := h; exact ⟨kvs, e _ q, r.up g⟩
  | dG kds => obtain ⟨kvs, q, r⟩ := h; exact ⟨kvs, e _ q, r.up g⟩
theorem CellOk.mu {c : Cl} {a : Addr} (h : CellOk K H ι c a) (m : c.mu = true) : (∃ vs, H a = some (.lst vs)) ∨ (∃ kvs, H a = some (.dK kvs)) ∨ ∃ φ, H a = some (.ext φ) := by
  cases c with
  | lst ds => obtain ⟨vs, q, r⟩ := h; exact .inl ⟨vs, q⟩
  | fz ds => cases m
  | dct kds => obtain ⟨kvs, q, r⟩ := h; exact .inr (.inl ⟨kvs, q⟩)
  | dT kds => obtain ⟨kvs, q, r⟩ := h; exact .inr (.inr ⟨_, q⟩)
  | dG kds => obtain ⟨kvs, q, r⟩ := h; exact .inr (.inr ⟨_, q⟩)
theorem CellOk.bd {c : Cl} {a : Addr} (h : CellOk K H ι c a) : bndC ι.length c := by
  cases c with
  | lst ds => obtain ⟨vs, q, r⟩ := h; exact Rps.bd _ _ r
  | fz ds => obtain ⟨vs, q, r⟩ := h; exact Rps.bd _ _ r
  | dct kds => obtain ⟨kvs, q, r⟩ := h; exact Rps.bd _ _ r.vals.1
  | dT kds => obtain ⟨kvs, q, r⟩ := h; exact r.bd
  | dG kds => obtain ⟨kvs, q, r⟩ := h; exact r.bd
theorem CellOk.cut (n : Nat) {c : Cl} {a : Addr} (h : CellOk K H ι c a) (b : bndC n c) : CellOk K H (ι.take n) c a := by
  cases c with
  | lst ds => obtain ⟨vs, q, r⟩ := h; exact ⟨vs, q, Rps.cut n _ _ r b⟩
  | fz ds => obtain ⟨vs, q, r⟩ := h; exact ⟨vs, q, Rps.cut n _ _ r b⟩
  | dct kds => obtain ⟨kvs, q, r⟩ := h; exact ⟨kvs, q, r.cut n b⟩
  | dT kds => obtain ⟨kvs, q, r⟩ := h; exact ⟨kvs, q, r.cut n (bnd_encT n) b⟩
  | dG kds => obtain ⟨kvs, q, r⟩ := h; exact ⟨kvs, q, r.cut n (bnd_encG n) b⟩
theorem HG.at (h : HG K G H ι) {i : Nat} {c : Cl} (e : G[i]? = some c) : ∃ a, ι[i]? = some a ∧ CellOk K H ι c a := by
  have hi : i < ι.length := by rw [h.len]; exact (List.getElem?_eq_some_iff.mp e).1
  exact ⟨ι[i], by simp [hi], h.cel i c _ e (by simp [hi])⟩
theorem HG.bd (h : HG K G H ι) : bndG G.length G := fun c hc => by
  obtain ⟨i, e⟩ := List.getElem?_of_mem hc
  obtain ⟨a, _, q⟩ := h.at e
  have := q.bd
  rw [h.len] at this
  exact this
/-- an object that is no cell is laid -/
theorem Gr.free {p : Addr} {o : HO} (hp : H p = none) {r : List Addr} : Gr K H ι (upd H p o) (ι ++ r) :=
  ⟨⟨r, rfl⟩, fun a xs h => by
    rcases h with (h | ⟨ob, h⟩) | h
    · exact .inl (.inl (by rw [upd_ne (ne_of_none h hp)]; exact h))
    · exact .inl (.inr ⟨ob, by rw [upd_ne (ne_of_none h hp)]; exact h⟩)
    · exact .inr h⟩
theorem Gr.free0 {p : Addr} {o : HO} (hp : H p = none) : Gr K H ι (upd H p o) ι := by
  have := Gr.free (K := K) (ι := ι) (o := o) hp (r := [])
  rw [List.append_nil] at this
  exact this
theorem HG.free {p : Addr} {o : HO} (h : HG K G H ι) (hp : H p = none) : HG K G (upd H p o) ι :=
  ⟨h.len, fun i c a e q => (h.cel i c a e q).up (Gr.free0 hp) fun ob z => by rw [upd_ne (ne_of_none z hp)]; exact z, h.nd⟩
/-- a new cell -/
theorem HG.new {p : Addr} {o : HO} {c : Cl} (h : HG K G H ι) (hp : H p = none) (hc : CellOk K (upd H p o) (ι ++ [p]) c p) : HG K (G ++ [c]) (upd H p o) (ι ++ [p]) := by
  have gl := h.len
  have at1 : ∀ {i : Nat} {c' : Cl}, (G ++ [c])[i]? = some c' → (i < G.length ∧ G[i]? = some c') ∨ (i = G.length ∧ c' = c) := fun {i c'} e => by
    by_cases hi : i < G.length
    · rw [List.getElem?_append_left hi] at e; exact .inl ⟨hi, e⟩
    · rw [List.getElem?_append_right (by omega)] at e
      by_cases h0 : i = G.length
      · subst h0; simp at e; exact .inr ⟨rfl, e.symm⟩
      · have : i - G.length = (i - G.length - 1) + 1 := by omega
        rw [this] at e; simp at e
  have at2 : ∀ {i : Nat} {a : Addr}, i < G.length → (ι ++ [p])[i]? = some a → ι[i]? = some a := fun {i a} hi e => by
    rw [List.getElem?_append_left (by omega)] at e; exact e
  have at3 : ∀ {a : Addr}, (ι ++ [p])[G.length]? = some a → a = p := fun {a} e => by
    rw [← gl, List.getElem?_append_right (Nat.le_refl _)] at e; simp at e; exact e.symm
  refine ⟨by simp [gl], fun i c' a e q => ?_, fun i j ci cj a e1 e2 m1 m2 q1 q2 => ?_⟩
  · rcases at1 e with ⟨hi, e⟩ | ⟨rfl, rfl⟩
    · exact (h.cel i c' a e (at2 hi q)).up (Gr.free hp) fun ob z => by rw [upd_ne (ne_of_none z hp)]; exact z
    · rw [at3 q]; exact hc
  · rcases at1 e1 with ⟨hi, f1⟩ | ⟨hi, _⟩
    · rcases at1 e2 with ⟨hj, f2⟩ | ⟨hj, _⟩
      · exact h.nd i j ci cj a f1 f2 m1 m2 (at2 hi q1) (at2 hj q2)
      · rw [hj] at q2
        have e3 := at3 q2
        subst e3
        rcases (h.cel i ci a f1 (at2 hi q1)).mu m1 with ⟨x, z⟩ | ⟨x, z⟩ | ⟨x, z⟩ <;> (rw [hp] at z; cases z)
    · rcases at1 e2 with ⟨hj, f2⟩ | ⟨hj, _⟩
      · rw [hi] at q1
        have e3 := at3 q1
        subst e3
        rcases (h.cel j cj a f2 (at2 hj q2)).mu m2 with ⟨x, z⟩ | ⟨x, z⟩ | ⟨x, z⟩ <;> (rw [hp] at z; cases z)
      · rw [hi, hj]
/-- a cell is changed -/
theorem Gr.put {i : Nat} {c : Cl} {a : Addr} {o : HO} (h : HG K G H ι) (e : G[i]? = some c) (m : c.mu = true) (q : ι[i]? = some a) : Gr K H ι (upd H a o) ι := by
  have hm := (h.cel i c a e q).mu m
  refine ⟨⟨[], by simp⟩, fun b xs hb => ?_⟩
  rcases hb with (hb | ⟨ob, hb⟩) | hb
  · refine .inl (.inl ?_)
    rw [upd_ne]
    · exact hb
    · rintro rfl
      rcases hm with ⟨x, z⟩ | ⟨x, z⟩ | ⟨x, z⟩ <;> (rw [hb] at z; cases z)
  · refine .inl (.inr ⟨ob, ?_⟩)
    rw [upd_ne]
    · exact hb
    · rintro rfl
      rcases hm with ⟨x, z⟩ | ⟨x, z⟩ | ⟨x, z⟩ <;> (rw [hb] at z; cases z)
  · exact .inr hb
theorem HG.put {i : Nat} {c c' : Cl} {a : Addr} {o : HO} (h : HG K G H ι) (e : G[i]? = some c) (m : c.mu = true) (q : ι[i]? = some a) (m' : c'.mu = true) (hc : CellOk K (upd H a o) ι c' a) : HG K (G.set i c') (upd H a o) ι := by
  have g : Gr K H ι (upd H a o) ι := Gr.put h e m q
  have hi : i < G.length := (List.getElem?_eq_some_iff.mp e).1
  have hm := (h.cel i c a e q).mu m
  have at1 : ∀ {j : Nat} {d : Cl}, (G.set i c')[j]? = some d → (j ≠ i ∧ G[j]? = some d) ∨ (j = i ∧ d = c') := fun {j d} z => by
    by_cases hj : j = i
    · subst hj; rw [List.getElem?_set_self hi] at z; cases z; exact .inr ⟨rfl, rfl⟩
    · rw [List.getElem?_set_ne (Ne.symm hj)] at z; exact .inl ⟨hj, z⟩
  refine ⟨by simpa using h.len, fun j d b z w => ?_, fun j k cj ck b e1 e2 m1 m2 q1 q2 => ?_⟩
  · rcases at1 z with ⟨hj, z⟩ | ⟨rfl, rfl⟩
    · have hb := h.cel j d b z w
      have far : d.mu = true → b ≠ a := fun hd z' => by
        subst z'
        exact hj (h.nd j i d c b z e hd m w q)
      cases d with
      | lst ds => exact hb.up g fun ob y => by rw [upd_ne (far rfl)]; exact y
      | dct ds => exact hb.up g fun ob y => by rw [upd_ne (far rfl)]; exact y
      | dT ds => exact hb.up g fun ob y => by rw [upd_ne (far rfl)]; exact y
      | dG ds => exact hb.up g fun ob y => by rw [upd_ne (far rfl)]; exact y
      | fz ds =>
        obtain ⟨vs, zz, r⟩ := hb
        refine ⟨vs, ?_, r.up g⟩
        rcases zz with ⟨o', zz⟩ | zz
        · refine .inl ⟨o', ?_⟩
          rw [upd_ne]
          · exact zz
          · rintro rfl
            rcases hm with ⟨x, hm⟩ | ⟨x, hm⟩ | ⟨x, hm⟩ <;> (rw [zz] at hm; cases hm)
        · exact .inr zz
    · rw [q] at w; cases w; exact hc
  · have back : ∀ {j : Nat} {d : Cl}, (G.set i c')[j]? = some d → d.mu = true → ∃ d', G[j]? = some d' ∧ d'.mu = true := fun {j d} z md => by
      rcases at1 z with ⟨_, z⟩ | ⟨rfl, _⟩
      · exact ⟨d, z, md⟩
      · exact ⟨c, e, m⟩
    obtain ⟨d1, x1, y1⟩ := back e1 m1
    obtain ⟨d2, x2, y2⟩ := back e2 m2
    exact h.nd j k d1 d2 b x1 x2 y1 y2 q1 q2
end
end DL
namespace DL
open PySem PySem.Spec L2
open PyProof.Rows hiding St

/-! ### arguments without a star -/
def plainE : Expr → Bool
  | .Starred _ _ => false
  | _ => true
theorem star_cons {e : Expr} {es : List Expr} {env : Env} (h : plainE e = true) : starEach (e :: es) env = (false, eval e env) :: starEach es env := by
  cases e <;> first | rfl | cases h
theorem star_one {e : Expr} {env : Env} (h : plainE e = true) : starEach [e] env = [(false, eval e env)] := star_cons h
theorem back_any {pos : Pos} {env : Env} : ∀ {es : List Expr}, es.all plainE = true → (backTo pos (starEach es env)).any (·.1) = false
  | [], _ => rfl
  | e :: es, h => by
    simp only [List.all_cons, Bool.and_eq_true] at h
    rw [star_cons h.1]
    show (false || (backTo pos (starEach es env)).any (·.1)) = false
    rw [back_any h.2]; rfl
/-! ### the state of a body: slots, cells, what stood at the entry -/
structure Fx where
  H : Hp
  ι : List Addr
structure Ok (K : PySem.W.Frag) (F : Fx) (σd : SD) (G : GD) (σ : St) (H : Hp) (ι : List Addr) : Prop where
  hg : HG K G H ι
  slt : ∀ (i : Nat) (d : Dt), σd[i]? = some (some d) → ∃ v, σ[i]? = some (some v) ∧ Rp K H ι d v
  gr : Gr K F.H F.ι H ι
  ln : σd.length = σ.length
theorem Ok.to {K : PySem.W.Frag} {F : Fx} {σd : SD} {G G' : GD} {σ : St} {H H' : Hp} {ι ι' : List Addr} (ok : Ok K F σd G σ H ι) (h : HG K G' H' ι') (g : Gr K H ι H' ι') : Ok K F σd G' σ H' ι' :=
  ⟨h, fun i d e => let ⟨v, q, r⟩ := ok.slt i d e; ⟨v, q, r.up g⟩, ok.gr.trans g, ok.ln⟩
theorem Ok.set {K : PySem.W.Frag} {F : Fx} {σd : SD} {G : GD} {σ : St} {H : Hp} {ι : List Addr} (ok : Ok K F σd G σ H ι) {i : Nat} {d : Dt} {v : V} (r : Rp K H ι d v) : Ok K F (σd.set i (some d)) G (σ.set i (some v)) H ι := by
  refine ⟨ok.hg, fun j d' e => ?_, ok.gr, by simpa using ok.ln⟩
  by_cases hj : j = i
  · subst hj
    have hl : j < σd.length := by
      have := (List.getElem?_eq_some_iff.mp e).1
      simpa using this
    rw [List.getElem?_set_self hl] at e
    cases e
    exact ⟨v, List.getElem?_set_self (by rw [← ok.ln]; exact hl), r⟩
  · rw [List.getElem?_set_ne (Ne.symm hj)] at e
    obtain ⟨v', q, r'⟩ := ok.slt j d' e
    exact ⟨v', by rw [List.getElem?_set_ne (Ne.symm hj)]; exact q, r'⟩
/-- slots forgotten, cells beyond n let go -/
theorem Ok.weak {K : PySem.W.Frag} {F : Fx} {σd σd' : SD} {G : GD} {σ : St} {H : Hp} {ι : List Addr} (ok : Ok K F σd G σ H ι) (n : Nat) (hn : F.ι.length ≤ n) (hl : σd'.length = σd.length)
    (hs : ∀ (i : Nat) (d : Dt), σd'[i]? = some (some d) → σd[i]? = some (some d) ∧ bnd n d) (hG : bndG n (G.take n)) : Ok K F σd' (G.take n) σ H (ι.take n) := by
  have at1 : ∀ {i : Nat} {c : Cl}, (G.take n)[i]? = some c → i < n ∧ G[i]? = some c := fun {i c} e => by
    have hi : i < n := by
      have := (List.getElem?_eq_some_iff.mp e).1
      rw [List.length_take] at this
      omega
    exact ⟨hi, by rw [List.getElem?_take_of_lt hi] at e; exact e⟩
  refine ⟨⟨by rw [List.length_take, List.length_take, ok.hg.len], fun i c a e q => ?_, fun i j ci cj a e1 e2 m1 m2 q1 q2 => ?_⟩, fun i d e => ?_, ⟨?_, ok.gr.tup⟩, hl.trans ok.ln⟩
  · obtain ⟨hi, e'⟩ := at1 e
    rw [List.getElem?_take_of_lt hi] at q
    exact (ok.hg.cel i c a e' q).cut n (hG c (List.mem_of_getElem? e))
  · obtain ⟨hi, e1'⟩ := at1 e1
    obtain ⟨hj, e2'⟩ := at1 e2
    rw [List.getElem?_take_of_lt hi] at q1
    rw [List.getElem?_take_of_lt hj] at q2
    exact ok.hg.nd i j ci cj a e1' e2' m1 m2 q1 q2
  · obtain ⟨e', b⟩ := hs i d e
    obtain ⟨v, q, r⟩ := ok.slt i d e'
    exact ⟨v, q, Rp.cut n _ _ r b⟩
  · obtain ⟨r, e⟩ := ok.gr.pre
    refine ⟨r.take (n - F.ι.length), ?_⟩
    rw [e, List.take_append, List.take_of_length_le hn]

/-! ### readings over data -/
abbrev TDE := SD → GD → KD → Prop
abbrev TDT := SD → GD → (Bool → GD → Prop) → Prop
abbrev TDA := SD → GD → (List Dt → GD → Prop) → Prop
structure EndsD where
  nx : SD → GD → Prop
  rt : KD
  bk : SD → GD → Prop := fun _ _ => False
  ct : SD → GD → Prop := fun _ _ => False
abbrev TDS := EndsD → SD → GD → Prop

section
variable (K : PySem.W.Frag) (F : Fx)
def liE (t : TDE) : TE := fun σ H Qv => ∃ σd G ι Q, Ok K F σd G σ H ι ∧ t σd G Q ∧
  ∀ v H' d G' ι', HG K G' H' ι' → Gr K H ι H' ι' → Rp K H' ι' d v → Q d G' → Qv v H'
def liT (t : TDT) : TT := fun σ H Qv => ∃ σd G ι Q, Ok K F σd G σ H ι ∧ t σd G Q ∧
  ∀ b H' G' ι', HG K G' H' ι' → Gr K H ι H' ι' → Q b G' → Qv b H'
def liA (t : TDA) : TA := fun σ H Qv => ∃ σd G ι Q, Ok K F σd G σ H ι ∧ t σd G Q ∧
  ∀ vs H' ds G' ι', HG K G' H' ι' → Gr K H ι H' ι' → Rps K H' ι' ds vs → Q ds G' → Qv vs H'
structure LiEnds (Dd : EndsD) (D : Ends) : Prop where
  nx : ∀ σ' H' σd' G' ι', Ok K F σd' G' σ' H' ι' → Dd.nx σd' G' → D.nx σ' H'
  bk : ∀ σ' H' σd' G' ι', Ok K F σd' G' σ' H' ι' → Dd.bk σd' G' → D.bk σ' H'
  ct : ∀ σ' H' σd' G' ι', Ok K F σd' G' σ' H' ι' → Dd.ct σd' G' → D.ct σ' H'
  rt : ∀ v H' d G' ι', HG K G' H' ι' → Gr K F.H F.ι H' ι' → Rp K H' ι' d v → Dd.rt d G' → D.rt v H'
def liS (t : TDS) : TS := fun D σ H => ∃ σd G ι Dd, Ok K F σd G σ H ι ∧ t Dd σd G ∧ LiEnds K F Dd D
end

def DE (X : Cx) (F : Fx) (e : Expr) (t : TDE) : Prop := PE X e (liE X.K F t)
structure DE' (X : Cx) (F : Fx) (e : Expr) (t : TDE) : Prop where
  p : DE X F e t
def DT (X : Cx) (F : Fx) (e : Expr) (t : TDT) : Prop := PT X e (liT X.K F t)
structure DT' (X : Cx) (F : Fx) (e : Expr) (t : TDT) : Prop where
  p : DT X F e t
def DW (X : Cx) (F : Fx) (e : Expr) (t : TDT) : Prop := PW X e (liT X.K F t)
structure DW' (X : Cx) (F : Fx) (e : Expr) (t : TDT) : Prop where
  p : DW X F e t
def DA (X : Cx) (F : Fx) (es : List Expr) (t : TDA) : Prop := PA X es (liA X.K F t)
structure DA' (X : Cx) (F : Fx) (es : List Expr) (t : TDA) : Prop where
  p : DA X F es t
def DS (X : Cx) (F : Fx) (st : Stmt) (t : TDS) : Prop := PS X st (liS X.K F t)
structure DS' (X : Cx) (F : Fx) (st : Stmt) (t : TDS) : Prop where
  p : DS X F st t
def DSs (X : Cx) (F : Fx) (st : List Stmt) (t : TDS) : Prop := PSs X st (liS X.K F t)

structure DSs' (X : Cx) (F : Fx) (st : List Stmt) (t : TDS) : Prop where
  p : DSs X F st t
section
variable {X : Cx} {F : Fx} {e a b c : Expr} {t ta tb tc : TDE} {pos : Pos}
theorem PE.imp {t t' : TE} (h : PE X e t) (i : ∀ σ H Q, t' σ H Q → t σ H Q) : PE X e t' := fun pins s σ H Q I q => h pins s σ H Q I (i σ H Q q)
theorem PT.imp {t t' : TT} (h : PT X e t) (i : ∀ σ H Q, t' σ H Q → t σ H Q) : PT X e t' := fun pins s σ H Q I q => h pins s σ H Q I (i σ H Q q)
theorem PW.imp {t t' : TT} (h : PW X e t) (i : ∀ σ H Q, t' σ H Q → t σ H Q) : PW X e t' := fun wh pins s σ H Q I q => h wh pins s σ H Q I (i σ H Q q)
theorem PA.imp {es : List Expr} {t t' : TA} (h : PA X es t) (i : ∀ σ H Q, t' σ H Q → t σ H Q) : PA X es t' := fun pos pins s σ H Q I q => h pos pins s σ H Q I (i σ H Q q)
theorem PS.imp {st : Stmt} {t t' : TS} (h : PS X st t) (i : ∀ D σ H, t' D σ H → t D σ H) : PS X st t' := fun pins s σ H D I q => h pins s σ H D I (i D σ H q)
theorem PSs.imp {st : List Stmt} {t t' : TS} (h : PSs X st t) (i : ∀ D σ H, t' D σ H → t D σ H) : PSs X st t' := fun pins s σ H D I q => h pins s σ H D I (i D σ H q)

/-! ### names and constants -/
def dVar (i : Nat) : TDE := fun σ G Q => match σ[i]? with
  | some (some d) => Q d G
  | _ => False
def dC (d : Dt) : TDE := fun _ G Q => Q d G
theorem de_var (i : Nat) {x : Str} {pos : Pos} (hN : X.N[i]? = some x := by rfl) (hv : Vis X.env.scope x := by first | exact Or.inl rfl | exact Or.inr (Or.inl rfl) | exact Or.inr (Or.inr rfl)) (hd : (x == ("__debug__" : Str)) = false := by decide)
    (hcd : (x == ("__classdict__" : Str)) = false := by decide) : DE X F (.Name x pos) (dVar i) := by
  refine PE.imp (pe_var hN hv hd hcd) fun σ H Qv ⟨σd, G, ι, Q, ok, ht, hq⟩ => ?_
  unfold dVar at ht
  split at ht
  · rename_i d e
    obtain ⟨v, q, r⟩ := ok.slt i d e
    exact ⟨v, q, hq v H d G ι ok.hg Gr.refl r ht⟩
  · exact ht.elim
theorem de_var' (i : Nat) {x : Str} {pos : Pos} (hN : X.N[i]? = some x := by rfl) (hv : Vis X.env.scope x := by first | exact Or.inl rfl | exact Or.inr (Or.inl rfl) | exact Or.inr (Or.inr rfl)) (hd : (x == ("__debug__" : Str)) = false := by decide)
    (hcd : (x == ("__classdict__" : Str)) = false := by decide) : DE' X F (.Name x pos) (dVar i) :=
  ⟨de_var (i := i) (hN := hN) (hv := hv) (hd := hd) (hcd := hcd)⟩
/-- a value without parts -/
def plainD : Dt → Option V
  | .non => some .non
  | .bl b => some (.bl b)
  | .int i => some (.int i)
  | .str x => some (.str x)
  | _ => none
theorem plainD_rp {K : PySem.W.Frag} {H : Hp} {ι : List Addr} {d : Dt} {v : V} (h : plainD d = some v) : Rp K H ι d v := by
  cases d <;> (first | (cases h; rfl) | cases h)
theorem de_c {d : Dt} {v : V} (h : PE X e (tC v)) (p : plainD d = some v) : DE X F e (dC d) :=
  PE.imp h fun σ H Qv ⟨σd, G, ι, Q, ok, ht, hq⟩ => hq v H d G ι ok.hg Gr.refl (plainD_rp p) ht
theorem de_int {i j pos} : DE X F (.Constant (.int i) j pos) (dC (.int i)) := de_c pe_int rfl
theorem de_int' {i j pos} : DE' X F (.Constant (.int i) j pos) (dC (.int i)) :=
  ⟨de_int ⟩
theorem de_bl {b j pos} : DE X F (.Constant (.bool b) j pos) (dC (.bl b)) := de_c pe_bl rfl
theorem de_bl' {b j pos} : DE' X F (.Constant (.bool b) j pos) (dC (.bl b)) :=
  ⟨de_bl ⟩
theorem de_non {j pos} : DE X F (.Constant .none j pos) (dC .non) := de_c pe_non rfl
theorem de_non' {j pos} : DE' X F (.Constant .none j pos) (dC .non) :=
  ⟨de_non ⟩
theorem de_str {x j pos} : DE X F (.Constant (.str x) j pos) (dC (.str x)) := de_c pe_str rfl
theorem de_str' {x j pos} : DE' X F (.Constant (.str x) j pos) (dC (.str x)) :=
  ⟨de_str ⟩
/-! ### two operands -/
abbrev RD2 := Dt → Dt → GD → KD → Prop
def dOp (r : RD2) (ta tb : TDE) : TDE := fun σ G Q => ta σ G fun x G1 => tb σ G1 fun y G2 => r x y G2 Q
/-- the V-level wish r follows from the data's -/
def L2R (K : PySem.W.Frag) (r : R2) (rd : RD2) : Prop :=
  ∀ (G : GD) (H : Hp) (ι : List Addr) (d1 d2 : Dt) (v1 v2 : V) (Q : KD) (Qv : VK), HG K G H ι → Rp K H ι d1 v1 → Rp K H ι d2 v2 → rd d1 d2 G Q →
    (∀ v H' d G' ι', HG K G' H' ι' → Gr K H ι H' ι' → Rp K H' ι' d v → Q d G' → Qv v H') → r v1 v2 H Qv
theorem li2 {r : R2} {rd : RD2} (hr : L2R X.K r rd) (h : PE X e (tOp r (liE X.K F ta) (liE X.K F tb))) : DE X F e (dOp rd ta tb) := by
  refine PE.imp h fun σ H Qv ⟨σd, G, ι, Q, ok, ht, hq⟩ => ?_
  refine ⟨σd, G, ι, _, ok, ht, fun v1 H1 d1 G1 ι1 h1 g1 r1 q1 => ⟨σd, G1, ι1, _, ok.to h1 g1, q1, fun v2 H2 d2 G2 ι2 h2 g2 r2 q2 => ?_⟩⟩
  exact hr G2 H2 ι2 d1 d2 v1 v2 Q Qv h2 (r1.up g2) r2 q2 fun v H' d G' ι' h3 g3 r3 q3 => hq v H' d G' ι' h3 (g1.trans (g2.trans g3)) r3 q3
def dTest (t : TDE) : TDT := fun σ G Q => t σ G fun x G' => match x with
  | .bl k => Q k G'
  | _ => False
theorem li2T {r : R2} {rd : RD2} (hr : L2R X.K r rd) (h : PT X e (tTest (tOp r (liE X.K F ta) (liE X.K F tb)))) : DT X F e (dTest (dOp rd ta tb)) := by
  refine PT.imp h fun σ H Qv ⟨σd, G, ι, Q, ok, ht, hq⟩ => ?_
  refine ⟨σd, G, ι, _, ok, ht, fun v1 H1 d1 G1 ι1 h1 g1 r1 q1 => ⟨σd, G1, ι1, _, ok.to h1 g1, q1, fun v2 H2 d2 G2 ι2 h2 g2 r2 q2 => ?_⟩⟩
  refine hr G2 H2 ι2 d1 d2 v1 v2 _ _ h2 (r1.up g2) r2 q2 fun v H' d G' ι' h3 g3 r3 q3 => ?_
  cases d with
  | bl k => exact ⟨k, r3, hq k H' G' ι' h3 (g1.trans (g2.trans g3)) q3⟩
  | _ => exact q3.elim
/-- one operand -/
def dUn (r : Dt → GD → KD → Prop) (ta : TDE) : TDE := fun σ G Q => ta σ G fun x G1 => r x G1 Q

/-! ### ints -/
def rdI (C : Int → Int → Prop) (g : Int → Int → Dt) : RD2 := fun x y G Q => match x, y with
  | .int i, .int j => C i j ∧ Q (g i j) G
  | _, _ => False
def rdI0 (g : Int → Int → Dt) : RD2 := fun x y G Q => match x, y with
  | .int i, .int j => Q (g i j) G
  | _, _ => False
theorem l2_rI {K : PySem.W.Frag} {C : Int → Int → Prop} {g : Int → Int → V} {gd : Int → Int → Dt} (hg : ∀ i j, plainD (gd i j) = some (g i j)) : L2R K (rI C g) (rdI C gd) := by
  intro G H ι d1 d2 v1 v2 Q Qv hG r1 r2 h hq
  unfold rdI at h
  split at h
  · rename_i i j
    exact ⟨i, j, r1, r2, h.1, hq _ _ _ _ _ hG Gr.refl (plainD_rp (hg i j)) h.2⟩
  · exact h.elim
theorem l2_rI0 {K : PySem.W.Frag} {g : Int → Int → V} {gd : Int → Int → Dt} (hg : ∀ i j, plainD (gd i j) = some (g i j)) : L2R K (rI0 g) (rdI0 gd) := by
  intro G H ι d1 d2 v1 v2 Q Qv hG r1 r2 h hq
  unfold rdI0 at h
  split at h
  · rename_i i j
    exact ⟨i, j, r1, r2, hq _ _ _ _ _ hG Gr.refl (plainD_rp (hg i j)) h⟩
  · exact h.elim
theorem de_sub (ha : DE X F a ta) (hb : DE X F b tb) : DE X F (.BinOp a .Sub b pos) (dOp (rdI0 fun i j => .int (i - j)) ta tb) := li2 (l2_rI0 fun _ _ => rfl) (pe_op op_sub ha hb)
theorem de_sub' (ha : DE' X F a ta) (hb : DE' X F b tb) : DE' X F (.BinOp a .Sub b pos) (dOp (rdI0 fun i j => .int (i - j)) ta tb) :=
  ⟨de_sub (ha := ha.p) (hb := hb.p)⟩
theorem de_mod (ha : DE X F a ta) (hb : DE X F b tb) : DE X F (.BinOp a .Mod b pos) (dOp (rdI (fun _ j => 0 < j) fun i j => .int (i % j)) ta tb) := li2 (l2_rI fun _ _ => rfl) (pe_op op_mod ha hb)
theorem de_mod' (ha : DE' X F a ta) (hb : DE' X F b tb) : DE' X F (.BinOp a .Mod b pos) (dOp (rdI (fun _ j => 0 < j) fun i j => .int (i % j)) ta tb) :=
  ⟨de_mod (ha := ha.p) (hb := hb.p)⟩
theorem de_ge (ha : DE X F a ta) (hb : DE X F b tb) : DE X F (.Compare a [.GtE] [b] pos) (dOp (rdI0 fun i j => .bl (decide (j ≤ i))) ta tb) := li2 (l2_rI0 fun _ _ => rfl) (pe_cmpR op_ge ha hb (nomark _))
theorem de_ge' (ha : DE' X F a ta) (hb : DE' X F b tb) : DE' X F (.Compare a [.GtE] [b] pos) (dOp (rdI0 fun i j => .bl (decide (j ≤ i))) ta tb) :=
  ⟨de_ge (ha := ha.p) (hb := hb.p)⟩
theorem dt_lt (ha : DE X F a ta) (hb : DE X F b tb) : DT X F (.Compare a [.Lt] [b] pos) (dTest (dOp (rdI0 fun i j => .bl (decide (i < j))) ta tb)) := li2T (l2_rI0 fun _ _ => rfl) (pt_cmpR op_lt ha hb (nomark _))
theorem dt_lt' (ha : DE' X F a ta) (hb : DE' X F b tb) : DT' X F (.Compare a [.Lt] [b] pos) (dTest (dOp (rdI0 fun i j => .bl (decide (i < j))) ta tb)) :=
  ⟨dt_lt (ha := ha.p) (hb := hb.p)⟩
theorem dt_ge (ha : DE X F a ta) (hb : DE X F b tb) : DT X F (.Compare a [.GtE] [b] pos) (dTest (dOp (rdI0 fun i j => .bl (decide (j ≤ i))) ta tb)) := li2T (l2_rI0 fun _ _ => rfl) (pt_cmpR op_ge ha hb (nomark _))
theorem dt_ge' (ha : DE' X F a ta) (hb : DE' X F b tb) : DT' X F (.Compare a [.GtE] [b] pos) (dTest (dOp (rdI0 fun i j => .bl (decide (j ≤ i))) ta tb)) :=
  ⟨dt_ge (ha := ha.p) (hb := hb.p)⟩
/-! ### is, is not, beside None, True, False -/
def isD : Dt → Dt → Bool
  | .non, .non => true
  | .bl a, .bl b => a == b
  | _, _ => false
/-- the right side: None or a truth -/
def rdIs (neg : Bool) : RD2 := fun x y G Q => match y with
  | .non => Q (.bl (neg ^^ isD x .non)) G
  | .bl b => Q (.bl (neg ^^ isD x (.bl b))) G
  | _ => False
theorem is_val {K : PySem.W.Frag} {H : Hp} {ι : List Addr} {x y : Dt} {v w : V} {u z : Value} (r1 : Rp K H ι x v) (r2 : Rp K H ι y w) (q1 : RelV v u) (q2 : RelV w z) (hy : y = .non ∨ ∃ b, y = .bl b) : plainIs u z = true ∧ (u == z) = isD x y := by
  rcases hy with rfl | ⟨b, rfl⟩
  · have e2 : w = V.non := r2
    subst e2
    cases q2
    cases x with
    | non => have e : v = V.non := r1; subst e; cases q1; exact ⟨rfl, rfl⟩
    | bl a => have e : v = V.bl a := r1; subst e; cases q1; exact ⟨rfl, rfl⟩
    | int a => have e : v = V.int a := r1; subst e; obtain ⟨t, rfl⟩ := q1; exact ⟨rfl, rfl⟩
    | str a => have e : v = V.str a := r1; subst e; obtain ⟨t, rfl⟩ := q1; exact ⟨rfl, rfl⟩
    | tup a => obtain ⟨p, _, e, _⟩ := r1; subst e; cases q1; exact ⟨rfl, rfl⟩
    | ref a => obtain ⟨p, e, _⟩ := r1; subst e; cases q1; exact ⟨rfl, rfl⟩
  · have e2 : w = V.bl b := r2
    subst e2
    cases q2
    cases x with
    | non => have e : v = V.non := r1; subst e; cases q1; exact ⟨rfl, rfl⟩
    | bl a => have e : v = V.bl a := r1; subst e; cases q1; exact ⟨rfl, by cases a <;> cases b <;> rfl⟩
    | int a => have e : v = V.int a := r1; subst e; obtain ⟨t, rfl⟩ := q1; exact ⟨rfl, rfl⟩
    | str a => have e : v = V.str a := r1; subst e; obtain ⟨t, rfl⟩ := q1; exact ⟨rfl, rfl⟩
    | tup a => obtain ⟨p, _, e, _⟩ := r1; subst e; cases q1; exact ⟨rfl, rfl⟩
    | ref a => obtain ⟨p, e, _⟩ := r1; subst e; cases q1; exact ⟨rfl, rfl⟩
/-- the same over V: what is said of the truth value -/
def rIsV (neg : Bool) : R2 := fun x y H Q => ∃ k, (∀ u z, RelV x u → RelV y z → plainIs u z = true ∧ (u == z) = k) ∧ Q (.bl (neg ^^ k)) H
theorem op_isV : OpR X (compareOp .Is) (rIsV false) := by
  intro pins s σ H x y v u Q I rx ry h
  obtain ⟨k, hk, q⟩ := h
  obtain ⟨p, e⟩ := hk v u rx ry
  refine wpAny_is_plain p (fin_bl I q ?_)
  rw [e]; cases k <;> rfl
theorem op_isNotV : OpR X (compareOp .IsNot) (rIsV true) := by
  intro pins s σ H x y v u Q I rx ry h
  obtain ⟨k, hk, q⟩ := h
  obtain ⟨p, e⟩ := hk v u rx ry
  refine wpAny_isNot_plain p (fin_bl I q ?_)
  rw [e]; cases k <;> rfl
theorem l2_is {K : PySem.W.Frag} {neg : Bool} : L2R K (rIsV neg) (rdIs neg) := by
  intro G H ι d1 d2 v1 v2 Q Qv hG r1 r2 h hq
  have go : (d2 = .non ∨ ∃ b, d2 = .bl b) → Q (.bl (neg ^^ isD d1 d2)) G → rIsV neg v1 v2 H Qv := fun hy q =>
    ⟨isD d1 d2, fun u z q1 q2 => is_val r1 r2 q1 q2 hy, hq _ H (.bl (neg ^^ isD d1 d2)) G ι hG Gr.refl rfl q⟩
  cases d2 with
  | non => exact go (.inl rfl) h
  | bl b => exact go (.inr ⟨b, rfl⟩) h
  | _ => exact h.elim
theorem de_is (ha : DE X F a ta) (hb : DE X F b tb) : DE X F (.Compare a [.Is] [b] pos) (dOp (rdIs false) ta tb) := li2 l2_is (pe_cmpR op_isV ha hb (nomark _))
theorem de_is' (ha : DE' X F a ta) (hb : DE' X F b tb) : DE' X F (.Compare a [.Is] [b] pos) (dOp (rdIs false) ta tb) :=
  ⟨de_is (ha := ha.p) (hb := hb.p)⟩
theorem dt_is (ha : DE X F a ta) (hb : DE X F b tb) : DT X F (.Compare a [.Is] [b] pos) (dTest (dOp (rdIs false) ta tb)) := li2T l2_is (pt_cmpR op_isV ha hb (nomark _))
theorem dt_is' (ha : DE' X F a ta) (hb : DE' X F b tb) : DT' X F (.Compare a [.Is] [b] pos) (dTest (dOp (rdIs false) ta tb)) :=
  ⟨dt_is (ha := ha.p) (hb := hb.p)⟩
theorem dt_isnot (ha : DE X F a ta) (hb : DE X F b tb) : DT X F (.Compare a [.IsNot] [b] pos) (dTest (dOp (rdIs true) ta tb)) := li2T l2_is (pt_cmpR op_isNotV ha hb (nomark _))

theorem dt_isnot' (ha : DE' X F a ta) (hb : DE' X F b tb) : DT' X F (.Compare a [.IsNot] [b] pos) (dTest (dOp (rdIs true) ta tb)) :=
  ⟨dt_isnot (ha := ha.p) (hb := hb.p)⟩
/-! ### == of ints, texts, truths, None (the kinds that one meets) -/
def eqS : Dt → Dt → Option Bool
  | .int i, .int j => some (decide (i = j))
  | .str x, .str y => some (decide (x = y))
  | .bl x, .bl y => some (decide (x = y))
  | .non, .non => some true
  | .non, .int _ => some false
  | .int _, .non => some false
  | .non, .str _ => some false
  | .str _, .non => some false
  | .non, .bl _ => some false
  | .bl _, .non => some false
  | .int _, .str _ => some false
  | .str _, .int _ => some false
  | _, _ => none
def rdEq0 (neg : Bool) : RD2 := fun x y G Q => match eqS x y with
  | some k => Q (.bl (neg ^^ k)) G
  | none => False
structure rdEq (neg : Bool) (x y : Dt) (G : GD) (Q : KD) : Prop where
  p : rdEq0 neg x y G Q
theorem rdEq_eq {neg : Bool} {x y : Dt} {G : GD} {Q : KD} : rdEq neg x y G Q = rdEq0 neg x y G Q := propext ⟨fun h => h.p, fun h => ⟨h⟩⟩
theorem rdEq_of {neg k : Bool} {x y : Dt} {G : GD} {Q : KD} (h : eqS x y = some k) (hq : Q (.bl (neg ^^ k)) G) : rdEq neg x y G Q := by
  rw [rdEq_eq]; unfold rdEq0
  rw [h]
  exact hq
theorem rdEq_int {neg : Bool} {i j : Int} {G : GD} {Q : KD} (hq : Q (.bl (neg ^^ decide (i = j))) G) : rdEq neg (.int i) (.int j) G Q := rdEq_of rfl hq
theorem rdEq_str {neg : Bool} {i j : Str} {G : GD} {Q : KD} (hq : Q (.bl (neg ^^ decide (i = j))) G) : rdEq neg (.str i) (.str j) G Q := rdEq_of rfl hq
theorem rdEq_bl {neg : Bool} {i j : Bool} {G : GD} {Q : KD} (hq : Q (.bl (neg ^^ decide (i = j))) G) : rdEq neg (.bl i) (.bl j) G Q := rdEq_of rfl hq
theorem eqS_val {K : PySem.W.Frag} {H : Hp} {ι : List Addr} {x y : Dt} {v w : V} {k : Bool} (r1 : Rp K H ι x v) (r2 : Rp K H ι y w) (e : eqS x y = some k) : scal v w = true ∧ decide (v = w) = k := by
  cases x <;> cases y <;> (first | (cases e; done) | skip)
  all_goals (try (have e1 := r1; have e2 := r2; simp only [Rp] at e1 e2; subst e1; subst e2; simp only [eqS, Option.some.injEq] at e; subst e; simp [scal]))
theorem l2_eq {K : PySem.W.Frag} : L2R K rEq (rdEq false) := by
  intro G H ι d1 d2 v1 v2 Q Qv hG r1 r2 h hq
  replace h := h.p; unfold rdEq0 at h
  split at h
  · rename_i k e
    obtain ⟨s, q⟩ := eqS_val r1 r2 e
    refine ⟨s, ?_⟩
    rw [q]
    exact hq _ H (.bl k) G ι hG Gr.refl rfl (by simpa using h)
  · exact h.elim
theorem l2_ne {K : PySem.W.Frag} : L2R K rNe (rdEq true) := by
  intro G H ι d1 d2 v1 v2 Q Qv hG r1 r2 h hq
  replace h := h.p; unfold rdEq0 at h
  split at h
  · rename_i k e
    obtain ⟨s, q⟩ := eqS_val r1 r2 e
    refine ⟨s, ?_⟩
    rw [q]
    exact hq _ H (.bl (!k)) G ι hG Gr.refl rfl (by simpa using h)
  · exact h.elim
theorem de_eq (ha : DE X F a ta) (hb : DE X F b tb) : DE X F (.Compare a [.Eq] [b] pos) (dOp (rdEq false) ta tb) := li2 l2_eq (pe_cmpR op_eq ha hb (nomark _))
theorem de_eq' (ha : DE' X F a ta) (hb : DE' X F b tb) : DE' X F (.Compare a [.Eq] [b] pos) (dOp (rdEq false) ta tb) :=
  ⟨de_eq (ha := ha.p) (hb := hb.p)⟩
theorem dt_eq (ha : DE X F a ta) (hb : DE X F b tb) : DT X F (.Compare a [.Eq] [b] pos) (dTest (dOp (rdEq false) ta tb)) := li2T l2_eq (pt_cmpR op_eq ha hb (nomark _))
theorem dt_eq' (ha : DE' X F a ta) (hb : DE' X F b tb) : DT' X F (.Compare a [.Eq] [b] pos) (dTest (dOp (rdEq false) ta tb)) :=
  ⟨dt_eq (ha := ha.p) (hb := hb.p)⟩
theorem dt_ne (ha : DE X F a ta) (hb : DE X F b tb) : DT X F (.Compare a [.NotEq] [b] pos) (dTest (dOp (rdEq true) ta tb)) := li2T l2_ne (pt_cmpR op_ne ha hb (nomark _))

theorem dt_ne' (ha : DE' X F a ta) (hb : DE' X F b tb) : DT' X F (.Compare a [.NotEq] [b] pos) (dTest (dOp (rdEq true) ta tb)) :=
  ⟨dt_ne (ha := ha.p) (hb := hb.p)⟩
/-! ### a op1 b op2 c of ints -/
def dChain (r r' : RD2) (ta tb tc : TDE) : TDE := fun σ G Q => ta σ G fun x G1 => tb σ G1 fun y G2 => r x y G2 fun z G3 => match z with
  | .bl k => if k = true then tc σ G3 fun w' G4 => r' y w' G4 Q else Q (.bl false) G3
  | _ => False
/-! ### and, or, not -/
variable {rest : List Expr} {tA tB' : TDT}
def dAnd (t u : TDT) : TDT := fun σ G Q => t σ G fun c G1 => if c = true then u σ G1 Q else Q false G1
def dOr (t u : TDT) : TDT := fun σ G Q => t σ G fun c G1 => if c = true then Q true G1 else u σ G1 Q
def dNot (t : TDT) : TDT := fun σ G Q => t σ G fun c G1 => Q (!c) G1
theorem dw_and1 (ha : DT X F a tA) : DW X F (.BoolOp .And [a] pos) tA := pw_and1 ha
theorem dw_and1' (ha : DT' X F a tA) : DW' X F (.BoolOp .And [a] pos) tA :=
  ⟨dw_and1 (ha := ha.p)⟩
theorem dw_or1 (ha : DT X F a tA) : DW X F (.BoolOp .Or [a] pos) tA := pw_or1 ha
theorem dw_or1' (ha : DT' X F a tA) : DW' X F (.BoolOp .Or [a] pos) tA :=
  ⟨dw_or1 (ha := ha.p)⟩
theorem dw_and (ha : DT X F a tA) (hb : DW X F (.BoolOp .And (b :: rest) pos) tB') : DW X F (.BoolOp .And (a :: b :: rest) pos) (dAnd tA tB') := by
  refine PW.imp (pw_and ha hb) fun σ H Qv ⟨σd, G, ι, Q, ok, ht, hq⟩ => ?_
  refine ⟨σd, G, ι, _, ok, ht, fun k H1 G1 ι1 h1 g1 q1 => ?_⟩
  cases k with
  | true => exact iteT ⟨σd, G1, ι1, Q, ok.to h1 g1, q1, fun k H2 G2 ι2 h2 g2 q2 => hq k H2 G2 ι2 h2 (g1.trans g2) q2⟩
  | false => exact iteF (hq false H1 G1 ι1 h1 g1 q1)
theorem dw_and' (ha : DT' X F a tA) (hb : DW' X F (.BoolOp .And (b :: rest) pos) tB') : DW' X F (.BoolOp .And (a :: b :: rest) pos) (dAnd tA tB') :=
  ⟨dw_and (ha := ha.p) (hb := hb.p)⟩
theorem dw_or (ha : DT X F a tA) (hb : DW X F (.BoolOp .Or (b :: rest) pos) tB') : DW X F (.BoolOp .Or (a :: b :: rest) pos) (dOr tA tB') := by
  refine PW.imp (pw_or ha hb) fun σ H Qv ⟨σd, G, ι, Q, ok, ht, hq⟩ => ?_
  refine ⟨σd, G, ι, _, ok, ht, fun k H1 G1 ι1 h1 g1 q1 => ?_⟩
  cases k with
  | true => exact iteT (hq true H1 G1 ι1 h1 g1 q1)
  | false => exact iteF ⟨σd, G1, ι1, Q, ok.to h1 g1, q1, fun k H2 G2 ι2 h2 g2 q2 => hq k H2 G2 ι2 h2 (g1.trans g2) q2⟩
theorem dw_or' (ha : DT' X F a tA) (hb : DW' X F (.BoolOp .Or (b :: rest) pos) tB') : DW' X F (.BoolOp .Or (a :: b :: rest) pos) (dOr tA tB') :=
  ⟨dw_or (ha := ha.p) (hb := hb.p)⟩
theorem dt_w (h : DW X F e tA) : DT X F e tA := PW.pt h
theorem dt_w' (h : DW' X F e tA) : DT' X F e tA :=
  ⟨dt_w (h := h.p)⟩
theorem dt_not (ha : DT X F a tA) : DT X F (.UnaryOp .Not a pos) (dNot tA) := by
  refine PT.imp (pt_not ha) fun σ H Qv ⟨σd, G, ι, Q, ok, ht, hq⟩ => ?_
  exact ⟨σd, G, ι, _, ok, ht, fun k H1 G1 ι1 h1 g1 q1 => hq _ H1 G1 ι1 h1 g1 q1⟩
theorem dt_not' (ha : DT' X F a tA) : DT' X F (.UnaryOp .Not a pos) (dNot tA) :=
  ⟨dt_not (ha := ha.p)⟩
/-- .. as values (truths) -/
def dAndV (ta tb : TDE) : TDE := fun σ G Q => ta σ G fun x G1 => match x with
  | .bl c => if c = true then tb σ G1 Q else Q (.bl false) G1
  | _ => False
def dOrV (ta tb : TDE) : TDE := fun σ G Q => ta σ G fun x G1 => match x with
  | .bl c => if c = true then Q (.bl true) G1 else tb σ G1 Q
  | _ => False
def dNotV (ta : TDE) : TDE := fun σ G Q => ta σ G fun x G1 => match x with
  | .bl c => Q (.bl (!c)) G1
  | _ => False
theorem de_one {op} (h : DE X F a t) : DE X F (.BoolOp op [a] pos) t := pe_one h
theorem de_one' {op} (h : DE' X F a t) : DE' X F (.BoolOp op [a] pos) t :=
  ⟨de_one (h := h.p)⟩
theorem de_and (ha : DE X F a ta) (hb : DE X F (.BoolOp .And (b :: rest) pos) tb) : DE X F (.BoolOp .And (a :: b :: rest) pos) (dAndV ta tb) := by
  refine PE.imp (pe_and ha hb) fun σ H Qv ⟨σd, G, ι, Q, ok, ht, hq⟩ => ?_
  refine ⟨σd, G, ι, _, ok, ht, fun v H1 d G1 ι1 h1 g1 r1 q1 => ?_⟩
  cases d with
  | bl k =>
    refine ⟨k, r1, ?_⟩
    cases k with
    | true => exact iteT ⟨σd, G1, ι1, Q, ok.to h1 g1, q1, fun v H2 d G2 ι2 h2 g2 r2 q2 => hq v H2 d G2 ι2 h2 (g1.trans g2) r2 q2⟩
    | false => exact iteF (hq _ H1 (.bl false) G1 ι1 h1 g1 rfl q1)
  | _ => exact q1.elim
theorem de_and' (ha : DE' X F a ta) (hb : DE' X F (.BoolOp .And (b :: rest) pos) tb) : DE' X F (.BoolOp .And (a :: b :: rest) pos) (dAndV ta tb) :=
  ⟨de_and (ha := ha.p) (hb := hb.p)⟩
theorem de_or (ha : DE X F a ta) (hb : DE X F (.BoolOp .Or (b :: rest) pos) tb) : DE X F (.BoolOp .Or (a :: b :: rest) pos) (dOrV ta tb) := by
  refine PE.imp (pe_or ha hb) fun σ H Qv ⟨σd, G, ι, Q, ok, ht, hq⟩ => ?_
  refine ⟨σd, G, ι, _, ok, ht, fun v H1 d G1 ι1 h1 g1 r1 q1 => ?_⟩
  cases d with
  | bl k =>
    refine ⟨k, r1, ?_⟩
    cases k with
    | true => exact iteT (hq _ H1 (.bl true) G1 ι1 h1 g1 rfl q1)
    | false => exact iteF ⟨σd, G1, ι1, Q, ok.to h1 g1, q1, fun v H2 d G2 ι2 h2 g2 r2 q2 => hq v H2 d G2 ι2 h2 (g1.trans g2) r2 q2⟩
  | _ => exact q1.elim
theorem de_or' (ha : DE' X F a ta) (hb : DE' X F (.BoolOp .Or (b :: rest) pos) tb) : DE' X F (.BoolOp .Or (a :: b :: rest) pos) (dOrV ta tb) :=
  ⟨de_or (ha := ha.p) (hb := hb.p)⟩
theorem de_not (ha : DE X F a ta) : DE X F (.UnaryOp .Not a pos) (dNotV ta) := by
  refine PE.imp (pe_not ha) fun σ H Qv ⟨σd, G, ι, Q, ok, ht, hq⟩ => ?_
  refine ⟨σd, G, ι, _, ok, ht, fun v H1 d G1 ι1 h1 g1 r1 q1 => ?_⟩
  cases d with
  | bl k => exact ⟨k, r1, hq _ H1 (.bl (!k)) G1 ι1 h1 g1 rfl q1⟩
  | _ => exact q1.elim
theorem de_not' (ha : DE' X F a ta) : DE' X F (.UnaryOp .Not a pos) (dNotV ta) :=
  ⟨de_not (ha := ha.p)⟩
def dIf (t : TDT) (ta tb : TDE) : TDE := fun σ G Q => t σ G fun c G1 => if c = true then ta σ G1 Q else tb σ G1 Q
theorem de_if (hc : DT X F c tA) (ha : DE X F a ta) (hb : DE X F b tb) : DE X F (.IfExp c a b pos) (dIf tA ta tb) := by
  refine PE.imp (pe_ifExp hc ha hb) fun σ H Qv ⟨σd, G, ι, Q, ok, ht, hq⟩ => ?_
  refine ⟨σd, G, ι, _, ok, ht, fun k H1 G1 ι1 h1 g1 q1 => ?_⟩
  cases k with
  | true => exact iteT ⟨σd, G1, ι1, Q, ok.to h1 g1, q1, fun v H2 d G2 ι2 h2 g2 r2 q2 => hq v H2 d G2 ι2 h2 (g1.trans g2) r2 q2⟩
  | false => exact iteF ⟨σd, G1, ι1, Q, ok.to h1 g1, q1, fun v H2 d G2 ι2 h2 g2 r2 q2 => hq v H2 d G2 ι2 h2 (g1.trans g2) r2 q2⟩

theorem de_if' (hc : DT' X F c tA) (ha : DE' X F a ta) (hb : DE' X F b tb) : DE' X F (.IfExp c a b pos) (dIf tA ta tb) :=
  ⟨de_if (hc := hc.p) (ha := ha.p) (hb := hb.p)⟩
/-! ### truth -/
def truD (G : GD) : Dt → Option Bool
  | .non => some false
  | .bl b => some b
  | .int i => some (i != 0)
  | .str _ => none
  | .tup xs => some (!xs.isEmpty)
  | .ref i => match G[i]? with
    | some (.lst xs) => some (!xs.isEmpty)
    | some (.fz xs) => some (!xs.isEmpty)
    | some (.dct kvs) => some (!kvs.isEmpty)
    | _ => none
def dTru (t : TDE) : TDT := fun σ G Q => t σ G fun x G1 => match truD G1 x with
  | some k => Q k G1
  | none => False
theorem isEmpty_len {α β : Type} {xs : List α} {ys : List β} (h : xs.length = ys.length) : xs.isEmpty = ys.isEmpty := by
  cases xs <;> cases ys <;> simp_all
theorem RpK.len {K : PySem.W.Frag} {H : Hp} {ι : List Addr} {ds : List (Key × Dt)} {vs : List (Key × V)} (h : RpK K H ι ds vs) : ds.length = vs.length := by
  have := congrArg List.length h.vals.2
  simpa using this
theorem tru_val {K : PySem.W.Frag} {H : Hp} {ι : List Addr} {G : GD} {x : Dt} {v : V} {k : Bool} (hG : HG K G H ι) (r : Rp K H ι x v) (e : truD G x = some k) : TruV K v H k := by
  cases x with
  | non => have e1 : v = V.non := r; subst e1; cases e; rfl
  | bl b => have e1 : v = V.bl b := r; subst e1; cases e; rfl
  | int b => have e1 : v = V.int b := r; subst e1; cases e; rfl
  | str b => cases e
  | tup b =>
    obtain ⟨a, vs, e1, s, q⟩ := r
    subst e1
    cases e
    exact .inr (.inl ⟨vs, s, by rw [isEmpty_len q.len]⟩)
  | ref i =>
    obtain ⟨a, e1, q⟩ := r
    subst e1
    simp only [truD] at e
    split at e
    · rename_i xs z
      cases e
      obtain ⟨vs, w, rr⟩ := hG.cel i _ a z q
      exact .inl ⟨vs, .inl (.inl w), by rw [isEmpty_len rr.len]⟩
    · rename_i xs z
      cases e
      obtain ⟨vs, w, rr⟩ := hG.cel i _ a z q
      refine .inl ⟨vs, ?_, by rw [isEmpty_len rr.len]⟩
      rcases w with ⟨o, w⟩ | w
      · exact .inl (.inr ⟨o, w⟩)
      · exact .inr w
    · rename_i kvs z
      cases e
      obtain ⟨vs, w, rr⟩ := hG.cel i _ a z q
      exact .inr (.inr ⟨vs, w, by rw [isEmpty_len rr.len]⟩)
    · cases e
theorem dt_tru (ha : DE X F a ta) (he : ∀ whole, isTrue a X.env whole = (do let v ← whole; standAt a.pos; holding [v] (truthy v)) := by intro _; rfl) : DT X F a (dTru ta) := by
  refine PT.imp (pt_truth ha he) fun σ H Qv ⟨σd, G, ι, Q, ok, ht, hq⟩ => ?_
  refine ⟨σd, G, ι, _, ok, ht, fun v H1 d G1 ι1 h1 g1 r1 q1 => ?_⟩
  revert q1
  cases e : truD G1 d with
  | none => exact fun q1 => q1.elim
  | some k => exact fun q1 => ⟨k, tru_val h1 r1 e, hq k H1 G1 ι1 h1 g1 q1⟩

theorem dt_tru' (ha : DE' X F a ta) (he : ∀ whole, isTrue a X.env whole = (do let v ← whole; standAt a.pos; holding [v] (truthy v)) := by intro _; rfl) : DT' X F a (dTru ta) :=
  ⟨dt_tru (ha := ha.p) (he := he)⟩
/-! ### argument lists -/
def dNil : TDA := fun _ G Q => Q [] G
def dCons (ta : TDE) (tr : TDA) : TDA := fun σ G Q => ta σ G fun x G1 => tr σ G1 fun xs G2 => Q (x :: xs) G2
theorem da_nil : DA X F [] dNil := PA.imp pa_nil fun σ H Qv ⟨σd, G, ι, Q, ok, ht, hq⟩ => hq [] H [] G ι ok.hg Gr.refl rfl ht
theorem da_nil' : DA' X F [] dNil :=
  ⟨da_nil ⟩
theorem da_cons {es : List Expr} {tr : TDA} (ha : DE X F e ta) (hr : DA X F es tr) (hs : starEach (e :: es) X.env = (false, eval e X.env) :: starEach es X.env := by exact star_cons rfl) : DA X F (e :: es) (dCons ta tr) := by
  refine PA.imp (pa_cons ha hr hs) fun σ H Qv ⟨σd, G, ι, Q, ok, ht, hq⟩ => ?_
  refine ⟨σd, G, ι, _, ok, ht, fun v H1 d G1 ι1 h1 g1 r1 q1 => ⟨σd, G1, ι1, _, ok.to h1 g1, q1, fun vs H2 ds G2 ι2 h2 g2 r2 q2 => ?_⟩⟩
  exact hq _ H2 (d :: ds) G2 ι2 h2 (g1.trans g2) (Rps.cons (r1.up g2) r2) q2

theorem da_cons' {es : List Expr} {tr : TDA} (ha : DE' X F e ta) (hr : DA' X F es tr) (hs : starEach (e :: es) X.env = (false, eval e X.env) :: starEach es X.env := by exact star_cons rfl) : DA' X F (e :: es) (dCons ta tr) :=
  ⟨da_cons (ha := ha.p) (hr := hr.p) (hs := hs)⟩
/-! ### displays -/
def dTup (t : TDA) : TDE := fun σ G Q => t σ G fun xs G1 => xs.length ≤ sizeLine ∧ Q (.tup xs) G1
def dLst (t : TDA) : TDE := fun σ G Q => t σ G fun xs G1 => xs.length ≤ sizeLine ∧ Q (.ref G1.length) (G1 ++ [.lst xs])
/-- a new tuple at V's level -/
theorem rp_newTup {K : PySem.W.Frag} {H : Hp} {ι : List Addr} {G : GD} {ds : List Dt} {vs : List V} {p : Addr} (hG : HG K G H ι) (r : Rps K H ι ds vs) (hp : H p = none) :
    HG K G (upd H p (.tup vs)) ι ∧ Gr K H ι (upd H p (.tup vs)) ι ∧ Rp K (upd H p (.tup vs)) ι (.tup ds) (.ref p) :=
  ⟨hG.free hp, Gr.free0 hp, p, vs, rfl, .inl (.inl upd_same), r.up (Gr.free0 hp)⟩
theorem rp_newLst {K : PySem.W.Frag} {H : Hp} {ι : List Addr} {G : GD} {ds : List Dt} {vs : List V} {p : Addr} (hG : HG K G H ι) (r : Rps K H ι ds vs) (hp : H p = none) :
    HG K (G ++ [.lst ds]) (upd H p (.lst vs)) (ι ++ [p]) ∧ Gr K H ι (upd H p (.lst vs)) (ι ++ [p]) ∧ Rp K (upd H p (.lst vs)) (ι ++ [p]) (.ref G.length) (.ref p) :=
  ⟨hG.new hp ⟨vs, upd_same, r.up (Gr.free hp)⟩, Gr.free hp, p, rfl, by rw [← hG.len, List.getElem?_append_right (Nat.le_refl _)]; simp⟩
theorem de_tup {es : List Expr} {x1} {tr : TDA} (h : DA X F es tr) : DE X F (.Tuple es x1 pos) (dTup tr) := by
  refine PE.imp (pe_tup h) fun σ H Qv ⟨σd, G, ι, Q, ok, ht, hq⟩ => ?_
  refine ⟨σd, G, ι, _, ok, ht, fun vs H1 ds G1 ι1 h1 g1 r1 q1 => ⟨by rw [← r1.len]; exact q1.1, fun p hp => ?_⟩⟩
  obtain ⟨x, y, z⟩ := rp_newTup h1 r1 hp
  exact hq _ _ (.tup ds) G1 ι1 x (g1.trans y) z q1.2
theorem de_tup' {es : List Expr} {x1} {tr : TDA} (h : DA' X F es tr) : DE' X F (.Tuple es x1 pos) (dTup tr) :=
  ⟨de_tup (h := h.p)⟩
theorem de_lst {es : List Expr} {tr : TDA} (h : DA X F es tr) : DE X F (.List es pos) (dLst tr) := by
  refine PE.imp (pe_lst h) fun σ H Qv ⟨σd, G, ι, Q, ok, ht, hq⟩ => ?_
  refine ⟨σd, G, ι, _, ok, ht, fun vs H1 ds G1 ι1 h1 g1 r1 q1 => ⟨by rw [← r1.len]; exact q1.1, fun p hp => ?_⟩⟩
  obtain ⟨x, y, z⟩ := rp_newLst h1 r1 hp
  exact hq _ _ _ _ _ x (g1.trans y) z q1.2
theorem de_lst' {es : List Expr} {tr : TDA} (h : DA' X F es tr) : DE' X F (.List es pos) (dLst tr) :=
  ⟨de_lst (h := h.p)⟩
end

/-! ### blocks -/
section
variable {X : Cx} {F : Fx} {st : Stmt} {rest : List Stmt} {t u : TDS} {pos : Pos} {e : Expr} {te : TDE}
def dNext : TDS := fun D σ G => D.nx σ G
def dSeq (t u : TDS) : TDS := fun D σ G => t { D with nx := u D } σ G
theorem dss_nil : DSs X F [] dNext := PSs.imp pss_nil fun D σ H ⟨σd, G, ι, Dd, ok, ht, L⟩ => L.nx σ H σd G ι ok ht
theorem dss_nil' : DSs' X F [] dNext :=
  ⟨dss_nil ⟩
theorem dss_cons (h1 : DS X F st t) (h2 : DSs X F rest u) : DSs X F (st :: rest) (dSeq t u) := by
  refine PSs.imp (pss_cons h1 h2) fun D σ H ⟨σd, G, ι, Dd, ok, ht, L⟩ => ?_
  exact ⟨σd, G, ι, { Dd with nx := u Dd }, ok, ht, ⟨fun σ' H' σd' G' ι' ok' q => ⟨σd', G', ι', Dd, ok', q, L⟩, L.bk, L.ct, L.rt⟩⟩
theorem dss_cons' (h1 : DS' X F st t) (h2 : DSs' X F rest u) : DSs' X F (st :: rest) (dSeq t u) :=
  ⟨dss_cons (h1 := h1.p) (h2 := h2.p)⟩
theorem dss_one (h1 : DS X F st t) : DSs X F [st] t := pss_one h1
theorem dss_one' (h1 : DS' X F st t) : DSs' X F [st] t :=
  ⟨dss_one (h1 := h1.p)⟩
def dDrop (te : TDE) : TDS := fun D σ G => te σ G fun _ G1 => D.nx σ G1
theorem ds_expr (he : DE X F e te) (hs : swapsWith e none pos.line X.env = pure false := by rfl) : DS X F (.Expr e pos) (dDrop te) := by
  refine PS.imp (ps_expr he hs) fun D σ H ⟨σd, G, ι, Dd, ok, ht, L⟩ => ?_
  exact ⟨σd, G, ι, _, ok, ht, fun v H1 d G1 ι1 h1 g1 r1 q1 => L.nx σ H1 σd G1 ι1 (ok.to h1 g1) q1⟩
theorem ds_expr' (he : DE' X F e te) (hs : swapsWith e none pos.line X.env = pure false := by rfl) : DS' X F (.Expr e pos) (dDrop te) :=
  ⟨ds_expr (he := he.p) (hs := hs)⟩
def dRet (te : TDE) : TDS := fun D σ G => te σ G D.rt
theorem ds_ret (he : DE X F e te) : DS X F (.Return (some e) pos) (dRet te) := by
  refine PS.imp (ps_ret he) fun D σ H ⟨σd, G, ι, Dd, ok, ht, L⟩ => ?_
  exact ⟨σd, G, ι, _, ok, ht, fun v H1 d G1 ι1 h1 g1 r1 q1 => L.rt v H1 d G1 ι1 h1 (ok.gr.trans g1) r1 q1⟩
theorem ds_ret' (he : DE' X F e te) : DS' X F (.Return (some e) pos) (dRet te) :=
  ⟨ds_ret (he := he.p)⟩
def dIfS (c : TDT) (t u : TDS) : TDS := fun D σ G => c σ G fun b G1 => if b = true then t D σ G1 else u D σ G1
theorem ds_if {c : Expr} {a b : List Stmt} {tc : TDT} (hc : DT X F c tc) (ha : DSs X F a t) (hb : DSs X F b u) : DS X F (.If c a b pos) (dIfS tc t u) := by
  refine PS.imp (ps_if hc ha hb) fun D σ H ⟨σd, G, ι, Dd, ok, ht, L⟩ => ?_
  refine ⟨σd, G, ι, _, ok, ht, fun k H1 G1 ι1 h1 g1 q1 => ?_⟩
  cases k with
  | true => exact iteT ⟨σd, G1, ι1, Dd, ok.to h1 g1, q1, L⟩
  | false => exact iteF ⟨σd, G1, ι1, Dd, ok.to h1 g1, q1, L⟩
theorem ds_if' {c : Expr} {a b : List Stmt} {tc : TDT} (hc : DT' X F c tc) (ha : DSs' X F a t) (hb : DSs' X F b u) : DS' X F (.If c a b pos) (dIfS tc t u) :=
  ⟨ds_if (hc := hc.p) (ha := ha.p) (hb := hb.p)⟩
def dSet (i : Nat) (te : TDE) : TDS := fun D σ G => te σ G fun x G1 => D.nx (σ.set i (some x)) G1
theorem ds_set {i : Nat} {x : Str} {pos' : Pos} (hN : X.N.Nodup) (he : DE X F e te) (hi : X.N[i]? = some x := by rfl) (hx : Loc X.env.scope x := by first | exact Or.inl rfl | exact Or.inr rfl) (hs : swapsWith e (some (.Name x pos')) pos.line X.env = pure false := by rfl)
    (hf : X.fn x = true ∨ X.env.scope.names.lookup x = some .local := by first | exact .inl rfl | exact .inr rfl | assumption) : DS X F (.Assign [.Name x pos'] e pos) (dSet i te) := by
  refine PS.imp (ps_set hN hi hx he hs hf) fun D σ H ⟨σd, G, ι, Dd, ok, ht, L⟩ => ?_
  exact ⟨σd, G, ι, _, ok, ht, fun v H1 d G1 ι1 h1 g1 r1 q1 => L.nx _ H1 _ G1 ι1 ((ok.to h1 g1).set r1) q1⟩
theorem ds_set' {i : Nat} {x : Str} {pos' : Pos} (hN : X.N.Nodup) (he : DE' X F e te) (hi : X.N[i]? = some x := by rfl) (hx : Loc X.env.scope x := by first | exact Or.inl rfl | exact Or.inr rfl) (hs : swapsWith e (some (.Name x pos')) pos.line X.env = pure false := by rfl)
    (hf : X.fn x = true ∨ X.env.scope.names.lookup x = some .local := by first | exact .inl rfl | exact .inr rfl | assumption) : DS' X F (.Assign [.Name x pos'] e pos) (dSet i te) :=
  ⟨ds_set (hN := hN) (he := he.p) (hi := hi) (hx := hx) (hs := hs) (hf := hf)⟩
/-! ### targets -/
abbrev TDG := Dt → SD → GD → (SD → GD → Prop) → Prop
abbrev TDGs := List Dt → SD → GD → (SD → GD → Prop) → Prop
def liG (K : PySem.W.Frag) (F : Fx) (t : TDG) : TG := fun v σ H Qv => ∃ d σd G ι Q, Ok K F σd G σ H ι ∧ Rp K H ι d v ∧ t d σd G Q ∧ ∀ σ' H' σd' G' ι', Ok K F σd' G' σ' H' ι' → Q σd' G' → Qv σ' H'
def liGs (K : PySem.W.Frag) (F : Fx) (t : TDGs) : TGs := fun v σ H Qv => ∃ d σd G ι Q, Ok K F σd G σ H ι ∧ Rps K H ι d v ∧ t d σd G Q ∧ ∀ σ' H' σd' G' ι', Ok K F σd' G' σ' H' ι' → Gr K H ι H' ι' → Q σd' G' → Qv σ' H'
def DG (X : Cx) (F : Fx) (target : Expr) (t : TDG) : Prop := PG X target (liG X.K F t)
structure DG' (X : Cx) (F : Fx) (target : Expr) (t : TDG) : Prop where
  p : DG X F target t
/-- names alone, in order -/
def DGs (X : Cx) (F : Fx) (ts : List Expr) (t : TDGs) : Prop := PGs X ts (liGs X.K F t)
structure DGs' (X : Cx) (F : Fx) (ts : List Expr) (t : TDGs) : Prop where
  p : DGs X F ts t
theorem PG.imp {tg : Expr} {t t' : TG} (h : PG X tg t) (i : ∀ v σ H Q, t' v σ H Q → t v σ H Q) : PG X tg t' := fun pins s σ H v u Q I r q => h pins s σ H v u Q I r (i v σ H Q q)
theorem PGs.imp {tg : List Expr} {t t' : TGs} (h : PGs X tg t) (i : ∀ v σ H Q, t' v σ H Q → t v σ H Q) : PGs X tg t' := fun pins s σ H v u Q I r q => h pins s σ H v u Q I r (i v σ H Q q)
def dgName (i : Nat) : TDG := fun d σ G Q => Q (σ.set i (some d)) G
theorem dg_name {i : Nat} {x : Str} (hN : X.N.Nodup) (hi : X.N[i]? = some x := by rfl) (hx : Loc X.env.scope x := by first | exact Or.inl rfl | exact Or.inr rfl) (hf : X.fn x = true ∨ X.env.scope.names.lookup x = some .local := by first | exact .inl rfl | exact .inr rfl | assumption) : DG X F (.Name x pos) (dgName i) := by
  refine PG.imp (pg_name hN hi hx hf) fun v σ H Qv ⟨d, σd, G, ι, Q, ok, r, ht, hq⟩ => ?_
  exact hq _ H _ G ι (ok.set r) ht
theorem dg_name' {i : Nat} {x : Str} (hN : X.N.Nodup) (hi : X.N[i]? = some x := by rfl) (hx : Loc X.env.scope x := by first | exact Or.inl rfl | exact Or.inr rfl) (hf : X.fn x = true ∨ X.env.scope.names.lookup x = some .local := by first | exact .inl rfl | exact .inr rfl | assumption) : DG' X F (.Name x pos) (dgName i) :=
  ⟨dg_name (hN := hN) (hi := hi) (hx := hx) (hf := hf)⟩
def dgNil : TDGs := fun vs σ G Q => vs = [] ∧ Q σ G
def dgCons (i : Nat) (u : TDGs) : TDGs := fun vs σ G Q => match vs with
  | d :: r => u r (σ.set i (some d)) G Q
  | [] => False
theorem dgs_nil : DGs X F [] dgNil := by
  refine PGs.imp pgs_nil fun v σ H Qv ⟨d, σd, G, ι, Q, ok, r, ht, hq⟩ => ?_
  obtain ⟨e, ht⟩ := ht
  subst e
  exact ⟨r, hq σ H σd G ι ok Gr.refl ht⟩
theorem dgs_nil' : DGs' X F [] dgNil :=
  ⟨dgs_nil ⟩
theorem dgs_cons {i : Nat} {x : Str} {es : List Expr} {u : TDGs} {pos' : Pos} (hN : X.N.Nodup) (h2 : DGs X F es u) (hi : X.N[i]? = some x := by rfl) (hx : Loc X.env.scope x := by first | exact Or.inl rfl | exact Or.inr rfl) (hf : X.fn x = true ∨ X.env.scope.names.lookup x = some .local := by first | exact .inl rfl | exact .inr rfl | assumption)
    (hs : (assignEach (Expr.Name x pos' :: es) X.env).map (·.2) = assign (Expr.Name x pos') X.env :: (assignEach es X.env).map (·.2) := by rfl) : DGs X F (Expr.Name x pos' :: es) (dgCons i u) := by
  refine PGs.imp (pgs_cons (pg_name hN hi hx hf) h2 hs) fun vs σ H Qv ⟨ds, σd, G, ι, Q, ok, r, ht, hq⟩ => ?_
  cases ds with
  | nil => exact ht.elim
  | cons d dr =>
    obtain ⟨v, vr, e, r1, r2⟩ := r
    exact ⟨v, vr, e, dr, _, G, ι, Q, ok.set r1, r2, ht, hq⟩
theorem dgs_cons' {i : Nat} {x : Str} {es : List Expr} {u : TDGs} {pos' : Pos} (hN : X.N.Nodup) (h2 : DGs' X F es u) (hi : X.N[i]? = some x := by rfl) (hx : Loc X.env.scope x := by first | exact Or.inl rfl | exact Or.inr rfl) (hf : X.fn x = true ∨ X.env.scope.names.lookup x = some .local := by first | exact .inl rfl | exact .inr rfl | assumption)
    (hs : (assignEach (Expr.Name x pos' :: es) X.env).map (·.2) = assign (Expr.Name x pos') X.env :: (assignEach es X.env).map (·.2) := by rfl) : DGs' X F (Expr.Name x pos' :: es) (dgCons i u) :=
  ⟨dgs_cons (hN := hN) (h2 := h2.p) (hi := hi) (hx := hx) (hf := hf) (hs := hs)⟩
def dgTup (n : Nat) (t : TDGs) : TDG := fun d σ G Q => match d with
  | .tup xs => xs.length = n ∧ t xs σ G Q
  | _ => False
theorem dg_tup {es : List Expr} {k : Nat} {t : TDGs} {n : Nat} (h : DGs X F es t) (hc : X.calm = true := by rfl) (hn : (assignEach es X.env).length = n := by rfl) (hst : (assignEach es X.env).findIdx? (·.1) = none := by rfl) : DG X F (.Tuple es k pos) (dgTup n t) := by
  refine PG.imp (pg_tup hc h hn hst) fun v σ H Qv ⟨d, σd, G, ι, Q, ok, r, ht, hq⟩ => ?_
  cases d with
  | tup xs =>
    obtain ⟨a, vs, e, s, rr⟩ := r
    exact ⟨a, vs, e, s, by rw [← rr.len]; exact ht.1, xs, σd, G, ι, Q, ok, rr, ht.2, fun σ' H' σd' G' ι' ok' _ q => hq σ' H' σd' G' ι' ok' q⟩
  | _ => exact ht.elim
theorem dg_tup' {es : List Expr} {k : Nat} {t : TDGs} {n : Nat} (h : DGs' X F es t) (hc : X.calm = true := by rfl) (hn : (assignEach es X.env).length = n := by rfl) (hst : (assignEach es X.env).findIdx? (·.1) = none := by rfl) : DG' X F (.Tuple es k pos) (dgTup n t) :=
  ⟨dg_tup (h := h.p) (hc := hc) (hn := hn) (hst := hst)⟩
def dAsg (te : TDE) (g : TDG) : TDS := fun D σ G => te σ G fun x G1 => g x σ G1 D.nx
end
end DL
namespace DL
open PySem PySem.Spec L2
open PyProof.Rows hiding St

/-! ### loops -/
/-- slots forgotten, cells from n0 on let go -/
def Wk (n0 : Nat) (P : SD → GD → Prop) : SD → GD → Prop := fun σ G => P σ G ∨ ∃ n σ', n0 ≤ n ∧ σ'.length = σ.length ∧ (∀ (i : Nat) (d : Dt), σ'[i]? = some (some d) → σ[i]? = some (some d) ∧ bnd n d) ∧ bndG n (G.take n) ∧ P σ' (G.take n)
theorem Wk.here {n0 : Nat} {P : SD → GD → Prop} {σ : SD} {G : GD} (h : P σ G) : Wk n0 P σ G := .inl h
theorem Ok.wk {K : PySem.W.Frag} {F : Fx} {P : SD → GD → Prop} {σd : SD} {G : GD} {σ : St} {H : Hp} {ι : List Addr} (ok : Ok K F σd G σ H ι) (h : Wk F.ι.length P σd G) : ∃ σd' G' ι', Ok K F σd' G' σ H ι' ∧ P σd' G' := by
  rcases h with h | ⟨n, σ', hn, hl, hs, hb, h⟩
  · exact ⟨σd, G, ι, ok, h⟩
  · exact ⟨σ', G.take n, ι.take n, ok.weak n hn hl hs hb, h⟩
theorem Ok.re {K : PySem.W.Frag} {F F' : Fx} {σd : SD} {G : GD} {σ : St} {H : Hp} {ι : List Addr} (ok : Ok K F' σd G σ H ι) (g : Gr K F.H F.ι F'.H F'.ι) : Ok K F σd G σ H ι := ⟨ok.hg, ok.slt, g.trans ok.gr, ok.ln⟩
theorem Ok.here {K : PySem.W.Frag} {F : Fx} {σd : SD} {G : GD} {σ : St} {H : Hp} {ι : List Addr} (ok : Ok K F σd G σ H ι) : Ok K ⟨H, ι⟩ σd G σ H ι := ⟨ok.hg, ok.slt, Gr.refl, ok.ln⟩
def exS (K : PySem.W.Frag) (t : TDS) : TS := fun D σ H => ∃ F, liS K F t D σ H
def exG (K : PySem.W.Frag) (t : TDG) : TG := fun v σ H Q => ∃ F, liG K F t v σ H Q
def exT (K : PySem.W.Frag) (t : TDT) : TT := fun σ H Q => ∃ F, liT K F t σ H Q
section
variable {X : Cx} {F : Fx} {pos : Pos} {tg : Expr}
theorem exS_of {st : List Stmt} {t : TDS} (h : ∀ F, DSs X F st t) : PSs X st (exS X.K t) := fun pins s σ H D I ⟨F, q⟩ => h F pins s σ H D I q
theorem exG_of {t : TDG} (h : ∀ F, DG X F tg t) : PG X tg (exG X.K t) := fun pins s σ H v u Q I r ⟨F, q⟩ => h F pins s σ H v u Q I r q
theorem exT_of {c : Expr} {t : TDT} (h : ∀ F, DT X F c t) : PT X c (exT X.K t) := fun pins s σ H Q I ⟨F, q⟩ => h F pins s σ H Q I q

/-- so many turns are enough -/
def whl (n0 : Nat) (c : TDT) (tb : TDS) (D : EndsD) : Nat → SD → GD → Prop
  | 0, _, _ => False
  | m + 1, σ, G => c σ G fun b G1 => if b = true then tb { D with nx := Wk n0 (whl n0 c tb D m), ct := Wk n0 (whl n0 c tb D m), bk := D.nx } σ G1 else D.nx σ G1
def dWhile (c : TDT) (tb : TDS) : TDS := fun D σ G => ∃ m, whl G.length c tb D m σ G
theorem ds_while {c : Expr} {body : List Stmt} {tc : TDT} {tb : TDS} (hc : ∀ F, DT X F c tc) (hb : ∀ F, DSs X F body tb) (hp : PassesOwn (model X.prog X.w) X.A X.env X.xe := by exact PassesOwn.never) : DS X F (.While c body [] pos) (dWhile tc tb) := by
  refine PS.imp (ps_while hp (exT_of hc) (exS_of hb)) fun D σ H0 ⟨σd, G0, ι0, Dd, ok, ht, L⟩ => ?_
  obtain ⟨m0, ht⟩ := ht
  have hn : G0.length = (Fx.mk H0 ι0).ι.length := ok.hg.len.symm
  have gF := ok.gr
  rw [hn] at ht
  refine ⟨fun m σ H => ∃ σd G ι, Ok X.K ⟨H0, ι0⟩ σd G σ H ι ∧ whl (Fx.mk H0 ι0).ι.length tc tb Dd m σd G, ⟨m0, σd, G0, ι0, ok.here, ht⟩, ?_⟩
  rintro m σ H ⟨σd, G, ι, ok, ht⟩
  cases m with
  | zero => exact ht.elim
  | succ m =>
    refine ⟨⟨H0, ι0⟩, σd, G, ι, _, ok, ht, fun k H1 G1 ι1 h1 g1 q1 => ?_⟩
    cases k with
    | false => exact iteF (L.nx σ H1 σd G1 ι1 ((ok.to h1 g1).re gF) q1)
    | true =>
      refine iteT ⟨fun σ' H' => ∃ σd G ι, Ok X.K ⟨H0, ι0⟩ σd G σ' H' ι ∧ whl (Fx.mk H0 ι0).ι.length tc tb Dd m σd G, fun σ' H' q => ⟨m, Nat.lt_succ_self m, q⟩, ?_⟩
      have nx : ∀ σ' H' σd' G' ι', Ok X.K ⟨H0, ι0⟩ σd' G' σ' H' ι' → Wk (Fx.mk H0 ι0).ι.length (whl (Fx.mk H0 ι0).ι.length tc tb Dd m) σd' G' → ∃ σd G ι, Ok X.K ⟨H0, ι0⟩ σd G σ' H' ι ∧ whl (Fx.mk H0 ι0).ι.length tc tb Dd m σd G := fun σ' H' σd' G' ι' ok' q => ok'.wk q
      exact ⟨⟨H0, ι0⟩, σd, G1, ι1, _, ok.to h1 g1, q1, ⟨nx, fun σ' H' σd' G' ι' ok' q => L.nx σ' H' σd' G' ι' (ok'.re gF) q, nx, fun v H' d G' ι' h' g' r' q' => L.rt v H' d G' ι' h' (gF.trans g') r' q'⟩⟩

theorem ds_while' {c : Expr} {body : List Stmt} {tc : TDT} {tb : TDS} (hc : ∀ F, DT' X F c tc) (hb : ∀ F, DSs' X F body tb) (hp : PassesOwn (model X.prog X.w) X.A X.env X.xe := by exact PassesOwn.never) : DS' X F (.While c body [] pos) (dWhile tc tb) :=
  ⟨ds_while (hc := fun F => (hc F).p) (hb := fun F => (hb F).p) (hp := hp)⟩
/-- an iterator over known items; W: what must stay of the cells -/
structure ItD (K : PySem.W.Frag) (J : It) (ds : List Dt) (W : GD → Prop) (H0 : Hp) (ι0 : List Addr) : Prop where
  stop : ∀ G H ι, HG K G H ι → Gr K H0 ι0 H ι → W G → J.stop ds.length H
  go : ∀ (i : Nat) (d : Dt) G H ι, ds[i]? = some d → HG K G H ι → Gr K H0 ι0 H ι → W G → J.go i H ∧ ∀ x H2, J.yld i H x H2 → HG K G H2 ι ∧ Gr K H ι H2 ι ∧ Rp K H2 ι d x
abbrev TDI := SD → GD → (List Dt → (GD → Prop) → GD → Prop) → Prop
def liI (K : PySem.W.Frag) (F : Fx) (t : TDI) : TI := fun σ H R => ∃ σd G ι Q, Ok K F σd G σ H ι ∧ t σd G Q ∧
  ∀ J H' ds W G' ι', HG K G' H' ι' → Gr K H ι H' ι' → ItD K J ds W H' ι' → Q ds W G' → R J H'
def DI (X : Cx) (F : Fx) (tg iter : Expr) (t : TDI) : Prop := PI X tg iter (liI X.K F t)
structure DI' (X : Cx) (F : Fx) (tg iter : Expr) (t : TDI) : Prop where
  p : DI X F tg iter t
theorem PI.imp {it : Expr} {t t' : TI} (h : PI X tg it t) (i : ∀ σ H R, t' σ H R → t σ H R) : PI X tg it t' := fun pins s σ H R I q => h pins s σ H R I (i σ H R q)
def lp (n0 : Nat) (g : TDG) (tb : TDS) (D : EndsD) (W : GD → Prop) : List Dt → SD → GD → Prop
  | [], σ, G => W G ∧ D.nx σ G
  | d :: r, σ, G => W G ∧ g d σ G fun σ2 G2 => tb { D with nx := Wk n0 (lp n0 g tb D W r), ct := Wk n0 (lp n0 g tb D W r), bk := D.nx } σ2 G2
def dFor (ti : TDI) (g : TDG) (tb : TDS) : TDS := fun D σ G => ti σ G fun ds W G1 => lp G1.length g tb D W ds σ G1
theorem ds_for {iter : Expr} {body : List Stmt} {ti : TDI} {g : TDG} {tb : TDS} (hi : DI X F tg iter ti) (hg : ∀ F, DG X F tg g) (hb : ∀ F, DSs X F body tb) (hp : PassesOwn (model X.prog X.w) X.A X.env X.xe := by exact PassesOwn.never) (hc : X.calm = true := by rfl)
    (hs : ∀ x, foldedSetIterable iter X.env x = pure x := by intro _; rfl) : DS X F (.For tg iter body [] pos) (dFor ti g tb) := by
  refine PS.imp (ps_for hp hc hi (exG_of hg) (exS_of hb) hs) fun D σ H ⟨σd, G, ι, Dd, ok, ht, L⟩ => ?_
  refine ⟨σd, G, ι, _, ok, ht, fun J H0 ds W G0 ι0 h0 g0 it q0 => ?_⟩
  have ok0 := ok.to h0 g0
  have gF := ok0.gr
  have hn : G0.length = (Fx.mk H0 ι0).ι.length := h0.len.symm
  rw [hn] at q0
  refine ⟨fun i m σ H => ∃ σd G ι, Ok X.K ⟨H0, ι0⟩ σd G σ H ι ∧ i ≤ ds.length ∧ m = ds.length - i ∧ lp (Fx.mk H0 ι0).ι.length g tb Dd W (ds.drop i) σd G, ⟨ds.length, σd, G0, ι0, ok0.here, Nat.zero_le _, rfl, q0⟩, ?_⟩
  rintro i m σ H ⟨σd, G, ι, ok, hi, rfl, q⟩
  by_cases hlt : i < ds.length
  · rw [List.drop_eq_getElem_cons hlt] at q
    obtain ⟨hW, q⟩ := q
    obtain ⟨go, yl⟩ := it.go i ds[i] G H ι (by simp [hlt]) ok.hg ok.gr hW
    refine .inr ⟨go, fun σ' H' => ∃ σd G ι, Ok X.K ⟨H0, ι0⟩ σd G σ' H' ι ∧ lp (Fx.mk H0 ι0).ι.length g tb Dd W (ds.drop (i + 1)) σd G, fun σ' H' ⟨σd', G', ι', ok', q'⟩ => ⟨ds.length - (i + 1), by omega, σd', G', ι', ok', hlt, rfl, q'⟩, fun x H2 y => ?_⟩
    obtain ⟨h2, g2, r2⟩ := yl x H2 y
    refine ⟨⟨H0, ι0⟩, ds[i], σd, G, ι, _, ok.to h2 g2, r2, q, fun σ3 H3 σd3 G3 ι3 ok3 q3 => ?_⟩
    have nx : ∀ σ' H' σd' G' ι', Ok X.K ⟨H0, ι0⟩ σd' G' σ' H' ι' → Wk (Fx.mk H0 ι0).ι.length (lp (Fx.mk H0 ι0).ι.length g tb Dd W (ds.drop (i + 1))) σd' G' → ∃ σd G ι, Ok X.K ⟨H0, ι0⟩ σd G σ' H' ι ∧ lp (Fx.mk H0 ι0).ι.length g tb Dd W (ds.drop (i + 1)) σd G := fun σ' H' σd' G' ι' ok' q => ok'.wk q
    exact ⟨⟨H0, ι0⟩, σd3, G3, ι3, _, ok3, q3, ⟨nx, fun σ' H' σd' G' ι' ok' q => L.nx σ' H' σd' G' ι' (ok'.re gF) q, nx, fun v H' d G' ι' h' g' r' q' => L.rt v H' d G' ι' h' (gF.trans g') r' q'⟩⟩
  · have e : i = ds.length := by omega
    subst e
    rw [List.drop_eq_nil_of_le (Nat.le_refl _)] at q
    exact .inl ⟨it.stop G H ι ok.hg ok.gr q.1, L.nx σ H σd G ι (ok.re gF) q.2⟩

theorem ds_for' {iter : Expr} {body : List Stmt} {ti : TDI} {g : TDG} {tb : TDS} (hi : DI' X F tg iter ti) (hg : ∀ F, DG' X F tg g) (hb : ∀ F, DSs' X F body tb) (hp : PassesOwn (model X.prog X.w) X.A X.env X.xe := by exact PassesOwn.never) (hc : X.calm = true := by rfl)
    (hs : ∀ x, foldedSetIterable iter X.env x = pure x := by intro _; rfl) : DS' X F (.For tg iter body [] pos) (dFor ti g tb) :=
  ⟨ds_for (hi := hi.p) (hg := fun F => (hg F).p) (hb := fun F => (hb F).p) (hp := hp) (hc := hc) (hs := hs)⟩
/-! what is walked: a tuple, a list, a range -/
def cellL (G : GD) (i : Nat) : Option (List Dt) := match G[i]? with
  | some (.lst xs) => some xs
  | some (.fz xs) => some xs
  | _ => none
theorem cellL_sq {K : PySem.W.Frag} {G : GD} {H : Hp} {ι : List Addr} {i : Nat} {xs : List Dt} {a : Addr} (hG : HG K G H ι) (q : ι[i]? = some a) (e : cellL G i = some xs) : ∃ vs, SqL K H a vs ∧ Rps K H ι xs vs := by
  unfold cellL at e
  split at e
  · rename_i ys z
    cases e
    obtain ⟨vs, w, r⟩ := hG.cel i _ a z q
    exact ⟨vs, .inl (.inl w), r⟩
  · rename_i ys z
    cases e
    obtain ⟨vs, w, r⟩ := hG.cel i _ a z q
    refine ⟨vs, ?_, r⟩
    rcases w with ⟨o, w⟩ | w
    · exact .inl (.inr ⟨o, w⟩)
    · exact .inr w
  · cases e
theorem itt_D {K : PySem.W.Frag} {H0 : Hp} {ι0 : List Addr} {a : Addr} {xs : List Dt} {vs : List V} (s : SqT K H0 a vs) (r : Rps K H0 ι0 xs vs) : ItD K (Itt K a) xs (fun _ => True) H0 ι0 where
  stop := fun G H ι hG g _ => ⟨vs, g.tup _ _ s, by rw [r.len]; exact Nat.le_refl _⟩
  go := fun i d G H ι e hG g _ => by
    obtain ⟨v, q, rv⟩ := r.get e
    refine ⟨⟨vs, v, g.tup _ _ s, q⟩, fun x H2 y => ?_⟩
    obtain ⟨rfl, y⟩ := y
    have y2 := y vs (g.tup _ _ s)
    rw [q] at y2
    cases y2
    exact ⟨hG, Gr.refl, rv.up g⟩
theorem itl_D {K : PySem.W.Frag} {H0 : Hp} {ι0 : List Addr} {a : Addr} {i : Nat} {xs : List Dt} (q : ι0[i]? = some a) : ItD K (Itl K a) xs (fun G => cellL G i = some xs) H0 ι0 where
  stop := fun G H ι hG g w => by
    obtain ⟨vs, s, r⟩ := cellL_sq hG (g.at q) w
    exact ⟨vs, s, by rw [r.len]; exact Nat.le_refl _⟩
  go := fun j d G H ι e hG g w => by
    obtain ⟨vs, s, r⟩ := cellL_sq hG (g.at q) w
    obtain ⟨v, z, rv⟩ := r.get e
    refine ⟨⟨vs, v, s, z⟩, fun x H2 y => ?_⟩
    obtain ⟨rfl, y⟩ := y
    have y2 := y vs s
    rw [z] at y2
    cases y2
    exact ⟨hG, Gr.refl, rv⟩
def rngD (lo : Int) (n : Nat) : List Dt := (List.range n).map fun (i : Nat) => Dt.int (lo + i)
def diRng1 (ta : TDA) : TDI := fun σ G R => ta σ G fun ds G1 => match ds with
  | [.int j] => (-(2 ^ 62) ≤ j ∧ j < 2 ^ 62) ∧ R (rngD 0 j.toNat) (fun _ => True) G1
  | _ => False
theorem itr_D {K : PySem.W.Frag} {H0 : Hp} {ι0 : List Addr} {lo : Int} {n : Nat} : ItD K (Itr lo n) (rngD lo n) (fun _ => True) H0 ι0 where
  stop := fun G H ι hG g _ => by show n ≤ (rngD lo n).length; simp [rngD]
  go := fun i d G H ι e hG g _ => by
    have hi : i < n := by
      have := (List.getElem?_eq_some_iff.mp e).1
      simpa [rngD] using this
    refine ⟨hi, fun x H2 y => ?_⟩
    obtain ⟨rfl, rfl⟩ := y
    have e2 : d = Dt.int (lo + i) := by
      simp [rngD, hi] at e
      exact e.symm
    subst e2
    exact ⟨hG, Gr.refl, rfl⟩
theorem di_rng1 {a : Expr} {ta : TDA} {p pos : Pos} (ha : DA X F [a] ta) (hm : X.mg "range" = none) (hg : Gl X "range" := by rfl) (hs : starEach [a] X.env = [(false, eval a X.env)] := by exact star_one rfl) : DI X F tg (.Call (.Name "range" p) [a] [] pos) (diRng1 ta) := by
  refine PI.imp (pi_range1 hg hm ha hs) fun σ H R ⟨σd, G, ι, Q, ok, ht, hq⟩ => ⟨σd, G, ι, _, ok, ht, fun vs H1 ds G1 ι1 h1 g1 r1 q1 => ?_⟩
  unfold diRng1 at ht
  split at q1
  · rename_i j
    obtain ⟨v, r, e, a1, b1⟩ := r1
    have b2 : r = [] := b1
    subst b2
    have a2 : v = V.int j := a1
    subst a2
    exact ⟨j, e, q1.1.1, q1.1.2, hq _ H1 _ _ G1 ι1 h1 g1 itr_D q1.2⟩
  · exact q1.elim
theorem di_rng1' {a : Expr} {ta : TDA} {p pos : Pos} (ha : DA' X F [a] ta) (hm : X.mg "range" = none) (hg : Gl X "range" := by rfl) (hs : starEach [a] X.env = [(false, eval a X.env)] := by exact star_one rfl) : DI' X F tg (.Call (.Name "range" p) [a] [] pos) (diRng1 ta) :=
  ⟨di_rng1 (ha := ha.p) (hm := hm) (hg := hg) (hs := hs)⟩
end

/-! ### calls of the text's defs -/
abbrev SpD := List Dt → GD → KD → Prop
def liSp (K : PySem.W.Frag) (n : Nat) (sp : SpD) : Sp := fun vs H Q E => ∃ ds G ι Qd, ds.length = n ∧ HG K G H ι ∧ Rps K H ι ds vs ∧ sp ds G Qd ∧
  ∀ v H' d G' ι', HG K G' H' ι' → Gr K H ι H' ι' → Rp K H' ι' d v → Qd d G' → Q v H'
def dCall (n : Nat) (sp : SpD) (t : TDA) : TDE := fun σ G Q => t σ G fun ds G1 => ds.length = n ∧ sp ds G1 Q
/-- what a def's body is to reach: cells beyond n are let go -/
def RetD (G : GD) (Q : KD) : KD := fun d G' => Q d G' ∨ ∃ n, G.length ≤ n ∧ bnd n d ∧ bndG n (G'.take n) ∧ Q d (G'.take n)
def endsD (G : GD) (Q : KD) : EndsD := { nx := fun _ G' => RetD G Q .non G', rt := RetD G Q }
def startD (N : List Str) (ds : List Dt) : SD := ds.map some ++ List.replicate (N.length - ds.length) none
theorem RetD.pure {G J : GD} {Q : KD} {d : Dt} (hG : bndG G.length G) (hb : bnd G.length d) (h : Q d G) : RetD G Q d (G ++ J) :=
  .inr ⟨G.length, Nat.le_refl _, hb, by simpa using hG, by simpa using h⟩
theorem RetD.all {G G' : GD} {Q : KD} {d : Dt} (h : Q d G') : RetD G Q d G' := .inl h
section
variable {X : Cx} {F : Fx} {k : Nat} {f : Addr} {fd : FuncData} {ps : List Str} {sp : SpD} {x : Str} {p pos : Pos} {e : Expr} {es : List Expr} {t : TDA}
theorem de_call (Fk : FnOk X.prog X.w X.K X.mg X.base CX0 k f fd ps (liSp X.K ps.length sp)) (hr : Room k X.A) (hm : X.mg x = some (.ref f)) (hk : PySem.W.keepIn X.K (.ref f) = true) (hb : Binds X.K fd ps []) (ha : DA X F (e :: es) t) (hg : Gl X x := by rfl)
    (hdb : (x == ("__debug__" : Str)) = false := by decide) (he : starEach (e :: es) X.env = (false, eval e X.env) :: starEach es X.env := by exact star_cons rfl) (hpl : (backTo pos (starEach es X.env)).any (·.1) = false := by exact back_any rfl) : DE X F (.Call (.Name x p) (e :: es) [] pos) (dCall ps.length sp t) := by
  refine PE.imp (pe_call (E := E0) Fk hr hg hm hk hb .nil pass0 ha hdb he hpl) fun σ H Qv ⟨σd, G, ι, Q, ok, ht, hq⟩ => ⟨σd, G, ι, _, ok, ht, fun vs H1 ds G1 ι1 h1 g1 r1 q1 => ?_⟩
  exact ⟨ds, G1, ι1, Q, q1.1, h1, by rw [List.append_nil]; exact r1, q1.2, fun v H' d G' ι' h' g' r' q' => hq v H' d G' ι' h' (g1.trans g') r' q'⟩
end
theorem startD_at {N : List Str} {ds : List Dt} {i : Nat} {d : Dt} (h : (startD N ds)[i]? = some (some d)) : ds[i]? = some d := by
  unfold startD at h
  by_cases hi : i < ds.length
  · rw [List.getElem?_append_left (by simpa using hi), List.getElem?_map] at h
    cases e : ds[i]? with
    | none => rw [e] at h; cases h
    | some a => rw [e] at h; cases h; rfl
  · rw [List.getElem?_append_right (by simpa using hi), List.getElem?_replicate] at h
    split at h <;> cases h
theorem start_ok {K : PySem.W.Frag} {N : List Str} {ds : List Dt} {vs : List V} {G : GD} {H : Hp} {ι : List Addr} (hG : HG K G H ι) (r : Rps K H ι ds vs) : Ok K ⟨H, ι⟩ (startD N ds) G (L2.start N vs) H ι := by
  refine ⟨hG, fun i d e => ?_, Gr.refl, ?_⟩
  · obtain ⟨v, q, rv⟩ := r.get (startD_at e)
    refine ⟨v, ?_, rv⟩
    unfold L2.start
    rw [List.getElem?_append_left (by simpa using (List.getElem?_eq_some_iff.mp q).1), List.getElem?_map, q]
    rfl
  · unfold startD L2.start
    simp [r.len]
section
variable {P : Program} {w : World} {K : PySem.W.Frag} {mg : Str → Option Value} {base : Heap}
/-- THE RULE for a def over data -/
theorem okD {x qual : Str} {st : Stmt} {f : Addr} {fd : FuncData} {N ps : List Str} {k : Nat} {sp : SpD} (Fn : Fun K x qual st f fd) (S : FnScope N ps (defScope st))
    (hbody : ∀ (cdv : Value) (A : Around) (outer : List Env) (s : Shared) (H : Hp) (E : XK), Room k (A.deeper (envOfC qual (defScope st) s.heap.objs.size f cdv)) →
      ∃ td, (∀ F, DSs (cxOf CX0 P w K mg base N qual (defScope st) f cdv A outer s H E).nox F (defBody st) td) ∧ ∀ (ds : List Dt) (G : GD) (Q : KD), ds.length = ps.length → sp ds G Q → bnds G.length ds → bndG G.length G → td (endsD G Q) (startD N ds) G) :
    FnOk P w K mg base CX0 (k + 1) f fd ps (liSp K ps.length sp) := by
  refine Fn.ok S (fun vs H Q E ⟨ds, G, ι, Qd, hl, hG, r, _⟩ => by rw [← r.len]; exact hl) fun cdv A outer s H vs Q E hr ⟨ds, G, ι, Qd, hl, hG, r, hsp, hq⟩ => ?_
  obtain ⟨td, ht, hd⟩ := hbody cdv A outer s H E hr
  refine ⟨_, ht ⟨H, ι⟩, startD N ds, G, ι, endsD G Qd, start_ok hG r, hd ds G Qd hl hsp (by rw [← hG.len]; exact Rps.bd _ _ r) hG.bd, ?_⟩
  have fin : ∀ v H' d G' ι', HG K G' H' ι' → Gr K H ι H' ι' → Rp K H' ι' d v → RetD G Qd d G' → Q v H' := fun v H' d G' ι' h' g' r' z => by
    rcases z with q | ⟨n, hn, hb, hbG, q⟩
    · exact hq v H' d G' ι' h' g' r' q
    have ok : Ok K ⟨H, ι⟩ [] G' [] H' ι' := ⟨h', fun i d e => by simp at e, g', rfl⟩
    have ok2 := ok.weak (σd' := []) n (by rw [← hG.len] at hn; exact hn) rfl (fun i d e => by simp at e) hbG
    exact hq v H' d (G'.take n) (ι'.take n) ok2.hg ok2.gr (Rp.cut n _ _ r' hb) q
  exact ⟨fun σ' H' σd' G' ι' ok' q => fin .non H' .non G' ι' ok'.hg ok'.gr rfl q, fun _ _ _ _ _ _ q => q.elim, fun _ _ _ _ _ _ q => q.elim, fun v H' d G' ι' h' g' r' q' => fin v H' d G' ι' h' g' r' q'⟩
end
end DL
namespace DL
open PySem PySem.Spec L2
open PyProof.Rows hiding St

theorem bt_int : bootBuiltins "int" = some (.type "int") := by decide +kernel
theorem bt_bool : bootBuiltins "bool" = some (.type "bool") := by decide +kernel
theorem bt_tuple : bootBuiltins "tuple" = some (.type "tuple") := by decide +kernel
theorem bt_isinstance : bootBuiltins "isinstance" = some (.builtin "isinstance") := by decide +kernel
/-! ### built-in functions and types by values -/
abbrev RDA := List Dt → GD → KD → Prop
def LCR (K : PySem.W.Frag) (r : List V → Hp → VK → Prop) (rd : RDA) : Prop :=
  ∀ (G : GD) (H : Hp) (ι : List Addr) (ds : List Dt) (vs : List V) (Q : KD) (Qv : VK), HG K G H ι → Rps K H ι ds vs → rd ds G Q →
    (∀ v H' d G' ι', HG K G' H' ι' → Gr K H ι H' ι' → Rp K H' ι' d v → Q d G' → Qv v H') → r vs H Qv
def dCB (rd : RDA) (t : TDA) : TDE := fun σ G Q => t σ G fun ds G1 => rd ds G1 Q
section
variable {X : Cx} {F : Fx} {e o a b : Expr} {es : List Expr} {t : TDA} {pos p : Pos} {x : Str} {id T : String} {r : List V → Hp → VK → Prop} {rd : RDA} {ta tb to : TDE}
theorem liCB (hr : LCR X.K r rd) (h : PE X e (tCB r (liA X.K F t))) : DE X F e (dCB rd t) := by
  refine PE.imp h fun σ H Qv ⟨σd, G, ι, Q, ok, ht, hq⟩ => ⟨σd, G, ι, _, ok, ht, fun vs H1 ds G1 ι1 h1 g1 r1 q1 => ?_⟩
  exact hr G1 H1 ι1 ds vs Q Qv h1 r1 q1 fun v H' d G' ι' h' g' r' q' => hq v H' d G' ι' h' (g1.trans g') r' q'
theorem de_callB (hc : CallR X (.builtin id) r) (hl : LCR X.K r rd) (hv : bootBuiltins x = some (.builtin id)) (ha : DA X F (e :: es) t) (hm : X.mg x = none) (hg : Gl X x := by rfl) (hn : x ≠ "__name__" := by decide) (hdb : (x == ("__debug__" : Str)) = false := by decide)
    (he : starEach (e :: es) X.env = (false, eval e X.env) :: starEach es X.env := by exact star_cons rfl) (hpl : (backTo pos (starEach es X.env)).any (·.1) = false := by exact back_any rfl) : DE X F (.Call (.Name x p) (e :: es) [] pos) (dCB rd t) :=
  liCB hl (pe_callB hc hg hm hv ha hn hdb he hpl)
theorem de_callTy (hc : CallR X (.type T) r) (hl : LCR X.K r rd) (hv : bootBuiltins x = some (.type T)) (ha : DA X F (e :: es) t) (hm : X.mg x = none) (hg : Gl X x := by rfl) (hn : x ≠ "__name__" := by decide) (hdb : (x == ("__debug__" : Str)) = false := by decide)
    (he : starEach (e :: es) X.env = (false, eval e X.env) :: starEach es X.env := by exact star_cons rfl) (hpl : (backTo pos (starEach es X.env)).any (·.1) = false := by exact back_any rfl) : DE X F (.Call (.Name x p) (e :: es) [] pos) (dCB rd t) :=
  liCB hl (pe_callTy hc hg hm hv ha hn hdb he hpl)
/-! ### len -/
def lenD (G : GD) : Dt → Option Nat
  | .tup xs => some xs.length
  | .ref i => match G[i]? with
    | some (.lst xs) => some xs.length
    | some (.fz xs) => some xs.length
    | some (.dct kvs) => some kvs.length
    | _ => none
  | _ => none
def rdLen0 : RDA := fun ds G Q => match ds with
  | [d] => match lenD G d with
    | some n => Q (.int n) G
    | none => False
  | _ => False
structure rdLen (ds : List Dt) (G : GD) (Q : KD) : Prop where
  p : rdLen0 ds G Q
theorem rdLen_eq {ds : List Dt} {G : GD} {Q : KD} : rdLen ds G Q = rdLen0 ds G Q := propext ⟨fun h => h.p, fun h => ⟨h⟩⟩
def rLenV (K : PySem.W.Frag) : List V → Hp → VK → Prop := fun xs H Q => (∃ p ys, xs = [V.ref p] ∧ (SqL K H p ys ∨ SqT K H p ys) ∧ Q (.int ys.length) H) ∨ ∃ a kvs, xs = [V.ref a] ∧ H a = some (.dK kvs) ∧ Q (.int kvs.length) H
theorem call_lenD : CallR X (.builtin "len") (fun xs H Q => ∃ a kvs, xs = [V.ref a] ∧ H a = some (.dK kvs) ∧ Q (.int kvs.length) H) := by
  intro pins s σ H xs us Q I r h
  obtain ⟨a, kvs, rfl, e, q⟩ := h
  obtain ⟨u, rfl, ru⟩ := vals1 r
  cases ru
  exact d_len I (.inl e) fun t s' I' => ⟨.int kvs.length, H, I', ⟨t, rfl⟩, q⟩
theorem call_lenV : CallR X (.builtin "len") (rLenV X.K) := CallR.or call_len_seq call_lenD
theorem rps1 {K : PySem.W.Frag} {H : Hp} {ι : List Addr} {d : Dt} {vs : List V} (h : Rps K H ι [d] vs) : ∃ v, vs = [v] ∧ Rp K H ι d v := by
  obtain ⟨v, r, e, a, b⟩ := h
  have b2 : r = [] := b
  subst b2
  exact ⟨v, e, a⟩
theorem rps2 {K : PySem.W.Frag} {H : Hp} {ι : List Addr} {d d' : Dt} {vs : List V} (h : Rps K H ι [d, d'] vs) : ∃ v v', vs = [v, v'] ∧ Rp K H ι d v ∧ Rp K H ι d' v' := by
  obtain ⟨v, r, e, a, b⟩ := h
  obtain ⟨v', e', a'⟩ := rps1 b
  subst e'
  exact ⟨v, v', e, a, a'⟩
theorem l_len {K : PySem.W.Frag} : LCR K (rLenV K) rdLen := by
  intro G H ι ds vs Q Qv hG r h hq
  replace h := h.p; unfold rdLen0 at h
  split at h
  · rename_i d
    obtain ⟨v, e, rv⟩ := rps1 r
    subst e
    split at h
    · rename_i n en
      have fin : Qv (.int n) H := hq _ H (.int n) G ι hG Gr.refl rfl h
      cases d with
      | tup xs =>
        obtain ⟨a, ws, e, s, rr⟩ := rv
        subst e
        cases en
        exact .inl ⟨a, ws, rfl, .inr s, by rw [← rr.len]; exact fin⟩
      | ref i =>
        obtain ⟨a, e, q⟩ := rv
        subst e
        simp only [lenD] at en
        split at en
        · rename_i xs z
          cases en
          obtain ⟨ws, w, rr⟩ := hG.cel i _ a z q
          exact .inl ⟨a, ws, rfl, .inl (.inl (.inl w)), by rw [← rr.len]; exact fin⟩
        · rename_i xs z
          cases en
          obtain ⟨ws, w, rr⟩ := hG.cel i _ a z q
          refine .inl ⟨a, ws, rfl, .inl ?_, by rw [← rr.len]; exact fin⟩
          rcases w with ⟨o, w⟩ | w
          · exact .inl (.inr ⟨o, w⟩)
          · exact .inr w
        · rename_i kvs z
          cases en
          obtain ⟨ws, w, rr⟩ := hG.cel i _ a z q
          exact .inr ⟨a, ws, rfl, w, by rw [← rr.len]; exact fin⟩
        · cases en
      | _ => cases en
    · exact h.elim
  · exact h.elim
theorem de_len (ha : DA X F [e] t) (hm : X.mg "len" = none) (hg : Gl X "len" := by rfl) (he : starEach [e] X.env = (false, eval e X.env) :: starEach [] X.env := by exact star_cons rfl) (hpl : (backTo pos (starEach [] X.env)).any (·.1) = false := by exact back_any rfl) : DE X F (.Call (.Name "len" p) [e] [] pos) (dCB rdLen t) :=
  de_callB call_lenV l_len PySem.boot_len ha hm hg (by decide) (by decide) he hpl

theorem de_len' (ha : DA' X F [e] t) (hm : X.mg "len" = none) (hg : Gl X "len" := by rfl) (he : starEach [e] X.env = (false, eval e X.env) :: starEach [] X.env := by exact star_cons rfl) (hpl : (backTo pos (starEach [] X.env)).any (·.1) = false := by exact back_any rfl) : DE' X F (.Call (.Name "len" p) [e] [] pos) (dCB rdLen t) :=
  ⟨de_len (ha := ha.p) (hm := hm) (hg := hg) (he := he) (hpl := hpl)⟩
/-! ### isinstance(x, T), T a built-in type -/
/-- of the kinds that are asked: int, bool, str, tuple, list, dict -/
def subN (t c : String) : Bool := t == c || (t == "bool" && c == "int")
theorem kit_of {K : PySem.W.Frag} {t c : String} (ht : t = "NoneType" ∨ t = "bool" ∨ t = "int" ∨ t = "str" ∨ t = "tuple" ∨ t = "list" ∨ t = "dict") (hc : c = "int" ∨ c = "bool" ∨ c = "str" ∨ c = "tuple" ∨ c = "list" ∨ c = "dict") :
    PySem.W.kitOne K (.type t) (.type c) = some (subN t c) := by
  rcases ht with rfl | rfl | rfl | rfl | rfl | rfl | rfl <;> rcases hc with rfl | rfl | rfl | rfl | rfl | rfl <;> first | rfl | kernel_rfl

def isiD (c : String) : Dt → Bool
  | .bl _ => c == "bool" || c == "int"
  | .int _ => c == "int"
  | .str _ => c == "str"
  | .tup _ => c == "tuple"
  | _ => false
def DctAt (H : Hp) (a : Addr) : Prop := (∃ kvs, H a = some (.dK kvs)) ∨ ∃ (κ : Type) (hash : κ → Int) (ys : List (κ × Addr × Value)), H a = some (.ext (DX hash a ys))
def rIsiV (K : PySem.W.Frag) : List V → Hp → VK → Prop := fun xs H Q => ∃ x c t b, xs = [x, V.ty c] ∧
  ((x = .non ∧ t = "NoneType") ∨ (∃ b, x = .bl b ∧ t = "bool") ∨ (∃ i, x = .int i ∧ t = "int") ∨ (∃ z, x = .str z ∧ t = "str") ∨ (∃ a ys, x = .ref a ∧ SqT K H a ys ∧ t = "tuple") ∨ (∃ a ys, x = .ref a ∧ SqL K H a ys ∧ t = "list") ∨ (∃ a, x = .ref a ∧ DctAt H a ∧ t = "dict")) ∧
  PySem.W.kitOne K (.type t) (.type c) = some b ∧ Q (.bl b) H
theorem call_isi : CallR X (.builtin "isinstance") (rIsiV X.K) := by
  intro pins s σ H xs us Q I r h
  obtain ⟨x, c, t, b, rfl, ty, e, q⟩ := h
  obtain ⟨u, w', rfl, rx, rc⟩ := vals2 r
  cases (show w' = Value.type c from rc)
  have fin : ∀ tk, EP X pins σ Q (.bool b) { s with toks := tk } := fun tk => ⟨.bl b, H, I.tok tk, rfl, q⟩
  rcases ty with ⟨rfl, rfl⟩ | ⟨y, rfl, rfl⟩ | ⟨y, rfl, rfl⟩ | ⟨y, rfl, rfl⟩ | ⟨a, ys, rfl, hs, rfl⟩ | ⟨a, ys, rfl, hs, rfl⟩ | ⟨a, rfl, hs, rfl⟩
  · cases (show u = Value.none from rx); exact PySem.W.kia_one PySem.W.kitx_none I.kIn True.intro e (fun z => nomatch z) fin
  · cases (show u = Value.bool y from rx); exact PySem.W.kia_one PySem.W.kitx_bool I.kIn True.intro e (fun z => nomatch z) fin
  · obtain ⟨t, q⟩ := (show ∃ t, u = Value.int y t from rx); cases q; exact PySem.W.kia_one PySem.W.kitx_int I.kIn True.intro e (fun z => nomatch z) fin
  · obtain ⟨t, q⟩ := (show ∃ t, u = Value.str y t from rx); cases q; exact PySem.W.kia_one PySem.W.kitx_str I.kIn True.intro e (fun z => nomatch z) fin
  · cases (show u = Value.ref a from rx)
    obtain ⟨its, _, ⟨o, h1, h2, _⟩, _⟩ := I.tuple hs
    exact PySem.W.kia_one PySem.W.kitx_tuple I.kIn ⟨o, h1, h2⟩ e (fun z => nomatch z) fin
  · cases (show u = Value.ref a from rx)
    obtain ⟨its, _, ⟨o, n, h1, h2, _⟩, _⟩ := I.list hs
    exact PySem.W.kia_one PySem.W.kitx_list I.kIn ⟨o, h1, h2⟩ e (fun z => nomatch z) fin
  · cases (show u = Value.ref a from rx)
    rcases hs with ⟨kvs, hs⟩ | ⟨κ, hash, ys, hs⟩
    · obtain ⟨_, _, vs, _, p⟩ := (show ObjOk X.prog X.w H s.heap a (.dK kvs) from I.hok a _ hs)
      obtain ⟨o, es, ep, h1, h2, _⟩ := p
      exact PySem.W.kia_one PySem.W.kitx_dict I.kIn ⟨o, h1, h2.1⟩ e (fun z => nomatch z) fin
    · obtain ⟨⟨_, _, o, es, ep, h1, h2, _⟩, _⟩ := (show ObjOk X.prog X.w H s.heap a (.ext (DX hash a ys)) from I.hok a _ hs)
      exact PySem.W.kia_one PySem.W.kitx_dict I.kIn ⟨o, h1, h2.1⟩ e (fun z => nomatch z) fin
/-- isinstance(e, T) for int, bool, str, tuple (a cell is none of these) -/
def dIsi (c : String) (te : TDE) : TDE := fun σ G Q => te σ G fun d G1 => Q (.bl (isiD c d)) G1
theorem isi_val {K : PySem.W.Frag} {G : GD} {H : Hp} {ι : List Addr} {d : Dt} {v : V} {c : String} {Qv : VK} (hc : c = "int" ∨ c = "bool" ∨ c = "str" ∨ c = "tuple") (hG : HG K G H ι) (rv : Rp K H ι d v) (h : Qv (.bl (isiD c d)) H) : rIsiV K [v, V.ty c] H Qv := by
  have hc' : c = "int" ∨ c = "bool" ∨ c = "str" ∨ c = "tuple" ∨ c = "list" ∨ c = "dict" := by
    rcases hc with h | h | h | h <;> simp [h]
  have fin : ∀ b, b = isiD c d → Qv (.bl b) H := fun b e => by subst e; exact h
  cases d with
  | non => exact ⟨v, c, "NoneType", _, rfl, .inl ⟨rv, rfl⟩, kit_of (by simp) hc', fin _ (by rcases hc with rfl | rfl | rfl | rfl <;> rfl)⟩
  | bl b => exact ⟨v, c, "bool", _, rfl, .inr (.inl ⟨b, rv, rfl⟩), kit_of (by simp) hc', fin _ (by rcases hc with rfl | rfl | rfl | rfl <;> rfl)⟩
  | int b => exact ⟨v, c, "int", _, rfl, .inr (.inr (.inl ⟨b, rv, rfl⟩)), kit_of (by simp) hc', fin _ (by rcases hc with rfl | rfl | rfl | rfl <;> rfl)⟩
  | str b => exact ⟨v, c, "str", _, rfl, .inr (.inr (.inr (.inl ⟨b, rv, rfl⟩))), kit_of (by simp) hc', fin _ (by rcases hc with rfl | rfl | rfl | rfl <;> rfl)⟩
  | tup b =>
    obtain ⟨a, ws, e, s, rr⟩ := rv
    exact ⟨v, c, "tuple", _, rfl, .inr (.inr (.inr (.inr (.inl ⟨a, ws, e, s, rfl⟩)))), kit_of (by simp) hc', fin _ (by rcases hc with rfl | rfl | rfl | rfl <;> rfl)⟩
  | ref i =>
    obtain ⟨a, e, q⟩ := rv
    have hi : i < G.length := by rw [← hG.len]; exact (List.getElem?_eq_some_iff.mp q).1
    have z : G[i]? = some G[i] := by simp [hi]
    have cell := hG.cel i _ a z q
    revert cell
    cases G[i] with
    | lst xs =>
      intro cell
      obtain ⟨ws, w, rr⟩ := cell
      exact ⟨v, c, "list", _, rfl, .inr (.inr (.inr (.inr (.inr (.inl ⟨a, ws, e, .inl (.inl w), rfl⟩))))), kit_of (by simp) hc', fin _ (by rcases hc with rfl | rfl | rfl | rfl <;> rfl)⟩
    | fz xs =>
      intro cell
      obtain ⟨ws, w, rr⟩ := cell
      refine ⟨v, c, "list", _, rfl, .inr (.inr (.inr (.inr (.inr (.inl ⟨a, ws, e, ?_, rfl⟩))))), kit_of (by simp) hc', fin _ (by rcases hc with rfl | rfl | rfl | rfl <;> rfl)⟩
      rcases w with ⟨o, w⟩ | w
      · exact .inl (.inr ⟨o, w⟩)
      · exact .inr w
    | dct xs =>
      intro cell
      obtain ⟨ws, w, rr⟩ := cell
      exact ⟨v, c, "dict", _, rfl, .inr (.inr (.inr (.inr (.inr (.inr ⟨a, e, .inl ⟨ws, w⟩, rfl⟩))))), kit_of (by simp) hc', fin _ (by rcases hc with rfl | rfl | rfl | rfl <;> rfl)⟩
    | dT xs =>
      intro cell
      obtain ⟨ws, w, rr⟩ := cell
      exact ⟨v, c, "dict", _, rfl, .inr (.inr (.inr (.inr (.inr (.inr ⟨a, e, .inr ⟨_, _, ws, w⟩, rfl⟩))))), kit_of (by simp) hc', fin _ (by rcases hc with rfl | rfl | rfl | rfl <;> rfl)⟩
    | dG xs =>
      intro cell
      obtain ⟨ws, w, rr⟩ := cell
      exact ⟨v, c, "dict", _, rfl, .inr (.inr (.inr (.inr (.inr (.inr ⟨a, e, .inr ⟨_, _, ws, w⟩, rfl⟩))))), kit_of (by simp) hc', fin _ (by rcases hc with rfl | rfl | rfl | rfl <;> rfl)⟩
theorem de_isi {c : String} {y : Str} {p2 : Pos} (hv : bootBuiltins y = some (.type c)) (hc : c = "int" ∨ c = "bool" ∨ c = "str" ∨ c = "tuple") (ha : DE X F a ta) (hm : X.mg "isinstance" = none) (hmy : X.mg y = none) (hg : Gl X "isinstance" := by rfl) (hgy : Gl X y := by rfl)
    (hn : y ≠ "__name__" := by decide) (hd : (y == ("__debug__" : Str)) = false := by decide) (he : starEach [a, .Name y p2] X.env = (false, eval a X.env) :: starEach [.Name y p2] X.env := by exact star_cons rfl)
    (he2 : starEach [Expr.Name y p2] X.env = (false, eval (.Name y p2) X.env) :: starEach [] X.env := by rfl) (hpl : (backTo pos (starEach [Expr.Name y p2] X.env)).any (·.1) = false := by exact back_any rfl) : DE X F (.Call (.Name "isinstance" p) [a, .Name y p2] [] pos) (dIsi c ta) := by
  have hA : PA X [a, .Name y p2] (tCons (liE X.K F ta) (tCons (tC (.ty c)) tNil)) := pa_cons ha (pa_cons (pe_bltn (v := .ty c) hgy hmy hv rfl hn hd) pa_nil he2) he
  refine PE.imp (pe_callB call_isi hg hm bt_isinstance hA (by decide) (by decide) he hpl) fun σ H Qv ⟨σd, G, ι, Q, ok, ht, hq⟩ => ?_
  refine ⟨σd, G, ι, _, ok, ht, fun v H1 d G1 ι1 h1 g1 r1 q1 => ?_⟩
  exact isi_val hc h1 r1 (hq _ H1 (.bl (isiD c d)) G1 ι1 h1 g1 rfl q1)

theorem de_isi' {c : String} {y : Str} {p2 : Pos} (hv : bootBuiltins y = some (.type c)) (hc : c = "int" ∨ c = "bool" ∨ c = "str" ∨ c = "tuple") (ha : DE' X F a ta) (hm : X.mg "isinstance" = none) (hmy : X.mg y = none) (hg : Gl X "isinstance" := by rfl) (hgy : Gl X y := by rfl)
    (hn : y ≠ "__name__" := by decide) (hd : (y == ("__debug__" : Str)) = false := by decide) (he : starEach [a, .Name y p2] X.env = (false, eval a X.env) :: starEach [.Name y p2] X.env := by exact star_cons rfl)
    (he2 : starEach [Expr.Name y p2] X.env = (false, eval (.Name y p2) X.env) :: starEach [] X.env := by rfl) (hpl : (backTo pos (starEach [Expr.Name y p2] X.env)).any (·.1) = false := by exact back_any rfl) : DE' X F (.Call (.Name "isinstance" p) [a, .Name y p2] [] pos) (dIsi c ta) :=
  ⟨de_isi (hv := hv) (hc := hc) (ha := ha.p) (hm := hm) (hmy := hmy) (hg := hg) (hgy := hgy) (hn := hn) (hd := hd) (he := he) (he2 := he2) (hpl := hpl)⟩
/-! ### subscripts -/
def valD (kvs : List (Key × Dt)) (k : Key) : Option Dt := (kvs.find? fun kv => decide (kv.1 = k)).map (·.2)
theorem RpK.val {K : PySem.W.Frag} {H : Hp} {ι : List Addr} {k : Key} : ∀ {ds : List (Key × Dt)} {vs : List (Key × V)}, RpK K H ι ds vs → (∀ d, valD ds k = some d → ∃ v, valV vs k = some v ∧ Rp K H ι d v) ∧ (valD ds k = none → valV vs k = none)
  | [], vs, h => by
    have e : vs = [] := h
    subst e
    exact ⟨fun d z => by simp [valD] at z, fun _ => rfl⟩
  | p :: ds, vs, h => by
    obtain ⟨v, r, e, a, b⟩ := h
    subst e
    obtain ⟨x, y⟩ := RpK.val (k := k) b
    by_cases hk : p.1 = k
    · have e1 : valD (p :: ds) k = some p.2 := by simp [valD, List.find?_cons, hk]
      refine ⟨fun d z => ?_, fun z => by rw [e1] at z; cases z⟩
      rw [e1] at z
      cases z
      exact ⟨v, valV_pos hk, a⟩
    · have e1 : valD (p :: ds) k = valD ds k := by simp [valD, List.find?_cons, hk]
      rw [e1, valV_neg (p := (p.1, v)) hk]
      exact ⟨x, y⟩
def atD (G : GD) : Dt → Dt → Option Dt
  | .tup xs, .int i => atI xs i
  | .ref k, .int i => match G[k]? with
    | some (.lst xs) => atI xs i
    | some (.fz xs) => atI xs i
    | some (.dct kvs) => valD kvs (.inl i)
    | _ => none
  | .ref k, .str x => match G[k]? with
    | some (.dct kvs) => valD kvs (.inr x)
    | _ => none
  | _, _ => none
def rdIx0 : RD2 := fun x y G Q => match atD G x y with
  | some d => Q d G
  | none => False
structure rdIx (x y : Dt) (G : GD) (Q : KD) : Prop where
  p : rdIx0 x y G Q
theorem rdIx_eq {x y : Dt} {G : GD} {Q : KD} : rdIx x y G Q = rdIx0 x y G Q := propext ⟨fun h => h.p, fun h => ⟨h⟩⟩
def rIxD : R2 := fun x y H Q => ∃ a v, x = .ref a ∧ DGet H a y (some v) ∧ Q v H
theorem ix_dct (hu : X.A.units + 1 < cLine) : IxR X rIxD := by
  intro value slice pins s σ H x y v u Q I rx ry h hs
  obtain ⟨a, w', rfl, g, q⟩ := h
  cases rx
  refine tail_any (dict_typeIs I g) PySem.slot_dict_getitem.lookup (d_getItem hu I g ry fun z s' I' rz => ⟨w', H, I', rz, q⟩) hs
theorem ix_all (hu : X.A.units + 1 < cLine) : IxR X (fun x y H Q => rIx X.K x y H Q ∨ rIxD x y H Q) := IxR.or ix_seq (ix_dct hu)
theorem atI_rps {K : PySem.W.Frag} {H : Hp} {ι : List Addr} {xs : List Dt} {vs : List V} {i : Int} {d : Dt} (r : Rps K H ι xs vs) (h : atI xs i = some d) : ∃ v, atI vs i = some v ∧ Rp K H ι d v := by
  unfold atI at h ⊢
  rw [← r.len]
  cases e : ixN xs.length i with
  | none => rw [e] at h; cases h
  | some j =>
    rw [e] at h
    obtain ⟨v, q, rv⟩ := r.get (i := j) (d := d) h
    exact ⟨v, q, rv⟩
theorem l2_ix {K : PySem.W.Frag} : L2R K (fun x y H Q => rIx K x y H Q ∨ rIxD x y H Q) rdIx := by
  intro G H ι d1 d2 v1 v2 Q Qv hG r1 r2 h hq
  replace h := h.p; unfold rdIx0 at h
  split at h
  · rename_i d e
    have fin : ∀ v, Rp K H ι d v → Qv v H := fun v rv => hq v H d G ι hG Gr.refl rv h
    cases d1 with
    | tup xs =>
      cases d2 with
      | int i =>
        obtain ⟨a, vs, e1, s, rr⟩ := r1
        obtain ⟨v, q, rv⟩ := atI_rps rr e
        exact .inl (.inr (.inl ⟨a, vs, i, v, e1, r2, s, q, fin v rv⟩))
      | _ => cases e
    | ref k =>
      obtain ⟨a, e1, q⟩ := r1
      cases d2 with
      | int i =>
        simp only [atD] at e
        split at e
        · rename_i xs z
          obtain ⟨vs, w, rr⟩ := hG.cel k _ a z q
          obtain ⟨v, q, rv⟩ := atI_rps rr e
          exact .inl (.inl ⟨a, vs, i, v, e1, r2, .inl (.inl w), q, fin v rv⟩)
        · rename_i xs z
          obtain ⟨vs, w, rr⟩ := hG.cel k _ a z q
          obtain ⟨v, q, rv⟩ := atI_rps rr e
          refine .inl (.inl ⟨a, vs, i, v, e1, r2, ?_, q, fin v rv⟩)
          rcases w with ⟨o, w⟩ | w
          · exact .inl (.inr ⟨o, w⟩)
          · exact .inr w
        · rename_i kvs z
          obtain ⟨vs, w, rr⟩ := hG.cel k _ a z q
          obtain ⟨v, q, rv⟩ := (rr.val (k := .inl i)).1 d e
          have r2' : v2 = V.int i := r2
          subst r2'
          exact .inr ⟨a, v, e1, q ▸ DGet.k (k := .inl i) w, fin v rv⟩
        · cases e
      | str x =>
        simp only [atD] at e
        split at e
        · rename_i kvs z
          obtain ⟨vs, w, rr⟩ := hG.cel k _ a z q
          obtain ⟨v, q, rv⟩ := (rr.val (k := .inr x)).1 d e
          have r2' : v2 = V.str x := r2
          subst r2'
          exact .inr ⟨a, v, e1, q ▸ DGet.k (k := .inr x) w, fin v rv⟩
        · cases e
      | _ => cases e
    | _ => cases e
  · exact h.elim
theorem de_ix {k : Nat} (hr : Room k X.A) (ha : DE X F a ta) (hb : DE X F b tb) (hs : PlainIx b := by exact fun _ _ => rfl) : DE X F (.Subscript a b pos) (dOp rdIx ta tb) := li2 l2_ix (pe_ix (ix_all (hu_of hr)) ha hb hs)

theorem de_ix' {k : Nat} (hr : Room k X.A) (ha : DE' X F a ta) (hb : DE' X F b tb) (hs : PlainIx b := by exact fun _ _ => rfl) : DE' X F (.Subscript a b pos) (dOp rdIx ta tb) :=
  ⟨de_ix (hr := hr) (ha := ha.p) (hb := hb.p) (hs := hs)⟩
/-! ### slices -/
abbrev TDO := SD → GD → (Option Int → GD → Prop) → Prop
def liO (K : PySem.W.Frag) (F : Fx) (t : TDO) : TO := fun σ H Qv => ∃ σd G ι Q, Ok K F σd G σ H ι ∧ t σd G Q ∧ ∀ i H' G' ι', HG K G' H' ι' → Gr K H ι H' ι' → Q i G' → Qv i H'
def DO (X : Cx) (F : Fx) (e : Option Expr) (t : TDO) : Prop := PO X e (liO X.K F t)
structure DO' (X : Cx) (F : Fx) (e : Option Expr) (t : TDO) : Prop where
  p : DO X F e t
theorem PO.imp {e : Option Expr} {t t' : TO} (h : PO X e t) (i : ∀ σ H Q, t' σ H Q → t σ H Q) : PO X e t' := fun pins s σ H Q I q => h pins s σ H Q I (i σ H Q q)
def dNoPart : TDO := fun _ G Q => Q none G
def dPart (t : TDE) : TDO := fun σ G Q => t σ G fun x G1 => match x with
  | .int i => Q (some i) G1
  | _ => False
theorem do_some (h : DE X F e ta) : DO X F (some e) (dPart ta) := by
  refine PO.imp (po_some h) fun σ H Qv ⟨σd, G, ι, Q, ok, ht, hq⟩ => ⟨σd, G, ι, _, ok, ht, fun v H1 d G1 ι1 h1 g1 r1 q1 => ?_⟩
  cases d with
  | int i => exact ⟨i, r1, hq (some i) H1 G1 ι1 h1 g1 q1⟩
  | _ => exact q1.elim
theorem do_some' (h : DE' X F e ta) : DO' X F (some e) (dPart ta) :=
  ⟨do_some (h := h.p)⟩
def cutD (xs : List Dt) (lo hi : Option Int) : List Dt := (xs.drop (HT.sIx xs.length 0 lo)).take (HT.sIx xs.length xs.length hi - HT.sIx xs.length 0 lo)
theorem cutD_rps {K : PySem.W.Frag} {H : Hp} {ι : List Addr} {xs : List Dt} {vs : List V} (lo hi : Option Int) (r : Rps K H ι xs vs) : Rps K H ι (cutD xs lo hi) (cutV vs lo hi) := by
  unfold cutD cutV
  rw [r.len]
  exact (r.drop _).take _
abbrev RDS := Dt → Option Int → Option Int → GD → KD → Prop
def rdSl0 : RDS := fun x lo hi G Q => match x with
  | .tup xs => Q (.tup (cutD xs lo hi)) G
  | .ref i => match cellL G i with
    | some xs => Q (.ref G.length) (G ++ [.lst (cutD xs lo hi)])
    | none => False
  | _ => False
structure rdSl (x : Dt) (lo hi : Option Int) (G : GD) (Q : KD) : Prop where
  p : rdSl0 x lo hi G Q
theorem rdSl_eq {x : Dt} {lo hi : Option Int} {G : GD} {Q : KD} : rdSl x lo hi G Q = rdSl0 x lo hi G Q := propext ⟨fun h => h.p, fun h => ⟨h⟩⟩
def dSl (te : TDE) (tl th : TDO) : TDE := fun σ G Q => te σ G fun x G1 => tl σ G1 fun l G2 => th σ G2 fun u G3 => rdSl x l u G3 Q

/-- the whole of a tuple is the tuple itself -/
theorem getItem_tuple_whole {prog : Program} {w : World} {A : Around} {E : Value → Shared → Prop} {s : Shared} {tt sl : Addr} {items : Array Value} {vl vu : Value} {lo hi : Option Int} {Q : Value → Shared → Prop} (ht : IsTup s.heap tt items) (hs : s.heap.IsSliceOf sl vl vu .none) (pl : IsPart vl lo) (pu : IsPart vu hi)
    (hw : HT.sIx items.size 0 lo = 0 ∧ HT.sIx items.size items.size hi = items.size) (h : Q (.ref tt) s) : wpAny (model prog w) A (getItem (.ref tt) (.ref sl)) Q E s := by
  obtain ⟨os, hos, hcs, hds⟩ := id hs
  have hTs : s.TypeIs (.ref sl) "slice" := ⟨os, hos, hcs⟩
  obtain ⟨ot, hot, hct, nt, hdt⟩ := id ht
  unfold getItem
  try with_reducible refine wpAny_holding ?_
  first | refine wpAny_bind (wpAny_pure ?_) | skip
  refine wpAny_bind (wpAny_sequenceKey ht.typeIs (by decide) ?_)
  refine wpAny_bind (wpAny_callSpecial?_slot (name := Str.ofString "__getitem__") ht.typeIs PyProof.Rows.slot_tuple_getitem
    (wpAny_call_entry PyProof.Rows.slot_tuple_getitem ht.typeIs entry_tuple_getitem ?_ (args_tuple_getitem _ _)))
  show wpAny _ _ (Builtin.Tuple.tupleItemsOf (.ref tt) >>= _) _ _ s
  refine wpAny_bind (tupleItemsOf_ ht ?_)
  refine wpAny_bind (wpAny_typeOf hTs ?_)
  rw [if_pos (by decide)]
  refine wpAny_bind (HT.sliceApplied_gen hs pl pu ?_)
  show wpAny _ _ (if (((HT.sIx items.size 0 lo : Nat) : Int) == 0 && (1 : Int) == 1 && (HT.sIx items.size items.size hi - HT.sIx items.size 0 lo) == items.size) = true then _ else _) _ _ s
  rw [if_pos (by rw [hw.1, hw.2]; simp)]
  refine wpAny_bind (m := Builtin.Tuple.tupleIsExact (.ref tt)) ?_
  unfold Builtin.Tuple.tupleIsExact
  refine wpAny_bind (wpAny_typeOf ht.typeIs (wpAny_pure ?_))
  rw [if_pos (by decide)]
  first
    | exact wpAny_bind (wpAny_rule (wpAny_pure ⟨_, rfl, wpAny_pure h⟩))
    | exact wpAny_bind (wpAny_rule (wpAny_bind (wpAny_pure (wpAny_pure ⟨_, rfl, wpAny_pure h⟩))))
    | exact wpAny_rule (wpAny_pure ⟨_, rfl, wpAny_pure h⟩)
def rSlTW (K : PySem.W.Frag) : V → Option Int → Option Int → Hp → VK → Prop := fun x lo hi H Q => ∃ a xs, x = .ref a ∧ SqT K H a xs ∧
  (HT.sIx xs.length 0 lo = 0 ∧ HT.sIx xs.length xs.length hi = xs.length) ∧ Q (.ref a) H
theorem sl_tupW : SlR X (rSlTW X.K) := by
  intro pins s σ H x v vl vu lo hi sl Q I rx hs pl pu h
  obtain ⟨a, xs, rfl, hx, hw, q⟩ := h
  cases rx
  obtain ⟨its, r, ht, hz⟩ := I.tuple hx
  have hlen : its.toArray.size = xs.length := by rw [List.size_toArray]; exact r.length.symm
  exact ⟨"tuple", _, PyProof.Rows.slot_tuple_getitem.lookup, ht.typeIs, getItem_tuple_whole ht hs pl pu (by rw [hlen]; exact hw) ⟨.ref a, H, I, rfl, q⟩⟩
def rSlV (K : PySem.W.Frag) : V → Option Int → Option Int → Hp → VK → Prop := fun x lo hi H Q => rSlT K x lo hi H Q ∨ (rSlTW K x lo hi H Q ∨ rSlL K x lo hi H Q)
theorem sl_V : SlR X (rSlV X.K) := sl_tup.or (sl_tupW.or sl_list)
theorem cut_whole {xs : List Dt} {lo hi : Option Int} (h : HT.sIx xs.length 0 lo = 0 ∧ HT.sIx xs.length xs.length hi = xs.length) : cutD xs lo hi = xs := by
  unfold cutD
  rw [h.1, h.2]
  simp
theorem de_sl {lo hi : Option Expr} {tl th : TDO} {p2 : Pos} (he : DE X F e ta) (hl : DO X F lo tl) (hu : DO X F hi th) : DE X F (.Subscript e (.Slice lo hi none p2) pos) (dSl ta tl th) := by
  refine PE.imp (pe_slice sl_V he hl hu) fun σ H Qv ⟨σd, G, ι, Q, ok, ht, hq⟩ => ?_
  refine ⟨σd, G, ι, _, ok, ht, fun v H1 d G1 ι1 h1 g1 r1 q1 => ⟨σd, G1, ι1, _, ok.to h1 g1, q1, fun i H2 G2 ι2 h2 g2 q2 => ⟨σd, G2, ι2, _, ok.to h2 (g1.trans g2), q2, fun j H3 G3 ι3 h3 g3 q3 => ?_⟩⟩⟩
  have r3 := r1.up (g2.trans g3)
  have gg := g1.trans (g2.trans g3)
  replace q3 := q3.p; unfold rdSl0 at q3
  split at q3
  · rename_i xs
    obtain ⟨a, vs, e, s, rr⟩ := r3
    subst e
    by_cases hw : HT.sIx vs.length 0 i = 0 ∧ HT.sIx vs.length vs.length j = vs.length
    · refine .inr (.inl ⟨a, vs, rfl, s, hw, ?_⟩)
      rw [cut_whole (by rw [rr.len]; exact hw)] at q3
      exact hq _ H3 (.tup xs) G3 ι3 h3 gg ⟨a, vs, rfl, s, rr⟩ q3
    · refine .inl ⟨a, vs, rfl, s, hw, fun p hp => ?_⟩
      obtain ⟨x, y, z⟩ := rp_newTup h3 (cutD_rps i j rr) hp
      exact hq _ _ _ G3 ι3 x (gg.trans y) z q3
  · rename_i k
    obtain ⟨a, e, q⟩ := r3
    subst e
    split at q3
    · rename_i xs z
      obtain ⟨vs, s, rr⟩ := cellL_sq h3 q z
      refine .inr (.inr ⟨a, vs, rfl, s, fun p hp => ?_⟩)
      obtain ⟨x, y, z⟩ := rp_newLst h3 (cutD_rps i j rr) hp
      exact hq _ _ _ _ _ x (gg.trans y) z q3
    · exact q3.elim
  · exact q3.elim

theorem de_sl' {lo hi : Option Expr} {tl th : TDO} {p2 : Pos} (he : DE' X F e ta) (hl : DO' X F lo tl) (hu : DO' X F hi th) : DE' X F (.Subscript e (.Slice lo hi none p2) pos) (dSl ta tl th) :=
  ⟨de_sl (he := he.p) (hl := hl.p) (hu := hu.p)⟩
/-! ### + -/
theorem cat_tup0 {prog : Program} {w : World} {A : Around} {E : Value → Shared → Prop} {s : Shared} {tt b : Addr} {ws : List Value} {Q : Value → Shared → Prop} (ht : IsTup s.heap tt ([] : List Value).toArray) (hb : IsTup s.heap b ws.toArray) (h : Q (.ref b) s) : wpAny (model prog w) A (binaryOp .Add (.ref tt) (.ref b)) Q E s := by
  obtain ⟨⟨cls, dd, data, sl⟩, ho, hc, n, hd⟩ := id ht
  obtain ⟨⟨cls2, dd2, data2, sl2⟩, ho2, hc2, n2, hd2⟩ := id hb
  simp only at hc hd hc2 hd2
  subst hc hd hc2 hd2
  exact concat_meets ⟨_, ho, rfl⟩ ⟨_, ho2, rfl⟩ noFill_tuple_add seq_tuple_add PySem.F.slot_tuple_add PySem.F.entry_tuple_add (PySem.F.args_tuple_add_2 _ _)
      (tuple_addW0 tt b ([] : List Value).toArray ws.toArray n n2 dd dd2 sl sl2 (by simp)) ⟨ho, ho2, h⟩
def rCatT0 (K : PySem.W.Frag) : R2 := fun x y H Q => ∃ a b ys, x = .ref a ∧ y = .ref b ∧ SqT K H a [] ∧ SqT K H b ys ∧ Q (.ref b) H
theorem op_catT0 : OpR X (binaryOp .Add) (rCatT0 X.K) := by
  intro pins s σ H x y v u Q I rx ry h
  obtain ⟨a, b, ys, rfl, rfl, ha, hb, q⟩ := h
  cases rx
  cases ry
  obtain ⟨its, r1, p1, _⟩ := I.tuple ha
  obtain ⟨its2, r2, p2, _⟩ := I.tuple hb
  cases r1
  exact cat_tup0 p1 p2 ⟨.ref b, H, I, rfl, q⟩
def rAddV (K : PySem.W.Frag) : R2 := fun x y H Q => (∃ i j, x = .int i ∧ y = .int j ∧ Q (.int (i + j)) H) ∨ ((∃ i j, x = .str i ∧ y = .str j ∧ i.length + j.length ≤ sizeLine ∧ Q (.str (i ++ j)) H) ∨ (rCatT K x y H Q ∨ (rCatT0 K x y H Q ∨ rCat x y H Q)))
theorem op_addV : OpR X (binaryOp .Add) (rAddV X.K) := OpR.or op_add (OpR.or op_add_str (OpR.or op_catT (OpR.or op_catT0 op_cat)))
def rdAdd : RD2 := fun x y G Q => match x, y with
  | .int i, .int j => Q (.int (i + j)) G
  | .str i, .str j => i.length + j.length ≤ sizeLine ∧ Q (.str (i ++ j)) G
  | .tup xs, .tup ys => xs.length + ys.length ≤ sizeLine ∧ Q (.tup (xs ++ ys)) G
  | .ref i, .ref j => match G[i]?, G[j]? with
    | some (.lst xs), some (.lst ys) => xs.length + ys.length ≤ sizeLine ∧ Q (.ref G.length) (G ++ [.lst (xs ++ ys)])
    | _, _ => False
  | _, _ => False
theorem l2_add {K : PySem.W.Frag} : L2R K (rAddV K) rdAdd := by
  intro G H ι d1 d2 v1 v2 Q Qv hG r1 r2 h hq
  unfold rdAdd at h
  split at h
  · rename_i i j
    exact .inl ⟨i, j, r1, r2, hq _ H (.int (i + j)) G ι hG Gr.refl rfl h⟩
  · rename_i i j
    exact .inr (.inl ⟨i, j, r1, r2, h.1, hq _ H (.str (i ++ j)) G ι hG Gr.refl rfl h.2⟩)
  · rename_i xs ys
    obtain ⟨a, vs, e1, s1, rr1⟩ := r1
    obtain ⟨b, ws, e2, s2, rr2⟩ := r2
    by_cases hx : vs = []
    · subst hx
      have hx' : xs = [] := List.length_eq_zero_iff.mp (by rw [rr1.len]; rfl)
      subst hx'
      exact .inr (.inr (.inr (.inl ⟨a, b, ws, e1, e2, s1, s2, hq _ H (.tup ys) G ι hG Gr.refl ⟨b, ws, rfl, s2, rr2⟩ (by simpa using h.2)⟩)))
    · refine .inr (.inr (.inl ⟨a, b, vs, ws, e1, e2, s1, s2, hx, by rw [← rr1.len, ← rr2.len]; exact h.1, fun z => ?_, fun _ p hp => ?_⟩))
      · subst z
        have hy' : ys = [] := List.length_eq_zero_iff.mp (by rw [rr2.len]; rfl)
        subst hy'
        exact hq _ H (.tup xs) G ι hG Gr.refl ⟨a, vs, rfl, s1, rr1⟩ (by simpa using h.2)
      · obtain ⟨x, y, z⟩ := rp_newTup hG (rr1.app rr2) hp
        exact hq _ _ _ G ι x y z h.2
  · rename_i i j
    obtain ⟨a, e1, q1⟩ := r1
    obtain ⟨b, e2, q2⟩ := r2
    split at h
    · rename_i xs ys z1 z2
      obtain ⟨vs, w1, rr1⟩ := hG.cel i _ a z1 q1
      obtain ⟨ws, w2, rr2⟩ := hG.cel j _ b z2 q2
      refine .inr (.inr (.inr (.inr ⟨a, b, vs, ws, e1, e2, w1, w2, by rw [← rr1.len, ← rr2.len]; exact h.1, fun p hp => ?_⟩)))
      obtain ⟨x, y, z⟩ := rp_newLst hG (rr1.app rr2) hp
      exact hq _ _ _ _ _ x y z h.2
    · exact h.elim
  · exact h.elim
theorem de_add (ha : DE X F a ta) (hb : DE X F b tb) : DE X F (.BinOp a .Add b pos) (dOp rdAdd ta tb) := li2 l2_add (pe_op op_addV ha hb)

theorem de_add' (ha : DE' X F a ta) (hb : DE' X F b tb) : DE' X F (.BinOp a .Add b pos) (dOp rdAdd ta tb) :=
  ⟨de_add (ha := ha.p) (hb := hb.p)⟩
/-! ### list(x), tuple(x) -/
def seqD (G : GD) : Dt → Option (List Dt)
  | .tup xs => some xs
  | .ref i => cellL G i
  | _ => none
def rdList : RDA := fun ds G Q => match ds with
  | [d] => match seqD G d with
    | some xs => Q (.ref G.length) (G ++ [.lst xs])
    | none => False
  | _ => False
theorem seqD_sq {K : PySem.W.Frag} {G : GD} {H : Hp} {ι : List Addr} {d : Dt} {xs : List Dt} {v : V} (hG : HG K G H ι) (r : Rp K H ι d v) (e : seqD G d = some xs) : ∃ a vs, v = .ref a ∧ Rps K H ι xs vs ∧ ((SqL K H a vs ∧ ∃ i, d = .ref i) ∨ (SqT K H a vs ∧ d = .tup xs)) := by
  cases d with
  | tup ys =>
    cases e
    obtain ⟨a, vs, e1, s, rr⟩ := r
    exact ⟨a, vs, e1, rr, .inr ⟨s, rfl⟩⟩
  | ref i =>
    obtain ⟨a, e1, q⟩ := r
    obtain ⟨vs, s, rr⟩ := cellL_sq hG q e
    exact ⟨a, vs, e1, rr, .inl ⟨s, i, rfl⟩⟩
  | _ => cases e
def rdTuple0 : RDA := fun ds G Q => match ds with
  | [d] => match seqD G d with
    | some xs => Q (.tup xs) G
    | none => False
  | _ => False
structure rdTuple (ds : List Dt) (G : GD) (Q : KD) : Prop where
  p : rdTuple0 ds G Q
theorem rdTuple_eq {ds : List Dt} {G : GD} {Q : KD} : rdTuple ds G Q = rdTuple0 ds G Q := propext ⟨fun h => h.p, fun h => ⟨h⟩⟩
theorem rdTuple_ref {i : Nat} {xs : List Dt} {G : GD} {Q : KD} (e : cellL G i = some xs) (h : Q (.tup xs) G) : rdTuple [.ref i] G Q := by
  rw [rdTuple_eq]; unfold rdTuple0
  simp only [seqD, e]
  exact h
theorem l_tuple {K : PySem.W.Frag} : LCR K (fun xs H Q => ∃ p ys, xs = [V.ref p] ∧ ((SqL K H p ys ∧ ∀ l, H l = none → Q (.ref l) (upd H l (.tup ys))) ∨ (SqT K H p ys ∧ Q (.ref p) H))) rdTuple := by
  intro G H ι ds vs Q Qv hG r h hq
  replace h := h.p; unfold rdTuple0 at h
  split at h
  · rename_i d
    obtain ⟨v, e, rv⟩ := rps1 r
    subst e
    split at h
    · rename_i xs ex
      obtain ⟨a, ws, e, rr, hs⟩ := seqD_sq hG rv ex
      subst e
      refine ⟨a, ws, rfl, ?_⟩
      rcases hs with ⟨s, i, rfl⟩ | ⟨s, rfl⟩
      · refine .inl ⟨s, fun p hp => ?_⟩
        obtain ⟨x, y, z⟩ := rp_newTup hG rr hp
        exact hq _ _ _ _ _ x y z h
      · exact .inr ⟨s, hq _ H (.tup xs) G ι hG Gr.refl ⟨a, ws, rfl, s, rr⟩ h⟩
    · exact h.elim
  · exact h.elim
theorem de_tupleof (ha : DA X F [e] t) (hm : X.mg "tuple" = none) (hg : Gl X "tuple" := by rfl) (he : starEach [e] X.env = (false, eval e X.env) :: starEach [] X.env := by exact star_cons rfl) (hpl : (backTo pos (starEach [] X.env)).any (·.1) = false := by exact back_any rfl) : DE X F (.Call (.Name "tuple" p) [e] [] pos) (dCB rdTuple t) :=
  de_callTy call_tuple_of l_tuple bt_tuple ha hm hg (by decide) (by decide) he hpl

theorem de_tupleof' (ha : DA' X F [e] t) (hm : X.mg "tuple" = none) (hg : Gl X "tuple" := by rfl) (he : starEach [e] X.env = (false, eval e X.env) :: starEach [] X.env := by exact star_cons rfl) (hpl : (backTo pos (starEach [] X.env)).any (·.1) = false := by exact back_any rfl) : DE' X F (.Call (.Name "tuple" p) [e] [] pos) (dCB rdTuple t) :=
  ⟨de_tupleof (ha := ha.p) (hm := hm) (hg := hg) (he := he) (hpl := hpl)⟩
/-! ### append, pop -/
def isLstC (G : GD) : Dt → Prop
  | .ref i => ∃ xs, G[i]? = some (.lst xs)
  | _ => False
def rdAppend0 (i : Nat) (d : Dt) (G : GD) (Q : KD) : Prop := match G[i]? with
  | some (.lst xs) => xs.length < sizeLine ∧ Q .non (G.set i (.lst (xs ++ [d])))
  | _ => False
structure rdAppend (i : Nat) (d : Dt) (G : GD) (Q : KD) : Prop where
  p : rdAppend0 i d G Q
theorem rdAppend_eq {i : Nat} {d : Dt} {G : GD} {Q : KD} : rdAppend i d G Q = rdAppend0 i d G Q := propext ⟨fun h => h.p, fun h => ⟨h⟩⟩
theorem rdAppend_of {i : Nat} {d : Dt} {G : GD} {Q : KD} {xs : List Dt} (h : G[i]? = some (.lst xs)) (hl : xs.length < sizeLine) (hq : Q .non (G.set i (.lst (xs ++ [d])))) : rdAppend i d G Q := by
  rw [rdAppend_eq]; unfold rdAppend0
  rw [h]
  exact ⟨hl, hq⟩
theorem rdIx_of {x y d : Dt} {G : GD} {Q : KD} (h : atD G x y = some d) (hq : Q d G) : rdIx x y G Q := by
  rw [rdIx_eq]; unfold rdIx0
  rw [h]
  exact hq
theorem rdLen_of {x : Dt} {k : Nat} {G : GD} {Q : KD} (h : lenD G x = some k) (hq : Q (.int k) G) : rdLen [x] G Q := by
  simp only [rdLen_eq, rdLen0, h]
  exact hq
theorem rdSl_ref {i : Nat} {xs : List Dt} {lo hi : Option Int} {G : GD} {Q : KD} (e : cellL G i = some xs) (h : Q (.ref G.length) (G ++ [.lst (cutD xs lo hi)])) : rdSl (.ref i) lo hi G Q := by
  simp only [rdSl_eq, rdSl0, e]
  exact h
def dAppend (to : TDE) (t : TDA) : TDE := fun σ G Q => to σ G fun x G1 => isLstC G1 x ∧ t σ G1 fun ds G2 => match x, ds with
  | .ref i, [d] => rdAppend i d G2 Q
  | _, _ => False
theorem de_append {apos cpos : Pos} (ho : DE X F o to) (ha : DA X F [e] t)
    (hbase : attributeBase o "append" X.env (eval o X.env) = eval o X.env := by rfl)
    (hfew : ((backTo cpos (starEach [e] X.env)).all (fun x => !x.1) && (backToKw cpos (keywordEach [] X.env)).all (fun x => x.1.isSome)
      && decide (([e] : List Expr).length + ([] : List Keyword).length + (if ([] : List Keyword).isEmpty then 0 else 1) < 30)) = true := by rfl)
    (hline : (apos.endLine == cpos.line) = true := by rfl) (hs : starEach [e] X.env = (false, eval e X.env) :: starEach [] X.env := by exact star_cons rfl) (hplain : (backTo cpos (starEach [] X.env)).any (·.1) = false := by exact back_any rfl) :
    DE X F (.Call (.Attribute o "append" apos) [e] [] cpos) (dAppend to t) := by
  refine PE.imp (pe_bm PySem.F.plainAttrs_list PySem.F.slot_list_append PySem.F.type_list_append mt_append ho ha hbase hfew hline hs hplain) fun σ H Qv ⟨σd, G, ι, Q, ok, ht, hq⟩ => ?_
  refine ⟨σd, G, ι, _, ok, ht, fun v H1 d1 G1 ι1 h1 g1 r1 q1 => ?_⟩
  obtain ⟨ty, q1⟩ := q1
  cases d1 with
  | ref i =>
    obtain ⟨a, e1, q⟩ := r1
    subst e1
    obtain ⟨xs, z⟩ := ty
    obtain ⟨vs, w, rr⟩ := h1.cel i _ a z q
    refine ⟨.inl ⟨rfl, vs, .inl (.inl w)⟩, σd, G1, ι1, _, ok.to h1 g1, q1, fun us H2 ds G2 ι2 h2 g2 r2 q2 => ?_⟩
    split at q2
    · rename_i i' d ei
      cases ei
      obtain ⟨u, e2, ru⟩ := rps1 r2
      subst e2
      replace q2 := q2.p; unfold rdAppend0 at q2
      split at q2
      · rename_i ys z2
        obtain ⟨ws, w2, rr2⟩ := h2.cel i _ a z2 (g2.at q)
        refine ⟨a, ws, u, rfl, rfl, w2, by rw [← rr2.len]; exact q2.1, ?_⟩
        have gp : Gr X.K H2 ι2 (upd H2 a (.lst (ws ++ [u]))) ι2 := Gr.put h2 z2 rfl (g2.at q)
        exact hq _ _ .non _ ι2 (h2.put (c' := .lst (ys ++ [d])) z2 rfl (g2.at q) rfl ⟨ws ++ [u], upd_same, (rr2.app (Rps.cons ru Rps.nil)).up gp⟩) (g1.trans (g2.trans gp)) rfl q2.2
      · exact q2.elim
    · exact q2.elim
  | _ => exact ty.elim
theorem de_append' {apos cpos : Pos} (ho : DE' X F o to) (ha : DA' X F [e] t)
    (hbase : attributeBase o "append" X.env (eval o X.env) = eval o X.env := by rfl)
    (hfew : ((backTo cpos (starEach [e] X.env)).all (fun x => !x.1) && (backToKw cpos (keywordEach [] X.env)).all (fun x => x.1.isSome)
      && decide (([e] : List Expr).length + ([] : List Keyword).length + (if ([] : List Keyword).isEmpty then 0 else 1) < 30)) = true := by rfl)
    (hline : (apos.endLine == cpos.line) = true := by rfl) (hs : starEach [e] X.env = (false, eval e X.env) :: starEach [] X.env := by exact star_cons rfl) (hplain : (backTo cpos (starEach [] X.env)).any (·.1) = false := by exact back_any rfl) : DE' X F (.Call (.Attribute o "append" apos) [e] [] cpos) (dAppend to t) :=
  ⟨de_append (ho := ho.p) (ha := ha.p) (hbase := hbase) (hfew := hfew) (hline := hline) (hs := hs) (hplain := hplain)⟩
def dPop (to : TDE) : TDE := fun σ G Q => to σ G fun x G1 => match x with
  | .ref i => match G1[i]? with
    | some (.lst xs) => match xs[xs.length - 1]? with
      | some d => Q d (G1.set i (.lst xs.dropLast))
      | none => False
    | _ => False
  | _ => False
/-- a sequence that is walked: a tuple or a list -/
def seqR0 (d : Dt) (G : GD) (R : List Dt → (GD → Prop) → GD → Prop) : Prop := match d with
  | .tup xs => R xs (fun _ => True) G
  | .ref i => match cellL G i with
    | some xs => R xs (fun G => cellL G i = some xs) G
    | none => False
  | _ => False
structure seqR (d : Dt) (G : GD) (R : List Dt → (GD → Prop) → GD → Prop) : Prop where
  p : seqR0 d G R
theorem seqR_eq {d : Dt} {G : GD} {R : List Dt → (GD → Prop) → GD → Prop} : seqR d G R = seqR0 d G R := propext ⟨fun h => h.p, fun h => ⟨h⟩⟩
theorem seqR_tup {xs : List Dt} {G : GD} {R : List Dt → (GD → Prop) → GD → Prop} (h : R xs (fun _ => True) G) : seqR (.tup xs) G R := by
  rw [seqR_eq]; unfold seqR0
  exact h
theorem seqR_ref {i : Nat} {xs : List Dt} {G : GD} {R : List Dt → (GD → Prop) → GD → Prop} (e : cellL G i = some xs) (h : R xs (fun G => cellL G i = some xs) G) : seqR (.ref i) G R := by
  simp only [seqR_eq, seqR0, e]
  exact h
def diSeq (te : TDE) : TDI := fun σ G R => te σ G fun d G1 => seqR d G1 R
theorem pi_seq {tg l : Expr} {tl : TE} (hl : PE X l tl) : PI X tg l (fun σ H R => tl σ H fun x H1 => (∃ a, x = .ref a ∧ (∃ xs, SqL X.K H1 a xs) ∧ R (Itl X.K a) H1) ∨ (∃ a, x = .ref a ∧ (∃ xs, SqT X.K H1 a xs) ∧ R (Itt X.K a) H1)) := by
  intro pins s σ H R I h
  refine thn (hl pins s σ H _ I h) fun v s1 ⟨x, H1, I1, r1, q1⟩ => ?_
  rcases q1 with ⟨a, e, ⟨xs, hq⟩, q⟩ | ⟨a, e, ⟨xs, hq⟩, q⟩
  · subst e
    cases r1
    obtain ⟨its, rv, p, hz⟩ := I1.list hq
    refine wpAny_pyIter_list p.isList ?_
    refine ⟨s1.heap.objs.size, [s1.heap.objs.size], _, _, H1, rfl, I1.kept (t' := s1.toks) fun b o e => Heap.get?_push_of_some _ e, turn_list a _, ⟨_, Heap.get?_push_size _ rfl, rfl, rfl⟩, fun b hb => ?_, q⟩
    have e : b = s1.heap.objs.size := by simpa using hb
    subst e
    exact I1.fpOk (Nat.le_refl _) (I1.hok.fresh (Nat.le_refl _))
  · subst e
    cases r1
    obtain ⟨its, rv, p, hz⟩ := I1.tuple hq
    refine wpAny_pyIter_tuple (show s1.heap.IsTuple a its.toArray from p) ?_
    refine ⟨s1.heap.objs.size, [s1.heap.objs.size], _, _, H1, rfl, I1.kept (t' := s1.toks) fun b o e => Heap.get?_push_of_some _ e, turn_tuple a _, ⟨_, Heap.get?_push_size _ rfl, rfl, rfl⟩, fun b hb => ?_, q⟩
    have e : b = s1.heap.objs.size := by simpa using hb
    subst e
    exact I1.fpOk (Nat.le_refl _) (I1.hok.fresh (Nat.le_refl _))
theorem di_seq {tg l : Expr} {tl : TDE} (hl : DE X F l tl) : DI X F tg l (diSeq tl) := by
  refine PI.imp (pi_seq hl) fun σ H R ⟨σd, G, ι, Q, ok, ht, hq⟩ => ⟨σd, G, ι, _, ok, ht, fun v H1 d G1 ι1 h1 g1 r1 q1 => ?_⟩
  replace q1 := q1.p; unfold seqR0 at q1
  cases d with
  | tup xs =>
    obtain ⟨a, vs, e, s, rr⟩ := r1
    exact .inr ⟨a, e, ⟨vs, s⟩, hq _ H1 xs _ G1 ι1 h1 g1 (itt_D s rr) q1⟩
  | ref i =>
    obtain ⟨a, e, q⟩ := r1
    revert q1
    show (match cellL G1 i with | some xs => Q xs (fun G => cellL G i = some xs) G1 | none => False) → _
    cases z : cellL G1 i with
    | none => exact fun q1 => q1.elim
    | some xs =>
      intro q1
      obtain ⟨vs, s, _⟩ := cellL_sq h1 q z
      exact .inl ⟨a, e, ⟨vs, s⟩, hq _ H1 xs _ G1 ι1 h1 g1 (itl_D q) q1⟩
  | _ => exact q1.elim
theorem di_seq' {tg l : Expr} {tl : TDE} (hl : DE' X F l tl) : DI' X F tg l (diSeq tl) :=
  ⟨di_seq (hl := hl.p)⟩
end
end DL
namespace ZT
open PySem
section
variable {prog : Program} {w : World} {A : Around} {E : Value → Shared → Prop} {s : Shared}
theorem nextOf_tuple_item {it l : Addr} {i : Nat} {items : Array Value} {x : Value} {Q : Value → Shared → Prop} (hit : s.heap.IsTupleIter it l i)
    (hl : s.heap.IsTuple l items) (hx : items[i]? = some x) (hQ : ∀ h', h'.IsTupleIter it l (i + 1) → Heap.SameBut it s.heap h' → Q x { s with heap := h' }) :
    wpAny (model prog w) A (Builtin.SmallTypes.nextOf (.ref it)) Q E s := by
  obtain ⟨o, ho, hc, hd⟩ := id hit
  obtain ⟨ol, hol, _, nl, hdl⟩ := hl
  unfold Builtin.SmallTypes.nextOf
  refine wpAny_bind (wpAny_callSpecial?_slot (name := Str.ofString "__next__") hit.typeIs F.slot_tuple_iterator_next
    (wpAny_call_entry F.slot_tuple_iterator_next hit.typeIs F.entry_tuple_iterator_next ?_ (F.args_tuple_iterator_next_1 _)))
  show wpAny _ _ (field (.ref it) 0 >>= _) _ _ s
  refine wpAny_bind (wpAny_field ho hd (x := .ref l) rfl ?_)
  show wpAny _ _ (if (Value.ref l == Value.none) = true then _ else _) _ _ s
  rw [if_neg (show ¬ ((Value.ref l == Value.none) = true) from Bool.false_ne_true)]
  show wpAny _ _ (field (.ref it) 1 >>= _) _ _ s
  refine wpAny_bind (wpAny_field ho hd (x := .int i 0) rfl ?_)
  show wpAny _ _ (seqItems? (.ref l) >>= _) _ _ s
  refine wpAny_bind (wpAny_seqItems hol hdl ?_)
  simp only [Int.toNat_natCast, hx]
  refine wpAny_bind (wpAny_setField ho hd (by simp) (wpAny_pure ⟨x, rfl, wpAny_pure (hQ _ ?_ (Heap.SameBut.update ..))⟩))
  exact ⟨_, Heap.get?_update_self _ ho (Obj.isFreed_of_fields (Obj.data_mapFields hd _)), (Obj.cls_mapFields ..).trans hc, by
    rw [Obj.data_mapFields hd]; simp [rawInt]⟩
theorem nextOf_tuple_end {it l : Addr} {i : Nat} {items : Array Value} {Q : Value → Shared → Prop} (hh : A.handled = none)
    (hit : s.heap.IsTupleIter it l i) (hl : s.heap.IsTuple l items) (hx : items[i]? = none)
    (hE : ∀ h' e, Heap.ExtBut it s.heap h' → (∃ o, h'.get? e = some o ∧ o.cls = .type "StopIteration") → E (.ref e) { s with heap := h' }) :
    wpAny (model prog w) A (Builtin.SmallTypes.nextOf (.ref it)) Q E s := by
  obtain ⟨o, ho, hc, hd⟩ := id hit
  obtain ⟨ol, hol, _, nl, hdl⟩ := hl
  unfold Builtin.SmallTypes.nextOf
  refine wpAny_bind (wpAny_callSpecial?_slot (name := Str.ofString "__next__") hit.typeIs F.slot_tuple_iterator_next
    (wpAny_call_entry F.slot_tuple_iterator_next hit.typeIs F.entry_tuple_iterator_next ?_ (F.args_tuple_iterator_next_1 _)))
  show wpAny _ _ (field (.ref it) 0 >>= _) _ _ s
  refine wpAny_bind (wpAny_field ho hd (x := .ref l) rfl ?_)
  show wpAny _ _ (if (Value.ref l == Value.none) = true then _ else _) _ _ s
  rw [if_neg (show ¬ ((Value.ref l == Value.none) = true) from Bool.false_ne_true)]
  show wpAny _ _ (field (.ref it) 1 >>= _) _ _ s
  refine wpAny_bind (wpAny_field ho hd (x := .int i 0) rfl ?_)
  show wpAny _ _ (seqItems? (.ref l) >>= _) _ _ s
  refine wpAny_bind (wpAny_seqItems hol hdl ?_)
  simp only [Int.toNat_natCast, hx]
  refine wpAny_bind (wpAny_rule (wpAny_bind (wpAny_setField ho hd (by simp) ?_)))
  show wpAny _ _ (newExc (.type "StopIteration") [] >>= _) _ _ _
  refine wpAny_bind ?_
  simp only [newExc, newTuple]
  refine wpAny_bind (wpAny_newObj_type ?_ (by size_fits))
  refine wpAny_bind (m := firstArgMember _ _) (wpAny_of_eq (a := Value.none) (by first | rfl | (simp only [firstArgMember]; rfl)) ?_)
  refine wpAny_newObj_type ?_ (by size_fits)
  simp only [raiseNew]
  refine wpAny_bind (wpAny_handled ?_)
  first | rw [show A.in1.handled = none from hh] | rw [hh]
  refine wpAny_bind (wpAny_pure (wpAny_throw ?_))
  exact hE _ _ (((Heap.SameBut.update ..).extBut.push _).push _) ⟨_, Heap.get?_push_size _ rfl, rfl⟩

/-- an iterator that a zip walks: over a list or a tuple -/
inductive Kd where
  | lst | tup
def Kd.It (k : Kd) (h : Heap) (it l : Addr) (i : Nat) : Prop := match k with
  | .lst => h.IsListIter it l i
  | .tup => h.IsTupleIter it l i
def Kd.Sr (k : Kd) (h : Heap) (l : Addr) (xs : Array Value) : Prop := match k with
  | .lst => h.IsList l xs
  | .tup => h.IsTuple l xs
theorem Kd.It.at {k : Kd} {h h' : Heap} {it l : Addr} {i : Nat} (x : k.It h it l i) (e : ∀ o, h.get? it = some o → h'.get? it = some o) : k.It h' it l i := by
  cases k
  · exact Heap.IsListIter.at (show h.IsListIter it l i from x) e
  · exact Heap.IsTupleIter.at (show h.IsTupleIter it l i from x) e
theorem Kd.Sr.at {k : Kd} {h h' : Heap} {l : Addr} {xs : Array Value} (x : k.Sr h l xs) (e : ∀ o, h.get? l = some o → h'.get? l = some o) : k.Sr h' l xs := by
  cases k
  · exact Heap.IsList.at (show h.IsList l xs from x) e
  · obtain ⟨o, ho, r⟩ := (show h.IsTuple l xs from x)
    exact ⟨o, e o ho, r⟩
theorem Kd.It.extBut {k : Kd} {h h' : Heap} {it l b : Addr} {i : Nat} (x : k.It h it l i) (hs : Heap.ExtBut b h h') (hab : it ≠ b) : k.It h' it l i := x.at fun o e => hs _ o hab e
theorem Kd.Sr.extBut {k : Kd} {h h' : Heap} {l b : Addr} {xs : Array Value} (x : k.Sr h l xs) (hs : Heap.ExtBut b h h') (hab : l ≠ b) : k.Sr h' l xs := x.at fun o e => hs _ o hab e
theorem Kd.It.lt {k : Kd} {h : Heap} {it l : Addr} {i : Nat} (x : k.It h it l i) : it < h.objs.size := by
  cases k
  · obtain ⟨_, e, _⟩ := (show h.IsListIter it l i from x); exact Heap.lt_size e
  · obtain ⟨_, e, _⟩ := (show h.IsTupleIter it l i from x); exact Heap.lt_size e
theorem Kd.Sr.lt {k : Kd} {h : Heap} {l : Addr} {xs : Array Value} (x : k.Sr h l xs) : l < h.objs.size := by
  cases k
  · obtain ⟨_, e, _⟩ := (show h.IsList l xs from x); exact Heap.lt_size e
  · obtain ⟨_, e, _⟩ := (show h.IsTuple l xs from x); exact Heap.lt_size e
theorem Kd.item {k : Kd} {it l : Addr} {i : Nat} {items : Array Value} {x : Value} {Q : Value → Shared → Prop} (hit : k.It s.heap it l i)
    (hl : k.Sr s.heap l items) (hx : items[i]? = some x) (hQ : ∀ h', k.It h' it l (i + 1) → Heap.SameBut it s.heap h' → Q x { s with heap := h' }) :
    wpAny (model prog w) A (Builtin.SmallTypes.nextOf (.ref it)) Q E s := by
  cases k
  · exact wpAny_nextOf_list_item hit hl hx hQ
  · exact nextOf_tuple_item hit hl hx hQ
theorem Kd.end {k : Kd} {it l : Addr} {i : Nat} {items : Array Value} {Q : Value → Shared → Prop} (hh : A.handled = none)
    (hit : k.It s.heap it l i) (hl : k.Sr s.heap l items) (hx : items[i]? = none)
    (hE : ∀ h' e, Heap.ExtBut it s.heap h' → (∃ o, h'.get? e = some o ∧ o.cls = .type "StopIteration") → E (.ref e) { s with heap := h' }) :
    wpAny (model prog w) A (Builtin.SmallTypes.nextOf (.ref it)) Q E s := by
  cases k
  · exact wpAny_nextOf_list_end hh hit hl hx hE
  · exact nextOf_tuple_end hh hit hl hx hE
variable {K1 K2 : Kd}
def Kd.name : Kd → String
  | .lst => "list_iterator"
  | .tup => "tuple_iterator"
def Kd.obj (k : Kd) (l : Addr) : Obj := { cls := .type k.name, data := .fields #[.ref l, .int 0 0] }
theorem Kd.iter {k : Kd} {l : Addr} {xs : Array Value} {Q : Value → Shared → Prop} (hl : k.Sr s.heap l xs) (hQ : Q (.ref s.heap.objs.size) { s with heap := s.heap.push (k.obj l) }) : wpAny (model prog w) A (pyIter (.ref l)) Q E s := by
  cases k
  · exact wpAny_pyIter_list hl hQ
  · exact wpAny_pyIter_tuple hl hQ
theorem Kd.Sr.push {k : Kd} {h : Heap} {l : Addr} {xs : Array Value} (x : k.Sr h l xs) (o : Obj) : k.Sr (h.push o) l xs := x.at fun _ e => Heap.get?_push_of_some _ e
end
end ZT
namespace L2
open PySem PySem.Spec PyProof.Rows
/-- a source of a zip: a list or a tuple -/
def Sq (K : PySem.W.Frag) (k : ZT.Kd) (H : Hp) (a : Addr) (xs : List V) : Prop := match k with
  | .lst => SqL K H a xs
  | .tup => SqT K H a xs
theorem Inv.sq {X : Cx} {pins : List (Addr × Obj)} {σ : St} {H : Hp} {s : Shared} {k : ZT.Kd} {a : Addr} {xs : List V} (I : Inv X pins σ H s) (h : Sq X.K k H a xs) : ∃ its : List Value, Vals xs its ∧ k.Sr s.heap a its.toArray ∧ xs.length ≤ sizeLine := by
  cases k
  · obtain ⟨its, r, p, z⟩ := I.list h
    exact ⟨its, r, p.isList, z⟩
  · obtain ⟨its, r, p, z⟩ := I.tuple h
    exact ⟨its, r, p, z⟩
end L2

namespace L2
open PySem PySem.Spec PyProof.Rows
end L2
namespace DL
open PySem PySem.Spec L2
open PyProof.Rows hiding St
section
variable {X : Cx} {F : Fx}
def zipD (xs ys : List Dt) : List Dt := (xs.zip ys).map fun p => Dt.tup [p.1, p.2]
def diZip (ta tb : TDE) : TDI := fun σ G R => ta σ G fun x G1 => tb σ G1 fun y G2 => match x, y with
  | .tup xs, .tup ys => R (zipD xs ys) (fun _ => True) G2
  | _, _ => False
end
end DL
namespace L2
open PySem PySem.Spec PyProof.Rows
end L2
namespace DL
open PySem PySem.Spec L2
open PyProof.Rows hiding St

/-! ### a dict of the module's top, its keys texts -/
/-- a value of the module's own -/
def RM (K : PySem.W.Frag) (d : Dt) (u : Value) : Prop := ∃ v, RelV v u ∧ ∀ H ι, Rp K H ι d v
section
variable {X : Cx} {F : Fx} {e : Expr} {te : TDE} {x : Str} {p apos cpos pos : Pos}
def dMGet (D : List (Str × Dt)) (te : TDE) : TDE := fun σ G Q => te σ G fun d G1 => match d with
  | .str k => Q ((KTD.datumAt k D).getD .non) G1
  | _ => False
/-! ### {k: v, ..} -/
def dPairs : List (TDE × TDE) → SD → GD → (List (Dt × Dt) → GD → Prop) → Prop
  | [], _, G, Q => Q [] G
  | (tk, tv) :: r, σ, G, Q => tk σ G fun x G1 => tv σ G1 fun y G2 => dPairs r σ G2 fun ps G3 => Q ((x, y) :: ps) G3
def keyD : Dt → Option Key
  | .int i => some (.inl i)
  | .str x => some (.inr x)
  | _ => none
def keysD : List (Dt × Dt) → Option (List (Key × Dt))
  | [] => some []
  | p :: r => match keyD p.1, keysD r with
    | some k, some ks => some ((k, p.2) :: ks)
    | _, _ => none
def dDict (trs : List (TDE × TDE)) : TDE := fun σ G Q => dPairs trs σ (G ++ [.dct []]) fun ps G2 => match keysD ps with
  | some kds => G2[G.length]? = some (.dct []) ∧ kds.length ≤ 15 ∧ (kds.map (·.1)).Nodup ∧ Q (.ref G.length) (G2.set G.length (.dct kds))
  | none => False
end
end DL
namespace L2
open PySem PySem.Spec PyProof.Rows

/-! ### a list comprehension: its block as a context of its own -/
theorem compLoop_any {prog : Program} {w : World} {A : Around} {R : Result → Shared → Prop} {s : Shared} {elt target iter : Expr} {ifs : List Expr} {scope : Scope} {pos : Pos} {it acc : Value} {env : Env} (I : Nat → Shared → Prop)
    (turn : ∀ n s, I n s → wpAny (model prog w) A (pyNext it) (fun r s₁ => match r with
      | none => R (.ok .next) s₁
      | some v => wpAny (model prog w) A (letOwnedTupleGo target it v) (fun _ s₁' => wpAny (model prog w) A (assign target env v) (fun _ s₂ =>
          wpAny (model prog w) A (forIn ifs true fun c r => if r = true then do let ok ← isTrue c env (eval c env); pure (ForInStep.yield ok) else pure (ForInStep.yield r)) (fun ok s₃ =>
            if ok = true then wpAny (model prog w) A (eval elt env) (fun x s₄ =>
              wpAny (model prog w) A (call (.builtin "list.append") [acc, x]) (fun _ s₅ => ∃ m, m < n ∧ I m s₅) (fun _ _ => False) s₄) (fun _ _ => False) s₃
            else ∃ m, m < n ∧ I m s₃) (fun _ _ => False) s₂) (fun _ _ => False) s₁') (fun _ _ => False) s₁) (fun _ _ => False) s)
    (n : Nat) (h : I n s) : codeAny (model prog w) A (.compLoop (.ListComp elt [⟨target, iter, ifs, 0⟩] scope pos) 0 it acc env) R s := by
  have no : ∀ {α : Type} {t : Sem α} {Q : α → Shared → Prop} {E : Value → Shared → Prop} {s : Shared}, wpAny (model prog w) A t Q (fun _ _ => False) s → wpAny (model prog w) A t Q E s := fun h => wpAny_mono h (fun _ _ q => q) fun _ _ q => q.elim
  refine codeAny_loop rfl I (fun n s hI => ?_) n h
  show wpAny _ A ((compTurn (.ListComp elt [⟨target, iter, ifs, 0⟩] scope pos) 0 it acc env).onRaise (fun x => do noteFrame x env; theTreesLotGoes x)) _ _ s
  refine wpAny_noted ?_
  rw [compTurn_list]
  refine wpAny_bind (wpAny_standAt (wpAny_bind (wpAny_mono (no (turn n s hI)) (fun r s₁ h₁ => ?_) fun _ _ h' => h')))
  cases r with
  | none => exact wpAny_pure h₁
  | some v =>
    refine wpAny_bind (wpAny_mono (no h₁) (fun _ s₁' h₁' => ?_) fun _ _ h' => h')
    refine wpAny_bind (wpAny_mono (no h₁') (fun _ s₂ h₂ => wpAny_bind (wpAny_mono (no h₂) (fun ok s₃ h₃ => ?_) fun _ _ h' => h')) fun _ _ h' => h')
    cases ok with
    | false => exact wpAny_pure ⟨rfl, h₃⟩
    | true =>
      exact wpAny_bind (wpAny_bind (wpAny_mono (no h₃) (fun x s₄ h₄ => wpAny_bind (wpAny_mono (no h₄) (fun _ s₅ h₅ => wpAny_pure (wpAny_pure ⟨rfl, h₅⟩)) fun _ _ h' => h')) fun _ _ h' => h'))

/-- the block's context -/
abbrev cmpX (X : Cx) (scope : Scope) (cl : List (Str × Addr)) (N' : List Str) (C : Addr) (s₀ : Shared) (H₀ : Hp) (ex : List Addr) (pn : List (Addr × Obj)) : Cx where
  prog := X.prog
  w := X.w
  K := X.K
  mg := X.mg
  base := X.base
  A := X.A
  N := N'
  s₀ := s₀
  H₀ := H₀
  env := compEnvC scope cl C X.env
  outer := X.stack
  stack := X.stack
  ex := ex
  fn := fun y => (cl.lookup y).isNone
  calm := X.calm
  pn := pn
  xe := fun _ _ => False
/-- the tests of a comprehension -/
def PIf (X : Cx) (ifs : List Expr) (t : TT) : Prop :=
  ∀ (pins : List (Addr × Obj)) (s : Shared) (σ : St) (H : Hp) (Q : Bool → Hp → Prop), Inv X pins σ H s → t σ H Q →
    wpAny (model X.prog X.w) X.A (forIn ifs true fun c r => if r = true then do let ok ← isTrue c X.env (eval c X.env); pure (ForInStep.yield ok) else pure (ForInStep.yield r)) (TP X pins σ Q) X.xe s
theorem pif_nil {X : Cx} : PIf X [] (fun _ H Q => Q true H) := fun _ _ _ H _ I h => wpAny_tests_nil ⟨H, I, h⟩
theorem pif_one {X : Cx} {c : Expr} {t : TT} (hc : PT X c t) : PIf X [c] t := fun pins s σ H Q I h => wpAny_tests_one (hc pins s σ H Q I h)
/-- which of the outer slots the block's names are (none: its own) -/
def capt (caps : List (Option Nat)) (σ : St) : St := caps.map fun c => match c with
  | some j => (σ[j]?).join
  | none => none
/-- W: turn, measure, the block's slots, the heap -/
def tComp (wi : TI) (caps : List (Option Nat)) (g : TG) (tif : TT) (te : TE) : TE := fun σ H Q => wi σ H fun J H1 => ∀ D, H1 D = none → ∃ W : Nat → Nat → St → Hp → Prop, (∃ m, W 0 m (capt caps σ) (upd H1 D (.lst []))) ∧
  ∀ i m σ' H, W i m σ' H → (J.stop i H ∧ Q (.ref D) H) ∨ (J.go i H ∧ ∀ x H', J.yld i H x H' → g x σ' H' fun σ2 H2 => tif σ2 H2 fun b H3 =>
    if b = true then te σ2 H3 fun y H4 => ∃ acc, H4 D = some (.lst acc) ∧ acc.length < sizeLine ∧ ∃ m', m' < m ∧ W (i + 1) m' σ2 (upd H4 D (.lst (acc ++ [y]))) else ∃ m', m' < m ∧ W (i + 1) m' σ2 H3)
/-- what is asked of the text: the block's names, their kinds -/
structure CmpOk (X : Cx) (scope : Scope) (cl : List (Str × Addr)) (N' : List Str) (caps : List (Option Nat)) : Prop where
  clos : closureFor scope X.env = pure cl
  cell : ∀ y ∈ scope.names, y.2 ≠ .cell
  kind : scope.kind = .function
  names : ∀ y ∈ scope.names, y.2 = .local → scope.names.lookup y.1 = some .local
  lenN : N'.length = caps.length
  capN : ∀ (i j : Nat) (x : Str), caps[i]? = some (some j) → N'[i]? = some x → X.N[j]? = some x ∧ Vis X.env.scope x ∧ X.env.kindOf x ≠ some .local ∧ (relabel scope X.env).names.lookup x ≠ some .local ∧ ∃ c, cl.lookup x = some c ∧ X.env.cells.lookup x = some c
  cls : ∀ x c, cl.lookup x = some c → X.env.cells.lookup x = some c
  has : ∀ x, ((relabel scope X.env).names.lookup x = some .cell ∨ (relabel scope X.env).names.lookup x = some .free) → ∃ c, cl.lookup x = some c
/-- a comprehension, with what is done of its list -/
structure CmpEnd (X : Cx) (pins : List (Addr × Obj)) (σ : St) (H' : Hp) (C : Addr) (s' : Shared) : Prop where
  inv : Inv X pins σ H' s'
  ns : ∃ m, s'.heap.Ns C m
  free : H' C = none
  loc : C ≠ X.env.locals
  sz : X.s₀.heap.objs.size ≤ C
  cel : ∀ x a, X.env.cells.lookup x = some a → a ≠ C
  pin : ∀ p ∈ X.pn ++ pins, p.1 ≠ C
theorem CmpEnd.go {X : Cx} {pins : List (Addr × Obj)} {σ : St} {H' : Hp} {C : Addr} {s' : Shared} {h' : Heap} (c : CmpEnd X pins σ H' C s') (hs : Heap.SameBut C s'.heap h') : Inv X pins σ H' { s' with heap := h' } :=
  c.inv.turned (t' := s'.toks) (it := C) (fun b o hb e => hs.extBut b o hb e) c.free c.loc (.inr c.sz) (fun x a e z => c.cel x a e z) c.pin
theorem comp_core {X : Cx} {elt tg iter : Expr} {ifs : List Expr} {scope : Scope} {cl : List (Str × Addr)} {N' : List Str} {caps : List (Option Nat)} {pos pos0 : Pos} {wi : TI} {g : TG} {tif : TT} {te : TE} {use : Option (Value → Sem Unit)} {Q' : Value → Shared → Prop} (c : CmpOk X scope cl N' caps) (hcalm : X.calm = true) (hi : PI X tg iter wi)
    (hg : ∀ C s₀ H₀ ex pn, PG (cmpX X scope cl N' C s₀ H₀ ex pn) tg g) (hf : ∀ C s₀ H₀ ex pn, PIf (cmpX X scope cl N' C s₀ H₀ ex pn) ifs tif) (he : ∀ C s₀ H₀ ex pn, PE (cmpX X scope cl N' C s₀ H₀ ex pn) elt te)
    (hs : ∀ x, foldedSetIterable iter X.env x = pure x) {pins : List (Addr × Obj)} {s : Shared} {σ : St} {H : Hp} {Q : VK} (I : Inv X pins σ H s) (h : tComp wi caps g tif te σ H Q)
    (fin : ∀ D C H' s', CmpEnd X pins σ H' C s' → Q (.ref D) H' → compPost (model X.prog X.w) X.A X.xe use Q' (.ref D) C (.ok .next) s') :
    wpAny (model X.prog X.w) X.A (comprehension (.ListComp elt [⟨tg, iter, ifs, 0⟩] scope pos) scope X.env pos0 (newList []) false (eval iter X.env) use) Q' X.xe s := by
  refine wpAny_comprehension_free (use := use) rfl hs c.clos c.kind c.names (thn (hi pins s σ H _ I h) fun v s1 h1 => thn h1 fun itv s2 h2 => ?_)
  obtain ⟨it, fp, tn, J, H2, e, I2, T, st2, f2, q2⟩ := h2
  subst e
  have hD := I2.hok.fresh (Nat.le_refl s2.heap.objs.size)
  obtain ⟨W, ⟨m0, w0⟩, turn⟩ := q2 s2.heap.objs.size hD
  refine wpAny_newObj_type ?_
  -- behind the new list
  have I3 : Inv X pins σ (upd H2 s2.heap.objs.size (.lst [])) { s2 with heap := s2.heap.push { cls := .type "list", dict := none, data := .seq ([] : List Value).toArray } } := I2.lnew (t' := s2.toks) (ys := []) .nil (Nat.zero_le _)
  generalize hs3 : ({ s2 with heap := s2.heap.push { cls := .type "list", dict := none, data := .seq ([] : List Value).toArray } } : Shared) = s3 at I3 ⊢
  generalize hH3 : upd H2 s2.heap.objs.size (.lst []) = H3 at I3 w0 ⊢
  have st3 : tn 0 s3.heap := T.keep _ _ _ st2 fun b _ o e => by rw [← hs3]; exact Heap.get?_push_of_some _ e
  refine wpAny_newFunctionEnv c.cell (by intro y hy; simp at hy) (fun h4 hns hsb => ?_) c.kind
  have kp4 : ∀ b o, s3.heap.get? b = some o → h4.get? b = some o := fun b o e => hsb.extBut b o (Nat.ne_of_lt (Heap.lt_size e)) (Heap.get?_push_of_some _ e)
  have s23 : ∀ b o, s2.heap.get? b = some o → s3.heap.get? b = some o := fun b o e => by rw [← hs3]; exact Heap.get?_push_of_some _ e
  have fplt : ∀ b ∈ fp, b < s3.heap.objs.size := fun b hb => by
    obtain ⟨o, e, _⟩ := T.obj _ _ st2 b hb
    exact Heap.lt_size (s23 b o e)
  have fpst : ∀ b ∈ fp, b ∉ frs X.stack := fun b hb z => by
    obtain ⟨_, f1, f3, _⟩ := f2 b hb
    rcases List.mem_cons.mp (I2.stkSub b z) with q | q
    · exact f1 q
    · exact f3 q
  have celk : ∀ {x : Str} {a : Addr}, cl.lookup x = some a → X.env.cells.lookup x = some a := fun h => c.cls _ _ h
  have celC : ∀ {x : Str} {a : Addr}, X.env.cells.lookup x = some a → a < s3.heap.objs.size := fun {x a} h => by
    obtain ⟨v, q⟩ := I3.cell x a h
    exact q.lt
  have isc : ∀ {a : Addr} {v : Option Value}, s3.heap.IsCell a v → h4.IsCell a v := fun {a v} ⟨o, e, d⟩ => ⟨o, kp4 _ _ e, d⟩
  have stat : ∀ {H' : Hp}, (∀ b ∈ fp, H' b = none) → ∀ b ∈ fp, FpOk (cmpX X scope cl N' s3.heap.objs.size s3 H3 fp (X.pn ++ pins)) [] H' b := fun hn b hb => by
    obtain ⟨_, f1, f3, f4, f5, f6⟩ := f2 b hb
    refine ⟨hn b hb, Nat.ne_of_lt (fplt b hb), fpst b hb, .inl hb, fun x a e => f5 x a (celk e), fun p hp => ?_⟩
    have hp' : p ∈ X.pn ++ pins := by simpa using hp
    exact f6 p hp'
  have I4 : Inv (cmpX X scope cl N' s3.heap.objs.size s3 H3 fp (X.pn ++ pins)) [] (capt caps σ) H3 { s3 with heap := h4, toks := s3.toks + ([] : List (Str × Value)).length } := by
    refine ⟨⟨I3.ok.mod, c.kind, I3.ok.glob, I3.ok.blt, Nat.le_refl _, fun x y a e1 e2 => I3.ok.inj x y a (celk e1) (celk e2), c.has, fun x a hf e => ?_, I3.ok.hd, I3.ok.frames, .inl rfl, fun b hb => ⟨Nat.ne_of_lt (fplt b hb), fun x a e => (f2 b hb).2.2.2.2.1 x a (celk e)⟩,
      I3.bs, Nat.le_trans I3.ok.bsz I3.sz, fun b o e hb => ?_, fpst, I3.stack, I3.stkFree⟩, rfl, I3.bare, Un.kept kp4, ⟨_, hns, fun i x v e1 e2 e3 => ?_⟩, fun x a e => ?_, I3.hok.fresh (Nat.le_refl _), fun x a e => I3.freeC x a (celk e), fun p hp => ?_, I3.hok.kept kp4, ?_⟩
    · have e' : cl.lookup x = some a := e
      have hf' : (cl.lookup x).isNone = true := hf
      rw [e'] at hf'
      cases hf'
    · rcases (f2 b hb).2.2.2.1 with z | z
      · exact I3.ok.noex b o e z
      · exact absurd (Nat.lt_of_lt_of_le (Heap.lt_size e) (Nat.le_trans I3.ok.bsz z)) (Nat.lt_irrefl _)
    · unfold capt at e2
      rw [List.getElem?_map] at e2
      cases ec : caps[i]? with
      | none => rw [ec] at e2; cases e2
      | some cj =>
        rw [ec] at e2
        cases cj with
        | none => cases e2
        | some j =>
          have e2' : (σ[j]?).join = some v := Option.some.inj e2
          have ej : σ[j]? = some (some v) := by
            cases ex : σ[j]? with
            | none => rw [ex] at e2'; cases e2'
            | some o => rw [ex] at e2'; have : o = some v := e2'; rw [this]
          obtain ⟨n1, n2, n3, n4, a, n5, n6⟩ := c.capN i j x ec e1
          obtain ⟨m0, hn0, hl0⟩ := I3.loc
          obtain ⟨u, ru, lk⟩ := hl0 j x v n1 ej n2
          refine ⟨u, ru, ?_⟩
          rcases lk with ⟨k1, _⟩ | ⟨_, a', k2, k3⟩
          · exact absurd k1 n3
          · rw [n6] at k2
            cases k2
            refine .inr ⟨?_, a, n5, isc k3⟩
            rcases e3 with z | z
            · exact absurd z n4
            · exact z
    · obtain ⟨v, q⟩ := I3.cell x a (celk e)
      exact ⟨v, isc q⟩
    · have hp' : p ∈ X.pn ++ pins := by simpa using hp
      obtain ⟨p1, p2, p3, p4, p5⟩ := I3.pin p hp'
      refine ⟨kp4 _ _ p1, p2, Nat.ne_of_lt (Heap.lt_size p1), fun z => ?_, p5⟩
      rcases List.mem_cons.mp (I3.stkSub _ z) with q | q
      · exact p3 q
      · exact p4 q
    · show (capt caps σ).length = N'.length
      unfold capt
      rw [List.length_map, c.lenN]
  -- back to the outer body
  have back : ∀ {σ' : St} {H' : Hp} {s' : Shared}, Inv (cmpX X scope cl N' s3.heap.objs.size s3 H3 fp (X.pn ++ pins)) [] σ' H' s' → CmpEnd X pins σ H' s3.heap.objs.size s' := fun {σ' H' s'} J => by
    have J1 : Inv X pins σ H' s' := Inv.call' (ch := fp) I3 J.os J.base J.hok J.bare fun b hb => by
      obtain ⟨_, f1, f3, f4, f5, f6⟩ := f2 b hb
      exact ⟨f4, f1, f5, f6⟩
    obtain ⟨m6, hn6, _⟩ := J.loc
    refine ⟨J1, ⟨m6, hn6⟩, J.free, Nat.ne_of_gt I3.lt, I3.sz, fun x a e z => ?_, fun p hp z => ?_⟩
    · exact absurd (celC e) (by rw [z]; exact Nat.lt_irrefl _)
    · exact absurd (Heap.lt_size (I3.pin p hp).1) (by rw [z]; exact Nat.lt_irrefl _)
  have st4 : tn 0 h4 := T.keep _ _ _ st3 fun b _ o e => kp4 b o e
  have fr3 : ∀ b ∈ fp, H3 b = none := fun b hb => by
    rw [← hH3, upd_ne]
    · exact (f2 b hb).1
    · obtain ⟨o, e, _⟩ := T.obj _ _ st2 b hb
      exact Nat.ne_of_lt (Heap.lt_size e)
  have loop : ∀ s4 : Shared, s4 = { s3 with heap := h4, toks := s3.toks + ([] : List (Str × Value)).length } →
      codeAny (model X.prog X.w) X.A (.compLoop (.ListComp elt [⟨tg, iter, ifs, 0⟩] scope pos) 0 (.ref it) (.ref s2.heap.objs.size) (compEnvC scope cl s3.heap.objs.size X.env))
        (compPost (model X.prog X.w) X.A X.xe use Q' (.ref s2.heap.objs.size) s3.heap.objs.size) s4 := by
    rintro s4 rfl
    refine compLoop_any (fun n s => ∃ i σ' H, Inv (cmpX X scope cl N' s3.heap.objs.size s3 H3 fp (X.pn ++ pins)) [] σ' H s ∧ tn i s.heap ∧ (∀ b ∈ fp, H b = none) ∧ W i n σ' H) ?_ m0 ⟨0, capt caps σ, H3, I4, st4, fr3, w0⟩
    rintro n s5 ⟨i, σ5, H5, I5, st5, fr5, w5⟩
    rcases turn i n σ5 H5 w5 with ⟨stop, q5⟩ | ⟨go, step⟩
    · refine thn (T.done (cmpX X scope cl N' s3.heap.objs.size s3 H3 fp (X.pn ++ pins)) rfl rfl rfl hcalm i [] s5 σ5 H5 (fun _ _ => False) I5 (stat fr5) st5 stop) fun r s6 ⟨hr, I6⟩ => ?_
      subst hr
      exact fin _ _ _ _ (back I6) q5
    · refine thn (T.item (cmpX X scope cl N' s3.heap.objs.size s3 H3 fp (X.pn ++ pins)) rfl rfl rfl hcalm i [] s5 σ5 H5 (fun _ _ => False) I5 (stat fr5) st5 go) fun r s6 ⟨u, hr, h6⟩ => ?_
      subst hr
      refine thn h6 fun _ s7 ⟨x, H7, I7, r7, y7, st7, fr7⟩ => ?_
      have I7' := I7.pinned (stat fr7) (T.obj _ _ st7)
      refine thn (hg _ _ _ _ _ _ s7 σ5 H7 x u _ I7' r7 (step x H7 y7)) fun _ s8 ⟨σ8, H8, I8, q8⟩ => ?_
      refine thn (hf _ _ _ _ _ _ s8 σ8 H8 _ I8 q8) fun ok s9 ⟨H9, I9, q9⟩ => ?_
      have again : ∀ {s' : Shared} {m' : Nat} {σ' : St} {H' : Hp}, Inv (cmpX X scope cl N' s3.heap.objs.size s3 H3 fp (X.pn ++ pins)) ([] ++ pinsAt fp s7.heap) σ' H' s' → m' < n → W (i + 1) m' σ' H' →
          ∃ m, m < n ∧ ∃ i σ' H, Inv (cmpX X scope cl N' s3.heap.objs.size s3 H3 fp (X.pn ++ pins)) [] σ' H s' ∧ tn i s'.heap ∧ (∀ b ∈ fp, H b = none) ∧ W i m σ' H := fun {s' m' σ' H'} J hm hw => by
        refine ⟨m', hm, i + 1, σ', H', J.unpinned, T.keep _ _ _ st7 fun b hb o e => (J.pin (b, o) (List.mem_append_right _ (List.mem_append_right _ (mem_pinsAt hb e)))).1, fun b hb => ?_, hw⟩
        obtain ⟨o, e, d⟩ := T.obj _ _ st7 b hb
        exact (J.pin (b, o) (List.mem_append_right _ (List.mem_append_right _ (mem_pinsAt hb e)))).2.1
      cases ok with
      | false =>
        rw [if_neg Bool.false_ne_true] at q9 ⊢
        obtain ⟨m', hm, hw⟩ := q9
        exact again I9 hm hw
      | true =>
        rw [if_pos rfl] at q9 ⊢
        refine thn (he _ _ _ _ _ _ s9 σ8 H9 _ I9 q9) fun uy s10 ⟨y, H10, I10, ry, acc, hD10, hlen, m', hm, hw⟩ => ?_
        refine thn (mt_append _ s10 σ8 H10 (.ref s2.heap.objs.size) [y] (.ref s2.heap.objs.size) [uy] (fun v H' => v = .non ∧ H' = upd H10 s2.heap.objs.size (.lst (acc ++ [y]))) I10 rfl (.cons ry .nil) ⟨_, acc, y, rfl, rfl, hD10, hlen, rfl, rfl⟩) fun _ s11 ⟨v11, H11, I11, r11, e11, e12⟩ => ?_
        subst e12
        exact again I11 hm hw
  exact codeAny_compStart_list (loop _ rfl) (T.self _ 0 _ _ _ st4 (loop _ rfl))
theorem pe_comp {X : Cx} {elt tg iter : Expr} {ifs : List Expr} {scope : Scope} {cl : List (Str × Addr)} {N' : List Str} {caps : List (Option Nat)} {pos : Pos} {wi : TI} {g : TG} {tif : TT} {te : TE} (c : CmpOk X scope cl N' caps) (hcalm : X.calm = true) (hi : PI X tg iter wi)
    (hg : ∀ C s₀ H₀ ex pn, PG (cmpX X scope cl N' C s₀ H₀ ex pn) tg g) (hf : ∀ C s₀ H₀ ex pn, PIf (cmpX X scope cl N' C s₀ H₀ ex pn) ifs tif) (he : ∀ C s₀ H₀ ex pn, PE (cmpX X scope cl N' C s₀ H₀ ex pn) elt te)
    (hs : ∀ x, foldedSetIterable iter X.env x = pure x := by intro _; rfl) : PE X (.ListComp elt [⟨tg, iter, ifs, 0⟩] scope pos) (tComp wi caps g tif te) := by
  intro pins s σ H Q I h
  rw [eval_ListComp]
  refine comp_core (use := none) c hcalm hi hg hf he hs I h fun D C H' s' ce q => ?_
  obtain ⟨m, hn⟩ := ce.ns
  exact ⟨m, hn, fun h' hsb => ⟨.ref D, H', ce.go hsb, rfl, q⟩⟩
/-- y = [..], the list stored before the block's names go -/
theorem ps_setC {X : Cx} {elt tg iter : Expr} {ifs : List Expr} {scope : Scope} {cl : List (Str × Addr)} {N' : List Str} {caps : List (Option Nat)} {pos py spos : Pos} {wi : TI} {g : TG} {tif : TT} {te : TE} {i : Nat} {y : Str} (c : CmpOk X scope cl N' caps) (hcalm : X.calm = true) (hi : PI X tg iter wi)
    (hg : ∀ C s₀ H₀ ex pn, PG (cmpX X scope cl N' C s₀ H₀ ex pn) tg g) (hf : ∀ C s₀ H₀ ex pn, PIf (cmpX X scope cl N' C s₀ H₀ ex pn) ifs tif) (he : ∀ C s₀ H₀ ex pn, PE (cmpX X scope cl N' C s₀ H₀ ex pn) elt te)
    (hN : X.N.Nodup) (hiN : X.N[i]? = some y) (hx : Loc X.env.scope y) (hw : swapsWith (.ListComp elt [⟨tg, iter, ifs, 0⟩] scope pos) (some (.Name y py)) spos.line X.env = pure true) (hfn : X.fn y = true ∨ X.env.scope.names.lookup y = some .local)
    (hs : ∀ x, foldedSetIterable iter X.env x = pure x := by intro _; rfl) : PS X (.Assign [.Name y py] (.ListComp elt [⟨tg, iter, ifs, 0⟩] scope pos) spos) (tAsg (tComp wi caps g tif te) (gName i)) := by
  intro pins s σ H D I h
  rw [exec_Assign_Name_used _ _ _ _ hw]
  refine wpAny_bind (wpAny_standAt (wpAny_bind ?_))
  show wpAny _ _ (do let _ ← comprehension (.ListComp elt [⟨tg, iter, ifs, 0⟩] scope pos) scope X.env _ (newList []) false (eval iter X.env) (some (assign (.Name y py) X.env))) _ _ s
  refine wpAny_bind (thn (Q := fun _ s' => SP X pins D Flow.next s') (comp_core (use := some (assign (.Name y py) X.env)) c hcalm hi hg hf he hs I h fun Dl C H' s' ce q => ?_) fun _ s' q => wpAny_pure (wpAny_pure q))
  obtain ⟨m, hn⟩ := ce.ns
  show wpAny _ _ (assign (.Name y py) X.env (.ref Dl)) _ _ _
  refine wpAny_assign_Name (store_ok2 ce.inv hN hiN hx (v := .ref Dl) rfl (fun s2 I2 ⟨a, hsb, ha⟩ => ?_) hfn)
  have hne : C ≠ a := by
    rcases ha with rfl | ha
    · exact ce.loc
    · exact fun z => ce.cel _ _ ha z.symm
  have ce2 : CmpEnd X pins (σ.set i (some (.ref Dl))) H' C s2 := ⟨I2, ⟨m, hn.sameBut hsb hne⟩, ce.free, ce.loc, ce.sz, ce.cel, ce.pin⟩
  exact ⟨m, hn.sameBut hsb hne, fun h3 hs3 => ⟨_, H', ce2.go hs3, q⟩⟩
end L2

namespace DL
open PySem PySem.Spec L2
open PyProof.Rows hiding St
def captD (caps : List (Option Nat)) (σ : SD) : SD := caps.map fun c => match c with
  | some j => (σ[j]?).join
  | none => none
/-- the turns of a comprehension; what is gathered stands in cell n -/
def gather0 (n : Nat) (y : Dt) (G : GD) (k : GD → Prop) : Prop := match G[n]? with
  | some (.lst acc) => acc.length < sizeLine ∧ k (G.set n (.lst (acc ++ [y])))
  | _ => False
structure gather (n : Nat) (y : Dt) (G : GD) (k : GD → Prop) : Prop where
  p : gather0 n y G k
theorem gather_eq {n : Nat} {y : Dt} {G : GD} {k : GD → Prop} : gather n y G k = gather0 n y G k := propext ⟨fun h => h.p, fun h => ⟨h⟩⟩
theorem gather_of {n : Nat} {y : Dt} {G : GD} {k : GD → Prop} {acc : List Dt} (h : G[n]? = some (.lst acc)) (hl : acc.length < sizeLine) (hk : k (G.set n (.lst (acc ++ [y])))) : gather n y G k := by
  simp only [gather_eq, gather0, h]
  exact ⟨hl, hk⟩
def lpc (n : Nat) (g : TDG) (tif : TDT) (te : TDE) (W : GD → Prop) (Q : KD) : List Dt → SD → GD → Prop
  | [], _, G => W G ∧ Q (.ref n) G
  | d :: r, σ, G => W G ∧ g d σ G fun σ2 G2 => tif σ2 G2 fun b G3 => if b = true then te σ2 G3 fun y G4 => gather n y G4 (Wk (n + 1) (lpc n g tif te W Q r) σ2)
    else Wk (n + 1) (lpc n g tif te W Q r) σ2 G3
def dComp (ti : TDI) (caps : List (Option Nat)) (g : TDG) (tif : TDT) (te : TDE) : TDE := fun σ G Q => ti σ G fun ds W G1 => lpc G1.length g tif te W Q ds (captD caps σ) (G1 ++ [.lst []])
def dTrue : TDT := fun _ G Q => Q true G
def DIf (X : Cx) (F : Fx) (ifs : List Expr) (t : TDT) : Prop := PIf X ifs (liT X.K F t)
structure DIf' (X : Cx) (F : Fx) (ifs : List Expr) (t : TDT) : Prop where
  p : DIf X F ifs t
theorem dif_nil {X : Cx} {F : Fx} : DIf X F [] dTrue := fun pins s σ H Qv I ⟨σd, G, ι, Q, ok, ht, hq⟩ => pif_nil pins s σ H Qv I (hq true H G ι ok.hg Gr.refl ht)
theorem dif_nil' {X : Cx} {F : Fx} : DIf' X F [] dTrue :=
  ⟨dif_nil ⟩
theorem dif_one {X : Cx} {F : Fx} {c : Expr} {t : TDT} (h : DT X F c t) : DIf X F [c] t := pif_one h
theorem dif_one' {X : Cx} {F : Fx} {c : Expr} {t : TDT} (h : DT' X F c t) : DIf' X F [c] t :=
  ⟨dif_one (h := h.p)⟩
def exE (K : PySem.W.Frag) (t : TDE) : TE := fun σ H Q => ∃ F, liE K F t σ H Q
theorem captD_ok {K : PySem.W.Frag} {F : Fx} {σd : SD} {G : GD} {σ : L2.St} {H : Hp} {ι : List Addr} (ok : Ok K F σd G σ H ι) (caps : List (Option Nat)) : Ok K F (captD caps σd) G (capt caps σ) H ι := by
  refine ⟨ok.hg, fun i d e => ?_, ok.gr, by simp [captD, capt]⟩
  unfold captD at e
  rw [List.getElem?_map] at e
  cases ec : caps[i]? with
  | none => rw [ec] at e; cases e
  | some cj =>
    rw [ec] at e
    cases cj with
    | none => cases e
    | some j =>
      have e2 : (σd[j]?).join = some d := Option.some.inj e
      have ej : σd[j]? = some (some d) := by
        cases ex : σd[j]? with
        | none => rw [ex] at e2; cases e2
        | some o => rw [ex] at e2; have : o = some d := e2; rw [this]
      obtain ⟨v, q, r⟩ := ok.slt j d ej
      refine ⟨v, ?_, r⟩
      unfold capt
      rw [List.getElem?_map, ec]
      show some ((σ[j]?).join) = some (some v)
      rw [q]
      rfl
theorem comp_li {K : PySem.W.Frag} {F : Fx} {caps : List (Option Nat)} {ti : TDI} {g : TDG} {tif : TDT} {te : TDE} {σ : L2.St} {H : Hp} {Qv : VK} (h : liE K F (dComp ti caps g tif te) σ H Qv) : tComp (liI K F ti) caps (exG K g) (exT K tif) (exE K te) σ H Qv := by
  obtain ⟨σd, G, ι, Q, ok, ht, hq⟩ := h
  refine ⟨σd, G, ι, _, ok, ht, fun J H1 ds W G1 ι1 h1 g1 it q1 D hD => ?_⟩
  have hn : G1.length = ι1.length := h1.len.symm
  obtain ⟨hg2, gr2, rp2⟩ := rp_newLst (ds := []) (vs := []) h1 rfl hD
  have ok2 := ((ok.to h1 g1).to hg2 gr2)
  have ok3 := (captD_ok ok2 caps).here
  have atD0 : (ι1 ++ [D])[G1.length]? = some D := by rw [hn, List.getElem?_append_right (Nat.le_refl _)]; simp
  have hn1 : G1.length + 1 = (Fx.mk (upd H1 D (.lst [])) (ι1 ++ [D])).ι.length := by show G1.length + 1 = (ι1 ++ [D]).length; simp [hn]
  refine ⟨fun i m σ H => ∃ σd G ι, Ok K ⟨upd H1 D (.lst []), ι1 ++ [D]⟩ σd G σ H ι ∧ i ≤ ds.length ∧ m = ds.length - i ∧ lpc G1.length g tif te W Q (ds.drop i) σd G, ⟨ds.length, _, _, _, ok3, Nat.zero_le _, rfl, q1⟩, ?_⟩
  rintro i m σ' H' ⟨σd', G', ι', ok', hi', rfl, q⟩
  have grT := gr2.trans ok'.gr
  by_cases hlt : i < ds.length
  · rw [List.drop_eq_getElem_cons hlt] at q
    obtain ⟨hW, q⟩ := q
    obtain ⟨go, yl⟩ := it.go i ds[i] G' H' ι' (by simp [hlt]) ok'.hg grT hW
    refine .inr ⟨go, fun x H2 y => ?_⟩
    obtain ⟨h2, g2, r2⟩ := yl x H2 y
    refine ⟨⟨upd H1 D (.lst []), ι1 ++ [D]⟩, ds[i], σd', G', ι', _, ok'.to h2 g2, r2, q, fun σ3 H3 σd3 G3 ι3 ok3' q3 => ?_⟩
    refine ⟨⟨upd H1 D (.lst []), ι1 ++ [D]⟩, σd3, G3, ι3, _, ok3', q3, fun b H4 G4 ι4 h4 g4 q4 => ?_⟩
    have again : ∀ {σd5 : SD} {G5 : GD} {σ5 : L2.St} {H5 : Hp} {ι5 : List Addr}, Ok K ⟨upd H1 D (.lst []), ι1 ++ [D]⟩ σd5 G5 σ5 H5 ι5 → Wk (G1.length + 1) (lpc G1.length g tif te W Q (ds.drop (i + 1))) σd5 G5 →
        ∃ m', m' < ds.length - i ∧ ∃ σd G ι, Ok K ⟨upd H1 D (.lst []), ι1 ++ [D]⟩ σd G σ5 H5 ι ∧ i + 1 ≤ ds.length ∧ m' = ds.length - (i + 1) ∧ lpc G1.length g tif te W Q (ds.drop (i + 1)) σd G := fun ok5 w5 => by
      rw [hn1] at w5
      obtain ⟨σd6, G6, ι6, ok6, q6⟩ := ok5.wk w5
      exact ⟨ds.length - (i + 1), by omega, σd6, G6, ι6, ok6, hlt, rfl, q6⟩
    cases b with
    | false => exact iteF (again (ok3'.to h4 g4) q4)
    | true =>
      refine iteT ⟨⟨upd H1 D (.lst []), ι1 ++ [D]⟩, σd3, G4, ι4, _, ok3'.to h4 g4, q4, fun v5 H5 d5 G5 ι5 h5 g5 r5 q5 => ?_⟩
      have okE := (ok3'.to h4 g4).to h5 g5
      have at5 : ι5[G1.length]? = some D := okE.gr.at atD0
      replace q5 := q5.p; unfold gather0 at q5
      split at q5
      · rename_i acc z
        obtain ⟨vs, w, rr⟩ := h5.cel _ _ D z at5
        refine ⟨vs, w, by rw [← rr.len]; exact q5.1, ?_⟩
        have gp : Gr K H5 ι5 (upd H5 D (.lst (vs ++ [v5]))) ι5 := Gr.put h5 z rfl at5
        exact again (okE.to (h5.put (c' := .lst (acc ++ [d5])) z rfl at5 rfl ⟨vs ++ [v5], upd_same, (rr.app (Rps.cons r5 Rps.nil)).up gp⟩) gp) q5.2
      · exact q5.elim
  · have e : i = ds.length := by omega
    subst e
    rw [List.drop_eq_nil_of_le (Nat.le_refl _)] at q
    refine .inl ⟨it.stop G' H' ι' ok'.hg grT q.1, hq _ H' (.ref G1.length) G' ι' ok'.hg (g1.trans grT) ⟨D, rfl, ok'.gr.at atD0⟩ q.2⟩
theorem de_comp {X : Cx} {F : Fx} {elt tg iter : Expr} {ifs : List Expr} {scope : Scope} {cl : List (Str × Addr)} {N' : List Str} {caps : List (Option Nat)} {pos : Pos} {ti : TDI} {g : TDG} {tif : TDT} {te : TDE} (c : CmpOk X scope cl N' caps) (hi : DI X F tg iter ti)
    (hg : ∀ C s₀ H₀ ex pn F, DG (cmpX X scope cl N' C s₀ H₀ ex pn) F tg g) (hf : ∀ C s₀ H₀ ex pn F, DIf (cmpX X scope cl N' C s₀ H₀ ex pn) F ifs tif) (he : ∀ C s₀ H₀ ex pn F, DE (cmpX X scope cl N' C s₀ H₀ ex pn) F elt te) (hcalm : X.calm = true := by rfl)
    (hs : ∀ x, foldedSetIterable iter X.env x = pure x := by intro _; rfl) : DE X F (.ListComp elt [⟨tg, iter, ifs, 0⟩] scope pos) (dComp ti caps g tif te) :=
  PE.imp (pe_comp (g := exG X.K g) (tif := exT X.K tif) (te := exE X.K te) c hcalm hi (fun C s₀ H₀ ex pn pins s σ H v u Q I r ⟨F, q⟩ => hg C s₀ H₀ ex pn F pins s σ H v u Q I r q)
    (fun C s₀ H₀ ex pn pins s σ H Q I ⟨F, q⟩ => hf C s₀ H₀ ex pn F pins s σ H Q I q) (fun C s₀ H₀ ex pn pins s σ H Q I ⟨F, q⟩ => he C s₀ H₀ ex pn F pins s σ H Q I q) hs) fun σ H Qv h => comp_li h
/-- y = [..] -/
theorem ds_setC {X : Cx} {F : Fx} {elt tg iter : Expr} {ifs : List Expr} {scope : Scope} {cl : List (Str × Addr)} {N' : List Str} {caps : List (Option Nat)} {pos py spos : Pos} {ti : TDI} {g : TDG} {tif : TDT} {te : TDE} {i : Nat} {y : Str} (hN : X.N.Nodup) (c : CmpOk X scope cl N' caps) (hi : DI X F tg iter ti)
    (hg : ∀ C s₀ H₀ ex pn F, DG (cmpX X scope cl N' C s₀ H₀ ex pn) F tg g) (hf : ∀ C s₀ H₀ ex pn F, DIf (cmpX X scope cl N' C s₀ H₀ ex pn) F ifs tif) (he : ∀ C s₀ H₀ ex pn F, DE (cmpX X scope cl N' C s₀ H₀ ex pn) F elt te) (hiN : X.N[i]? = some y := by rfl) (hx : Loc X.env.scope y := by first | exact Or.inl rfl | exact Or.inr rfl)
    (hw : swapsWith (.ListComp elt [⟨tg, iter, ifs, 0⟩] scope pos) (some (.Name y py)) spos.line X.env = pure true := by rfl) (hfn : X.fn y = true ∨ X.env.scope.names.lookup y = some .local := by first | exact .inl rfl | exact .inr rfl | assumption) (hcalm : X.calm = true := by rfl)
    (hs : ∀ x, foldedSetIterable iter X.env x = pure x := by intro _; rfl) : DS X F (.Assign [.Name y py] (.ListComp elt [⟨tg, iter, ifs, 0⟩] scope pos) spos) (dSet i (dComp ti caps g tif te)) := by
  refine PS.imp (ps_setC (g := exG X.K g) (tif := exT X.K tif) (te := exE X.K te) c hcalm hi (fun C s₀ H₀ ex pn pins s σ H v u Q I r ⟨F, q⟩ => hg C s₀ H₀ ex pn F pins s σ H v u Q I r q)
    (fun C s₀ H₀ ex pn pins s σ H Q I ⟨F, q⟩ => hf C s₀ H₀ ex pn F pins s σ H Q I q) (fun C s₀ H₀ ex pn pins s σ H Q I ⟨F, q⟩ => he C s₀ H₀ ex pn F pins s σ H Q I q) hN hiN hx hw hfn hs) fun D σ H ⟨σd, G, ι, Dd, ok, ht, L⟩ => ?_
  exact comp_li ⟨σd, G, ι, _, ok, ht, fun v H1 d G1 ι1 h1 g1 r1 q1 => L.nx _ H1 _ G1 ι1 ((ok.to h1 g1).set r1) q1⟩
theorem ds_setC' {X : Cx} {F : Fx} {elt tg iter : Expr} {ifs : List Expr} {scope : Scope} {cl : List (Str × Addr)} {N' : List Str} {caps : List (Option Nat)} {pos py spos : Pos} {ti : TDI} {g : TDG} {tif : TDT} {te : TDE} {i : Nat} {y : Str} (hN : X.N.Nodup) (c : CmpOk X scope cl N' caps) (hi : DI' X F tg iter ti)
    (hg : ∀ C s₀ H₀ ex pn F, DG' (cmpX X scope cl N' C s₀ H₀ ex pn) F tg g) (hf : ∀ C s₀ H₀ ex pn F, DIf' (cmpX X scope cl N' C s₀ H₀ ex pn) F ifs tif) (he : ∀ C s₀ H₀ ex pn F, DE' (cmpX X scope cl N' C s₀ H₀ ex pn) F elt te) (hiN : X.N[i]? = some y := by rfl) (hx : Loc X.env.scope y := by first | exact Or.inl rfl | exact Or.inr rfl)
    (hw : swapsWith (.ListComp elt [⟨tg, iter, ifs, 0⟩] scope pos) (some (.Name y py)) spos.line X.env = pure true := by rfl) (hfn : X.fn y = true ∨ X.env.scope.names.lookup y = some .local := by first | exact .inl rfl | exact .inr rfl | assumption) (hcalm : X.calm = true := by rfl)
    (hs : ∀ x, foldedSetIterable iter X.env x = pure x := by intro _; rfl) : DS' X F (.Assign [.Name y py] (.ListComp elt [⟨tg, iter, ifs, 0⟩] scope pos) spos) (dSet i (dComp ti caps g tif te)) :=
  ⟨ds_setC hN c hi.p (fun C s₀ H₀ ex pn F => (hg C s₀ H₀ ex pn F).p) (fun C s₀ H₀ ex pn F => (hf C s₀ H₀ ex pn F).p) (fun C s₀ H₀ ex pn F => (he C s₀ H₀ ex pn F).p) hiN hx hw hfn hcalm hs⟩
theorem de_comp' {X : Cx} {F : Fx} {elt tg iter : Expr} {ifs : List Expr} {scope : Scope} {cl : List (Str × Addr)} {N' : List Str} {caps : List (Option Nat)} {pos : Pos} {ti : TDI} {g : TDG} {tif : TDT} {te : TDE} (c : CmpOk X scope cl N' caps) (hi : DI' X F tg iter ti)
    (hg : ∀ C s₀ H₀ ex pn F, DG' (cmpX X scope cl N' C s₀ H₀ ex pn) F tg g) (hf : ∀ C s₀ H₀ ex pn F, DIf' (cmpX X scope cl N' C s₀ H₀ ex pn) F ifs tif) (he : ∀ C s₀ H₀ ex pn F, DE' (cmpX X scope cl N' C s₀ H₀ ex pn) F elt te) (hcalm : X.calm = true := by rfl)
    (hs : ∀ x, foldedSetIterable iter X.env x = pure x := by intro _; rfl) : DE' X F (.ListComp elt [⟨tg, iter, ifs, 0⟩] scope pos) (dComp ti caps g tif te) :=
  ⟨de_comp (c := c) (hi := hi.p) (hg := fun C s₀ H₀ ex pn F => (hg C s₀ H₀ ex pn F).p) (hf := fun C s₀ H₀ ex pn F => (hf C s₀ H₀ ex pn F).p) (he := fun C s₀ H₀ ex pn F => (he C s₀ H₀ ex pn F).p) (hcalm := hcalm) (hs := hs)⟩
end DL
namespace TM
open PySem PyProof.Rows
open PySem.AutoSeq1 (wpAny_loadPart')
theorem noFill_tuple_mul : fillsNumberSlot (.type "tuple") "mul" = pure false :=
  PySem.fillsNumberSlot_seq (id := "tuple.__mul__") (r := some (.builtin "tuple.__rmul__")) F.slot_tuple_mul.lookup (by decide +kernel) F.slot_tuple_rmul.lookup (by decide +kernel)
theorem repeat_tuple : seqRepeat? (.type "tuple") = pure (some (.builtin "tuple.__mul__")) := by
  unfold seqRepeat?
  rw [PySem.seqSlot_of (T := "tuple") (name := "__mul__") (id := "tuple.__mul__") F.slot_tuple_mul.lookup (by decide +kernel), PySem.seqSlot_of (T := "tuple") (name := "__rmul__") (id := "tuple.__rmul__") F.slot_tuple_rmul.lookup (by decide +kernel)]
  rfl
theorem int_rmul_tuple (a : Int) (t : Tok) (l : Addr) (items : Array Value) (n : Nat) (dd : Option Addr) (sl : Array (Option Value)) :
    Meets (Builtin.«int.__rmul__» ⟨[.int a t, .ref l], []⟩) (fun _ R s => s.heap.get? l = some { cls := .type "tuple", dict := dd, data := .seq items n, slots := sl } ∧ R (.ok (.ret Value.notImplemented)) s) :=
  .of_wp fun prog w A R s h => by obtain ⟨hp, g, d, tk, os⟩ := s; obtain ⟨hl, h⟩ := h; wp_walk using wpAny_loadPart' hl; exact ⟨_, rfl, h⟩
theorem tuple_mul (l : Addr) (items : Array Value) (n : Nat) (dd : Option Addr) (sl : Array (Option Value)) (x : Int) (u : Tok) (h0 : ¬ (x < -(2 ^ 63) || x ≥ 2 ^ 63) = true) (h1 : ¬ (items.isEmpty || x == 1) = true) (h2 : ¬ (x ≤ 0 || items.isEmpty) = true)
    (h3 : ¬ (items.size : Int) * x > (2 ^ 63 - 1) / 8) (h4 : ¬ Builtin.Tuple.tupleTooMany (items.size * x) = true) (h5 : (List.foldl (fun x1 x2 => x1 ++ x2) #[] (List.replicate x.toNat items)).size ≤ sizeLine) :
    Meets (Builtin.«tuple.__mul__» ⟨[.ref l, .int x u], []⟩) (fun _ R s => s.heap.get? l = some { cls := .type "tuple", dict := dd, data := .seq items n, slots := sl } ∧ R (.ok (.ret (Value.ref s.heap.objs.size))) { s with heap := s.heap.push { cls := Value.type "tuple", data := Data.seq (List.foldl (fun x1 x2 => x1 ++ x2) #[] (List.replicate x.toNat items)) }, toks := s.toks }) :=
  .of_wp fun prog w A R s h => by
    obtain ⟨hp, g, d, tk, os⟩ := s; obtain ⟨hl, h⟩ := h
    have f1 := AutoSeq1.idx_int
    wp_walk using wpAny_loadPart' hl
    rw [if_neg h0]
    refine wpAny_bind (m := Builtin.Tuple.tupleItemsOf (.ref l)) (tupleItemsOf_ (show IsTup hp l items from ⟨_, hl, rfl, n, rfl⟩) ?_)
    dsimp only
    rw [if_neg h1, if_neg h2, if_neg h3, if_neg h4]
    exact wpAny_bind (m := Builtin.Tuple.tupleExact _) (wpAny_newObj_type (wpAny_pure ⟨_, rfl, h⟩) h5)
section
variable {prog : Program} {w : World} {A : Around} {E : Value → Shared → Prop} {s : Shared}
theorem foldl_rep (its : List Value) : ∀ (k : Nat) (acc : List Value), List.foldl (fun x1 x2 => x1 ++ x2) acc.toArray (List.replicate k its.toArray) = (acc ++ (List.replicate k its).flatten).toArray
  | 0, acc => by simp
  | k + 1, acc => by
    rw [List.replicate_succ, List.foldl_cons, List.replicate_succ, List.flatten_cons]
    have e : acc.toArray ++ its.toArray = (acc ++ its).toArray := by simp
    rw [e, foldl_rep its k (acc ++ its), List.append_assoc]
theorem len_rep {α : Type} (xs : List α) (k : Nat) : (List.replicate k xs).flatten.length = k * xs.length := by
  induction k with
  | zero => simp
  | succ k ih => rw [List.replicate_succ, List.flatten_cons, List.length_append, ih, Nat.succ_mul, Nat.add_comm]
theorem mul_tup {t : Addr} {its : List Value} {k : Int} {u : Tok} {Q : Value → Shared → Prop} (ht : IsTup s.heap t its.toArray) (hne : its ≠ []) (h2 : 2 ≤ k) (hz : its.length * k.toNat ≤ sizeLine)
    (h : Q (.ref s.heap.objs.size) { s with heap := s.heap.push { cls := .type "tuple", data := .seq (List.replicate k.toNat its).flatten.toArray } }) : wpAny (model prog w) A (binaryOp .Mult (.ref t) (.int k u)) Q E s := by
  obtain ⟨⟨cls, dd, data, sl⟩, ho, hc, n, hd⟩ := id ht
  simp only at hc hd
  subst hc hd
  have hs : sizeLine = 16777216 := sizeLine_eq
  have hl : 1 ≤ its.length := List.length_pos_iff.mpr hne
  have hk : k.toNat ≤ 16777216 := by
    have : 1 * k.toNat ≤ its.length * k.toNat := Nat.mul_le_mul_right _ hl
    omega
  have ek : ((its.length * k.toNat : Nat) : Int) = (its.length : Int) * k := by
    rw [Int.natCast_mul]
    have : ((k.toNat : Nat) : Int) = k := by omega
    rw [this]
  have hem : its.toArray.isEmpty = false := by cases its with | nil => exact absurd rfl hne | cons a r => rfl
  have e0 : List.foldl (fun x1 x2 => x1 ++ x2) #[] (List.replicate k.toNat its.toArray) = (List.replicate k.toNat its).flatten.toArray := by
    have := foldl_rep its k.toNat []
    simpa using this
  refine wpAny_binaryOp_repeat_ref (T := "tuple") (U := "int") (by decide) ⟨_, ho, rfl⟩ (fun s' => typeIs_int s' k u) noFill_tuple_mul F.fills_int_mul F.slot_int_rmul repeat_tuple F.slot_int_index.lookup
    (call_meets F.slot_int_rmul (typeIs_int s k u) F.entry_int_rmul (F.args_int_rmul_2 _ _) (int_rmul_tuple k u t its.toArray n dd sl)
      ⟨ho, rfl, ⟨_, ho, rfl⟩, call_meets F.slot_tuple_mul ⟨_, ho, rfl⟩ F.entry_tuple_mul (F.args_tuple_mul_2 _ _) (tuple_mul t its.toArray n dd sl k u ?_ ?_ ?_ ?_ ?_ ?_) ⟨ho, ?_⟩⟩)
  · simp; omega
  · rw [hem]; simp; omega
  · rw [hem]; simp; omega
  · rw [List.size_toArray, ← ek]; omega
  · unfold Builtin.Tuple.tupleTooMany
    rw [List.size_toArray, ← ek]
    intro z
    have z' := of_decide_eq_true z
    omega
  · rw [e0, List.size_toArray, len_rep, Nat.mul_comm]; exact hz
  · rw [e0]; exact h
end
end TM
namespace DL
open PySem PySem.Spec L2
open PyProof.Rows hiding St
section
variable {X : Cx} {F : Fx} {e a b : Expr} {t : TDA} {ta tb : TDE} {pos p : Pos} {x : Str}
/-! ### * -/
def rRepT (K : PySem.W.Frag) : R2 := fun x y H Q => ∃ a k xs, x = .ref a ∧ y = .int k ∧ SqT K H a xs ∧ xs ≠ [] ∧ 2 ≤ k ∧ xs.length * k.toNat ≤ sizeLine ∧ ∀ p, H p = none → Q (.ref p) (upd H p (.tup (List.replicate k.toNat xs).flatten))
theorem op_repT : OpR X (binaryOp .Mult) (rRepT X.K) := by
  intro pins s σ H x y v u Q I rx ry h
  obtain ⟨a, k, xs, rfl, rfl, ha, hne, h2, hz, q⟩ := h
  cases rx
  obtain ⟨t, rfl⟩ := ry
  obtain ⟨its, r, p1, _⟩ := I.tuple ha
  refine TM.mul_tup p1 (fun z => hne (r.nil_iff.mp z)) h2 (by rw [← r.length]; exact hz) ?_
  refine ⟨.ref s.heap.objs.size, _, I.laid (t' := s.toks) (o := .tup (List.replicate k.toNat xs).flatten) (fun b ob q => Heap.get?_push_of_some _ q) (Nat.le_refl _) ?_, rfl, q _ (I.hok.fresh (Nat.le_refl _))⟩
  exact ⟨by rw [TM.len_rep, Nat.mul_comm]; exact hz, _, r.rep k.toNat, IsTupN.new _ _⟩
def rMulV (K : PySem.W.Frag) : R2 := fun x y H Q => rI CMul (fun i j => .int (i * j)) x y H Q ∨ rRepT K x y H Q
theorem op_mulV : OpR X (binaryOp .Mult) (rMulV X.K) := OpR.or op_mul op_repT
def rdMul : RD2 := fun x y G Q => match x, y with
  | .int i, .int j => CMul i j ∧ Q (.int (i * j)) G
  | .tup xs, .int k => xs ≠ [] ∧ 2 ≤ k ∧ xs.length * k.toNat ≤ sizeLine ∧ Q (.tup (List.replicate k.toNat xs).flatten) G
  | _, _ => False
theorem l2_mul {K : PySem.W.Frag} : L2R K (rMulV K) rdMul := by
  intro G H ι d1 d2 v1 v2 Q Qv hG r1 r2 h hq
  unfold rdMul at h
  split at h
  · rename_i i j
    exact .inl ⟨i, j, r1, r2, h.1, hq _ H (.int (i * j)) G ι hG Gr.refl rfl h.2⟩
  · rename_i xs k
    obtain ⟨hne, h2, hz, q⟩ := h
    obtain ⟨a, vs, e1, s1, rr1⟩ := r1
    refine .inr ⟨a, k, vs, e1, r2, s1, fun z => hne ?_, h2, by rw [← rr1.len]; exact hz, fun p hp => ?_⟩
    · subst z
      exact List.length_eq_zero_iff.mp (by rw [rr1.len]; rfl)
    · obtain ⟨x, y, z⟩ := rp_newTup hG (rr1.rep k.toNat) hp
      exact hq _ _ _ G ι x y z q
  · exact h.elim
theorem de_mul (ha : DE X F a ta) (hb : DE X F b tb) : DE X F (.BinOp a .Mult b pos) (dOp rdMul ta tb) := li2 l2_mul (pe_op op_mulV ha hb)

theorem de_mul' (ha : DE' X F a ta) (hb : DE' X F b tb) : DE' X F (.BinOp a .Mult b pos) (dOp rdMul ta tb) :=
  ⟨de_mul (ha := ha.p) (hb := hb.p)⟩
/-! ### all, any of a list of truths -/
def boolsD : List Dt → Option (List Bool)
  | [] => some []
  | .bl b :: r => (boolsD r).map fun bs => b :: bs
  | _ :: _ => none
def rdAll : RDA := fun ds G Q => match ds with
  | [.ref i] => match cellL G i with
    | some xs => match boolsD xs with
      | some bs => Q (.bl (bs.all id)) G
      | none => False
    | none => False
  | _ => False
/-! ### a def of the text, for its callers -/
structure Fnc (P : Program) (w : World) (K : PySem.W.Frag) (mg : Str → Option Value) (base : Heap) (x : Str) (k : Nat) (ps : List Str) (sp : SpD) : Prop where
  ex : ∃ f fd, FnOk P w K mg base CX0 k f fd ps (liSp K ps.length sp) ∧ mg x = some (.ref f) ∧ PySem.W.keepIn K (.ref f) = true ∧ Binds K fd ps []
theorem de_callF {k : Nat} {ps : List Str} {sp : SpD} {es : List Expr} (C : Fnc X.prog X.w X.K X.mg X.base x k ps sp) (hr : Room k X.A) (ha : DA X F (e :: es) t) (hg : Gl X x := by rfl)
    (hdb : (x == ("__debug__" : Str)) = false := by decide) (he : starEach (e :: es) X.env = (false, eval e X.env) :: starEach es X.env := by exact star_cons rfl) (hpl : (backTo pos (starEach es X.env)).any (·.1) = false := by exact back_any rfl) : DE X F (.Call (.Name x p) (e :: es) [] pos) (dCall ps.length sp t) := by
  obtain ⟨f, fd, h1, h2, h3, h4⟩ := C.ex
  exact de_call h1 hr h2 h3 h4 ha hg hdb he hpl
theorem de_callF' {k : Nat} {ps : List Str} {sp : SpD} {es : List Expr} (C : Fnc X.prog X.w X.K X.mg X.base x k ps sp) (hr : Room k X.A) (ha : DA' X F (e :: es) t) (hg : Gl X x := by rfl)
    (hdb : (x == ("__debug__" : Str)) = false := by decide) (he : starEach (e :: es) X.env = (false, eval e X.env) :: starEach es X.env := by exact star_cons rfl) (hpl : (backTo pos (starEach es X.env)).any (·.1) = false := by exact back_any rfl) : DE' X F (.Call (.Name x p) (e :: es) [] pos) (dCall ps.length sp t) :=
  ⟨de_callF (C := C) (hr := hr) (ha := ha.p) (hg := hg) (hdb := hdb) (he := he) (hpl := hpl)⟩
end
/-- texts by their signs -/
theorem str_inj (a b : String) : (Str.ofString a = Str.ofString b) = (a = b) := by
  apply propext
  constructor
  · intro h
    rw [Str.ofString_eq_toList, Str.ofString_eq_toList] at h
    injection h with h
    have h2 : a.toList.map Char.toNat = b.toList.map Char.toNat := by
      have := congrArg Array.toList h
      simpa using this
    have h3 : a.toList = b.toList := by
      refine (List.map_inj_right ?_).mp h2
      intro x y e
      exact Char.toNat_inj.mp e
    exact String.toList_inj.mp h3
  · intro h
    rw [h]
/-- a def's place at the top -/
structure Plc (K : PySem.W.Frag) (mg : Str → Option Value) (x : Str) (st : Stmt) (ps : List Str) : Prop where
  ex : ∃ f fd, Fun K x x st f fd ∧ mg x = some (.ref f) ∧ Binds K fd ps []
theorem Plc.fn {P : Program} {w : World} {K : PySem.W.Frag} {mg : Str → Option Value} {base : Heap} {x : Str} {st : Stmt} {N ps : List Str} {k : Nat} {sp : SpD} (Pl : Plc K mg x st ps) (S : FnScope N ps (defScope st))
    (hbody : ∀ (f : Addr) (cdv : Value) (A : Around) (outer : List Env) (s : Shared) (H : Hp) (E : XK), Room k (A.deeper (envOfC x (defScope st) s.heap.objs.size f cdv)) →
      ∃ td, (∀ F, DSs (cxOf CX0 P w K mg base N x (defScope st) f cdv A outer s H E).nox F (defBody st) td) ∧ ∀ (ds : List Dt) (G : GD) (Q : KD), ds.length = ps.length → sp ds G Q → bnds G.length ds → bndG G.length G → td (endsD G Q) (startD N ds) G) :
    Fnc P w K mg base x (k + 1) ps sp := by
  obtain ⟨f, fd, F, hm, hb⟩ := Pl.ex
  exact ⟨f, fd, okD F S (hbody f), hm, F.kp, hb⟩
theorem Plc.fn' {P : Program} {w : World} {K : PySem.W.Frag} {mg : Str → Option Value} {base : Heap} {x : Str} {st : Stmt} {N ps : List Str} {k : Nat} {sp : SpD} (Pl : Plc K mg x st ps) (S : FnScope N ps (defScope st))
    (hbody : ∀ (f : Addr) (cdv : Value) (A : Around) (outer : List Env) (s : Shared) (H : Hp) (E : XK), Room k (A.deeper (envOfC x (defScope st) s.heap.objs.size f cdv)) →
      ∃ td, (∀ F, DSs' (cxOf CX0 P w K mg base N x (defScope st) f cdv A outer s H E).nox F (defBody st) td) ∧ ∀ (ds : List Dt) (G : GD) (Q : KD), ds.length = ps.length → sp ds G Q → bnds G.length ds → bndG G.length G → td (endsD G Q) (startD N ds) G) :
    Fnc P w K mg base x (k + 1) ps sp := Pl.fn S fun f cdv A outer s H E hr => let ⟨td, h, r⟩ := hbody f cdv A outer s H E hr; ⟨td, fun F => (h F).p, r⟩
theorem okD' {P : Program} {w : World} {K : PySem.W.Frag} {mg : Str → Option Value} {base : Heap} {x qual : Str} {st : Stmt} {f : Addr} {fd : FuncData} {N ps : List Str} {k : Nat} {sp : SpD} (Fn : Fun K x qual st f fd) (S : FnScope N ps (defScope st))
    (hbody : ∀ (cdv : Value) (A : Around) (outer : List Env) (s : Shared) (H : Hp) (E : XK), Room k (A.deeper (envOfC qual (defScope st) s.heap.objs.size f cdv)) →
      ∃ td, (∀ F, DSs' (cxOf CX0 P w K mg base N qual (defScope st) f cdv A outer s H E).nox F (defBody st) td) ∧ ∀ (ds : List Dt) (G : GD) (Q : KD), ds.length = ps.length → sp ds G Q → bnds G.length ds → bndG G.length G → td (endsD G Q) (startD N ds) G) :
    FnOk P w K mg base CX0 (k + 1) f fd ps (liSp K ps.length sp) := okD Fn S fun cdv A outer s H E hr => let ⟨td, h, r⟩ := hbody cdv A outer s H E hr; ⟨td, fun F => (h F).p, r⟩
/-- nothing may be asked of it -/
theorem Plc.never {P : Program} {w : World} {K : PySem.W.Frag} {mg : Str → Option Value} {base : Heap} {x : Str} {st : Stmt} {ps : List Str} (Pl : Plc K mg x st ps) : Fnc P w K mg base x 0 ps (fun _ _ _ => False) := by
  obtain ⟨f, fd, F, hm, hb⟩ := Pl.ex
  refine ⟨f, fd, ⟨fun vs H Q E ⟨ds, G, ι, Qd, _, _, _, h, _⟩ => h.elim, fun A outer s H args us vs Q E _ _ _ _ ⟨ds, G, ι, Qd, _, _, _, h, _⟩ => h.elim⟩, hm, F.kp, hb⟩
theorem Fnc.mono {P : Program} {w : World} {K : PySem.W.Frag} {mg : Str → Option Value} {base : Heap} {x : Str} {j k : Nat} {ps : List Str} {sp : SpD} (F : Fnc P w K mg base x j ps sp) (h : j ≤ k) : Fnc P w K mg base x k ps sp := by
  obtain ⟨f, fd, h1, r⟩ := F.ex
  exact ⟨f, fd, h1.mono h, r⟩
theorem Fnc.imp {P : Program} {w : World} {K : PySem.W.Frag} {mg : Str → Option Value} {base : Heap} {x : Str} {k : Nat} {ps : List Str} {sp sp' : SpD} (F : Fnc P w K mg base x k ps sp) (h : ∀ ds G Q, sp' ds G Q → sp ds G Q) : Fnc P w K mg base x k ps sp' := by
  obtain ⟨f, fd, h1, r⟩ := F.ex
  exact ⟨f, fd, h1.imp fun vs H Q E ⟨ds, G, ι, Qd, a, b, c, d, e⟩ => ⟨ds, G, ι, Qd, a, b, c, h _ _ _ d, e⟩, r⟩
end DL
namespace DL
open PySem PySem.Spec L2
section
variable {G : GD} {b c : Bool} {i j : Int} {x y : Str} {xs ys : List Dt} {k l : Nat} {s : String} {d e : Dt}
theorem isi_non : isiD s .non = false := rfl
theorem isi_bl : isiD s (.bl b) = (s == "bool" || s == "int") := rfl
theorem isi_int : isiD s (.int i) = (s == "int") := rfl
theorem isi_str : isiD s (.str x) = (s == "str") := rfl
theorem isi_tup : isiD s (.tup xs) = (s == "tuple") := rfl
theorem isi_ref : isiD s (.ref k) = false := rfl
theorem tru_non : truD G .non = some false := rfl
theorem tru_bl : truD G (.bl b) = some b := rfl
theorem tru_int : truD G (.int i) = some (i != 0) := rfl
theorem tru_tup : truD G (.tup xs) = some (!xs.isEmpty) := rfl
theorem tru_ref : truD G (.ref k) = match G[k]? with
    | some (.lst xs) => some (!xs.isEmpty)
    | some (.fz xs) => some (!xs.isEmpty)
    | some (.dct kvs) => some (!kvs.isEmpty)
    | _ => none := rfl
theorem len_tup : lenD G (.tup xs) = some xs.length := rfl
theorem len_ref : lenD G (.ref k) = match G[k]? with
    | some (.lst xs) => some xs.length
    | some (.fz xs) => some xs.length
    | some (.dct kvs) => some kvs.length
    | _ => none := rfl
theorem at_tup : atD G (.tup xs) (.int i) = atI xs i := rfl
theorem at_ref : atD G (.ref k) (.int i) = match G[k]? with
    | some (.lst xs) => atI xs i
    | some (.fz xs) => atI xs i
    | some (.dct kvs) => valD kvs (.inl i)
    | _ => none := rfl
theorem at_refs : atD G (.ref k) (.str x) = match G[k]? with
    | some (.dct kvs) => valD kvs (.inr x)
    | _ => none := rfl
theorem is_non_non : isD .non .non = true := rfl
theorem is_bl_bl : isD (.bl b) (.bl c) = (b == c) := rfl
theorem is_bl_non : isD (.bl b) .non = false := rfl
theorem is_non_bl : isD .non (.bl b) = false := rfl
theorem is_int_non : isD (.int i) .non = false := rfl
theorem is_str_non : isD (.str x) .non = false := rfl
theorem is_tup_non : isD (.tup xs) .non = false := rfl
theorem is_ref_non : isD (.ref k) .non = false := rfl
theorem is_int_bl : isD (.int i) (.bl b) = false := rfl
theorem is_str_bl : isD (.str x) (.bl b) = false := rfl
theorem is_tup_bl : isD (.tup xs) (.bl b) = false := rfl
theorem is_ref_bl : isD (.ref k) (.bl b) = false := rfl
theorem eqs_int : eqS (.int i) (.int j) = some (decide (i = j)) := rfl
theorem eqs_str : eqS (.str x) (.str y) = some (decide (x = y)) := rfl
theorem eqs_bl : eqS (.bl b) (.bl c) = some (decide (b = c)) := rfl
theorem seq_tup : seqD G (.tup xs) = some xs := rfl
theorem seq_ref : seqD G (.ref k) = cellL G k := rfl
theorem atI_0 : atI (d :: xs) 0 = some d := by
  unfold atI ixN
  rw [if_pos (by decide), if_pos (by rw [List.length_cons]; omega)]
  rfl
theorem atI_1 : atI (d :: e :: xs) 1 = some e := by
  unfold atI ixN
  rw [if_pos (by decide), if_pos (by rw [List.length_cons, List.length_cons]; omega)]
  rfl
theorem atI_2 {f : Dt} : atI (d :: e :: f :: xs) 2 = some f := by
  unfold atI ixN
  rw [if_pos (by decide), if_pos (by rw [List.length_cons, List.length_cons, List.length_cons]; omega)]
  rfl
theorem succ_eq0 : decide (((k + 1 : Nat) : Int) = 0) = false := decide_eq_false (by omega)
theorem zero_eq0 : decide (((0 : Nat) : Int) = 0) = true := rfl
theorem get_endz {J : GD} : (G ++ J)[G.length]? = J[0]? := by
  rw [List.getElem?_append_right (Nat.le_refl _), Nat.sub_self]
theorem get_endj {J : GD} {j : Nat} : (G ++ J)[G.length + j]? = J[j]? := by
  rw [List.getElem?_append_right (by omega), show G.length + j - G.length = j by omega]
theorem set_endz {J : GD} {c : Cl} : (G ++ J).set G.length c = G ++ J.set 0 c := by
  rw [List.set_append_right _ _ (Nat.le_refl _), Nat.sub_self]
theorem set_endj {J : GD} {j : Nat} {c : Cl} : (G ++ J).set (G.length + j) c = G ++ J.set j c := by
  rw [List.set_append_right _ _ (by omega), show G.length + j - G.length = j by omega]
end
end DL
namespace DL
open PySem PySem.Spec L2
open PyProof.Rows hiding St
/-! ### data as Python's own, compared whole -/
mutual
def pyD : Dt → PyData
  | .non => .none
  | .bl b => .bool b
  | .int i => .int i
  | .str x => .str x
  | .tup ds => .tuple (pyDs ds)
  | .ref _ => .none
def pyDs : List Dt → List PyData
  | [] => []
  | d :: ds => pyD d :: pyDs ds
end
mutual
/-- no lists, no dicts; texts of signs -/
def lay : Dt → Bool
  | .str x => PyData.canLay0 (.str x)
  | .tup ds => lays ds
  | .ref _ => false
  | _ => true
def lays : List Dt → Bool
  | [] => true
  | d :: ds => lay d && lays ds
end
mutual
theorem lay_can : ∀ d : Dt, lay d = true → (pyD d).canLay0 = true
  | .non, _ => rfl
  | .bl _, _ => rfl
  | .int _, _ => rfl
  | .str _, h => h
  | .tup ds, h => lays_can ds h
  | .ref _, h => by cases h
theorem lays_can : ∀ ds : List Dt, lays ds = true → PyData.canLayAll0 (pyDs ds) = true
  | [], _ => rfl
  | d :: ds, h => by
    have h' : lay d = true ∧ lays ds = true := by simpa [lays] using h
    show (PyData.canLay0 (pyD d) && PyData.canLayAll0 (pyDs ds)) = true
    rw [lay_can d h'.1, lays_can ds h'.2]; rfl
end
section
variable {X : Cx} {pins : List (Addr × Obj)} {σ : L2.St} {H : Hp} {s : Shared} {ι : List Addr} {G : GD}
mutual
theorem reads_d (I : Inv X pins σ H s) : ∀ (d : Dt) (v : V) (u : Value), lay d = true → Rp X.K H ι d v → RelV v u → ∃ as, Reads s.heap u (pyD d) as
  | .non, v, u, _, r, q => by
    have e : v = V.non := r
    subst e
    cases (show u = Value.none from q)
    exact ⟨_, .none⟩
  | .bl b, v, u, _, r, q => by
    have e : v = V.bl b := r
    subst e
    cases (show u = Value.bool b from q)
    exact ⟨_, .bool b⟩
  | .int i, v, u, _, r, q => by
    have e : v = V.int i := r
    subst e
    obtain ⟨t, rfl⟩ := (show ∃ t, u = Value.int i t from q)
    exact ⟨_, .int i t⟩
  | .str x, v, u, _, r, q => by
    have e : v = V.str x := r
    subst e
    obtain ⟨t, rfl⟩ := (show ∃ t, u = Value.str x t from q)
    exact ⟨_, .str x t⟩
  | .tup ds, v, u, h, r, q => by
    obtain ⟨a, vs, e, sq, rr⟩ := r
    subst e
    cases (show u = Value.ref a from q)
    obtain ⟨its, rv, p, hz⟩ := I.tuple sq
    obtain ⟨o, ho, hc, n, hd⟩ := p
    obtain ⟨as, ra⟩ := reads_ds I ds vs its h rr rv
    exact ⟨as, .tuple ho hc hd (by simpa using ra)⟩
  | .ref _, _, _, h, _, _ => by cases h
theorem reads_ds (I : Inv X pins σ H s) : ∀ (ds : List Dt) (vs : List V) (us : List Value), lays ds = true → Rps X.K H ι ds vs → Vals vs us → ∃ as, ReadsAll s.heap us (pyDs ds) as
  | [], vs, us, _, r, q => by
    have e : vs = [] := r
    subst e
    cases q
    exact ⟨_, .nil⟩
  | d :: ds, vs, us, h, r, q => by
    obtain ⟨v, vr, e, r1, r2⟩ := r
    subst e
    cases q with
    | cons q1 q2 =>
      have h' : lay d = true ∧ lays ds = true := by simpa [lays] using h
      obtain ⟨as, ra⟩ := reads_d I d v _ h'.1 r1 q1
      obtain ⟨bs, rb⟩ := reads_ds I ds vr _ h'.2 r2 q2
      exact ⟨_, .cons ra rb⟩
end
def pyG (G : GD) : Dt → Option PyData
  | .ref i => match cellL G i with
    | some xs => if lays xs = true then some (.list (pyDs xs)) else none
    | none => none
  | d => if lay d = true then some (pyD d) else none
theorem reads_g (I : Inv X pins σ H s) (hG : HG X.K G H ι) {d : Dt} {a : PyData} {v : V} {u : Value} (e : pyG G d = some a) (r : Rp X.K H ι d v) (q : RelV v u) : a.canLay0 = true ∧ ∃ as, Reads s.heap u a as := by
  have plain : ∀ d', d' = d → (∀ i, d' ≠ .ref i) → a.canLay0 = true ∧ ∃ as, Reads s.heap u a as := fun d' hd hn => by
    subst hd
    have e' : (if lay d' = true then some (pyD d') else none) = some a := by
      cases d' with
      | ref i => exact absurd rfl (hn i)
      | _ => exact e
    by_cases hl : lay d' = true
    · rw [if_pos hl] at e'
      cases e'
      exact ⟨lay_can d' hl, reads_d I d' v u hl r q⟩
    · rw [if_neg hl] at e'; cases e'
  cases d with
  | ref i =>
    cases ex : cellL G i with
    | none => simp [pyG, ex] at e
    | some xs =>
      have e' : (if lays xs = true then some (PyData.list (pyDs xs)) else none) = some a := by simpa only [pyG, ex] using e
      by_cases hl : lays xs = true
      · rw [if_pos hl] at e'
        cases e'
        obtain ⟨p, e1, q1⟩ := r
        subst e1
        cases (show u = Value.ref p from q)
        obtain ⟨vs, sq, rr⟩ := cellL_sq hG q1 ex
        obtain ⟨its, rv, pl, hz⟩ := I.list sq
        obtain ⟨o, ho, hc, n, hd⟩ := pl.isList
        obtain ⟨as, ra⟩ := reads_ds I xs vs its hl rr rv
        exact ⟨lays_can xs hl, _, .list ho hc hd (by simpa using ra)⟩
      · rw [if_neg hl] at e'; cases e'
  | _ => exact plain _ rfl fun i h => by cases h
def PyV (K : PySem.W.Frag) (H : Hp) (x : V) (a : PyData) : Prop := ∃ G ι d, HG K G H ι ∧ Rp K H ι d x ∧ pyG G d = some a
def rEqP (K : PySem.W.Frag) (neg : Bool) : R2 := fun x y H Q => ∃ a b, PyV K H x a ∧ PyV K H y b ∧ min a.depth b.depth ≤ 60 ∧ Q (.bl (neg ^^ PyData.eqv a b)) H
theorem op_neP (hu : X.A.units + 64 < cLine) : OpR X (compareOp .NotEq) (rEqP X.K true) := by
  intro pins s σ H x y v u Q I rx ry ⟨a, b, ⟨G1, ι1, d1, h1, r1, e1⟩, ⟨G2, ι2, d2, h2, r2, e2⟩, hd, q⟩
  obtain ⟨ca, as, ra⟩ := reads_g I h1 e1 r1 rx
  obtain ⟨cb, bs, rb⟩ := reads_g I h2 e2 r2 ry
  refine SeqAt.compareNe_reads ra rb ca cb (by omega) ⟨.bl _, H, I, rfl, ?_⟩
  rw [Bool.true_xor] at q
  exact q
def itemsP : PyData → Option (List PyData)
  | .list xs => some xs
  | .tuple xs => some xs
  | _ => none
def rInP (K : PySem.W.Frag) (neg : Bool) : R2 := fun x y H Q => ∃ a b xs, PyV K H x a ∧ PyV K H y b ∧ itemsP b = some xs ∧ a.depth ≤ 60 ∧ Q (.bl (neg ^^ xs.any fun z => PyData.eqv z a)) H
theorem op_notinP (hu : X.A.units + 64 < cLine) : OpR X (compareOp .NotIn) (rInP X.K true) := by
  intro pins s σ H x y v u Q I rx ry ⟨a, b, xs, ⟨G1, ι1, d1, h1, r1, e1⟩, ⟨G2, ι2, d2, h2, r2, e2⟩, hi, hd, q⟩
  obtain ⟨ca, as, ra⟩ := reads_g I h1 e1 r1 rx
  obtain ⟨cb, bs, rb⟩ := reads_g I h2 e2 r2 ry
  rw [Bool.true_xor] at q
  cases b with
  | list ys =>
    cases hi
    exact SeqAt.notIn_list_reads rb ra cb ca (by omega) ⟨.bl _, H, I, rfl, q⟩
  | tuple ys =>
    cases hi
    exact SeqAt.notIn_tuple_reads rb ra cb ca (by omega) ⟨.bl _, H, I, rfl, q⟩
  | _ => cases hi
def rdEqP0 (neg : Bool) : RD2 := fun x y G Q => match pyG G x, pyG G y with
  | some a, some b => min a.depth b.depth ≤ 60 ∧ Q (.bl (neg ^^ PyData.eqv a b)) G
  | _, _ => False
def rdInP0 (neg : Bool) : RD2 := fun x y G Q => match pyG G x, (pyG G y).bind itemsP with
  | some a, some xs => a.depth ≤ 60 ∧ Q (.bl (neg ^^ xs.any fun z => PyData.eqv z a)) G
  | _, _ => False
structure rdEqP (neg : Bool) (x y : Dt) (G : GD) (Q : KD) : Prop where
  p : rdEqP0 neg x y G Q
structure rdInP (neg : Bool) (x y : Dt) (G : GD) (Q : KD) : Prop where
  p : rdInP0 neg x y G Q
theorem l2_eqP {K : PySem.W.Frag} {neg : Bool} : L2R K (rEqP K neg) (rdEqP neg) := by
  intro G H ι d1 d2 v1 v2 Q Qv hG r1 r2 h hq
  replace h := h.p; unfold rdEqP0 at h
  split at h
  · rename_i a b e1 e2
    exact ⟨a, b, ⟨G, ι, d1, hG, r1, e1⟩, ⟨G, ι, d2, hG, r2, e2⟩, h.1, hq _ H (.bl _) G ι hG Gr.refl rfl h.2⟩
  · exact h.elim
theorem l2_inP {K : PySem.W.Frag} {neg : Bool} : L2R K (rInP K neg) (rdInP neg) := by
  intro G H ι d1 d2 v1 v2 Q Qv hG r1 r2 h hq
  replace h := h.p; unfold rdInP0 at h
  split at h
  · rename_i a xs e1 e2
    cases e3 : pyG G d2 with
    | none => rw [e3] at e2; cases e2
    | some b =>
      rw [e3] at e2
      exact ⟨a, b, xs, ⟨G, ι, d1, hG, r1, e1⟩, ⟨G, ι, d2, hG, r2, e3⟩, e2, h.1, hq _ H (.bl _) G ι hG Gr.refl rfl h.2⟩
  · exact h.elim
end
section
variable {X : Cx} {F : Fx} {a b : Expr} {ta tb : TDE} {pos : Pos} {k : Nat}
theorem dt_neP (hr : Room k X.A) (ha : DE X F a ta) (hb : DE X F b tb) : DT X F (.Compare a [.NotEq] [b] pos) (dTest (dOp (rdEqP true) ta tb)) := li2T l2_eqP (pt_cmpR (op_neP hr.units) ha hb (nomark _))
theorem dt_neP' (hr : Room k X.A) (ha : DE' X F a ta) (hb : DE' X F b tb) : DT' X F (.Compare a [.NotEq] [b] pos) (dTest (dOp (rdEqP true) ta tb)) :=
  ⟨dt_neP (hr := hr) (ha := ha.p) (hb := hb.p)⟩
theorem dt_notin (hr : Room k X.A) (ha : DE X F a ta) (hb : DE X F b tb) (hm : behindInMarks .NotIn b = false := by rfl) : DT X F (.Compare a [.NotIn] [b] pos) (dTest (dOp (rdInP true) ta tb)) := li2T l2_inP (pt_cmpR (op_notinP hr.units) ha hb hm)
theorem dt_notin' (hr : Room k X.A) (ha : DE' X F a ta) (hb : DE' X F b tb) (hm : behindInMarks .NotIn b = false := by rfl) : DT' X F (.Compare a [.NotIn] [b] pos) (dTest (dOp (rdInP true) ta tb)) :=
  ⟨dt_notin (hr := hr) (ha := ha.p) (hb := hb.p) (hm := hm)⟩
end
end DL
namespace ZT
open PySem
end ZT
namespace L2
open PySem PySem.Spec PyProof.Rows
end L2
namespace DL
open PySem PySem.Spec L2
open PyProof.Rows hiding St
end DL
namespace DL
open PySem PySem.Spec L2
open PyProof.Rows hiding St
theorem bt_sum : bootBuiltins "sum" = some (.builtin "sum") := by decide +kernel
theorem bt_min : bootBuiltins "min" = some (.builtin "min") := by decide +kernel
theorem bt_max : bootBuiltins "max" = some (.builtin "max") := by decide +kernel
/-! ### ints among data -/
def intsD : List Dt → Option (List Int)
  | [] => some []
  | .int i :: r => (intsD r).map fun is => i :: is
  | _ :: _ => none
theorem intsD_map (ns : List Int) : intsD (ns.map Dt.int) = some ns := by
  induction ns with
  | nil => rfl
  | cons b bs ih => rw [List.map_cons]; show (intsD (bs.map Dt.int)).map _ = _; rw [ih]; rfl
theorem intsD_rps {K : PySem.W.Frag} {H : Hp} {ι : List Addr} : ∀ {xs : List Dt} {ns : List Int} {vs : List V}, intsD xs = some ns → Rps K H ι xs vs → vs = ns.map V.int
  | [], ns, vs, h, r => by
    have e : vs = [] := r
    cases h
    exact e
  | d :: xs, ns, vs, h, r => by
    obtain ⟨v, vr, e, r1, r2⟩ := r
    cases d with
    | int b =>
      have h' : (intsD xs).map (fun is => b :: is) = some ns := h
      cases hb : intsD xs with
      | none => rw [hb] at h'; cases h'
      | some bs' =>
        rw [hb] at h'
        cases h'
        rw [e, intsD_rps hb r2, show v = V.int b from r1]
        rfl
    | _ => cases h
section
variable {X : Cx} {F : Fx} {e o a b : Expr} {es : List Expr} {t : TDA} {pos p : Pos} {x : Str} {ta tb to : TDE}
/-! ### sum of a tuple of ints -/
theorem call_sumT (hc : X.calm = true) : CallR X (.builtin "sum") (fun xs H Q => ∃ (p : Addr) (ns : List Int), xs = [V.ref p] ∧ SqT X.K H p (ns.map V.int) ∧ Q (.int ns.sum) H) := by
  intro pins s σ H xs us Q I r h
  obtain ⟨p, ns, rfl, hp, q⟩ := h
  obtain ⟨u, rfl, ru⟩ := vals1 r
  cases ru
  obtain ⟨its, rv, pl, hz⟩ := I.tuple hp
  have hi := intsAre_of rv
  have hn : numsOf its.toArray.toList = ns := by rw [show its.toArray.toList = its from rfl, hi.numsOf]
  obtain ⟨xs, hx⟩ := hi.allInts.items
  have hl : s.heap.IsTuple p (intItems xs) := hx ▸ pl
  rw [hx, nums_intItems] at hn
  refine PySem.W.ktm_sumG (I.ok.hd hc) hl fun h' tk t' hk => ?_
  rw [preSum_eq, List.take_of_length_le (by simp), hn]
  exact ⟨.int ns.sum, H, I.kept (t' := tk) hk, ⟨_, rfl⟩, q⟩
def rdSum0 : RDA := fun ds G Q => match ds with
  | [.tup xs] => match intsD xs with
    | some ns => Q (.int ns.sum) G
    | none => False
  | _ => False
structure rdSum (ds : List Dt) (G : GD) (Q : KD) : Prop where
  p : rdSum0 ds G Q
theorem rdSum_eq {ds : List Dt} {G : GD} {Q : KD} : rdSum ds G Q = rdSum0 ds G Q := propext ⟨fun h => h.p, fun h => ⟨h⟩⟩
theorem rdSum_of {xs : List Dt} {ns : List Int} {G : GD} {Q : KD} (h : intsD xs = some ns) (hq : Q (.int ns.sum) G) : rdSum [.tup xs] G Q := by
  rw [rdSum_eq]; unfold rdSum0
  simp only [h]
  exact hq
theorem l_sum {K : PySem.W.Frag} : LCR K (fun xs H Q => ∃ (p : Addr) (ns : List Int), xs = [V.ref p] ∧ SqT K H p (ns.map V.int) ∧ Q (.int ns.sum) H) rdSum := by
  intro G H ι ds vs Q Qv hG r h hq
  replace h := h.p; unfold rdSum0 at h
  split at h
  · rename_i xs
    obtain ⟨v, e, rv⟩ := rps1 r
    subst e
    obtain ⟨a, ws, e1, s, rr⟩ := rv
    subst e1
    split at h
    · rename_i ns en
      have e2 := intsD_rps en rr
      subst e2
      exact ⟨a, ns, rfl, s, hq _ H (.int ns.sum) G ι hG Gr.refl rfl h⟩
    · exact h.elim
  · exact h.elim
theorem de_sum (ha : DA X F [e] t) (hm : X.mg "sum" = none) (hg : Gl X "sum" := by rfl) (hc : X.calm = true := by rfl) (he : starEach [e] X.env = (false, eval e X.env) :: starEach [] X.env := by exact star_cons rfl) (hpl : (backTo pos (starEach [] X.env)).any (·.1) = false := by exact back_any rfl) : DE X F (.Call (.Name "sum" p) [e] [] pos) (dCB rdSum t) :=
  de_callB (call_sumT hc) l_sum bt_sum ha hm hg (by decide) (by decide) he hpl
theorem de_sum' (ha : DA' X F [e] t) (hm : X.mg "sum" = none) (hg : Gl X "sum" := by rfl) (hc : X.calm = true := by rfl) (he : starEach [e] X.env = (false, eval e X.env) :: starEach [] X.env := by exact star_cons rfl) (hpl : (backTo pos (starEach [] X.env)).any (·.1) = false := by exact back_any rfl) : DE' X F (.Call (.Name "sum" p) [e] [] pos) (dCB rdSum t) :=
  ⟨de_sum (ha := ha.p) (hm := hm) (hg := hg) (hc := hc) (he := he) (hpl := hpl)⟩
/-! ### min, max: of two ints, of a list of ints -/
def lowI : List Int → Int
  | [] => 0
  | [i] => i
  | i :: j :: r => min i (lowI (j :: r))
def topI : List Int → Int
  | [] => 0
  | [i] => i
  | i :: j :: r => max i (topI (j :: r))
theorem lowI_spec : ∀ {ns : List Int}, ns ≠ [] → lowI ns ∈ ns ∧ ∀ a ∈ ns, lowI ns ≤ a
  | [], h => absurd rfl h
  | [i], _ => ⟨List.mem_cons_self, fun a h => by simp at h; rw [h]; exact Int.le_refl _⟩
  | i :: j :: r, _ => by
    obtain ⟨h1, h2⟩ := lowI_spec (ns := j :: r) (by simp)
    show min i (lowI (j :: r)) ∈ _ ∧ ∀ a ∈ _, min i (lowI (j :: r)) ≤ a
    constructor
    · by_cases h : i ≤ lowI (j :: r)
      · rw [Int.min_eq_left h]; exact List.mem_cons_self
      · rw [Int.min_eq_right (by omega)]; exact List.mem_cons_of_mem _ h1
    · intro a ha
      rcases List.mem_cons.mp ha with rfl | ha
      · exact Int.min_le_left _ _
      · exact Int.le_trans (Int.min_le_right _ _) (h2 a ha)
theorem topI_spec : ∀ {ns : List Int}, ns ≠ [] → topI ns ∈ ns ∧ ∀ a ∈ ns, a ≤ topI ns
  | [], h => absurd rfl h
  | [i], _ => ⟨List.mem_cons_self, fun a h => by simp at h; rw [h]; exact Int.le_refl _⟩
  | i :: j :: r, _ => by
    obtain ⟨h1, h2⟩ := topI_spec (ns := j :: r) (by simp)
    show max i (topI (j :: r)) ∈ _ ∧ ∀ a ∈ _, a ≤ max i (topI (j :: r))
    constructor
    · by_cases h : topI (j :: r) ≤ i
      · rw [Int.max_eq_left h]; exact List.mem_cons_self
      · rw [Int.max_eq_right (by omega)]; exact List.mem_cons_of_mem _ h1
    · intro a ha
      rcases List.mem_cons.mp ha with rfl | ha
      · exact Int.le_max_left _ _
      · exact Int.le_trans (h2 a ha) (Int.le_max_right _ _)
theorem low_uniq {ns : List Int} {M : Int} (h1 : M ∈ ns) (h2 : ∀ a, a ∈ ns → M ≤ a) : M = lowI ns := by
  obtain ⟨a, b⟩ := lowI_spec (ns := ns) (List.ne_nil_of_mem h1)
  exact Int.le_antisymm (h2 _ a) (b _ h1)
theorem top_uniq {ns : List Int} {M : Int} (h1 : M ∈ ns) (h2 : ∀ a, a ∈ ns → a ≤ M) : M = topI ns := by
  obtain ⟨a, b⟩ := topI_spec (ns := ns) (List.ne_nil_of_mem h1)
  exact Int.le_antisymm (b _ h1) (h2 _ a)
theorem call_minL (hc : X.calm = true) : CallR X (.builtin "min") (fun xs H Q => ∃ (p : Addr) (ns : List Int), xs = [V.ref p] ∧ SqL X.K H p (ns.map V.int) ∧ ns ≠ [] ∧ Q (.int (lowI ns)) H) := by
  intro pins s σ H xs us Q I r h
  obtain ⟨p, ns, rfl, hp, hne, q⟩ := h
  obtain ⟨u, rfl, ru⟩ := vals1 r
  cases ru
  obtain ⟨its, rv, pl, hz⟩ := I.list hp
  have hi := intsAre_of rv
  obtain ⟨xs, e⟩ := hi.allInts.items
  have hns : ns = xs.toList.map (·.1) := by rw [← hi.numsOf, ← nums_intItems, ← e]
  have hl := pl.isList
  have hsz : 0 < xs.size := by
    have h3 := List.length_pos_iff.mpr hne; rw [hns, List.length_map, Array.length_toList] at h3; exact h3
  rw [e] at hl
  refine min_intList (I.ok.hd hc) hl hsz fun v h' tk hv hk => ?_
  obtain ⟨t, rfl⟩ := intItems_at hv
  obtain ⟨h1, h2⟩ := argBest_lt (numAt xs) (xs.size - 1)
  have m1 : numAt xs (argBest (fun i j => decide (numAt xs i < numAt xs j)) (xs.size - 1)) ∈ ns := by
    rw [hns, numAt_eq]; exact getD_mem (by rw [List.length_map, Array.length_toList]; omega)
  have m2 : ∀ a, a ∈ ns → numAt xs (argBest (fun i j => decide (numAt xs i < numAt xs j)) (xs.size - 1)) ≤ a := fun a ha => by
    rw [hns] at ha
    obtain ⟨j, hj, rfl⟩ := mem_getD ha
    rw [List.length_map, Array.length_toList] at hj
    rw [← numAt_eq]; exact h2 j (by omega)
  rw [low_uniq m1 m2]
  exact ⟨.int (lowI ns), H, I.kept (t' := tk) hk, ⟨_, rfl⟩, q⟩
theorem call_maxL (hc : X.calm = true) : CallR X (.builtin "max") (fun xs H Q => ∃ (p : Addr) (ns : List Int), xs = [V.ref p] ∧ SqL X.K H p (ns.map V.int) ∧ ns ≠ [] ∧ Q (.int (topI ns)) H) := by
  intro pins s σ H xs us Q I r h
  obtain ⟨p, ns, rfl, hp, hne, q⟩ := h
  obtain ⟨u, rfl, ru⟩ := vals1 r
  cases ru
  obtain ⟨its, rv, pl, hz⟩ := I.list hp
  have hi := intsAre_of rv
  obtain ⟨xs, e⟩ := hi.allInts.items
  have hns : ns = xs.toList.map (·.1) := by rw [← hi.numsOf, ← nums_intItems, ← e]
  have hl := pl.isList
  have hsz : 0 < xs.size := by
    have h3 := List.length_pos_iff.mpr hne; rw [hns, List.length_map, Array.length_toList] at h3; exact h3
  rw [e] at hl
  refine max_intList (I.ok.hd hc) hl hsz fun v h' tk hv hk => ?_
  obtain ⟨t, rfl⟩ := intItems_at hv
  obtain ⟨h1, h2⟩ := argBest_gt (numAt xs) (xs.size - 1)
  have m1 : numAt xs (argBest (fun i j => decide (numAt xs i > numAt xs j)) (xs.size - 1)) ∈ ns := by
    rw [hns, numAt_eq]; exact getD_mem (by rw [List.length_map, Array.length_toList]; omega)
  have m2 : ∀ a, a ∈ ns → a ≤ numAt xs (argBest (fun i j => decide (numAt xs i > numAt xs j)) (xs.size - 1)) := fun a ha => by
    rw [hns] at ha
    obtain ⟨j, hj, rfl⟩ := mem_getD ha
    rw [List.length_map, Array.length_toList] at hj
    rw [← numAt_eq]; exact h2 j (by omega)
  rw [top_uniq m1 m2]
  exact ⟨.int (topI ns), H, I.kept (t' := tk) hk, ⟨_, rfl⟩, q⟩
def rdMM0 (f2 : Int → Int → Int) (fl : List Int → Int) : RDA := fun ds G Q => match ds with
  | [.int i, .int j] => Q (.int (f2 i j)) G
  | [.ref i] => match (cellL G i).bind intsD with
    | some ns => ns ≠ [] ∧ Q (.int (fl ns)) G
    | none => False
  | _ => False
structure rdMM (f2 : Int → Int → Int) (fl : List Int → Int) (ds : List Dt) (G : GD) (Q : KD) : Prop where
  p : rdMM0 f2 fl ds G Q
theorem rdMM_two {f2 : Int → Int → Int} {fl : List Int → Int} {i j : Int} {G : GD} {Q : KD} (hq : Q (.int (f2 i j)) G) : rdMM f2 fl [.int i, .int j] G Q := ⟨hq⟩
theorem rdMM_ref {f2 : Int → Int → Int} {fl : List Int → Int} {i : Nat} {xs : List Dt} {ns : List Int} {G : GD} {Q : KD} (e : cellL G i = some xs) (h : intsD xs = some ns) (hne : ns ≠ []) (hq : Q (.int (fl ns)) G) : rdMM f2 fl [.ref i] G Q := by
  refine ⟨?_⟩
  simp only [rdMM0, e, Option.bind_some, h]
  exact ⟨hne, hq⟩
theorem l_mm {K : PySem.W.Frag} {f2 : Int → Int → Int} {fl : List Int → Int} : LCR K (fun xs H Q => (∃ i j, xs = [V.int i, V.int j] ∧ Q (.int (f2 i j)) H) ∨ ∃ (p : Addr) (ns : List Int), xs = [V.ref p] ∧ SqL K H p (ns.map V.int) ∧ ns ≠ [] ∧ Q (.int (fl ns)) H) (rdMM f2 fl) := by
  intro G H ι ds vs Q Qv hG r h hq
  replace h := h.p
  unfold rdMM0 at h
  split at h
  · rename_i i j
    obtain ⟨v, v', e, r1, r2⟩ := rps2 r
    subst e
    have e1 : v = V.int i := r1
    have e2 : v' = V.int j := r2
    subst e1; subst e2
    exact .inl ⟨i, j, rfl, hq _ H (.int _) G ι hG Gr.refl rfl h⟩
  · rename_i i
    obtain ⟨v, e, rv⟩ := rps1 r
    subst e
    obtain ⟨a, e1, q⟩ := rv
    subst e1
    split at h
    · rename_i ns en
      cases ex : cellL G i with
      | none => rw [ex] at en; cases en
      | some xs =>
        rw [ex] at en
        obtain ⟨ws, s, rr⟩ := cellL_sq hG q ex
        have e2 := intsD_rps en rr
        subst e2
        exact .inr ⟨a, ns, rfl, s, h.1, hq _ H (.int _) G ι hG Gr.refl rfl h.2⟩
    · exact h.elim
  · exact h.elim
def min2 (i j : Int) : Int := if j < i then j else i
def max2 (i j : Int) : Int := if j > i then j else i
theorem de_min (ha : DA X F (e :: es) t) (hm : X.mg "min" = none) (hg : Gl X "min" := by rfl) (hc : X.calm = true := by rfl) (he : starEach (e :: es) X.env = (false, eval e X.env) :: starEach es X.env := by exact star_cons rfl) (hpl : (backTo pos (starEach es X.env)).any (·.1) = false := by exact back_any rfl) : DE X F (.Call (.Name "min" p) (e :: es) [] pos) (dCB (rdMM min2 lowI) t) :=
  de_callB (CallR.or (call_min2 hc) (call_minL hc)) (l_mm (f2 := min2) (fl := lowI)) bt_min ha hm hg (by decide) (by decide) he hpl
theorem de_min' (ha : DA' X F (e :: es) t) (hm : X.mg "min" = none) (hg : Gl X "min" := by rfl) (hc : X.calm = true := by rfl) (he : starEach (e :: es) X.env = (false, eval e X.env) :: starEach es X.env := by exact star_cons rfl) (hpl : (backTo pos (starEach es X.env)).any (·.1) = false := by exact back_any rfl) : DE' X F (.Call (.Name "min" p) (e :: es) [] pos) (dCB (rdMM min2 lowI) t) :=
  ⟨de_min (ha := ha.p) (hm := hm) (hg := hg) (hc := hc) (he := he) (hpl := hpl)⟩
theorem de_max (ha : DA X F (e :: es) t) (hm : X.mg "max" = none) (hg : Gl X "max" := by rfl) (hc : X.calm = true := by rfl) (he : starEach (e :: es) X.env = (false, eval e X.env) :: starEach es X.env := by exact star_cons rfl) (hpl : (backTo pos (starEach es X.env)).any (·.1) = false := by exact back_any rfl) : DE X F (.Call (.Name "max" p) (e :: es) [] pos) (dCB (rdMM max2 topI) t) :=
  de_callB (CallR.or (call_max2 hc) (call_maxL hc)) (l_mm (f2 := max2) (fl := topI)) bt_max ha hm hg (by decide) (by decide) he hpl
theorem de_max' (ha : DA' X F (e :: es) t) (hm : X.mg "max" = none) (hg : Gl X "max" := by rfl) (hc : X.calm = true := by rfl) (he : starEach (e :: es) X.env = (false, eval e X.env) :: starEach es X.env := by exact star_cons rfl) (hpl : (backTo pos (starEach es X.env)).any (·.1) = false := by exact back_any rfl) : DE' X F (.Call (.Name "max" p) (e :: es) [] pos) (dCB (rdMM max2 topI) t) :=
  ⟨de_max (ha := ha.p) (hm := hm) (hg := hg) (hc := hc) (he := he) (hpl := hpl)⟩
/-! ### int(..) of an int or a truth -/
def rdIntOf : RDA := fun ds G Q => match ds with
  | [.int i] => Q (.int i) G
  | [.bl b] => Q (.int (if b then 1 else 0)) G
  | _ => False
theorem l_intOf {K : PySem.W.Frag} : LCR K (fun xs H Q => (∃ i, xs = [V.int i] ∧ Q (.int i) H) ∨ ∃ k, xs = [V.bl k] ∧ Q (.int (if k then 1 else 0)) H) rdIntOf := by
  intro G H ι ds vs Q Qv hG r h hq
  unfold rdIntOf at h
  split at h
  · rename_i i
    obtain ⟨v, e, rv⟩ := rps1 r
    subst e
    have e1 : v = V.int i := rv
    subst e1
    exact .inl ⟨i, rfl, hq _ H (.int i) G ι hG Gr.refl rfl h⟩
  · rename_i b
    obtain ⟨v, e, rv⟩ := rps1 r
    subst e
    have e1 : v = V.bl b := rv
    subst e1
    exact .inr ⟨b, rfl, hq _ H (.int _) G ι hG Gr.refl rfl h⟩
  · exact h.elim
theorem de_intof (ha : DA X F [e] t) (hm : X.mg "int" = none) (hg : Gl X "int" := by rfl) (he : starEach [e] X.env = (false, eval e X.env) :: starEach [] X.env := by exact star_cons rfl) (hpl : (backTo pos (starEach [] X.env)).any (·.1) = false := by exact back_any rfl) : DE X F (.Call (.Name "int" p) [e] [] pos) (dCB rdIntOf t) :=
  de_callTy call_int1 l_intOf bt_int ha hm hg (by decide) (by decide) he hpl
theorem de_intof' (ha : DA' X F [e] t) (hm : X.mg "int" = none) (hg : Gl X "int" := by rfl) (he : starEach [e] X.env = (false, eval e X.env) :: starEach [] X.env := by exact star_cons rfl) (hpl : (backTo pos (starEach [] X.env)).any (·.1) = false := by exact back_any rfl) : DE' X F (.Call (.Name "int" p) [e] [] pos) (dCB rdIntOf t) :=
  ⟨de_intof (ha := ha.p) (hm := hm) (hg := hg) (he := he) (hpl := hpl)⟩
/-! ### a builtin's method over data -/
def LMR (K : PySem.W.Frag) (r : V → List V → Hp → VK → Prop) (rd : Dt → List Dt → GD → KD → Prop) : Prop :=
  ∀ (G : GD) (H : Hp) (ι : List Addr) (d : Dt) (ds : List Dt) (v : V) (vs : List V) (Q : KD) (Qv : VK), HG K G H ι → Rp K H ι d v → Rps K H ι ds vs → rd d ds G Q →
    (∀ v' H' d' G' ι', HG K G' H' ι' → Gr K H ι H' ι' → Rp K H' ι' d' v' → Q d' G' → Qv v' H') → r v vs H Qv
def isTupD : GD → Dt → Prop := fun _ d => ∃ xs, d = .tup xs
def isLstD : GD → Dt → Prop := fun G d => ∃ i xs, d = .ref i ∧ cellL G i = some xs
theorem isTupD_ty {K : PySem.W.Frag} {G : GD} {H : Hp} {ι : List Addr} {d : Dt} {v : V} (hG : HG K G H ι) (r : Rp K H ι d v) (h : isTupD G d) : tyV K "tuple" v H := by
  obtain ⟨xs, rfl⟩ := h
  obtain ⟨a, vs, rfl, s, rr⟩ := r
  exact .inr (.inl ⟨rfl, vs, s⟩)
theorem isLstD_ty {K : PySem.W.Frag} {G : GD} {H : Hp} {ι : List Addr} {d : Dt} {v : V} (hG : HG K G H ι) (r : Rp K H ι d v) (h : isLstD G d) : tyV K "list" v H := by
  obtain ⟨i, xs, rfl, e⟩ := h
  obtain ⟨a, rfl, q⟩ := r
  obtain ⟨vs, s, rr⟩ := cellL_sq hG q e
  exact .inl ⟨rfl, vs, s⟩
def dBM (ty : GD → Dt → Prop) (rd : Dt → List Dt → GD → KD → Prop) (to : TDE) (t : TDA) : TDE := fun σ G Q => to σ G fun x G1 => ty G1 x ∧ t σ G1 fun ds G2 => rd x ds G2 Q
theorem de_bm {name : Str} {T id : String} {ty : GD → Dt → Prop} {r : V → List V → Hp → VK → Prop} {rd : Dt → List Dt → GD → KD → Prop} {apos cpos : Pos} (pa : PlainAttrs T) (slot : Slot T name id) (hty : typeOf (.builtin id) = pure (.type "method_descriptor")) (hm : MtR X id r)
    (hl : LMR X.K r rd) (hT : ∀ {G H ι d v}, HG X.K G H ι → Rp X.K H ι d v → ty G d → tyV X.K T v H) (ho : DE X F o to) (ha : DA X F (e :: es) t)
    (hbase : attributeBase o name X.env (eval o X.env) = eval o X.env := by rfl)
    (hfew : ((backTo cpos (starEach (e :: es) X.env)).all (fun x => !x.1) && (backToKw cpos (keywordEach [] X.env)).all (fun x => x.1.isSome)
      && decide ((e :: es).length + ([] : List Keyword).length + (if ([] : List Keyword).isEmpty then 0 else 1) < 30)) = true := by rfl)
    (hline : (apos.endLine == cpos.line) = true := by rfl) (hs : starEach (e :: es) X.env = (false, eval e X.env) :: starEach es X.env := by exact star_cons rfl) (hplain : (backTo cpos (starEach es X.env)).any (·.1) = false := by exact back_any rfl) :
    DE X F (.Call (.Attribute o name apos) (e :: es) [] cpos) (dBM ty rd to t) := by
  refine PE.imp (pe_bm pa slot hty hm ho ha hbase hfew hline hs hplain) fun σ H Qv ⟨σd, G, ι, Q, ok, ht, hq⟩ => ?_
  refine ⟨σd, G, ι, _, ok, ht, fun v H1 d1 G1 ι1 h1 g1 r1 q1 => ⟨hT h1 r1 q1.1, σd, G1, ι1, _, ok.to h1 g1, q1.2, fun us H2 ds G2 ι2 h2 g2 r2 q2 => ?_⟩⟩
  exact hl G2 H2 ι2 d1 ds v us _ _ h2 (r1.up g2) r2 q2 fun v' H' d' G' ι' h' g' r' q' => hq v' H' d' G' ι' h' (g1.trans (g2.trans g')) r' q'
/-! ### tuple.count, list.index, tuple.index: of flat items -/
theorem countP_eqU {x : V} : ∀ {xs : List V} {us : List Value}, Vals xs us → xs.all flatV = true → us.countP (eqU x) = xs.countP fun y => eqV y x
  | _, _, .nil, _ => rfl
  | _, _, .cons (a := y) (b := u) r t, f => by
    simp only [List.all_cons, Bool.and_eq_true] at f
    rw [List.countP_cons, List.countP_cons, countP_eqU t f.2, eqU_of r f.1]
def rCount (K : PySem.W.Frag) : V → List V → Hp → VK → Prop := fun x vs H Q => ∃ p ys y, x = .ref p ∧ vs = [y] ∧ SqT K H p ys ∧ flatV y = true ∧ ys.all flatV = true ∧ Q (.int (ys.countP fun z => eqV z y : Nat)) H
theorem mt_count : MtR X "tuple.count" (rCount X.K) := by
  intro pins s σ H x xs v us Q I rx rs h
  obtain ⟨p, ys, y, rfl, rfl, hp, fy, fs, q⟩ := h
  cases rx
  obtain ⟨u, rfl, ru⟩ := vals1 rs
  obtain ⟨its, r, pl, hz⟩ := I.tuple hp
  obtain ⟨⟨cls, dd, data, sl⟩, ho, hc, n, hd⟩ := id pl
  simp only at hc hd
  subst hc hd
  refine call_meets PySem.F.slot_tuple_count ⟨_, ho, rfl⟩ PySem.F.entry_tuple_count (PySem.F.args_tuple_count_2 _ _) (SeqAt.tuple_countAt p its.toArray n dd sl u (eqU y)) ⟨ho, fun w hw => mem_eqAt ru fy r fs w (by simpa using hw), ?_⟩
  rw [show its.toArray.toList = its from rfl, countP_eqU r fs]
  exact ⟨.int _, H, I.tok _, ⟨_, rfl⟩, q⟩
def rIndexL (K : PySem.W.Frag) : V → List V → Hp → VK → Prop := fun x vs H Q => ∃ p ys y, x = .ref p ∧ vs = [y] ∧ SqL K H p ys ∧ flatV y = true ∧ ys.all flatV = true ∧ (ys.findIdx fun z => eqV z y) < ys.length ∧ Q (.int (ys.findIdx fun z => eqV z y : Nat)) H
theorem eqU_at {x : V} : ∀ {xs : List V} {us : List Value}, Vals xs us → xs.all flatV = true → ∀ (j : Nat) (h1 : j < us.length) (h2 : j < xs.length), eqU x us[j] = eqV xs[j] x
  | _, _, .nil, _, j, h1, _ => absurd h1 (Nat.not_lt_zero _)
  | _, _, .cons (a := y) (b := u) r t, f, 0, _, _ => by
    simp only [List.all_cons, Bool.and_eq_true] at f
    exact eqU_of r f.1
  | _, _, .cons (a := y) (b := u) r t, f, j + 1, h1, h2 => by
    simp only [List.all_cons, Bool.and_eq_true] at f
    exact eqU_at t f.2 j (Nat.lt_of_succ_lt_succ h1) (Nat.lt_of_succ_lt_succ h2)
theorem mt_indexL : MtR X "list.index" (rIndexL X.K) := by
  intro pins s σ H x xs v us Q I rx rs h
  obtain ⟨p, ys, y, rfl, rfl, hp, fy, fs, hj, q⟩ := h
  cases rx
  obtain ⟨u, rfl, ru⟩ := vals1 rs
  obtain ⟨its, r, pl, hz⟩ := I.list hp
  obtain ⟨⟨cls, dd, data, sl⟩, ho, hc, n, hd⟩ := id pl.isList
  simp only at hc hd
  subst hc hd
  have hl := r.length
  have hs : sizeLine = 16777216 := sizeLine_eq
  refine call_meets PySem.F.slot_list_index ⟨_, ho, rfl⟩ PySem.F.entry_list_index (PySem.F.args_list_index_2 _ _)
    (SeqAt.list_indexAt p its.toArray n dd sl u (eqU y) (ys.findIdx fun z => eqV z y) (by simp; omega) (by omega) ?_ ?_) ⟨ho, fun w hw => mem_eqAt ru fy r fs w (by simpa using hw), ⟨.int _, H, I.tok _, ⟨_, rfl⟩, q⟩⟩
  · show eqU y its[ys.findIdx fun z => eqV z y] = true
    rw [eqU_at r fs _ (by omega) hj]
    exact List.findIdx_getElem (w := hj)
  · intro m hm hlt
    show eqU y its[m] = false
    rw [eqU_at r fs m (by simpa using hm) (by omega)]
    simpa using List.not_of_lt_findIdx hlt
def flatD : Dt → Bool
  | .tup _ => false
  | .ref _ => false
  | _ => true
def eqF : Dt → Dt → Bool
  | .non, .non => true
  | .bl a, .bl b => a == b
  | .bl a, .int b => (if a then 1 else 0) == b
  | .int a, .bl b => a == (if b then 1 else 0)
  | .int a, .int b => a == b
  | .str a, .str b => a == b
  | _, _ => false
theorem flat_rp {K : PySem.W.Frag} {H : Hp} {ι : List Addr} {d : Dt} {v : V} (h : flatD d = true) (r : Rp K H ι d v) : flatV v = true := by
  cases d with
  | tup _ => cases h
  | ref _ => cases h
  | non => have e : v = V.non := r; rw [e]; rfl
  | bl b => have e : v = V.bl b := r; rw [e]; rfl
  | int b => have e : v = V.int b := r; rw [e]; rfl
  | str b => have e : v = V.str b := r; rw [e]; rfl
theorem eqF_rp {K : PySem.W.Frag} {H : Hp} {ι : List Addr} {d d' : Dt} {v v' : V} (h : flatD d = true) (h' : flatD d' = true) (r : Rp K H ι d v) (r' : Rp K H ι d' v') : eqV v v' = eqF d d' := by
  have at1 : ∀ {d : Dt} {v : V}, flatD d = true → Rp K H ι d v → (d = .non ∧ v = .non) ∨ (∃ b, d = .bl b ∧ v = .bl b) ∨ (∃ b, d = .int b ∧ v = .int b) ∨ ∃ b, d = .str b ∧ v = .str b := fun {d v} h r => by
    cases d with
    | tup _ => cases h
    | ref _ => cases h
    | non => exact .inl ⟨rfl, r⟩
    | bl b => exact .inr (.inl ⟨b, rfl, r⟩)
    | int b => exact .inr (.inr (.inl ⟨b, rfl, r⟩))
    | str b => exact .inr (.inr (.inr ⟨b, rfl, r⟩))
  rcases at1 h r with ⟨rfl, rfl⟩ | ⟨b, rfl, rfl⟩ | ⟨b, rfl, rfl⟩ | ⟨b, rfl, rfl⟩ <;> rcases at1 h' r' with ⟨rfl, rfl⟩ | ⟨c, rfl, rfl⟩ | ⟨c, rfl, rfl⟩ | ⟨c, rfl, rfl⟩ <;> rfl
theorem flats_rp {K : PySem.W.Frag} {H : Hp} {ι : List Addr} : ∀ {ds : List Dt} {vs : List V}, ds.all flatD = true → Rps K H ι ds vs → vs.all flatV = true
  | [], vs, _, r => by have e : vs = [] := r; rw [e]; rfl
  | d :: ds, vs, h, r => by
    obtain ⟨v, vr, e, r1, r2⟩ := r
    simp only [List.all_cons, Bool.and_eq_true] at h
    rw [e, List.all_cons, flat_rp h.1 r1, flats_rp h.2 r2]; rfl
theorem countP_rp {K : PySem.W.Frag} {H : Hp} {ι : List Addr} {d : Dt} {v : V} (hd : flatD d = true) (rd : Rp K H ι d v) : ∀ {ds : List Dt} {vs : List V}, ds.all flatD = true → Rps K H ι ds vs → (vs.countP fun z => eqV z v) = ds.countP fun z => eqF z d
  | [], vs, _, r => by have e : vs = [] := r; rw [e]; rfl
  | d' :: ds, vs, h, r => by
    obtain ⟨v', vr, e, r1, r2⟩ := r
    simp only [List.all_cons, Bool.and_eq_true] at h
    rw [e, List.countP_cons, List.countP_cons, countP_rp hd rd h.2 r2, eqF_rp h.1 hd r1 rd]
theorem findIdx_rp {K : PySem.W.Frag} {H : Hp} {ι : List Addr} {d : Dt} {v : V} (hd : flatD d = true) (rd : Rp K H ι d v) : ∀ {ds : List Dt} {vs : List V}, ds.all flatD = true → Rps K H ι ds vs → (vs.findIdx fun z => eqV z v) = ds.findIdx fun z => eqF z d
  | [], vs, _, r => by have e : vs = [] := r; rw [e]; rfl
  | d' :: ds, vs, h, r => by
    obtain ⟨v', vr, e, r1, r2⟩ := r
    simp only [List.all_cons, Bool.and_eq_true] at h
    rw [e, List.findIdx_cons, List.findIdx_cons, findIdx_rp hd rd h.2 r2, eqF_rp h.1 hd r1 rd]
def rdCount0 : Dt → List Dt → GD → KD → Prop := fun x ds G Q => match x, ds with
  | .tup xs, [d] => flatD d = true ∧ xs.all flatD = true ∧ Q (.int (xs.countP fun z => eqF z d : Nat)) G
  | _, _ => False
structure rdCount (x : Dt) (ds : List Dt) (G : GD) (Q : KD) : Prop where
  p : rdCount0 x ds G Q
theorem rdCount_eq {x : Dt} {ds : List Dt} {G : GD} {Q : KD} : rdCount x ds G Q = rdCount0 x ds G Q := propext ⟨fun h => h.p, fun h => ⟨h⟩⟩
theorem rdCount_of {xs : List Dt} {d : Dt} {G : GD} {Q : KD} (h1 : flatD d = true) (h2 : xs.all flatD = true) (hq : Q (.int (xs.countP fun z => eqF z d : Nat)) G) : rdCount (.tup xs) [d] G Q := by
  rw [rdCount_eq]; unfold rdCount0
  exact ⟨h1, h2, hq⟩
theorem lm_count {K : PySem.W.Frag} : LMR K (rCount K) rdCount := by
  intro G H ι d ds v vs Q Qv hG r rs h hq
  replace h := h.p; unfold rdCount0 at h
  split at h
  · rename_i xs y
    obtain ⟨a, ws, e, s, rr⟩ := r
    subst e
    obtain ⟨u, e2, ru⟩ := rps1 rs
    subst e2
    obtain ⟨h1, h2, h3⟩ := h
    refine ⟨a, ws, u, rfl, rfl, s, flat_rp h1 ru, flats_rp h2 rr, ?_⟩
    rw [countP_rp h1 ru h2 rr]
    exact hq _ H (.int _) G ι hG Gr.refl rfl h3
  · exact h.elim
def rdIndexL0 : Dt → List Dt → GD → KD → Prop := fun x ds G Q => match x, ds with
  | .ref i, [d] => match cellL G i with
    | some xs => flatD d = true ∧ xs.all flatD = true ∧ (xs.findIdx fun z => eqF z d) < xs.length ∧ Q (.int (xs.findIdx fun z => eqF z d : Nat)) G
    | none => False
  | _, _ => False
structure rdIndexL (x : Dt) (ds : List Dt) (G : GD) (Q : KD) : Prop where
  p : rdIndexL0 x ds G Q
theorem rdIndexL_eq {x : Dt} {ds : List Dt} {G : GD} {Q : KD} : rdIndexL x ds G Q = rdIndexL0 x ds G Q := propext ⟨fun h => h.p, fun h => ⟨h⟩⟩
theorem rdIndexL_of {i : Nat} {xs : List Dt} {d : Dt} {G : GD} {Q : KD} (e : cellL G i = some xs) (h1 : flatD d = true) (h2 : xs.all flatD = true) (h3 : (xs.findIdx fun z => eqF z d) < xs.length) (hq : Q (.int (xs.findIdx fun z => eqF z d : Nat)) G) : rdIndexL (.ref i) [d] G Q := by
  rw [rdIndexL_eq]; unfold rdIndexL0
  simp only [e]
  exact ⟨h1, h2, h3, hq⟩
theorem rdIndexL_at {i n : Nat} {xs : List Dt} {d : Dt} {G : GD} {Q : KD} (e : cellL G i = some xs) (h1 : flatD d = true) (h2 : xs.all flatD = true) (h3 : (xs.findIdx fun z => eqF z d) = n) (hn : n < xs.length) (hq : Q (.int (n : Nat)) G) : rdIndexL (.ref i) [d] G Q := by
  refine rdIndexL_of e h1 h2 (by rw [h3]; exact hn) ?_
  rw [h3]
  exact hq
theorem lm_indexL {K : PySem.W.Frag} : LMR K (rIndexL K) rdIndexL := by
  intro G H ι d ds v vs Q Qv hG r rs h hq
  replace h := h.p; unfold rdIndexL0 at h
  split at h
  · rename_i i y
    obtain ⟨a, e, q⟩ := r
    subst e
    obtain ⟨u, e2, ru⟩ := rps1 rs
    subst e2
    split at h
    · rename_i xs ex
      obtain ⟨ws, s, rr⟩ := cellL_sq hG q ex
      obtain ⟨h1, h2, h3, h4⟩ := h
      refine ⟨a, ws, u, rfl, rfl, s, flat_rp h1 ru, flats_rp h2 rr, ?_, ?_⟩
      · rw [findIdx_rp h1 ru h2 rr, ← rr.len]; exact h3
      · rw [findIdx_rp h1 ru h2 rr]
        exact hq _ H (.int _) G ι hG Gr.refl rfl h4
    · exact h.elim
  · exact h.elim
theorem de_count {apos cpos : Pos} (ho : DE X F o to) (ha : DA X F [e] t)
    (hbase : attributeBase o "count" X.env (eval o X.env) = eval o X.env := by rfl)
    (hfew : ((backTo cpos (starEach [e] X.env)).all (fun x => !x.1) && (backToKw cpos (keywordEach [] X.env)).all (fun x => x.1.isSome)
      && decide (([e] : List Expr).length + ([] : List Keyword).length + (if ([] : List Keyword).isEmpty then 0 else 1) < 30)) = true := by rfl)
    (hline : (apos.endLine == cpos.line) = true := by rfl) (hs : starEach [e] X.env = (false, eval e X.env) :: starEach [] X.env := by exact star_cons rfl) (hplain : (backTo cpos (starEach [] X.env)).any (·.1) = false := by exact back_any rfl) :
    DE X F (.Call (.Attribute o "count" apos) [e] [] cpos) (dBM isTupD rdCount to t) :=
  de_bm PySem.F.plainAttrs_tuple PySem.F.slot_tuple_count PySem.F.type_tuple_count mt_count lm_count isTupD_ty ho ha hbase hfew hline hs hplain
theorem de_count' {apos cpos : Pos} (ho : DE' X F o to) (ha : DA' X F [e] t)
    (hbase : attributeBase o "count" X.env (eval o X.env) = eval o X.env := by rfl)
    (hfew : ((backTo cpos (starEach [e] X.env)).all (fun x => !x.1) && (backToKw cpos (keywordEach [] X.env)).all (fun x => x.1.isSome)
      && decide (([e] : List Expr).length + ([] : List Keyword).length + (if ([] : List Keyword).isEmpty then 0 else 1) < 30)) = true := by rfl)
    (hline : (apos.endLine == cpos.line) = true := by rfl) (hs : starEach [e] X.env = (false, eval e X.env) :: starEach [] X.env := by exact star_cons rfl) (hplain : (backTo cpos (starEach [] X.env)).any (·.1) = false := by exact back_any rfl) : DE' X F (.Call (.Attribute o "count" apos) [e] [] cpos) (dBM isTupD rdCount to t) :=
  ⟨de_count (ho := ho.p) (ha := ha.p) (hbase := hbase) (hfew := hfew) (hline := hline) (hs := hs) (hplain := hplain)⟩
theorem de_indexL {apos cpos : Pos} (ho : DE X F o to) (ha : DA X F [e] t)
    (hbase : attributeBase o "index" X.env (eval o X.env) = eval o X.env := by rfl)
    (hfew : ((backTo cpos (starEach [e] X.env)).all (fun x => !x.1) && (backToKw cpos (keywordEach [] X.env)).all (fun x => x.1.isSome)
      && decide (([e] : List Expr).length + ([] : List Keyword).length + (if ([] : List Keyword).isEmpty then 0 else 1) < 30)) = true := by rfl)
    (hline : (apos.endLine == cpos.line) = true := by rfl) (hs : starEach [e] X.env = (false, eval e X.env) :: starEach [] X.env := by exact star_cons rfl) (hplain : (backTo cpos (starEach [] X.env)).any (·.1) = false := by exact back_any rfl) :
    DE X F (.Call (.Attribute o "index" apos) [e] [] cpos) (dBM isLstD rdIndexL to t) :=
  de_bm PySem.F.plainAttrs_list PySem.F.slot_list_index PySem.F.type_list_index mt_indexL lm_indexL isLstD_ty ho ha hbase hfew hline hs hplain
theorem de_indexL' {apos cpos : Pos} (ho : DE' X F o to) (ha : DA' X F [e] t)
    (hbase : attributeBase o "index" X.env (eval o X.env) = eval o X.env := by rfl)
    (hfew : ((backTo cpos (starEach [e] X.env)).all (fun x => !x.1) && (backToKw cpos (keywordEach [] X.env)).all (fun x => x.1.isSome)
      && decide (([e] : List Expr).length + ([] : List Keyword).length + (if ([] : List Keyword).isEmpty then 0 else 1) < 30)) = true := by rfl)
    (hline : (apos.endLine == cpos.line) = true := by rfl) (hs : starEach [e] X.env = (false, eval e X.env) :: starEach [] X.env := by exact star_cons rfl) (hplain : (backTo cpos (starEach [] X.env)).any (·.1) = false := by exact back_any rfl) : DE' X F (.Call (.Attribute o "index" apos) [e] [] cpos) (dBM isLstD rdIndexL to t) :=
  ⟨de_indexL (ho := ho.p) (ha := ha.p) (hbase := hbase) (hfew := hfew) (hline := hline) (hs := hs) (hplain := hplain)⟩
end
end DL
namespace L2
open PySem PySem.Spec PyProof.Rows
/-! ### a comprehension with one name of its own that a block within it reads -/
section
variable {M : Model} {A : Around} {E : Value → Shared → Prop} {s : Shared}
theorem newEnv1 {scope : Scope} {cl : List (Str × Addr)} {env : Env} {z : Str} {Q : Env → Shared → Prop} (hcf : ∀ n acc, cellsFrom n scope.names acc = (z, n) :: acc) (hpc : ∀ h : Heap, pushCells h scope.names = h.push { cls := .type "cell", data := .cell none })
    (h : ∀ h4 : Heap, h4.Ns s.heap.objs.size (fun _ => none) → (∀ b o, s.heap.get? b = some o → h4.get? b = some o) → h4.IsCell (s.heap.objs.size + 1) none →
      Q { scope := scope, locals := s.heap.objs.size, globals := env.globals, cells := (z, s.heap.objs.size + 1) :: cl, qual := env.qual, func := none, code := env.code, frame := env.frame, builtins := env.builtins } { s with heap := h4 }) :
    wpAny M A (newFunctionEnv scope env.globals cl [] env.qual none .none (some env)) Q E s := by
  simp only [newFunctionEnv, Option.isSome_some, if_true]
  refine wpAny_bind (wpAny_alloc ?_)
  refine wpAny_bind (wpAny_layCells _ (fun name kind cells => by cases hkc : kind == NameKind.cell <;> simp [hkc]) _ _ _ _ ?_)
  have hz : (s.heap.push { cls := .type "dict", data := .dict #[] }).objs.size = s.heap.objs.size + 1 := Heap.size_push ..
  simp only [List.forIn_nil]
  rw [hpc]
  refine wpAny_bind (wpAny_pure (wpAny_pure ?_))
  have := h ((s.heap.push { cls := .type "dict", data := .dict #[] }).push { cls := .type "cell", data := .cell none })
    ((Heap.Ns.new s.heap (.type "dict")).keeps fun b o e => Heap.get?_push_of_some _ e) (fun b o e => Heap.get?_push_of_some _ (Heap.get?_push_of_some _ e))
    ⟨_, by rw [← hz]; exact Heap.get?_push_size _ rfl, rfl⟩
  rw [hcf]
  simp only [hz]
  exact this
end
abbrev cmpX1 (X : Cx) (scope : Scope) (cl : List (Str × Addr)) (z : Str) (N' : List Str) (C : Addr) (s₀ : Shared) (H₀ : Hp) (ex : List Addr) (pn : List (Addr × Obj)) : Cx where
  prog := X.prog
  w := X.w
  K := X.K
  mg := X.mg
  base := X.base
  A := X.A
  N := N'
  s₀ := s₀
  H₀ := H₀
  env := compEnvC scope ((z, C + 1) :: cl) C X.env
  outer := X.stack
  stack := X.stack
  ex := ex
  fn := fun y => (cl.lookup y).isNone
  calm := X.calm
  pn := pn
  xe := fun _ _ => False
structure CmpOk1 (X : Cx) (scope : Scope) (cl : List (Str × Addr)) (z : Str) (N' : List Str) (caps : List (Option Nat)) : Prop where
  clos : closureFor scope X.env = pure cl
  hcf : ∀ n acc, cellsFrom n scope.names acc = (z, n) :: acc
  hpc : ∀ h : Heap, pushCells h scope.names = h.push { cls := .type "cell", data := .cell none }
  kind : scope.kind = .function
  names : ∀ y ∈ scope.names, y.2 = .local → scope.names.lookup y.1 = some .local
  lenN : N'.length = caps.length
  capN : ∀ (i j : Nat) (x : Str), caps[i]? = some (some j) → N'[i]? = some x → X.N[j]? = some x ∧ Vis X.env.scope x ∧ X.env.kindOf x ≠ some .local ∧ (relabel scope X.env).names.lookup x ≠ some .local ∧ x ≠ z ∧ ∃ c, cl.lookup x = some c ∧ X.env.cells.lookup x = some c
  cls : ∀ x c, cl.lookup x = some c → X.env.cells.lookup x = some c
  has : ∀ x, ((relabel scope X.env).names.lookup x = some .cell ∨ (relabel scope X.env).names.lookup x = some .free) → x = z ∨ ∃ c, cl.lookup x = some c
theorem pe_comp1 {X : Cx} {z : Str} {elt tg iter : Expr} {ifs : List Expr} {scope : Scope} {cl : List (Str × Addr)} {N' : List Str} {caps : List (Option Nat)} {pos : Pos} {wi : TI} {g : TG} {tif : TT} {te : TE} (c : CmpOk1 X scope cl z N' caps) (hcalm : X.calm = true) (hi : PI X tg iter wi)
    (hg : ∀ C s₀ H₀ ex pn, PG (cmpX1 X scope cl z N' C s₀ H₀ ex pn) tg g) (hf : ∀ C s₀ H₀ ex pn, PIf (cmpX1 X scope cl z N' C s₀ H₀ ex pn) ifs tif) (he : ∀ C s₀ H₀ ex pn, PE (cmpX1 X scope cl z N' C s₀ H₀ ex pn) elt te)
    (hs : ∀ x, foldedSetIterable iter X.env x = pure x := by intro _; rfl) : PE X (.ListComp elt [⟨tg, iter, ifs, 0⟩] scope pos) (tComp wi caps g tif te) := by
  intro pins s σ H Q I h
  rw [eval_ListComp]
  refine wpAny_comprehension_free (use := none) rfl hs c.clos c.kind c.names (thn (hi pins s σ H _ I h) fun v s1 h1 => thn h1 fun itv s2 h2 => ?_)
  obtain ⟨it, fp, tn, J, H2, e, I2, T, st2, f2, q2⟩ := h2
  subst e
  have hD := I2.hok.fresh (Nat.le_refl s2.heap.objs.size)
  obtain ⟨W, ⟨m0, w0⟩, turn⟩ := q2 s2.heap.objs.size hD
  refine wpAny_newObj_type ?_
  -- behind the new list
  have I3 : Inv X pins σ (upd H2 s2.heap.objs.size (.lst [])) { s2 with heap := s2.heap.push { cls := .type "list", dict := none, data := .seq ([] : List Value).toArray } } := I2.lnew (t' := s2.toks) (ys := []) .nil (Nat.zero_le _)
  generalize hs3 : ({ s2 with heap := s2.heap.push { cls := .type "list", dict := none, data := .seq ([] : List Value).toArray } } : Shared) = s3 at I3 ⊢
  generalize hH3 : upd H2 s2.heap.objs.size (.lst []) = H3 at I3 w0 ⊢
  have st3 : tn 0 s3.heap := T.keep _ _ _ st2 fun b _ o e => by rw [← hs3]; exact Heap.get?_push_of_some _ e
  refine newEnv1 c.hcf c.hpc fun h4 hns kp4 hz4 => ?_
  have s23 : ∀ b o, s2.heap.get? b = some o → s3.heap.get? b = some o := fun b o e => by rw [← hs3]; exact Heap.get?_push_of_some _ e
  have fplt : ∀ b ∈ fp, b < s3.heap.objs.size := fun b hb => by
    obtain ⟨o, e, _⟩ := T.obj _ _ st2 b hb
    exact Heap.lt_size (s23 b o e)
  have fpst : ∀ b ∈ fp, b ∉ frs X.stack := fun b hb z => by
    obtain ⟨_, f1, f3, _⟩ := f2 b hb
    rcases List.mem_cons.mp (I2.stkSub b z) with q | q
    · exact f1 q
    · exact f3 q
  have celk : ∀ {x : Str} {a : Addr}, cl.lookup x = some a → X.env.cells.lookup x = some a := fun h => c.cls _ _ h
  have celC : ∀ {x : Str} {a : Addr}, X.env.cells.lookup x = some a → a < s3.heap.objs.size := fun {x a} h => by
    obtain ⟨v, q⟩ := I3.cell x a h
    exact q.lt
  have isc : ∀ {a : Addr} {v : Option Value}, s3.heap.IsCell a v → h4.IsCell a v := fun {a v} ⟨o, e, d⟩ => ⟨o, kp4 _ _ e, d⟩
  have lkz : ∀ {x : Str} {a : Addr}, List.lookup x ((z, s3.heap.objs.size + 1) :: cl) = some a → (x = z ∧ a = s3.heap.objs.size + 1) ∨ (x ≠ z ∧ cl.lookup x = some a) := fun {x a} e => by
    by_cases hx : x = z
    · subst hx
      rw [List.lookup_cons_self] at e
      cases e
      exact .inl ⟨rfl, rfl⟩
    · rw [List.lookup_cons, (beq_eq_false_iff_ne.mpr hx : (x == z) = false)] at e
      exact .inr ⟨hx, e⟩
  have zof : ∀ {x : Str} {a : Addr}, x ≠ z → cl.lookup x = some a → List.lookup x ((z, s3.heap.objs.size + 1) :: cl) = some a := fun {x a} hx e => by
    rw [List.lookup_cons, (beq_eq_false_iff_ne.mpr hx : (x == z) = false)]; exact e
  have stat : ∀ {H' : Hp}, (∀ b ∈ fp, H' b = none) → ∀ b ∈ fp, FpOk (cmpX1 X scope cl z N' s3.heap.objs.size s3 H3 fp (X.pn ++ pins)) [] H' b := fun hn b hb => by
    obtain ⟨_, f1, f3, f4, f5, f6⟩ := f2 b hb
    refine ⟨hn b hb, Nat.ne_of_lt (fplt b hb), fpst b hb, .inl hb, fun x a e => ?_, fun p hp => ?_⟩
    · rcases lkz e with ⟨_, rfl⟩ | ⟨_, e⟩
      · exact Nat.ne_of_gt (Nat.lt_succ_of_lt (fplt b hb))
      · exact f5 x a (celk e)
    have hp' : p ∈ X.pn ++ pins := by simpa using hp
    exact f6 p hp'
  have I4 : Inv (cmpX1 X scope cl z N' s3.heap.objs.size s3 H3 fp (X.pn ++ pins)) [] (capt caps σ) H3 { s3 with heap := h4 } := by
    refine ⟨⟨I3.ok.mod, c.kind, I3.ok.glob, I3.ok.blt, Nat.le_refl _, fun x y a e1 e2 => ?_, fun x hx => ?_, fun x a hf e => ?_, I3.ok.hd, I3.ok.frames, .inl rfl, fun b hb => ⟨Nat.ne_of_lt (fplt b hb), fun x a e => ?_⟩,
      I3.bs, Nat.le_trans I3.ok.bsz I3.sz, fun b o e hb => ?_, fpst, I3.stack, I3.stkFree⟩, rfl, I3.bare, Un.kept kp4, ⟨_, hns, fun i x v e1 e2 e3 => ?_⟩, fun x a e => ?_, I3.hok.fresh (Nat.le_refl _), fun x a e => ?_, fun p hp => ?_, I3.hok.kept kp4, ?_⟩
    · rcases lkz e1 with ⟨rfl, q1⟩ | ⟨n1, q1⟩ <;> rcases lkz e2 with ⟨rfl, q2⟩ | ⟨n2, q2⟩
      · rfl
      · exact absurd (celC (celk q2)) (by rw [q1]; exact Nat.not_lt.mpr (Nat.le_succ _))
      · exact absurd (celC (celk q1)) (by rw [q2]; exact Nat.not_lt.mpr (Nat.le_succ _))
      · exact I3.ok.inj x y a (celk q1) (celk q2)
    · rcases c.has x hx with rfl | ⟨a, e⟩
      · exact ⟨_, List.lookup_cons_self⟩
      · by_cases hz : x = z
        · subst hz; exact ⟨_, List.lookup_cons_self⟩
        · exact ⟨a, zof hz e⟩
    · rcases lkz e with ⟨_, rfl⟩ | ⟨_, e'⟩
      · exact Nat.le_succ _
      · have hf' : (cl.lookup x).isNone = true := hf
        rw [e'] at hf'
        cases hf'
    · rcases lkz e with ⟨_, rfl⟩ | ⟨_, e⟩
      · exact Nat.ne_of_gt (Nat.lt_succ_of_lt (fplt b hb))
      · exact (f2 b hb).2.2.2.2.1 x a (celk e)
    · rcases (f2 b hb).2.2.2.1 with z | z
      · exact I3.ok.noex b o e z
      · exact absurd (Nat.lt_of_lt_of_le (Heap.lt_size e) (Nat.le_trans I3.ok.bsz z)) (Nat.lt_irrefl _)
    · unfold capt at e2
      rw [List.getElem?_map] at e2
      cases ec : caps[i]? with
      | none => rw [ec] at e2; cases e2
      | some cj =>
        rw [ec] at e2
        cases cj with
        | none => cases e2
        | some j =>
          have e2' : (σ[j]?).join = some v := Option.some.inj e2
          have ej : σ[j]? = some (some v) := by
            cases ex : σ[j]? with
            | none => rw [ex] at e2'; cases e2'
            | some o => rw [ex] at e2'; have : o = some v := e2'; rw [this]
          obtain ⟨n1, n2, n3, n4, n7, a, n5, n6⟩ := c.capN i j x ec e1
          obtain ⟨m0, hn0, hl0⟩ := I3.loc
          obtain ⟨u, ru, lk⟩ := hl0 j x v n1 ej n2
          refine ⟨u, ru, ?_⟩
          rcases lk with ⟨k1, _⟩ | ⟨_, a', k2, k3⟩
          · exact absurd k1 n3
          · rw [n6] at k2
            cases k2
            refine .inr ⟨?_, a, zof n7 n5, isc k3⟩
            rcases e3 with z | z
            · exact absurd z n4
            · exact z
    · rcases lkz e with ⟨_, rfl⟩ | ⟨_, e⟩
      · exact ⟨none, hz4⟩
      · obtain ⟨v, q⟩ := I3.cell x a (celk e)
        exact ⟨v, isc q⟩
    · rcases lkz e with ⟨_, rfl⟩ | ⟨_, e⟩
      · exact I3.hok.fresh (Nat.le_succ _)
      · exact I3.freeC x a (celk e)
    · have hp' : p ∈ X.pn ++ pins := by simpa using hp
      obtain ⟨p1, p2, p3, p4, p5⟩ := I3.pin p hp'
      refine ⟨kp4 _ _ p1, p2, Nat.ne_of_lt (Heap.lt_size p1), fun z => ?_, p5⟩
      rcases List.mem_cons.mp (I3.stkSub _ z) with q | q
      · exact p3 q
      · exact p4 q
    · show (capt caps σ).length = N'.length
      unfold capt
      rw [List.length_map, c.lenN]
  -- back to the outer body
  have back : ∀ {σ' : St} {H' : Hp} {s' : Shared} (h' : Heap), Inv (cmpX1 X scope cl z N' s3.heap.objs.size s3 H3 fp (X.pn ++ pins)) [] σ' H' s' → Heap.SameBut s3.heap.objs.size s'.heap h' → Inv X pins σ H' { s' with heap := h' } := fun {σ' H' s'} h' J hsb => by
    have J1 : Inv X pins σ H' s' := Inv.call' (ch := fp) I3 J.os J.base J.hok J.bare fun b hb => by
      obtain ⟨_, f1, f3, f4, f5, f6⟩ := f2 b hb
      exact ⟨f4, f1, f5, f6⟩
    refine J1.turned (t' := s'.toks) (it := s3.heap.objs.size) (fun b o hb e => hsb.extBut b o hb e) J.free (Nat.ne_of_gt I3.lt) (.inr I3.sz) (fun x a e z => ?_) fun p hp z => ?_
    · exact absurd (celC e) (by rw [z]; exact Nat.lt_irrefl _)
    · exact absurd (Heap.lt_size (I3.pin p hp).1) (by rw [z]; exact Nat.lt_irrefl _)
  have st4 : tn 0 h4 := T.keep _ _ _ st3 fun b _ o e => kp4 b o e
  have fr3 : ∀ b ∈ fp, H3 b = none := fun b hb => by
    rw [← hH3, upd_ne]
    · exact (f2 b hb).1
    · obtain ⟨o, e, _⟩ := T.obj _ _ st2 b hb
      exact Nat.ne_of_lt (Heap.lt_size e)
  have loop : ∀ s4 : Shared, s4 = { s3 with heap := h4 } →
      codeAny (model X.prog X.w) X.A (.compLoop (.ListComp elt [⟨tg, iter, ifs, 0⟩] scope pos) 0 (.ref it) (.ref s2.heap.objs.size) (compEnvC scope ((z, s3.heap.objs.size + 1) :: cl) s3.heap.objs.size X.env))
        (compPost (model X.prog X.w) X.A X.xe none (EP X pins σ Q) (.ref s2.heap.objs.size) s3.heap.objs.size) s4 := by
    rintro s4 rfl
    refine compLoop_any (fun n s => ∃ i σ' H, Inv (cmpX1 X scope cl z N' s3.heap.objs.size s3 H3 fp (X.pn ++ pins)) [] σ' H s ∧ tn i s.heap ∧ (∀ b ∈ fp, H b = none) ∧ W i n σ' H) ?_ m0 ⟨0, capt caps σ, H3, I4, st4, fr3, w0⟩
    rintro n s5 ⟨i, σ5, H5, I5, st5, fr5, w5⟩
    rcases turn i n σ5 H5 w5 with ⟨stop, q5⟩ | ⟨go, step⟩
    · refine thn (T.done (cmpX1 X scope cl z N' s3.heap.objs.size s3 H3 fp (X.pn ++ pins)) rfl rfl rfl hcalm i [] s5 σ5 H5 (fun _ _ => False) I5 (stat fr5) st5 stop) fun r s6 ⟨hr, I6⟩ => ?_
      subst hr
      obtain ⟨m6, hn6, _⟩ := I6.loc
      exact ⟨m6, hn6, fun h' hsb' => ⟨.ref s2.heap.objs.size, H5, back h' I6 hsb', rfl, q5⟩⟩
    · refine thn (T.item (cmpX1 X scope cl z N' s3.heap.objs.size s3 H3 fp (X.pn ++ pins)) rfl rfl rfl hcalm i [] s5 σ5 H5 (fun _ _ => False) I5 (stat fr5) st5 go) fun r s6 ⟨u, hr, h6⟩ => ?_
      subst hr
      refine thn h6 fun _ s7 ⟨x, H7, I7, r7, y7, st7, fr7⟩ => ?_
      have I7' := I7.pinned (stat fr7) (T.obj _ _ st7)
      refine thn (hg _ _ _ _ _ _ s7 σ5 H7 x u _ I7' r7 (step x H7 y7)) fun _ s8 ⟨σ8, H8, I8, q8⟩ => ?_
      refine thn (hf _ _ _ _ _ _ s8 σ8 H8 _ I8 q8) fun ok s9 ⟨H9, I9, q9⟩ => ?_
      have again : ∀ {s' : Shared} {m' : Nat} {σ' : St} {H' : Hp}, Inv (cmpX1 X scope cl z N' s3.heap.objs.size s3 H3 fp (X.pn ++ pins)) ([] ++ pinsAt fp s7.heap) σ' H' s' → m' < n → W (i + 1) m' σ' H' →
          ∃ m, m < n ∧ ∃ i σ' H, Inv (cmpX1 X scope cl z N' s3.heap.objs.size s3 H3 fp (X.pn ++ pins)) [] σ' H s' ∧ tn i s'.heap ∧ (∀ b ∈ fp, H b = none) ∧ W i m σ' H := fun {s' m' σ' H'} J hm hw => by
        refine ⟨m', hm, i + 1, σ', H', J.unpinned, T.keep _ _ _ st7 fun b hb o e => (J.pin (b, o) (List.mem_append_right _ (List.mem_append_right _ (mem_pinsAt hb e)))).1, fun b hb => ?_, hw⟩
        obtain ⟨o, e, d⟩ := T.obj _ _ st7 b hb
        exact (J.pin (b, o) (List.mem_append_right _ (List.mem_append_right _ (mem_pinsAt hb e)))).2.1
      cases ok with
      | false =>
        rw [if_neg Bool.false_ne_true] at q9 ⊢
        obtain ⟨m', hm, hw⟩ := q9
        exact again I9 hm hw
      | true =>
        rw [if_pos rfl] at q9 ⊢
        refine thn (he _ _ _ _ _ _ s9 σ8 H9 _ I9 q9) fun uy s10 ⟨y, H10, I10, ry, acc, hD10, hlen, m', hm, hw⟩ => ?_
        refine thn (mt_append _ s10 σ8 H10 (.ref s2.heap.objs.size) [y] (.ref s2.heap.objs.size) [uy] (fun v H' => v = .non ∧ H' = upd H10 s2.heap.objs.size (.lst (acc ++ [y]))) I10 rfl (.cons ry .nil) ⟨_, acc, y, rfl, rfl, hD10, hlen, rfl, rfl⟩) fun _ s11 ⟨v11, H11, I11, r11, e11, e12⟩ => ?_
        subst e12
        exact again I11 hm hw
  exact codeAny_compStart_list (loop _ rfl) (T.self _ 0 _ _ _ st4 (loop _ rfl))
end L2

namespace DL
open PySem PySem.Spec L2
open PyProof.Rows hiding St
theorem de_comp1 {X : Cx} {z : Str} {F : Fx} {elt tg iter : Expr} {ifs : List Expr} {scope : Scope} {cl : List (Str × Addr)} {N' : List Str} {caps : List (Option Nat)} {pos : Pos} {ti : TDI} {g : TDG} {tif : TDT} {te : TDE} (c : CmpOk1 X scope cl z N' caps) (hi : DI X F tg iter ti)
    (hg : ∀ C s₀ H₀ ex pn F, DG (cmpX1 X scope cl z N' C s₀ H₀ ex pn) F tg g) (hf : ∀ C s₀ H₀ ex pn F, DIf (cmpX1 X scope cl z N' C s₀ H₀ ex pn) F ifs tif) (he : ∀ C s₀ H₀ ex pn F, DE (cmpX1 X scope cl z N' C s₀ H₀ ex pn) F elt te) (hcalm : X.calm = true := by rfl)
    (hs : ∀ x, foldedSetIterable iter X.env x = pure x := by intro _; rfl) : DE X F (.ListComp elt [⟨tg, iter, ifs, 0⟩] scope pos) (dComp ti caps g tif te) := by
  exact PE.imp (pe_comp1 (g := exG X.K g) (tif := exT X.K tif) (te := exE X.K te) c hcalm hi (fun C s₀ H₀ ex pn pins s σ H v u Q I r ⟨F, q⟩ => hg C s₀ H₀ ex pn F pins s σ H v u Q I r q)
    (fun C s₀ H₀ ex pn pins s σ H Q I ⟨F, q⟩ => hf C s₀ H₀ ex pn F pins s σ H Q I q) (fun C s₀ H₀ ex pn pins s σ H Q I ⟨F, q⟩ => he C s₀ H₀ ex pn F pins s σ H Q I q) hs) fun σ H Qv h => comp_li h
theorem de_comp1' {X : Cx} {z : Str} {F : Fx} {elt tg iter : Expr} {ifs : List Expr} {scope : Scope} {cl : List (Str × Addr)} {N' : List Str} {caps : List (Option Nat)} {pos : Pos} {ti : TDI} {g : TDG} {tif : TDT} {te : TDE} (c : CmpOk1 X scope cl z N' caps) (hi : DI' X F tg iter ti)
    (hg : ∀ C s₀ H₀ ex pn F, DG' (cmpX1 X scope cl z N' C s₀ H₀ ex pn) F tg g) (hf : ∀ C s₀ H₀ ex pn F, DIf' (cmpX1 X scope cl z N' C s₀ H₀ ex pn) F ifs tif) (he : ∀ C s₀ H₀ ex pn F, DE' (cmpX1 X scope cl z N' C s₀ H₀ ex pn) F elt te) (hcalm : X.calm = true := by rfl)
    (hs : ∀ x, foldedSetIterable iter X.env x = pure x := by intro _; rfl) : DE' X F (.ListComp elt [⟨tg, iter, ifs, 0⟩] scope pos) (dComp ti caps g tif te) :=
  ⟨de_comp1 (c := c) (hi := hi.p) (hg := fun C s₀ H₀ ex pn F => (hg C s₀ H₀ ex pn F).p) (hf := fun C s₀ H₀ ex pn F => (hf C s₀ H₀ ex pn F).p) (he := fun C s₀ H₀ ex pn F => (he C s₀ H₀ ex pn F).p) (hcalm := hcalm) (hs := hs)⟩
end DL
namespace DL
open PySem PySem.Spec L2
open PyProof.Rows hiding St
/-! ### facts for a walk by hand -/
theorem at_last {G : GD} {c : Cl} : (G ++ [c])[G.length]? = some c := by simp
theorem at_prev {G : GD} {c d : Cl} {i : Nat} (h : G[i]? = some c) : (G ++ [d])[i]? = some c := by
  rw [List.getElem?_append_left (by have := (List.getElem?_eq_some_iff.mp h).1; exact this)]
  exact h
theorem at_more {G J : GD} {c : Cl} {i : Nat} (h : G[i]? = some c) : (G ++ J)[i]? = some c := by
  rw [List.getElem?_append_left (by have := (List.getElem?_eq_some_iff.mp h).1; exact this)]
  exact h
theorem at_set {G : GD} {c d : Cl} {i : Nat} (h : G[i]? = some c) : (G.set i d)[i]? = some d := by
  have := (List.getElem?_eq_some_iff.mp h).1
  simp [this]
theorem len_lst {G : GD} {k : Nat} {xs : List Dt} (h : G[k]? = some (.lst xs)) : lenD G (.ref k) = some xs.length := by simp only [lenD, h]
theorem atD_lst {G : GD} {k : Nat} {i : Int} {xs : List Dt} (h : G[k]? = some (.lst xs)) : atD G (.ref k) (.int i) = atI xs i := by simp only [atD, h]
theorem cell_lst {G : GD} {k : Nat} {xs : List Dt} (h : G[k]? = some (.lst xs)) : cellL G k = some xs := by simp only [cellL, h]
theorem cell_fz {G : GD} {k : Nat} {xs : List Dt} (h : G[k]? = some (.fz xs)) : cellL G k = some xs := by simp only [cellL, h]
/-- cells have come, none of the old has changed -/
def Grw (G G' : GD) : Prop := ∃ J, G' = G ++ J
theorem Grw.refl {G : GD} : Grw G G := ⟨[], by simp⟩
theorem Grw.push {G G' : GD} {c : Cl} (h : Grw G G') : Grw G (G' ++ [c]) := by
  obtain ⟨J, rfl⟩ := h
  exact ⟨J ++ [c], by simp⟩
theorem Grw.more {G G' J : GD} (h : Grw G G') : Grw G (G' ++ J) := by
  obtain ⟨J', rfl⟩ := h
  exact ⟨J' ++ J, by simp⟩
theorem Grw.len {G G' : GD} (h : Grw G G') : G.length ≤ G'.length := by
  obtain ⟨J, rfl⟩ := h
  simp
theorem Grw.trans {G G1 G2 : GD} (a : Grw G G1) (b : Grw G1 G2) : Grw G G2 := by
  obtain ⟨J, rfl⟩ := a
  obtain ⟨J', rfl⟩ := b
  exact ⟨J ++ J', by simp⟩
theorem Grw.set {G G' : GD} {c : Cl} {i : Nat} (h : Grw G G') (hi : G.length ≤ i) : Grw G (G'.set i c) := by
  obtain ⟨J, rfl⟩ := h
  exact ⟨J.set (i - G.length) c, by rw [List.set_append_right _ _ hi]⟩
theorem Grw.at {G G' : GD} {c : Cl} {i : Nat} (h : Grw G G') (e : G[i]? = some c) : G'[i]? = some c := by
  obtain ⟨J, rfl⟩ := h
  exact at_more e
theorem Grw.take {G G' : GD} (h : Grw G G') : G'.take G.length = G := by
  obtain ⟨J, rfl⟩ := h
  simp
theorem cellNe {o : Option NameKind} (h : o = some .cell) : o ≠ some .local := by rw [h]; exact fun z => nomatch z
/-- a loop by its invariant -/
theorem lp_ind {n0 : Nat} {g : TDG} {tb : TDS} {D : EndsD} {W : GD → Prop} (I : List Dt → SD → GD → Prop) (h0 : ∀ σ G, I [] σ G → W G ∧ D.nx σ G)
    (h1 : ∀ d r (K : SD → GD → Prop), (∀ σ G, I r σ G → K σ G) → ∀ σ G, I (d :: r) σ G → W G ∧ g d σ G fun σ2 G2 => tb { D with nx := Wk n0 K, ct := Wk n0 K, bk := D.nx } σ2 G2) : ∀ ds σ G, I ds σ G → lp n0 g tb D W ds σ G := by
  intro ds
  induction ds with
  | nil => exact fun σ G h => h0 σ G h
  | cons d r ih => exact fun σ G h => h1 d r _ ih σ G h
theorem lpc_ind {n : Nat} {g : TDG} {tif : TDT} {te : TDE} {W : GD → Prop} {Q : KD} (I : List Dt → SD → GD → Prop) (h0 : ∀ σ G, I [] σ G → W G ∧ Q (.ref n) G)
    (h1 : ∀ d r (K : SD → GD → Prop), (∀ σ G, I r σ G → K σ G) → ∀ σ G, I (d :: r) σ G → W G ∧ g d σ G fun σ2 G2 => tif σ2 G2 fun b G3 => if b = true then te σ2 G3 fun y G4 => gather n y G4 (Wk (n + 1) K σ2) else Wk (n + 1) K σ2 G3) : ∀ ds σ G, I ds σ G → lpc n g tif te W Q ds σ G := by
  intro ds
  induction ds with
  | nil => exact fun σ G h => h0 σ G h
  | cons d r ih => exact fun σ G h => h1 d r _ ih σ G h
theorem iteFb {c : Bool} {A B : Prop} (h : c = false) (hB : B) : if c = true then A else B := by rw [h]; exact iteF hB
theorem iteTb {c : Bool} {A B : Prop} (h : c = true) (hA : A) : if c = true then A else B := by rw [h]; exact iteT hA
theorem set_at {G J : GD} {c d : Cl} : (G ++ [c] ++ J).set G.length d = G ++ [d] ++ J := by
  rw [List.append_assoc, List.set_append_right _ _ (Nat.le_refl _)]
  simp
theorem get_at {G J : GD} {c : Cl} : (G ++ [c] ++ J)[G.length]? = some c := at_more at_last
/-- a comprehension whose test and element make no cells -/
theorem comp0 {tif : TDT} {te : TDE} {W : GD → Prop} {Q : KD} {G : GD} {cap : SD} (p : Dt → Bool) (f : Dt → Dt) (hW : ∀ acc, W (G ++ [.lst acc])) : ∀ (ds acc : List Dt) (s0 : Option Dt), acc.length + ds.length < sizeLine →
    (∀ d ∈ ds, ∀ acc (K : Bool → GD → Prop), K (p d) (G ++ [.lst acc]) → tif (some d :: cap) (G ++ [.lst acc]) K) → (∀ d ∈ ds, p d = true → ∀ acc (K : KD), K (f d) (G ++ [.lst acc]) → te (some d :: cap) (G ++ [.lst acc]) K) →
    Q (.ref G.length) (G ++ [.lst (acc ++ (ds.filter p).map f)]) → lpc G.length (dgName 0) tif te W Q ds (s0 :: cap) (G ++ [.lst acc])
  | [], acc, s0, _, _, _, h => ⟨hW acc, by simpa using h⟩
  | d :: ds, acc, s0, hl, h1, h2, h => by
    have hl' : acc.length + (ds.length + 1) < sizeLine := hl
    refine ⟨hW acc, h1 d List.mem_cons_self acc _ ?_⟩
    have r1 := fun x hx => h1 x (List.mem_cons_of_mem _ hx)
    have r2 := fun x hx => h2 x (List.mem_cons_of_mem _ hx)
    cases e : p d with
    | false =>
      rw [List.filter_cons_of_neg (by simp [e])] at h
      exact iteF (Wk.here (comp0 p f hW ds acc _ (by omega) r1 r2 h))
    | true =>
      rw [List.filter_cons_of_pos e, List.map_cons] at h
      refine iteT (h2 d List.mem_cons_self e acc _ (gather_of at_last (by omega) (Wk.here ?_)))
      have := comp0 (tif := tif) (te := te) (cap := cap) (Q := Q) p f hW ds (acc ++ [f d]) (some d) (by rw [List.length_append, List.length_singleton]; omega) r1 r2 (by simpa using h)
      have e2 : (G ++ [Cl.lst acc]).set G.length (.lst (acc ++ [f d])) = G ++ [.lst (acc ++ [f d])] := by
        have := set_at (G := G) (J := []) (c := .lst acc) (d := .lst (acc ++ [f d]))
        simpa using this
      rw [e2]
      exact this
/-- .. that may make cells -/
theorem compG {tif : TDT} {te : TDE} {W : GD → Prop} {Q : KD} {G : GD} {cap : SD} (p : Dt → Bool) (f : Dt → Dt) (hW : ∀ acc J, W (G ++ [.lst acc] ++ J)) : ∀ (ds acc : List Dt) (J : GD) (s0 : Option Dt), acc.length + ds.length < sizeLine →
    (∀ d ∈ ds, ∀ acc J (K : Bool → GD → Prop), (∀ J, K (p d) (G ++ [.lst acc] ++ J)) → tif (some d :: cap) (G ++ [.lst acc] ++ J) K) → (∀ d ∈ ds, p d = true → ∀ acc J (K : KD), (∀ J, K (f d) (G ++ [.lst acc] ++ J)) → te (some d :: cap) (G ++ [.lst acc] ++ J) K) →
    (∀ J, Q (.ref G.length) (G ++ [.lst (acc ++ (ds.filter p).map f)] ++ J)) → lpc G.length (dgName 0) tif te W Q ds (s0 :: cap) (G ++ [.lst acc] ++ J)
  | [], acc, J, s0, _, _, _, h => ⟨hW acc J, by simpa using h J⟩
  | d :: ds, acc, J, s0, hl, h1, h2, h => by
    have hl' : acc.length + (ds.length + 1) < sizeLine := hl
    refine ⟨hW acc J, h1 d List.mem_cons_self acc J _ fun J1 => ?_⟩
    have r1 := fun x hx => h1 x (List.mem_cons_of_mem _ hx)
    have r2 := fun x hx => h2 x (List.mem_cons_of_mem _ hx)
    cases e : p d with
    | false =>
      rw [List.filter_cons_of_neg (by simp [e])] at h
      exact iteF (Wk.here (compG p f hW ds acc J1 _ (by omega) r1 r2 h))
    | true =>
      rw [List.filter_cons_of_pos e, List.map_cons] at h
      refine iteT (h2 d List.mem_cons_self e acc J1 _ fun J2 => gather_of get_at (by omega) (Wk.here ?_))
      rw [set_at]
      exact compG p f hW ds (acc ++ [f d]) J2 _ (by rw [List.length_append, List.length_singleton]; omega) r1 r2 (by simpa using h)
theorem rdEq_sT {x : Str} {G : GD} {Q : KD} (hq : Q (.bl true) G) : rdEq false (.str x) (.str x) G Q := rdEq_str (by simpa using hq)
theorem rdEq_sF {a b : String} {G : GD} {Q : KD} (hq : Q (.bl false) G) (h : a ≠ b := by decide) : rdEq false (.str (Str.ofString a)) (.str (Str.ofString b)) G Q := rdEq_str (by simpa [str_inj, h] using hq)
theorem compS {tif : TDT} {te : TDE} {W : GD → Prop} {Q : KD} {G : GD} {cap : SD} (p : Dt → Bool) (f : Dt → Dt) {ds : List Dt} {s0 : Option Dt} (hW : ∀ acc J, W (G ++ [.lst acc] ++ J)) (hl : ds.length < sizeLine)
    (h1 : ∀ d ∈ ds, ∀ acc J (K : Bool → GD → Prop), (∀ J, K (p d) (G ++ [.lst acc] ++ J)) → tif (some d :: cap) (G ++ [.lst acc] ++ J) K) (h2 : ∀ d ∈ ds, p d = true → ∀ acc J (K : KD), (∀ J, K (f d) (G ++ [.lst acc] ++ J)) → te (some d :: cap) (G ++ [.lst acc] ++ J) K)
    (h : ∀ J, Q (.ref G.length) (G ++ [.lst ((ds.filter p).map f)] ++ J)) : lpc G.length (dgName 0) tif te W Q ds (s0 :: cap) (G ++ [.lst []]) := by
  have := compG (tif := tif) (te := te) (Q := Q) (cap := cap) p f hW ds [] [] s0 (by simpa using hl) h1 h2 (by simpa using h)
  simpa using this
theorem comp0S {tif : TDT} {te : TDE} {W : GD → Prop} {Q : KD} {G : GD} {cap : SD} (p : Dt → Bool) (f : Dt → Dt) {ds : List Dt} {s0 : Option Dt} (hW : ∀ acc, W (G ++ [.lst acc])) (hl : ds.length < sizeLine)
    (h1 : ∀ d ∈ ds, ∀ acc (K : Bool → GD → Prop), K (p d) (G ++ [.lst acc]) → tif (some d :: cap) (G ++ [.lst acc]) K) (h2 : ∀ d ∈ ds, p d = true → ∀ acc (K : KD), K (f d) (G ++ [.lst acc]) → te (some d :: cap) (G ++ [.lst acc]) K)
    (h : Q (.ref G.length) (G ++ [.lst ((ds.filter p).map f)])) : lpc G.length (dgName 0) tif te W Q ds (s0 :: cap) (G ++ [.lst []]) :=
  comp0 p f hW ds [] s0 (by simpa using hl) h1 h2 (by simpa using h)
theorem filter_all (ds : List Dt) : ds.filter (fun _ => true) = ds := by simp
theorem mem_rngD {lo : Int} {n : Nat} {d : Dt} (h : d ∈ rngD lo n) : ∃ k : Nat, k < n ∧ d = .int (lo + (k : Nat)) := by
  unfold rngD at h
  rw [List.mem_map] at h
  obtain ⟨k, hk, e⟩ := h
  exact ⟨k, List.mem_range.mp hk, e.symm⟩
theorem rngD_len (lo : Int) (n : Nat) : (rngD lo n).length = n := by simp [rngD]
theorem szlt (k : Nat) (h : k < 1000000) : k < sizeLine := Nat.lt_of_lt_of_le h (by decide)
theorem Grw.cell {G G' : GD} {i : Nat} {xs : List Dt} (h : Grw G G') (e : cellL G i = some xs) : cellL G' i = some xs := by
  unfold cellL at e ⊢
  cases q : G[i]? with
  | none => rw [q] at e; cases e
  | some c => rw [q] at e; rw [h.at q]; exact e
theorem szl (k : Nat) (h : k ≤ 1000000 := by decide) : k ≤ sizeLine := Nat.le_trans h (by decide)
section
variable {X : Cx} {F : Fx} {a b : Expr} {ta tb : TDE} {pos : Pos}
theorem de_shl (ha : DE X F a ta) (hb : DE X F b tb) : DE X F (.BinOp a .LShift b pos) (dOp (rdI CPow fun i j => .int (i * 2 ^ j.toNat)) ta tb) := li2 (l2_rI fun _ _ => rfl) (pe_op op_shl ha hb)
theorem de_shl' (ha : DE' X F a ta) (hb : DE' X F b tb) : DE' X F (.BinOp a .LShift b pos) (dOp (rdI CPow fun i j => .int (i * 2 ^ j.toNat)) ta tb) := ⟨de_shl ha.p hb.p⟩
theorem de_shr (ha : DE X F a ta) (hb : DE X F b tb) : DE X F (.BinOp a .RShift b pos) (dOp (rdI (fun _ j => 0 ≤ j) fun i j => .int (i / 2 ^ j.toNat)) ta tb) := li2 (l2_rI fun _ _ => rfl) (pe_op op_shr ha hb)
theorem de_shr' (ha : DE' X F a ta) (hb : DE' X F b tb) : DE' X F (.BinOp a .RShift b pos) (dOp (rdI (fun _ j => 0 ≤ j) fun i j => .int (i / 2 ^ j.toNat)) ta tb) := ⟨de_shr ha.p hb.p⟩
theorem de_band (ha : DE X F a ta) (hb : DE X F b tb) : DE X F (.BinOp a .BitAnd b pos) (dOp (rdI0 fun i j => .int (Builtin.bitAnd i j)) ta tb) := li2 (l2_rI0 fun _ _ => rfl) (pe_op op_and ha hb)
theorem de_band' (ha : DE' X F a ta) (hb : DE' X F b tb) : DE' X F (.BinOp a .BitAnd b pos) (dOp (rdI0 fun i j => .int (Builtin.bitAnd i j)) ta tb) := ⟨de_band ha.p hb.p⟩
end
/-- a loop's turn ends: slots are forgotten, new cells let go -/
theorem Wk.cut {P : SD → GD → Prop} {σ : SD} {G G' : GD} (σ' : SD) (g : Grw G G') (hG : bndG G.length G) (hl : σ'.length = σ.length) (hs : ∀ (i : Nat) (d : Dt), σ'[i]? = some (some d) → σ[i]? = some (some d) ∧ bnd G.length d) (h : P σ' G) : Wk G.length P σ G' := by
  refine .inr ⟨G.length, σ', Nat.le_refl _, hl, hs, ?_, ?_⟩
  · rw [g.take]; exact hG
  · rw [g.take]; exact h
theorem RetD.cut {G G' : GD} {Q : KD} {d : Dt} (g : Grw G G') (hG : bndG G.length G) (hb : bnd G.length d) (h : Q d G) : RetD G Q d G' := by
  obtain ⟨J, rfl⟩ := g
  exact RetD.pure hG hb h
end DL
namespace PySem.SeqAt
open PySem PySem.Spec PySem.W
end PySem.SeqAt
namespace L2
open PySem PySem.Spec PyProof.Rows
end L2
namespace DL
open PySem PySem.Spec L2
open PyProof.Rows hiding St
end DL
/-! things, worlds, halls: what the document says of them, as Lean functions -/
namespace TH
inductive Th where
  | is (k : Nat)
  | many (m : Nat)
  | not (a : Th)
  | and (a b : Th)
  | or (a b : Th)
  | alike (a b : Th)
  | says (k : Nat) (a : Th)
abbrev Wd := List Bool
def Th.so (w : Wd) : Th → Bool
  | .is k => w.getD k false
  | .many m => decide (m ≤ w.count true)
  | .not a => !a.so w
  | .and a b => a.so w && b.so w
  | .or a b => a.so w || b.so w
  | .alike a b => a.so w == b.so w
  | .says k a => w.getD k false == a.so w
def Th.wf (n : Nat) : Th → Prop
  | .is k => k < n
  | .many _ => True
  | .not a => a.wf n
  | .and a b => a.wf n ∧ b.wf n
  | .or a b => a.wf n ∧ b.wf n
  | .alike a b => a.wf n ∧ b.wf n
  | .says k a => k < n ∧ a.wf n
def Th.dep : Th → Nat
  | .is _ => 0
  | .many _ => 0
  | .not a => a.dep + 1
  | .and a b => max a.dep b.dep + 1
  | .or a b => max a.dep b.dep + 1
  | .alike a b => max a.dep b.dep + 1
  | .says _ a => a.dep + 1
/-! all worlds -/
def stepW (ws : List Wd) : List Wd := ws.flatMap fun w => [w ++ [false], w ++ [true]]
def allW : Nat → List Wd
  | 0 => [[]]
  | n + 1 => stepW (allW n)
theorem stepW_app (a b : List Wd) : stepW (a ++ b) = stepW a ++ stepW b := by simp [stepW]
theorem stepW_cons (b : Bool) : ∀ l : List Wd, stepW (l.map (b :: ·)) = (stepW l).map (b :: ·)
  | [] => rfl
  | w :: l => by
    have := stepW_cons b l
    simp only [stepW, List.map_cons, List.flatMap_cons, List.map_append] at this ⊢
    rw [this]
    simp
theorem allW_succ : ∀ n : Nat, allW (n + 1) = (allW n).map (false :: ·) ++ (allW n).map (true :: ·)
  | 0 => rfl
  | n + 1 => by
    show stepW (allW (n + 1)) = (allW (n + 1)).map (false :: ·) ++ (allW (n + 1)).map (true :: ·)
    conv => lhs; rw [allW_succ n, stepW_app, stepW_cons, stepW_cons]
    rfl
theorem mem_allW : ∀ (n : Nat) (w : Wd), w ∈ allW n ↔ w.length = n
  | 0, w => by simp [allW]
  | n + 1, w => by
    rw [allW_succ]
    simp only [List.mem_append, List.mem_map]
    constructor
    · rintro (⟨v, h, rfl⟩ | ⟨v, h, rfl⟩) <;> simp [(mem_allW n v).mp h]
    · intro h
      cases w with
      | nil => simp at h
      | cons b v =>
        have hv : v ∈ allW n := (mem_allW n v).mpr (by simpa using h)
        cases b
        · exact .inl ⟨v, hv, rfl⟩
        · exact .inr ⟨v, hv, rfl⟩
theorem allW_nodup : ∀ n : Nat, (allW n).Nodup
  | 0 => by simp [allW]
  | n + 1 => by
    rw [allW_succ, List.nodup_append]
    refine ⟨?_, ?_, ?_⟩
    · exact List.pairwise_map.mpr ((allW_nodup n).imp fun h e => h (by simpa using e))
    · exact List.pairwise_map.mpr ((allW_nodup n).imp fun h e => h (by simpa using e))
    · intro a ha b hb e
      simp only [List.mem_map] at ha hb
      obtain ⟨v, _, rfl⟩ := ha
      obtain ⟨u, _, rfl⟩ := hb
      simp at e
def lawW (n : Nat) : List Wd := (List.range (2 ^ n)).map fun m => (List.range n).map fun k => decide (m / 2 ^ (n - 1 - k) % 2 = 1)
theorem lawW_eq {n : Nat} (h1 : 1 ≤ n) (h5 : n ≤ 5) : lawW n = allW n := by
  have h : n = 1 ∨ n = 2 ∨ n = 3 ∨ n = 4 ∨ n = 5 := by omega
  rcases h with rfl | rfl | rfl | rfl | rfl <;> decide +kernel
/-! halls -/
abbrev Sg := List (Nat × Th)
def fit (w : Wd) (p : Nat × Th) : Bool := w.getD p.1 false == p.2.so w
def fits (ss : Sg) (w : Wd) : Bool := ss.all (fit w)
def worlds (n : Nat) (ss : Sg) : List Wd := (allW n).filter (fits ss)
def Sg.wf (n : Nat) (ss : Sg) : Prop := ∀ p ∈ ss, p.1 < n ∧ p.2.wf n
end TH
namespace TH
/-! what is assumed, and trees -/
abbrev As := List (Option Bool)
def asW (as : As) : Wd := as.map fun o => o.getD false
def Th.asd (as : As) : Th → Bool
  | .is k => (as.getD k none).isSome
  | .many _ => as.all Option.isSome
  | .not a => a.asd as
  | .and a b => a.asd as && b.asd as
  | .or a b => a.asd as && b.asd as
  | .alike a b => a.asd as && b.asd as
  | .says k a => (as.getD k none).isSome && a.asd as
theorem asd_all {n : Nat} {as : As} (hl : as.length = n) (hs : as.all Option.isSome = true) : ∀ t : Th, t.wf n → t.asd as = true := by
  have at1 : ∀ k, k < n → (as.getD k none).isSome = true := fun k hk => by
    rw [List.all_eq_true] at hs
    unfold List.getD
    have hk' : k < as.length := by omega
    rw [List.getElem?_eq_getElem hk']
    exact hs _ (List.getElem_mem hk')
  intro t
  induction t with
  | is k => exact fun h => at1 k h
  | many m => exact fun _ => hs
  | not a ih => exact ih
  | and a b i j => exact fun h => by show (a.asd as && b.asd as) = true; rw [i h.1, j h.2]; rfl
  | or a b i j => exact fun h => by show (a.asd as && b.asd as) = true; rw [i h.1, j h.2]; rfl
  | alike a b i j => exact fun h => by show (a.asd as && b.asd as) = true; rw [i h.1, j h.2]; rfl
  | says k a i => exact fun h => by show ((as.getD k none).isSome && a.asd as) = true; rw [at1 k h.1, i h.2]; rfl
def clash (as : As) (p : Nat × Th) : Bool := (Th.says p.1 p.2).asd as && !(Th.says p.1 p.2).so (asW as)
inductive Tr where
  | clash (n : Nat)
  | case (k : Nat) (one other : Tr)
end TH
/-! things and worlds as data -/
namespace KT
open PySem PySem.Spec L2 DL TH
def enc : Th → Dt
  | .is k => .tup [.str "is", .int (k : Nat)]
  | .many m => .tup [.str "many", .int (m : Nat)]
  | .not a => .tup [.str "not", enc a]
  | .and a b => .tup [.str "and", enc a, enc b]
  | .or a b => .tup [.str "or", enc a, enc b]
  | .alike a b => .tup [.str "alike", enc a, enc b]
  | .says k a => .tup [.str "says", .int (k : Nat), enc a]
def b2 (b : Bool) : Int := if b then 1 else 0
def oD : Option Bool → Dt
  | none => .non
  | some b => .int (b2 b)
def aD (as : As) : Dt := .tup (as.map oD)
def wD (w : Wd) : Dt := .tup (w.map fun b => .int (b2 b))
theorem wD_a (w : Wd) : wD w = aD (w.map some) := by
  unfold wD aD
  rw [List.map_map]
  rfl
theorem bnds_of {α : Type} {n : Nat} {f : α → Dt} (h : ∀ a, bnd n (f a)) : ∀ l : List α, bnds n (l.map f)
  | [] => trivial
  | a :: l => ⟨h a, bnds_of h l⟩
theorem bnd_wD (n : Nat) (w : Wd) : bnd n (wD w) := bnds_of (f := fun b => Dt.int (b2 b)) (fun _ => trivial) w
theorem b2_eq {a b : Bool} : decide (b2 a = b2 b) = (a == b) := by cases a <;> cases b <;> rfl
theorem b2_one {a : Bool} : decide (b2 a = 1) = a := by cases a <;> rfl
theorem b2_zero {a : Bool} : decide (b2 a = 0) = !a := by cases a <;> rfl
theorem b2_not {a : Bool} : 1 - b2 a = b2 (!a) := by cases a <;> rfl
theorem b2_min {a b : Bool} : min2 (b2 a) (b2 b) = b2 (a && b) := by cases a <;> cases b <;> rfl
theorem b2_max {a b : Bool} : max2 (b2 a) (b2 b) = b2 (a || b) := by cases a <;> cases b <;> rfl
theorem atI_as {as : As} {k : Nat} (h : k < as.length) : atI (as.map oD) (k : Int) = some (oD (as.getD k none)) := by
  refine atI_nat ?_
  rw [List.getElem?_map, List.getElem?_eq_getElem h]
  simp [List.getD, h]
theorem oD_some {as : As} {k : Nat} (h : (as.getD k none).isSome = true) : oD (as.getD k none) = .int (b2 ((asW as).getD k false)) := by
  cases e : as.getD k none with
  | none => rw [e] at h; cases h
  | some b =>
    have : (asW as).getD k false = b := by
      unfold asW List.getD at *
      rw [List.getElem?_map]
      cases q : as[k]? with
      | none => rw [q] at e; cases e
      | some o => rw [q] at e; simp at e; rw [e]; rfl
    rw [this]
    rfl
theorem ints_as : ∀ {as : As}, as.all Option.isSome = true → intsD (as.map oD) = some ((asW as).map b2)
  | [], _ => rfl
  | some b :: as, h => by
    show (intsD (as.map oD)).map _ = _
    rw [ints_as (by simpa using h)]
    rfl
  | none :: as, h => by simp at h
theorem sum_b2 : ∀ w : Wd, (w.map b2).sum = (w.count true : Nat)
  | [] => rfl
  | b :: w => by
    rw [List.map_cons, List.sum_cons, sum_b2 w, List.count_cons]
    cases b
    · simp [b2]
    · simp [b2]; omega
theorem count_b2 (w : Wd) : ((w.map fun b => Dt.int (b2 b)).countP fun z => eqF z (.int 1)) = w.count true := by
  induction w with
  | nil => rfl
  | cons b w ih =>
    rw [List.map_cons, List.countP_cons, ih, List.count_cons]
    cases b <;> rfl
theorem asW_some (w : Wd) : asW (w.map some) = w := by
  unfold asW
  rw [List.map_map]
  exact List.map_id w
theorem all_some (w : Wd) : (w.map some).all Option.isSome = true := by
  rw [List.all_map]
  induction w with
  | nil => rfl
  | cons b w ih => exact ih
end KT
namespace KH
open PySem PySem.Spec L2 DL
def sp_law : SpD := fun ds G Q => match ds with
  | [.ref i] => ∃ ns : List Int, G[i]? = some (.fz (ns.map Dt.int)) ∧ ∀ G', Q (.bl true) G'
  | _ => False
theorem plc_mk {K : PySem.W.Frag} {h : Heap} {mg : Str → Option Value} {x : Str} {st : Stmt} {ps : List Str} {f : Addr} {oc kV dc pm cd ct : Value} {od an : Option Addr} {sl : Array (Option Value)} (X : K.In h) (G : h.Ns mainGlobals mg)
    (a : PySem.W.nsIn K mainGlobals x = some (some (.ref f))) (l : K.lookup f = some ⟨oc, od, .func (PySem.W.fnOf x x (defArgs st) (defBody st) (defScope st) .none kV dc pm an cd ct), sl⟩) (c : PySem.W.codeIn K cd x = true) (k : PySem.W.keepIn K (.ref f) = true)
    (hb : ∀ us : List Value, us.length = ps.length → bindArgs (PySem.W.fnOf x x (defArgs st) (defBody st) (defScope st) .none kV dc pm an cd ct) ⟨us, []⟩ = pure (ps.zip us)) : Plc K mg x st ps :=
  ⟨f, _, fun_mk l c k, PySem.W.mg_of X G a, Binds.all hb⟩
theorem rps_ints {K : PySem.W.Frag} {H : Hp} {ι : List Addr} : ∀ ns : List Int, Rps K H ι (ns.map Dt.int) (ns.map V.int)
  | [] => rfl
  | k :: ns => ⟨_, _, rfl, rfl, rps_ints ns⟩
theorem law_start {K : PySem.W.Frag} {H : Hp} {a : Addr} {ns : List Int} {Q : VK} {E : XK} (hO : Only H) (hS : SqL K H a (ns.map V.int)) (hQ : ∀ H', Q (.bl true) H') : liSp K 1 sp_law [.ref a] H Q E := by
  refine ⟨[.ref 0], [.fz (ns.map Dt.int)], [a], fun d _ => d = .bl true, rfl, ⟨rfl, fun i c b e1 e2 => ?_, fun i j ci cj b e1 e2 m1 m2 q1 q2 => ?_⟩, ⟨.ref a, [], rfl, ⟨a, rfl, rfl⟩, rfl⟩, ⟨ns, rfl, fun _ => rfl⟩, fun v H' d G' ι' h' g' r' q' => ?_⟩
  · match i, e1, e2 with
    | 0, e1, e2 =>
      cases e1
      cases e2
      refine ⟨ns.map V.int, ?_, rps_ints ns⟩
      rcases hS with (h | ⟨o, h⟩) | h
      · rcases hO a with z | ⟨o, xs, z⟩
        · rw [z] at h; cases h
        · rw [z] at h; cases h
      · exact .inl ⟨o, h⟩
      · exact .inr h
    | k + 1, e1, e2 => cases e1
  · match i, e1, j, e2 with
    | 0, _, 0, _ => rfl
    | 0, e1, k + 1, e2 => cases e2
    | k + 1, e1, _, _ => cases e1
  · subst q'
    have e : v = V.bl true := r'
    rw [e]
    exact hQ H'
theorem walk {m : Nat} (hm : callerA.depth + 3 * m + 5 < recursionLimit ∧ callerA.units + 16 * m + 200 < cLine) {l : PySem.W.OpenLaw} {q : Program} {loose : List Str} {XP : (Str → Option Value) → Heap → Prop} {YP : World → Heap → Prop} {d : DefRec} {K : Params → PySem.W.Frag} (hn : l.most = some 63) (hdf : d.params.defaults = [])
    (hY : ∀ (w : World) (h : Heap), YP w h → (K w.params).In h)
    (F : ∀ (w : World) (mg : Str → Option Value) (fa : Addr) (h : Heap), (K w.params).In h → h.Ns mainGlobals mg → mg d.name = some (.ref fa) →
      ∃ fd : FuncData, (∀ (s : Shared) (u : Value), BindsTo s fd ⟨[u], []⟩ [("_law_script", u)]) ∧ ∀ base : Heap, (K w.params).In base → base.Ns mainGlobals mg → FnOk l.prog w (K w.params) mg base CX0 m fa fd ["_law_script"] (liSp (K w.params) 1 sp_law)) :
    PySem.W.WalkO q loose XP YP l.row.toRowW d [] (fun f vs => PySem.call f vs) :=
  L2.walk_of (n := 63) (k := m) (x := "_law_script") (CX := fun _ => CX0) (sp := fun w => liSp (K w.params) 1 sp_law) hn (by decide) hdf ⟨rfl, hm.1, hm.2⟩ hY F (fun _ H a ns hl hO hS => law_start hO hS fun _ => rfl) fun _ _ _ _ _ z => z
end KH
/-! the module's table of forms -/
namespace KFM
open PySem PySem.Spec L2 DL TH KT KH
def kindsD (ks : List Str) : Dt := .tup (ks.map Dt.str)
def strsLook : List Str → List Value → Bool
  | [], [] => true
  | x :: xs, .str y _ :: vs => decide (y = x) && strsLook xs vs
  | _, _ => false
def rmLook (K : PySem.W.Frag) (ks : List Str) (v : Value) : Bool := match v with
  | .ref a => match K.lookup a with
    | some o => o.cls == .type "tuple" && o.dict.isNone && (match o.data with
      | .seq its _ => decide (its.size ≤ 100) && strsLook ks its.toList
      | _ => false)
    | none => false
  | _ => false
def rowsL (K : PySem.W.Frag) : List DictEntry → List (Str × List Str) → Bool
  | [], [] => true
  | e :: es, (x, ks) :: D => (match e.key with | .str y _ => decide (y = x) | _ => false) && rmLook K ks e.val && rowsL K es D
  | _, _ => false
theorem strs_vals {K : PySem.W.Frag} : ∀ {ks : List Str} {vs : List Value}, strsLook ks vs = true → Vals (ks.map V.str) vs
  | [], [], _ => .nil
  | x :: xs, .str y t :: vs, h => by
    simp only [strsLook, Bool.and_eq_true, decide_eq_true_eq] at h
    obtain ⟨rfl, h2⟩ := h
    exact .cons ⟨t, rfl⟩ (strs_vals (K := K) h2)
  | [], _ :: _, h => by cases h
  | _ :: _, [], h => by cases h
  | _ :: _, .none :: _, h => by cases h
  | _ :: _, .bool _ :: _, h => by cases h
  | _ :: _, .int _ _ :: _, h => by cases h
  | _ :: _, .ref _ :: _, h => by cases h
  | _ :: _, .type _ :: _, h => by cases h
  | _ :: _, .builtin _ :: _, h => by cases h
  | _ :: _, .float _ _ :: _, h => by cases h
  | _ :: _, .bytes _ _ :: _, h => by cases h
  | _ :: _, .ellipsis :: _, h => by cases h
  | _ :: _, .notImplemented :: _, h => by cases h
theorem rps_strs {K : PySem.W.Frag} {H : Hp} {ι : List Addr} : ∀ ks : List Str, Rps K H ι (ks.map Dt.str) (ks.map V.str)
  | [] => rfl
  | k :: ks => ⟨_, _, rfl, rfl, rps_strs ks⟩
theorem rm_of {K : PySem.W.Frag} {ks : List Str} {v : Value} (h : rmLook K ks v = true) : RM K (kindsD ks) v := by
  unfold rmLook at h
  split at h
  · rename_i a
    split at h
    · rename_i o ho
      simp only [Bool.and_eq_true] at h
      obtain ⟨⟨h1, h2⟩, h3⟩ := h
      split at h3
      · rename_i its n hd
        simp only [Bool.and_eq_true, decide_eq_true_eq] at h3
        refine ⟨.ref a, rfl, fun H ι => ⟨a, ks.map V.str, rfl, .inr ⟨o, its, n, ho, eq_of_beq h1, by simpa using h2, hd, Nat.le_trans h3.1 (by decide), strs_vals (K := K) h3.2⟩, rps_strs ks⟩⟩
      · cases h3
    · cases h
  · cases h
theorem rows_of {K : PySem.W.Frag} : ∀ {es : List DictEntry} {D : List (Str × List Str)}, rowsL K es D = true → PyProof.Rows.KTD.Rows (RM K) es (D.map fun p => (p.1, kindsD p.2))
  | [], [], _ => .nil
  | e :: es, (x, ks) :: D, h => by
    simp only [rowsL, Bool.and_eq_true] at h
    obtain ⟨⟨h1, h2⟩, h3⟩ := h
    split at h1
    · rename_i y t hk
      have e1 := of_decide_eq_true h1
      subst e1
      exact .cons hk (rm_of h2) (rows_of h3)
    · cases h1
  | [], _ :: _, h => by cases h
  | _ :: _, [], h => by cases h
end KFM
namespace KH
open PySem PySem.Spec L2 DL TH KT
theorem pyDs_map : ∀ ds : List Dt, pyDs ds = ds.map pyD
  | [] => rfl
  | d :: ds => by show pyD d :: pyDs ds = _; rw [pyDs_map ds]; rfl
theorem rdIn_ref {neg : Bool} {d : Dt} {i : Nat} {xs : List Dt} {G : GD} {Q : KD} (hi : cellL G i = some xs) (h0 : ∀ i, d ≠ .ref i) (h1 : lay d = true) (h2 : lays xs = true) (h3 : (pyD d).depth ≤ 60) (hq : Q (.bl (neg ^^ xs.any fun z => PyData.eqv (pyD z) (pyD d))) G) : rdInP neg d (.ref i) G Q := by
  have e1 : pyG G d = some (pyD d) := by
    unfold pyG
    split
    · exact absurd rfl (h0 _)
    · rw [if_pos h1]
  have e2 : pyG G (.ref i) = some (.list (pyDs xs)) := by
    show (match cellL G i with | some xs => if lays xs = true then some (PyData.list (pyDs xs)) else none | none => none) = _
    rw [hi]
    show (if lays xs = true then some (PyData.list (pyDs xs)) else none) = _
    rw [if_pos h2]
  refine ⟨?_⟩; unfold rdInP0
  rw [e1, e2]
  refine ⟨h3, ?_⟩
  show Q (.bl (neg ^^ (pyDs xs).any fun z => PyData.eqv z (pyD d))) G
  rw [pyDs_map, List.any_map]
  exact hq
theorem lays_map {α : Type} {f : α → Dt} (h : ∀ a, lay (f a) = true) : ∀ l : List α, lays (l.map f) = true
  | [] => rfl
  | a :: l => by show (lay (f a) && lays (l.map f)) = true; rw [h a, lays_map h l]; rfl
/-! trees as data -/
def encT : Tr → Dt
  | .clash n => .tup [.str "clash", .int (n : Nat)]
  | .case k a b => .tup [.str "case", .int (k : Nat), encT a, encT b]
/-! heads of trees -/
theorem bnd_encT (n : Nat) : ∀ t : Tr, bnd n (encT t)
  | .clash _ => ⟨trivial, trivial, trivial⟩
  | .case _ a b => ⟨trivial, trivial, bnd_encT n a, bnd_encT n b, trivial⟩
end KH
namespace KH
open PySem PySem.Spec L2 DL TH KT
theorem truM {G : GD} {x : Dt} {k : Bool} {A : Bool → Prop} (h : truD G x = some k) (hA : A k) : match truD G x with | some k => A k | none => False := by
  rw [h]; exact hA
theorem tru_lst {G : GD} {i : Nat} {xs : List Dt} (h : G[i]? = some (.lst xs)) : truD G (.ref i) = some (!xs.isEmpty) := by
  show (match G[i]? with | some (.lst xs) => some (!xs.isEmpty) | some (.fz xs) => some (!xs.isEmpty) | some (.dct kvs) => some (!kvs.isEmpty) | _ => none) = _
  rw [h]
theorem isEmpty_map {α β : Type} {f : α → β} {l : List α} : (l.map f).isEmpty = l.isEmpty := by cases l <;> rfl
end KH
namespace KH
open PySem PySem.Spec L2 DL TH KT
theorem dep_map {α : Type} {f : α → Dt} {k : Nat} (h : ∀ a, (pyD (f a)).depth ≤ k) : ∀ l : List α, PyData.depthAll (pyDs (l.map f)) ≤ k
  | [] => by simp [pyDs, PyData.depthAll]
  | a :: l => by
    have := dep_map h l
    have h1 := h a
    show PyData.depthAll (pyD (f a) :: pyDs (l.map f)) ≤ k
    simp only [PyData.depthAll]
    omega
theorem dep_tup {α : Type} {f : α → Dt} {k : Nat} (h : ∀ a, (pyD (f a)).depth ≤ k) (l : List α) : (pyD (.tup (l.map f))).depth ≤ k + 1 := by
  have := dep_map h l
  show (PyData.tuple (pyDs (l.map f))).depth ≤ k + 1
  simp only [PyData.depth]
  omega
theorem dep_wD (w : Wd) : (pyD (wD w)).depth ≤ 1 := dep_tup (k := 0) (fun b => by simp [pyD, PyData.depth]) w
theorem lay_wD (w : Wd) : lay (wD w) = true := lays_map (f := fun b => Dt.int (b2 b)) (fun _ => rfl) w
theorem eqv_same {d : Dt} (h : lay d = true) : PyData.eqv (pyD d) (pyD d) = true := PySem.SeqAt.eqv_refl _ (lay_can d h)
theorem pyG_lay {G : GD} {d : Dt} (h : lay d = true) : pyG G d = some (pyD d) := by
  unfold pyG
  split
  · cases h
  · rw [if_pos h]
/-- two like data -/
theorem rdEqP_same {neg : Bool} {d : Dt} {G : GD} {Q : KD} (h : lay d = true) (hd : (pyD d).depth ≤ 60) (hq : Q (.bl (neg ^^ true)) G) : rdEqP neg d d G Q := by
  refine ⟨?_⟩
  unfold rdEqP0
  rw [pyG_lay h]
  exact ⟨by omega, by rw [eqv_same h]; exact hq⟩
end KH
namespace L2
open PySem PySem.Spec PyProof.Rows
open Builtin Builtin.Str
/-! ### texts: str, split, join -/
end L2
namespace L2
open PySem PySem.Spec
open PyProof.Rows hiding St
/-! ### list(range(n)), a <= b < c as a test -/
end L2
namespace DL
open PySem PySem.Spec L2
open PyProof.Rows hiding St
/-! ### comprehensions over pairs: for a, b in .. -/
end DL
namespace DL
open PySem PySem.Spec L2
open PyProof.Rows hiding St
theorem rps_strs {K : PySem.W.Frag} {H : Hp} {ι : List Addr} : ∀ l : List Str, Rps K H ι (l.map Dt.str) (l.map V.str)
  | [] => rfl
  | k :: l => ⟨_, _, rfl, rfl, rps_strs l⟩
end DL
namespace L2
open PySem PySem.Spec
open PyProof.Rows hiding St
/-! ### for x in reversed(list) -/
end L2
namespace DL
open PySem PySem.Spec L2
open PyProof.Rows hiding St
section
variable {X : Cx} {F : Fx} {tg : Expr}
/-! ### a dict with texts for keys -/
theorem RpK.app {K : PySem.W.Frag} {H : Hp} {ι : List Addr} {k : Key} {d : Dt} {v : V} (r : Rp K H ι d v) : ∀ {ds : List (Key × Dt)} {vs : List (Key × V)}, RpK K H ι ds vs → RpK K H ι (ds ++ [(k, d)]) (vs ++ [(k, v)])
  | [], vs, h => by have e : vs = [] := h; rw [e]; exact ⟨v, [], rfl, r, rfl⟩
  | p :: ds, vs, h => by
    obtain ⟨w, r', e, a, b⟩ := h
    rw [e]
    exact ⟨w, r' ++ [(k, v)], rfl, a, RpK.app r b⟩
end
end DL
namespace RT
open PySem PyProof.Rows
open Sem (wp)
def IsRv (h : Heap) (a l : Addr) (i : Int) : Prop := ∃ o, h.get? a = some o ∧ o.cls = .type "reversed" ∧ o.data = .fields #[.ref l, rawInt i]
section
variable {prog : Program} {w : World} {A : Around} {E : Value → Shared → Prop} {s : Shared}
theorem IsRv.typeIs {a l : Addr} {i : Int} (x : IsRv s.heap a l i) : s.TypeIs (.ref a) "reversed" := let ⟨o, ho, hc, _⟩ := x; ⟨o, ho, hc⟩
theorem IsRv.at {h h' : Heap} {a l : Addr} {i : Int} (x : IsRv h a l i) (e : ∀ o, h.get? a = some o → h'.get? a = some o) : IsRv h' a l i := let ⟨o, ho, r⟩ := x; ⟨o, e _ ho, r⟩
end
end RT
namespace RT
open PySem PyProof.Rows
end RT
namespace RT
open PySem PyProof.Rows
end RT
namespace L2
open PySem PySem.Spec
open PyProof.Rows hiding St
end L2
namespace DL
open PySem PySem.Spec L2
open PyProof.Rows hiding St
end DL
namespace L2
open PySem PySem.Spec
open PyProof.Rows hiding St
open Builtin Builtin.Str
end L2
namespace DL
open PySem PySem.Spec L2
open PyProof.Rows hiding St
end DL
namespace PySem.W
open PySem PySem.Spec PySem.Calls PyProof.Rows Builtin Builtin.ObjectAttr Builtin.Getset_descriptor
/-! an exception's own class: getAttr? and isinstance -/
section
variable {prog : Program} {w : World} {A : Around} {E : Value → Shared → Prop} {s : Shared} {K : Frag} {x D : Addr} 
def ExcAt (x D : Addr) (h : Heap) : Prop := ∃ o, h.get? x = some o ∧ o.cls = .ref D
theorem ExcAt.type {M : Model} {h : Heap} (I : ExcAt x D h) : Looks M h (typeOf (.ref x)) (.ref D) := by
  obtain ⟨o, e, c⟩ := I
  exact c ▸ (Looks.ld e).andThen .now
end
end PySem.W
namespace L2
open PySem PySem.Spec PyProof.Rows
/-! ### an exception of one's own class leaves a def -/
section
variable {P : Program} {w : World} {H : Hp} {h : Heap} {a : Addr} {o : HO}
theorem ObjOk.there (x : ObjOk P w H h a o) : ∃ ob, h.get? a = some ob := by
  cases o with
  | lst xs => obtain ⟨_, _, _, _, e⟩ := x; exact ⟨_, e⟩
  | tup xs => obtain ⟨_, _, _, o, e, _⟩ := x; exact ⟨_, e⟩
  | dK kvs => obtain ⟨_, _, _, _, o, _, _, e, _⟩ := x; exact ⟨_, e⟩
  | dT kvs => obtain ⟨_, _, _, _, o, _, _, e, _⟩ := x; exact ⟨_, e⟩
  | set S n => obtain ⟨o, _, _, _, e, _⟩ := x; exact ⟨_, e⟩
  | ins C dx fs => obtain ⟨_, _, _, e, _⟩ := x; exact ⟨_, e⟩
  | own y => exact x
  | xd fs => obtain ⟨_, ⟨_, _, _, e, _⟩, _⟩ := x; exact ⟨_, e⟩
  | rng lo hi => obtain ⟨_, _, _, e⟩ := x; exact ⟨_, e⟩
  | frz ob u => obtain ⟨e, _⟩ := x; exact ⟨_, e⟩
  | tbl ps => exact ⟨_, show h.get? a = some _ from x⟩
  | met f y => exact ⟨_, show h.get? a = some _ from x⟩
  | ext φ => obtain ⟨_, e, _⟩ := x; exact e
end
/-- behind the call: ea the exception, g the heap where it was raised, fs the frames that ran there -/
structure Flew (C : Addr) (P : Program) (w : World) (outer : List Env) (H : Hp) (s : Shared) (ea t : Addr) (g : Heap) (H1 : Hp) (fs : List Addr) (s' : Shared) : Prop where
  os : s'.os = s.os
  bare : AllBare s'.gens
  un : Un (frs outer) [] H H1 s.heap g
  hok : HOk P w H1 g
  fnew : ∀ b ∈ fs, b ∈ frs outer ∨ s.heap.get? b = none
  ffree : ∀ b ∈ fs, H1 b = none
  fsub : ∀ b ∈ frs outer, b ∈ fs
  fly : Heap.FlyingW (PySem.W.hideAll g fs) outer ea (.ref C) (.ref t) s'.heap
  up : g.UpToSlots s'.heap
  new : g.get? ea = none
end L2
namespace L2
open PySem PySem.Spec PyProof.Rows
section
variable {X : Cx} {pins : List (Addr × Obj)} {σ : St} {H H1 : Hp} {s s' : Shared} {C ea t : Addr} {g : Heap} {fs : List Addr} {oe : Obj}
/-- whatever the exception's own records do: the caller's state behind it -/
theorem Flew.at (I : Inv X pins σ H s) (F : Flew C X.prog X.w X.stack H s ea t g H1 fs s') {h' : Heap} (st : (PySem.W.hideAll g fs).StaysIn h') (up : g.UpToSlots h') :
    Un (frs X.stack) [] H H1 s.heap h' ∧ HOk X.prog X.w H1 h' := by
  have nofs : ∀ b o, s.heap.get? b = some o → b ∉ frs X.stack → b ∉ fs := fun b o e hb z => by
    rcases F.fnew b z with q | q
    · exact hb q
    · rw [q] at e; cases e
  have slot : ∀ b o, s.heap.get? b = some o → H b = none → b ∈ frs X.stack → ∃ sl, h'.get? b = some { o with slots := sl } := fun b o e n hb => by
    obtain ⟨sl, e1⟩ := F.un.slot b o e n hb (by simp)
    obtain ⟨_, o', ho', hd⟩ := I.stack.mem hb
    rw [e] at ho'
    cases ho'
    obtain ⟨sl', e2⟩ := up b _ e1 hd
    exact ⟨sl', e2⟩
  refine ⟨⟨fun b o e n hb hx => ?_, fun b o e n hb hx => slot b o e n hb, F.un.free, fun b o e hx => ?_, F.un.tups, F.un.frzs, F.un.tbls⟩, fun a o e => (F.hok a o e).stay (fun b u hb q => ?_) (fun _ q => q) fun _ _ q => q⟩
  · exact st b o (PySem.W.hideAll_get _ (F.un.keep b o e n hb hx) (nofs b o e hb))
  · by_cases hb : b ∈ frs X.stack
    · obtain ⟨sl, q⟩ := slot b o e (I.stkFree b hb) hb
      exact ⟨_, q⟩
    · obtain ⟨o', e1⟩ := F.un.there b o e hx
      exact ⟨o', st b o' (PySem.W.hideAll_get _ e1 (nofs b o e hb))⟩
  · refine st b u (PySem.W.hideAll_get _ q fun z => ?_)
    have n := F.ffree b z
    rcases hb with rfl | hb
    · rw [n] at e; cases e
    · rw [n] at hb; cases hb
theorem Flew.inv (I : Inv X pins σ H s) (F : Flew C X.prog X.w X.stack H s ea t g H1 fs s') {h' : Heap} (st : (PySem.W.hideAll g fs).StaysIn h') (up : g.UpToSlots h') : Inv X pins σ H1 { s' with heap := h' } := by
  obtain ⟨un, hok⟩ := F.at I st up
  exact I.call' (s' := { s' with heap := h' }) (ch := []) F.os un hok F.bare (fun b z => absurd z (by simp))
theorem Flew.none (F : Flew C X.prog X.w X.stack H s ea t g H1 fs s') : H1 ea = none := by
  cases q : H1 ea with
  | none => rfl
  | some o =>
    obtain ⟨ob, e⟩ := (F.hok ea o q).there
    rw [F.new] at e
    cases e
theorem Flew.apart (F : Flew C X.prog X.w X.stack H s ea t g H1 fs s') {b : Addr} {o : Obj} (h : s.heap.get? b = some o) : ea ≠ b := fun z => by
  obtain ⟨o', e⟩ := F.un.there b o h (by simp)
  rw [← z, F.new] at e
  cases e
/-- within an except suite -/
abbrev Cx.held (X : Cx) (ea : Addr) (oe : Obj) : Cx := { X with A := X.A.mark (some (.ref ea)), calm := false, pn := (ea, oe) :: X.pn, xe := fun _ _ => False }
theorem Inv.hold (I : Inv X pins σ H s) (he : s.heap.get? ea = some oe) (hn : H ea = none) (hL : ea ≠ X.env.locals) (hf : ea ∉ X.fs) (hc : ∀ v, oe.data ≠ .cell v) : Inv (X.held ea oe) pins σ H s := by
  have ok := I.ok
  refine ⟨⟨ok.mod, ok.kind, ok.glob, ok.blt, ok.above, ok.inj, ok.has, ok.cab, (fun z => by cases z), ok.frames, ok.stk, ok.exf, ok.bs, ok.bsz, ok.noex, ok.exfs, ok.funs, ok.frf⟩, I.os, I.bare, I.base, I.loc, I.cell, I.free, I.freeC, fun p hp => ?_, I.hok, I.len⟩
  rcases List.mem_cons.mp (show p ∈ (ea, oe) :: (X.pn ++ pins) from hp) with rfl | z
  · exact ⟨he, hn, hL, hf, hc⟩
  · exact I.pin p z
end
end L2
namespace DL
open PySem PySem.Spec L2
open PyProof.Rows hiding St
abbrev SpX := List Dt → GD → KD → (GD → Prop) → Prop
def LiX (K : PySem.W.Frag) (F : Fx) (Ed : GD → Prop) (E : XK) (C : Addr) : Prop := ∀ c H' G' ι', HG K G' H' ι' → Gr K F.H F.ι H' ι' → Ed G' → E c none H'
theorem PS.nox {X : Cx} {st : Stmt} {t : TS} (h : PS X.nox st t) : PS X st t := fun pins s σ H D I hw =>
  wpAny_mono (h pins s σ H D (I.wish _) hw) (fun _ _ q => q.unwish) fun _ _ z => False.elim z
theorem DS'.nox {X : Cx} {F : Fx} {st : Stmt} {t : TDS} (h : DS' X.nox F st t) : DS' X F st t := ⟨PS.nox h.p⟩
end DL
namespace DL
open PySem PySem.Spec L2
open PyProof.Rows hiding St
end DL
namespace DL
open PySem PySem.Spec L2
end DL
namespace L2
open PySem PySem.Spec PyProof.Rows
end L2
namespace DL
open PySem PySem.Spec L2
open PyProof.Rows hiding St
theorem LiX.mono {K : PySem.W.Frag} {F F' : Fx} {Ed : GD → Prop} {E : XK} {C : Addr} (L : LiX K F Ed E C) (g : Gr K F.H F.ι F'.H F'.ι) : LiX K F' Ed E C := fun c H' G' ι' h g' q => L c H' G' ι' h (g.trans g') q
end DL
namespace DL
open PySem PySem.Spec L2
open PyProof.Rows hiding St
end DL
/-! groups of rows as keys of a dict: a tuple whose items are tuples of numbers -/
namespace TK
open PySem PySem.SeqAt
/-- a row of numbers at an address, whatever the program -/
def Row (h : Heap) (k : List Int) (b : Addr) : Prop := ∀ (P : Program) (w : World), IsTupleKey (intKind P w) h k b
/-- rows, one behind the other -/
inductive Pr (h : Heap) : List (List Int) → List Addr → Prop
  | nil : Pr h [] []
  | cons {k : List Int} {b : Addr} {ks : List (List Int)} {bs : List Addr} (r : Row h k b) (t : Pr h ks bs) : Pr h (k :: ks) (b :: bs)
structure Grp (h : Heap) (ks : List (List Int)) (a : Addr) : Prop where
  is : ∃ bs : List Addr, h.IsTuple a (bs.map Value.ref).toArray ∧ Pr h ks bs
theorem ref_inj {xs ys : List Addr} (e : xs.map Value.ref = ys.map Value.ref) : xs = ys := by
  induction xs generalizing ys with
  | nil => cases ys with
    | nil => rfl
    | cons _ _ => cases e
  | cons x xs ih => cases ys with
    | nil => cases e
    | cons y ys =>
      have e' : Value.ref x :: xs.map Value.ref = Value.ref y :: ys.map Value.ref := e
      injection e' with p q
      injection p with p
      rw [p, ih q]
section
variable {h h' : Heap} {ks ks' : List (List Int)} {bs : List Addr} {a d : Addr}
theorem Pr.uniq (x : Pr h ks bs) (y : Pr h ks' bs) (P : Program) (w : World) : ks = ks' := by
  induction x generalizing ks' with
  | nil => cases y; rfl
  | cons r _ ih => cases y with
    | cons r' t' => rw [(r P w).inj (r' P w), ih t']
theorem Pr.to (x : Pr h ks bs) (f : ∀ k b, Row h k b → Row h' k b) : Pr h' ks bs := by
  induction x with
  | nil => exact .nil
  | cons r _ ih => exact .cons (f _ _ r) ih
theorem Grp.uniq (x : Grp h ks a) (y : Grp h ks' a) (P : Program) (w : World) : ks = ks' := by
  obtain ⟨bs, ⟨o, e1, _, n, e2⟩, p⟩ := x.is
  obtain ⟨cs, ⟨o', f1, _, n', f2⟩, q⟩ := y.is
  have eo := e1.symm.trans f1
  cases eo
  have ed := e2.symm.trans f2
  injection ed with ed _
  have el : bs.map Value.ref = cs.map Value.ref := by have := congrArg Array.toList ed; simpa using this
  have := ref_inj el
  subst this
  exact p.uniq q P w
theorem Grp.stay {o : Obj} {es ep} (x : Grp h ks a) (e : h.get? d = some o) (ed : o.data = .dict es ep) (sb : Heap.SameBut d h h') : Grp h' ks a := by
  obtain ⟨bs, ⟨o', e1, c, n, e2⟩, p⟩ := x.is
  have far : a ≠ d := fun z => by
    subst z
    have := e1.symm.trans e
    cases this
    rw [e2] at ed
    cases ed
  exact ⟨bs, ⟨o', (sb.2 a far).trans e1, c, n, e2⟩, p.to fun k b r P w => (r P w).keeps e ed sb⟩
end
def rowH (k : List Int) : Int := reduceHash (Builtin.Tuple.tupleHashOf (k.map hashInt))
def grpH (ks : List (List Int)) : Int := reduceHash (Builtin.Tuple.tupleHashOf (ks.map rowH))
/-- how many numbers are made on the way -/
def made : List (List Int) → Nat
  | [] => 0
  | k :: ks => k.length + 1 + made ks
section
variable {P : Program} {w : World} {A : Around} {E : Value → Shared → Prop} {s : Shared}
/-- the hashes of the rows, one by one -/
theorem hash_rows {f : Value → Array Int → Sem (ForInStep (Array Int))}
    (hf : ∀ (x : Value) (acc : Array Int) (s' : Shared) (R : ForInStep (Array Int) → Shared → Prop), wpAny (model P w) A (pyHash x) (fun i s'' => R (.yield (acc.push i)) s'') E s' → wpAny (model P w) A (f x acc) R E s')
    (hu : A.units < cLine) {ks : List (List Int)} {bs : List Addr} (p : Pr s.heap ks bs) : ∀ (acc : Array Int) (t : Nat) {R : Array Int → Shared → Prop},
      (∀ acc' : Array Int, acc'.toList = acc.toList ++ ks.map rowH → R acc' { s with toks := t + made ks }) → wpAny (model P w) A (forIn (bs.map Value.ref) acc f) R E { s with toks := t } := by
  induction p with
  | nil =>
    intro acc t R g
    exact wpAny_pure (g acc (by simp))
  | @cons k b ks bs r _ ih =>
    intro acc t R g
    rw [List.map_cons, List.forIn_cons]
    refine wpAny_bind (hf _ _ _ _ (wpAny_pyHash_tuple (knd := intKind P w) (s := { s with toks := t }) hu (r P w) ?_))
    refine ih (acc.push (rowH k)) (t + (k.length + 1)) fun acc' e => ?_
    have := g acc' (by rw [e, Array.toList_push]; simp)
    have e2 : t + made (k :: ks) = t + (k.length + 1) + made ks := (Nat.add_assoc t (k.length + 1) (made ks)).symm
    rw [e2] at this
    exact this
theorem hash_grp {ks : List (List Int)} {a : Addr} {R : Int → Shared → Prop} (hu : A.units + 1 < cLine) (x : Grp s.heap ks a) (g : R (grpH ks) { s with toks := s.toks + (made ks + 1) }) : wpAny (model P w) A (pyHash (.ref a)) R E s := by
  obtain ⟨bs, ⟨o, e1, c, n, e2⟩, p⟩ := x.is
  refine W.pyHash_slot ⟨o, e1, c⟩ F.slot_tuple_hash F.entry_tuple_hash (F.args_tuple_hash_1 _) (beq_builtin_none _) (.inr (by omega)) ?_
  refine (show wpAny _ _ (Builtin.Tuple.tupleItemsOf (.ref a) >>= _) _ _ s from wpAny_bind (wpAny_tupleItemsOf e1 e2 (wpAny_bind ?_)))
  rw [← Array.forIn_toList, List.toList_toArray]
  refine hash_rows (fun y acc s' R' q => ?_) (show A.units + 1 < cLine from hu) p #[] s.toks fun acc e => ?_
  · first
      | exact wpAny_bind (wpAny_mono q (fun _ _ z => wpAny_pure z) fun _ _ z => z)
      | exact wpAny_bind (wpAny_mono q (fun _ _ z => wpAny_bind (wpAny_pure (wpAny_pure z))) fun _ _ z => z)
  · have e' : acc.toList = ks.map rowH := by rw [e]; rfl
    refine wpAny_bind (wpAny_mkInt (wpAny_pure ⟨_, _, rfl, ?_⟩))
    rw [e']
    exact g
/-- two rows are equal, or not -/
theorem eq_row {k k' : List Int} {b b' : Addr} (hu : A.units < cLine) (x : Row s.heap k b) (y : Row s.heap k' b') : EqAt A s (.ref b) (.ref b') (decide (k = k')) := fun P w _ _ q => wpAny_eqBool_tuple hu (x P w) (y P w) q
theorem Pr.at {h : Heap} {ks : List (List Int)} {bs : List Addr} (p : Pr h ks bs) : bs.length = ks.length ∧ ∀ (i : Nat) (k : List Int) (b : Addr), ks[i]? = some k → bs[i]? = some b → Row h k b := by
  induction p with
  | nil => exact ⟨rfl, fun i k b e => by simp at e⟩
  | cons r _ ih =>
    refine ⟨by rw [List.length_cons, List.length_cons, ih.1], fun i k b e1 e2 => ?_⟩
    cases i with
    | zero => simp at e1 e2; subst e1; subst e2; exact r
    | succ i => exact ih.2 i k b (by simpa using e1) (by simpa using e2)
theorem eq_lists {α : Type} [DecidableEq α] [Inhabited α] (xs ys : List α) : ((List.range (min xs.length ys.length)).all (fun j => decide (xs.getD j default = ys.getD j default)) && xs.length == ys.length) = decide (xs = ys) := by
  by_cases e : xs = ys
  · subst e; simp
  · rw [decide_eq_false e, Bool.and_eq_false_iff]
    by_cases hl : xs.length = ys.length
    · refine .inl (Bool.eq_false_iff.mpr fun q => e (List.ext_getElem hl fun i h1 h2 => ?_))
      have := List.all_eq_true.mp q i (List.mem_range.mpr (by omega))
      have := of_decide_eq_true this
      simpa [List.getD_eq_getElem?_getD, h1, h2] using this
    · exact .inr (by simpa using hl)
theorem eq_grp {ks ks' : List (List Int)} {a b : Addr} {R : Bool → Shared → Prop} (hu : A.units + 1 < cLine) (x : Grp s.heap ks a) (y : Grp s.heap ks' b) (g : R (decide (ks = ks')) s) : wpAny (model P w) A (eqBool (.ref a) (.ref b)) R E s := by
  by_cases hab : a = b
  · subst hab
    have e := x.uniq y P w
    subst e
    rw [decide_eq_true rfl] at g
    exact EqAt.same (.ref a) P w E R g
  · obtain ⟨bs, tx, p⟩ := x.is
    obtain ⟨cs, ty, q⟩ := y.is
    obtain ⟨l1, p⟩ := p.at
    obtain ⟨l2, q⟩ := q.at
    have s1 : (bs.map Value.ref).toArray.size = ks.length := by simp [l1]
    have s2 : (cs.map Value.ref).toArray.size = ks'.length := by simp [l2]
    refine EqAt.of_refs hab (RcAt.tuples (e := fun j => decide (ks.getD j default = ks'.getD j default)) tx ty (by omega) fun j h1 h2 => ?_) P w E R ?_
    · have j1 : j < ks.length := by omega
      have j2 : j < ks'.length := by omega
      have g1 : ks.getD j default = ks[j] := by simp [List.getD_eq_getElem?_getD, j1]
      have g2 : ks'.getD j default = ks'[j] := by simp [List.getD_eq_getElem?_getD, j2]
      have f1 : (bs.map Value.ref).toArray[j] = .ref (bs[j]'(by omega)) := by simp
      have f2 : (cs.map Value.ref).toArray[j] = .ref (cs[j]'(by omega)) := by simp
      rw [f1, f2, g1, g2]
      exact eq_row (A := A.in1) hu (p j _ _ (List.getElem?_eq_getElem j1) (List.getElem?_eq_getElem _)) (q j _ _ (List.getElem?_eq_getElem j2) (List.getElem?_eq_getElem _))
    · rw [s1, s2, eq_lists]
      exact g
/-- to compare such keys is seen by nobody -/
theorem calm_row {m : Nat} {k : List Int} {b : Addr} {R : Bool → Shared → Prop} (x : Row s.heap k b) (g : R true s) : wpAny (model P w) A (eqIsQuiet (m + 1) (.ref b)) R E s := by
  obtain ⟨o, it, n, e1, c, e2, hit⟩ := x P w
  have ty : s.TypeIs (.ref b) "tuple" := ⟨o, e1, c⟩
  unfold eqIsQuiet
  refine wpAny_bind (wpAny_specialOf ty F.slot_tuple_eq.lookup (wpAny_bind (wpAny_isInstance ty isSubtype_tuple_tuple ?_)))
  rw [if_neg (by decide)]
  refine wpAny_bind (wpAny_seqItems e1 e2 (wpAny_bind ?_))
  show wpAny _ _ (forIn it _ _) _ _ _
  rw [← Array.forIn_toList]
  refine wpAny_forIn_list _ (fun l r u => r.1 = none ∧ u = s ∧ ∀ v ∈ l, carriedByValue v = true) _ (fun v l r u ⟨_, eu, al⟩ => ?_) (fun r u ⟨er, eu, _⟩ => ?_) _ _ ⟨rfl, rfl, hit.byValue⟩
  · subst eu
    rw [eqIsQuiet_byValue _ (al v (by simp))]
    refine wpAny_bind (wpAny_pure ?_)
    rw [if_neg (by decide)]
    exact wpAny_pure ⟨rfl, rfl, fun v' h' => al v' (List.mem_cons_of_mem _ h')⟩
  · subst eu
    obtain ⟨r1, r2⟩ := r
    cases er
    exact wpAny_pure g
theorem calm_grp {ks : List (List Int)} {a : Addr} {R : Bool → Shared → Prop} (x : Grp s.heap ks a) (g : R true s) : wpAny (model P w) A (eqIsQuiet 8 (.ref a)) R E s := by
  obtain ⟨bs, ⟨o, e1, c, n, e2⟩, p⟩ := x.is
  have ty : s.TypeIs (.ref a) "tuple" := ⟨o, e1, c⟩
  unfold eqIsQuiet
  refine wpAny_bind (wpAny_specialOf ty F.slot_tuple_eq.lookup (wpAny_bind (wpAny_isInstance ty isSubtype_tuple_tuple ?_)))
  rw [if_neg (by decide)]
  refine wpAny_bind (wpAny_seqItems e1 e2 (wpAny_bind ?_))
  show wpAny _ _ (forIn (bs.map Value.ref).toArray _ _) _ _ _
  rw [← Array.forIn_toList, List.toList_toArray]
  refine wpAny_forIn_list _ (fun l r u => r.1 = none ∧ u = s ∧ ∃ (ks' : List (List Int)) (bs' : List Addr), l = bs'.map Value.ref ∧ Pr s.heap ks' bs') _ (fun v l r u ⟨_, eu, ks', bs', el, pr⟩ => ?_) (fun r u ⟨er, eu, _⟩ => ?_) _ _ ⟨rfl, rfl, ks, bs, rfl, p⟩
  · subst eu
    cases pr with
    | nil => cases el
    | cons r1 t1 =>
      cases el
      refine wpAny_bind (calm_row (m := 6) r1 ?_)
      rw [if_neg (by decide)]
      exact wpAny_pure ⟨rfl, rfl, _, _, rfl, t1⟩
  · subst eu
    obtain ⟨r1, r2⟩ := r
    cases er
    exact wpAny_pure g
end
def grpKind (P : Program) (w : World) : HeapKind P w (List (List Int)) where
  is := Grp
  hash := grpH
  draws ks := made ks + 1
  room A := A.units + 1 < cLine
  inj x y := x.uniq y P w
  keeps x e ed sb := x.stay e ed sb
  pyHash hu x g := hash_grp hu x g
  eqBool hu x y g := eq_grp hu x y g
  quiet x g := calm_grp x g
end TK
namespace DL
open PySem PySem.Spec L2
open PyProof.Rows hiding St
/-! ### dicts whose keys are tuples -/
section
variable {X : Cx} {pins : List (Addr × Obj)} {σ : St} {H : Hp} {s : Shared} {ι : List Addr} {K : PySem.W.Frag}
theorem rps_int : ∀ {k : List Int} {vs : List V}, Rps K H ι (k.map Dt.int) vs → vs = k.map V.int
  | [], vs, h => h
  | i :: k, vs, h => by
    obtain ⟨v, r, e, a, b⟩ := h
    have e1 : v = V.int i := a
    rw [e, e1, rps_int b]
    rfl
theorem items_of {P : Program} {w : World} : ∀ {k : List Int} {us : List Value}, Vals (k.map V.int) us → ItemsAre (intKind P w) k us
  | [], us, h => by cases h; exact .nil
  | i :: k, us, h => by
    cases h with
    | cons a b =>
      obtain ⟨t, e⟩ := a
      subst e
      exact .cons (intKind_is _ _ _ _) (items_of b)
theorem isT (I : Inv X pins σ H s) {k : List Int} {v : V} (r : Rp X.K H ι (encT k) v) : ∃ b, v = .ref b ∧ (tupleKind (intKind X.prog X.w)).is s.heap k b := by
  obtain ⟨b, vs, e, sq, rr⟩ := r
  have ev := rps_int rr
  subst ev
  obtain ⟨its, rv, ⟨o, h1, h2, n, h3⟩, _⟩ := I.tuple sq
  exact ⟨b, e, o, its.toArray, n, h1, h2, h3, by simpa using items_of rv⟩
theorem rowT (I : Inv X pins σ H s) {k : List Int} {v : V} (r : Rp X.K H ι (encT k) v) : ∃ b, v = .ref b ∧ TK.Row s.heap k b := by
  obtain ⟨b, vs, e, sq, rr⟩ := r
  have ev := rps_int rr
  subst ev
  obtain ⟨its, rv, ⟨o, h1, h2, n, h3⟩, _⟩ := I.tuple sq
  exact ⟨b, e, fun P w => ⟨o, its.toArray, n, h1, h2, h3, by simpa using items_of rv⟩⟩
theorem rows_of (I : Inv X pins σ H s) : ∀ {ks : List (List Int)} {vs : List V} {us : List Value}, Rps X.K H ι (ks.map encT) vs → Vals vs us → ∃ bs : List Addr, us = bs.map Value.ref ∧ TK.Pr s.heap ks bs
  | [], vs, us, h, h2 => by
    have e : vs = [] := h
    subst e
    cases h2
    exact ⟨[], rfl, .nil⟩
  | k :: ks, vs, us, h, h2 => by
    obtain ⟨v, r, e, a, b⟩ := h
    subst e
    obtain ⟨c, ec, hc⟩ := rowT I a
    subst ec
    cases h2 with
    | cons x y =>
      have ex := (show _ = Value.ref c from x)
      subst ex
      obtain ⟨bs, eb, p⟩ := rows_of I b y
      exact ⟨c :: bs, by rw [eb]; rfl, .cons hc p⟩
theorem isG (I : Inv X pins σ H s) {ks : List (List Int)} {v : V} (r : Rp X.K H ι (encG ks) v) : ∃ b, v = .ref b ∧ (TK.grpKind X.prog X.w).is s.heap ks b := by
  obtain ⟨b, vs, e, sq, rr⟩ := r
  obtain ⟨its, rv, ⟨o, h1, h2, n, h3⟩, _⟩ := I.tuple sq
  obtain ⟨bs, eb, p⟩ := rows_of I rr rv
  subst eb
  exact ⟨b, e, ⟨bs, ⟨o, h1, h2, n, h3⟩, p⟩⟩
end
/-- a kind of key -/
structure KyK (κ : Type) [DecidableEq κ] where
  enc : κ → Dt
  hash : κ → Int
  cl : List (κ × Dt) → Cl
  knd : ∀ (P : Program) (w : World), HeapKind P w κ
  hh : ∀ (P : Program) (w : World) (k : κ), (knd P w).hash k = hash k
  room : ∀ (P : Program) (w : World) (A : Around), A.units + 3 < cLine → (knd P w).room A.in1
  is : ∀ {X : Cx} {pins : List (Addr × Obj)} {σ : St} {H : Hp} {s : Shared} {ι : List Addr} {k : κ} {v : V}, Inv X pins σ H s → Rp X.K H ι (enc k) v → ∃ b, v = .ref b ∧ (knd X.prog X.w).is s.heap k b
  mu : ∀ kds, (cl kds).mu = true
  cel : ∀ {K : PySem.W.Frag} {H : Hp} {ι : List Addr} {kds : List (κ × Dt)} {a : Addr}, CellOk K H ι (cl kds) a ↔ CellH enc hash K H ι kds a
def kT : KyK (List Int) := ⟨encT, hashT, .dT, fun P w => tupleKind (intKind P w), fun _ _ _ => rfl, fun _ _ A h => by show A.units + 1 < cLine; omega, fun I r => isT I r, fun _ => rfl, Iff.rfl⟩
def kG : KyK (List (List Int)) := ⟨encG, hashG, .dG, fun P w => TK.grpKind P w, fun _ _ _ => rfl, fun _ _ A h => by show A.units + 1 + 1 < cLine; omega, fun I r => isG I r, fun _ => rfl, Iff.rfl⟩
section
variable {κ : Type} [DecidableEq κ] (c : KyK κ)
/-- the dict at a, its key y -/
structure HGet (K : PySem.W.Frag) (H : Hp) (a : Addr) (y : V) (xs : List (κ × Addr × Value)) (k : κ) : Prop where
  at_ : H a = some (.ext (DX c.hash a xs))
  keys : ∀ x ∈ xs, ∃ ι, Rp K H ι (c.enc x.1) (.ref x.2.1)
  key : ∃ ι, Rp K H ι (c.enc k) y
variable {c}
variable {X : Cx} {pins : List (Addr × Obj)} {σ : St} {H : Hp} {s : Shared} {ι : List Addr} {K : PySem.W.Frag} {a : Addr} {y v : V} {xs : List (κ × Addr × Value)} {k : κ} {A : Around} {E : Value → Shared → Prop} {u r : Value}
theorem DX.stay {hash : κ → Int} {h1 h2 : Heap} (x : DX hash a xs h1) (e : ∀ o, h1.get? a = some o → h2.get? a = some o) : DX hash a xs h2 := by
  obtain ⟨z, y, o, es, ep, ho, q⟩ := x
  exact ⟨z, y, o, es, ep, e _ ho, q⟩
theorem ext_dx {P : Program} {w : World} {H : Hp} {h : Heap} {hash : κ → Int} (x : DX hash a xs h) : ObjOk P w H h a (.ext (DX hash a xs)) := by
  have x' := x
  obtain ⟨z, y, o, es, ep, ho, q⟩ := x
  exact ⟨x', ⟨o, ho⟩, fun h1 h2 p e => p.stay e⟩
theorem HGet.dict (I : Inv X pins σ H s) (g : HGet c X.K H a y xs k) : s.heap.DictOfH (c.knd X.prog X.w) a xs ∧ (a == sysModules) = false ∧ xs.length ≤ sizeLine := by
  obtain ⟨x, _⟩ := (show ObjOk X.prog X.w H s.heap a (.ext (DX c.hash a xs)) from I.hok a _ g.at_)
  obtain ⟨z, y, o, es, ep, ho, h1, h2, h3, h4⟩ := x
  refine ⟨⟨o, es, ep, ho, h1, h2, ?_, fun x hx => ?_, h4⟩, z, y⟩
  · rw [h3]
    refine List.map_congr_left fun x _ => ?_
    unfold entryOfKey
    rw [c.hh]
  · obtain ⟨ι, r⟩ := g.keys x hx
    obtain ⟨b, e, q⟩ := c.is I r
    cases e
    exact q
theorem dx_of {h : Heap} (d : h.DictOfH (c.knd X.prog X.w) a xs) (hd : (a == sysModules) = false) (hl : xs.length ≤ sizeLine) : DX c.hash a xs h := by
  obtain ⟨o, es, ep, ho, h1, h2, h3, _, h4⟩ := d
  refine ⟨hd, hl, o, es, ep, ho, h1, h2, ?_, h4⟩
  rw [h3]
  refine List.map_congr_left fun x _ => ?_
  unfold entryOfKey
  rw [c.hh]
theorem h_getItem {p : Addr × Value} {Q : Value → Shared → Prop} (hu : A.units + 3 < cLine) (I : Inv X pins σ H s) (g : HGet c X.K H a y xs k) (hp : atKey xs k = some p) (ry : RelV y u) (h : ∀ s', Inv X pins σ H s' → Q p.2 s') :
    wpAny (model X.prog X.w) A (getItem (.ref a) u) Q E s := by
  obtain ⟨d, _, _⟩ := g.dict I
  obtain ⟨ι, rk⟩ := g.key
  obtain ⟨b, e, q⟩ := c.is I rk
  subst e
  have eu := (show u = Value.ref b from ry)
  subst eu
  exact wpAny_getItem_heap (c.room _ _ _ hu) q d hp (h _ (I.tok _))
theorem h_notIn {Q : Value → Shared → Prop} (hu : A.units + 3 < cLine) (I : Inv X pins σ H s) (g : HGet c X.K H a y xs k) (ry : RelV y u) (h : ∀ s', Inv X pins σ H s' → Q (.bool (!(atKey xs k).isSome)) s') :
    wpAny (model X.prog X.w) A (compareOp .NotIn u (.ref a)) Q E s := by
  obtain ⟨d, hd, _⟩ := g.dict I
  obtain ⟨ι, rk⟩ := g.key
  obtain ⟨b, e, q⟩ := c.is I rk
  subst e
  have eu := (show u = Value.ref b from ry)
  subst eu
  exact wpAny_notIn_heap (c.room _ _ _ hu) q hd d (h _ (I.tok _))
theorem storedH_len (xs : List (κ × Addr × Value)) (k : κ) (b : Addr) (r : Value) : (storedH xs k b r).length ≤ xs.length + 1 := by
  unfold storedH
  split
  · rw [List.length_map]; omega
  · rw [List.length_append]; exact Nat.le_refl _
theorem h_setItem {Q : Unit → Shared → Prop} (hu : A.units + 3 < cLine) (I : Inv X pins σ H s) (g : HGet c X.K H a y xs k) (hl : xs.length < sizeLine) (ry : RelV y u)
    (h : ∀ b s', u = .ref b → y = .ref b → Inv X pins σ (upd H a (.ext (DX c.hash a (storedH xs k b r)))) s' → Q () s') : wpAny (model X.prog X.w) A (setItem (.ref a) u r) Q E s := by
  obtain ⟨d, hd, hz⟩ := g.dict I
  obtain ⟨ι, rk⟩ := g.key
  obtain ⟨b, e, q⟩ := c.is I rk
  subst e
  have eu := (show u = Value.ref b from ry)
  subst eu
  refine wpAny_setItem_heap (hsz := hz) (c.room _ _ _ hu) q d fun h' d' hs => h b _ rfl rfl ?_
  have he : ∃ o, h'.get? a = some o := let ⟨o, _, _, ho, _⟩ := d'; ⟨o, ho⟩
  exact d_write I (by rw [g.at_]; exact True.intro) hs he (ext_dx (dx_of (X := X) d' hd (by have := storedH_len xs k b r; omega)))
end
section
variable {κ : Type} [DecidableEq κ] (c : KyK κ) {X : Cx} {F : Fx} {o i value : Expr} {pos pos' : Pos} {td ty tv : TE}
def rIxH (K : PySem.W.Frag) : R2 := fun x y H Q => ∃ a xs k p v, x = .ref a ∧ HGet c K H a y xs k ∧ atKey xs k = some p ∧ RelV v p.2 ∧ Q v H
theorem ix_H (hu : X.A.units + 3 < cLine) : IxR X (rIxH c X.K) := by
  intro value slice pins s σ H x y v u Q I rx ry h hs
  obtain ⟨a, xs, k, p, w', rfl, g, hp, rw', q⟩ := h
  cases rx
  exact tail_any (g.dict I).1.typeIs PySem.slot_dict_getitem.lookup (h_getItem hu I g hp ry fun s' I' => ⟨w', H, I', rw', q⟩) hs
def tHNotIn (ty td : TE) : TE := fun σ H Q => ty σ H fun y H1 => td σ H1 fun x H2 => ∃ a xs k, x = .ref a ∧ HGet c X.K H2 a y xs k ∧ Q (.bl (!(atKey xs k).isSome)) H2
theorem pc_hnotin (hu : X.A.units + 3 < cLine) (hi : PE X i ty) (ho : PE X o td) : PC X .NotIn i o (tHNotIn c (X := X) ty td) := by
  intro pins s σ H Q I h
  refine thn (hi pins s σ H _ I h) fun iv s1 ⟨y, H1, I1, ry, q1⟩ => thn (ho pins s1 σ H1 _ I1 q1) fun u s2 ⟨x, H2, I2, rx, a, xs, k, ex, g, q2⟩ => ?_
  subst ex
  obtain rfl : u = Value.ref a := rx
  exact h_notIn hu I2 g ry fun s3 I3 => ⟨.bl _, H2, I3, rfl, q2⟩
def sHPut (td ty tv : TE) : TS := fun D σ H => tv σ H fun v H1 => td σ H1 fun x H2 => ty σ H2 fun y H3 => ∃ a xs k, x = .ref a ∧ HGet c X.K H3 a y xs k ∧ xs.length < sizeLine ∧
  ∀ b u, y = .ref b → RelV v u → D.nx σ (upd H3 a (.ext (DX c.hash a (storedH xs k b u))))
theorem ps_hput (hu : X.A.units + 3 < cLine) (ho : PE X o td) (hi : PE X i ty) (hv : PE X value tv) (hs : swapsWith value (some (.Subscript o i pos')) pos.line X.env = pure false) :
    PS X (.Assign [.Subscript o i pos'] value pos) (sHPut c (X := X) td ty tv) := by
  intro pins s σ H D I h
  refine wpAny_Assign_Subscript (thn (hv pins s σ H _ I h) fun r s1 ⟨v, H1, I1, rv, q1⟩ => thn (ho pins s1 σ H1 _ I1 q1) fun u s2 ⟨x, H2, I2, rx, q2⟩ => thn (hi pins s2 σ H2 _ I2 q2) fun iv s3 ⟨y, H3, I3, ry, a, xs, k, ex, g, hl, q3⟩ => ?_) hs
  subst ex
  obtain rfl : u = Value.ref a := rx
  exact h_setItem hu I3 g hl ry fun b s4 _ ey I4 => ⟨σ, _, I4, q3 b r ey rv⟩
def tHNew : TE := fun _ H Q => ∀ p, H p = none → Q (.ref p) (upd H p (.ext (DX c.hash p [])))
theorem pe_hnew : PE X (.Dict [] [] pos) (tHNew c) := fun pins s σ H Q I h =>
  wpAny_Dict_empty ⟨.ref s.heap.objs.size, _, I.laid (a := s.heap.objs.size) (o := .ext (DX c.hash s.heap.objs.size [])) (t' := s.toks) (fun _ _ q => Heap.get?_push_of_some _ q) (Nat.le_refl _)
    (ext_dx ⟨beq_eq_false_iff_ne.mpr (Ne.symm (Nat.ne_of_lt I.big)), Nat.zero_le _, _, #[], 0, Heap.get?_push_size _ rfl, ⟨rfl, rfl, rfl⟩, rfl, rfl, List.nodup_nil⟩), rfl, h _ (I.hok.fresh (Nat.le_refl _))⟩
end
/-! the readings -/
section
variable {κ : Type} [DecidableEq κ]
def valH (kds : List (κ × Dt)) (k : κ) : Option Dt := (kds.find? fun p => decide (p.1 = k)).map (·.2)
theorem valH_app {kds : List (κ × Dt)} {k k' : κ} {d : Dt} : valH (kds ++ [(k', d)]) k = (valH kds k).or (if k' = k then some d else none) := by
  unfold valH
  rw [List.find?_append]
  cases e : kds.find? fun p => decide (p.1 = k) with
  | some p => rfl
  | none =>
    by_cases h : k' = k
    · simp [h]
    · simp [h]
variable {enc : κ → Dt} {K : PySem.W.Frag} {H H' : Hp} {ι : List Addr}
theorem RpH.key : ∀ {kds : List (κ × Dt)} {xs : List (κ × Addr × Value)}, RpH enc K H ι kds xs → ∀ x ∈ xs, ∃ ι, Rp K H ι (enc x.1) (.ref x.2.1)
  | [], xs, h, x, hx => by have e : xs = [] := h; subst e; cases hx
  | p :: ds, xs, h, x, hx => by
    obtain ⟨b, u, r, e, a, _, t⟩ := h
    subst e
    rcases List.mem_cons.mp hx with rfl | hx
    · exact ⟨ι, a⟩
    · exact RpH.key t x hx
theorem RpH.len : ∀ {kds : List (κ × Dt)} {xs : List (κ × Addr × Value)}, RpH enc K H ι kds xs → kds.length = xs.length
  | [], xs, h => by have e : xs = [] := h; subst e; rfl
  | p :: ds, xs, h => by
    obtain ⟨b, u, r, e, a, _, t⟩ := h
    subst e
    rw [List.length_cons, List.length_cons, RpH.len t]
theorem RpH.val {k : κ} : ∀ {kds : List (κ × Dt)} {xs : List (κ × Addr × Value)}, RpH enc K H ι kds xs → (∀ d, valH kds k = some d → ∃ p v, atKey xs k = some p ∧ RelV v p.2 ∧ Rp K H ι d v) ∧ (valH kds k = none → atKey xs k = none)
  | [], xs, h => by
    have e : xs = [] := h
    subst e
    exact ⟨fun d q => (nomatch q), fun _ => rfl⟩
  | p :: ds, xs, h => by
    obtain ⟨b, u, r, e, a, ⟨v, rv, rp⟩, t⟩ := h
    subst e
    obtain ⟨h1, h2⟩ := RpH.val (k := k) t
    by_cases hk : p.1 = k
    · have e1 : valH (p :: ds) k = some p.2 := by simp [valH, List.find?_cons, hk]
      have e2 : atKey ((p.1, b, u) :: r) k = some (b, u) := by simp [atKey, List.find?_cons, hk]
      rw [e1, e2]
      exact ⟨fun d q => by cases q; exact ⟨_, v, rfl, rv, rp⟩, fun q => (nomatch q)⟩
    · have e1 : valH (p :: ds) k = valH ds k := by simp [valH, List.find?_cons, hk]
      have e2 : atKey ((p.1, b, u) :: r) k = atKey r k := by simp [atKey, List.find?_cons, hk]
      rw [e1, e2]
      exact ⟨h1, h2⟩
theorem RpH.app {k : κ} {b : Addr} {u : Value} {d : Dt} {v : V} (rk : Rp K H ι (enc k) (.ref b)) (rv : RelV v u) (r : Rp K H ι d v) : ∀ {kds : List (κ × Dt)} {xs : List (κ × Addr × Value)}, RpH enc K H ι kds xs → RpH enc K H ι (kds ++ [(k, d)]) (xs ++ [(k, b, u)])
  | [], xs, h => by
    have e : xs = [] := h
    subst e
    exact ⟨b, u, [], rfl, rk, ⟨v, rv, r⟩, rfl⟩
  | p :: ds, xs, h => by
    obtain ⟨b', u', r', e, a, q, t⟩ := h
    subst e
    exact ⟨b', u', r' ++ [(k, b, u)], rfl, a, q, RpH.app rk rv r t⟩
end
section
variable {κ : Type} [DecidableEq κ] (c : KyK κ) {X : Cx} {F : Fx} {a b o i value : Expr} {pos pos' : Pos} {ta tb to ti tv : TDE} {k : Nat}
structure rdIxH (x y : Dt) (G : GD) (Q : KD) : Prop where
  p : ∃ j kds q d, x = .ref j ∧ y = c.enc q ∧ G[j]? = some (c.cl kds) ∧ valH kds q = some d ∧ Q d G
theorem l2_ixH {K : PySem.W.Frag} : L2R K (rIxH c K) (rdIxH c) := by
  intro G H ι d1 d2 v1 v2 Q Qv hG r1 r2 h hq
  obtain ⟨j, kds, q, d, rfl, rfl, hc, hv, h⟩ := h.p
  obtain ⟨a, e1, qa⟩ := r1
  obtain ⟨xs, w, rr⟩ := c.cel.mp (hG.cel j _ a hc qa)
  obtain ⟨p, v, hp, rv, rp⟩ := rr.val.1 d hv
  exact ⟨a, xs, q, p, v, e1, ⟨w, rr.key, ⟨ι, r2⟩⟩, hp, rv, hq v H d G ι hG Gr.refl rp h⟩
theorem de_ixH' (hr : Room k X.A) (ha : DE' X F a ta) (hb : DE' X F b tb) (hs : PlainIx b := by exact fun _ _ => rfl) : DE' X F (.Subscript a b pos) (dOp (rdIxH c) ta tb) :=
  ⟨li2 (l2_ixH c) (pe_ix (ix_H c (by have := hr.units; omega)) ha.p hb.p hs)⟩
structure rdNotH (y x : Dt) (G : GD) (Q : Bool → GD → Prop) : Prop where
  p : ∃ j kds q, x = .ref j ∧ y = c.enc q ∧ G[j]? = some (c.cl kds) ∧ Q (!(valH kds q).isSome) G
def dNotH (ty tx : TDE) : TDT := fun σ G Q => ty σ G fun y G1 => tx σ G1 fun x G2 => rdNotH c y x G2 Q
theorem dt_notinH' (hr : Room k X.A) (ha : DE' X F a ta) (hb : DE' X F b tb) (hm : behindInMarks .NotIn b = false := by rfl) : DT' X F (.Compare a [.NotIn] [b] pos) (dNotH c ta tb) := by
  refine ⟨PT.imp (pt_cmp (pc_hnotin c (by have := hr.units; omega) ha.p hb.p) hm) fun σ H Qv ⟨σd, G, ι, Q, ok, ht, hq⟩ => ?_⟩
  refine ⟨σd, G, ι, _, ok, ht, fun y H1 dy G1 ι1 h1 g1 r1 q1 => ⟨σd, G1, ι1, _, ok.to h1 g1, q1, fun x H2 dx G2 ι2 h2 g2 r2 q2 => ?_⟩⟩
  obtain ⟨j, kds, q, rfl, rfl, hc, hQ⟩ := q2.p
  obtain ⟨a, e2, qa⟩ := r2
  obtain ⟨xs, w, rr⟩ := c.cel.mp (h2.cel j _ a hc qa)
  have hv := rr.val (k := q)
  refine ⟨a, xs, q, e2, ⟨w, rr.key, ⟨ι2, r1.up g2⟩⟩, !(atKey xs q).isSome, rfl, ?_⟩
  have e : (atKey xs q).isSome = (valH kds q).isSome := by
    cases hd : valH kds q with
    | none => rw [hv.2 hd]; rfl
    | some d => obtain ⟨p, v, ev, _⟩ := hv.1 d hd; rw [ev]; rfl
  rw [e]
  exact hq _ H2 G2 ι2 h2 (g1.trans g2) hQ
structure rdPutH (x y v : Dt) (G : GD) (Q : GD → Prop) : Prop where
  p : ∃ j kds q, x = .ref j ∧ y = c.enc q ∧ G[j]? = some (c.cl kds) ∧ valH kds q = none ∧ kds.length < sizeLine ∧ Q (G.set j (c.cl (kds ++ [(q, v)])))
def dPutH (tv to ti : TDE) : TDS := fun D σ G => tv σ G fun v G1 => to σ G1 fun x G2 => ti σ G2 fun y G3 => rdPutH c x y v G3 fun G4 => D.nx σ G4
theorem ds_putH' (hr : Room k X.A) (hv : DE' X F value tv) (ho : DE' X F o to) (hi : DE' X F i ti) (hs : swapsWith value (some (.Subscript o i pos')) pos.line X.env = pure false := by rfl) :
    DS' X F (.Assign [.Subscript o i pos'] value pos) (dPutH c tv to ti) := by
  refine ⟨PS.imp (ps_hput c (by have := hr.units; omega) ho.p hi.p hv.p hs) fun D σ H ⟨σd, G, ι, Dd, ok, ht, L⟩ => ?_⟩
  refine ⟨σd, G, ι, _, ok, ht, fun v H1 d G1 ι1 h1 g1 r1 q1 => ⟨σd, G1, ι1, _, ok.to h1 g1, q1, fun x H2 dx G2 ι2 h2 g2 r2 q2 => ⟨σd, G2, ι2, _, ok.to h2 (g1.trans g2), q2, fun y H3 dy G3 ι3 h3 g3 r3 q3 => ?_⟩⟩⟩
  obtain ⟨j, kds, q, rfl, rfl, hc, hn, hl, hQ⟩ := q3.p
  obtain ⟨a, e2, qa⟩ := r2
  obtain ⟨xs, w, rr⟩ := c.cel.mp (h3.cel j _ a hc (g3.at qa))
  have hn' := (rr.val (k := q)).2 hn
  refine ⟨a, xs, q, e2, ⟨w, rr.key, ⟨ι3, r3⟩⟩, by rw [← rr.len]; exact hl, fun b u ey rv => ?_⟩
  subst ey
  rw [storedH_new hn']
  have gp : Gr X.K H3 ι3 (upd H3 a (.ext (DX c.hash a (xs ++ [(q, b, u)])))) ι3 := Gr.put h3 hc (c.mu _) (g3.at qa)
  have hG4 := h3.put (c' := c.cl (kds ++ [(q, d)])) (o := .ext (DX c.hash a (xs ++ [(q, b, u)]))) hc (c.mu _) (g3.at qa) (c.mu _) (c.cel.mpr ⟨_, upd_same, (RpH.app r3 rv ((r1.up g2).up g3) rr).up gp⟩)
  exact L.nx _ _ _ _ ι3 (ok.to hG4 (g1.trans (g2.trans (g3.trans gp)))) hQ
def dDictH : TDE := fun _ G Q => Q (.ref G.length) (G ++ [c.cl []])
theorem de_dictH' : DE' X F (.Dict [] [] pos) (dDictH c) := by
  refine ⟨PE.imp (pe_hnew c) fun σ H Qv ⟨σd, G, ι, Q, ok, ht, hq⟩ => ?_⟩
  intro p hp
  have hc : CellOk X.K (upd H p (.ext (DX c.hash p []))) (ι ++ [p]) (c.cl []) p := c.cel.mpr ⟨[], upd_same, rfl⟩
  have hG' : HG X.K (G ++ [c.cl []]) (upd H p (.ext (DX c.hash p []))) (ι ++ [p]) := ok.hg.new hp hc
  have ht' : Q (.ref G.length) (G ++ [c.cl []]) := ht
  refine hq _ _ (.ref G.length) (G ++ [c.cl []]) (ι ++ [p]) hG' (Gr.free hp) ⟨p, rfl, ?_⟩ ht'
  rw [← ok.hg.len, List.getElem?_append_right (Nat.le_refl _)]
  simp
end
/-! ### x += e, of numbers -/
section
variable {X : Cx} {F : Fx} {e : Expr} {te : TDE} {pos pos' : Pos}
def dInc (i : Nat) (te : TDE) : TDS := fun D σ G => ∃ a : Int, σ[i]? = some (some (.int a)) ∧ te σ G fun y G1 => ∃ b : Int, y = .int b ∧ D.nx (σ.set i (some (.int (a + b)))) G1
theorem ds_inc' {i : Nat} {x : Str} (hN : X.N.Nodup) (he : DE' X F e te) (hi : X.N[i]? = some x := by rfl) (hx : Loc X.env.scope x := by first | exact Or.inl rfl | exact Or.inr rfl)
    (hf : X.fn x = true ∨ X.env.scope.names.lookup x = some .local := by first | exact .inl rfl | exact .inr rfl | assumption) : DS' X F (.AugAssign (.Name x pos') .Add e pos) (dInc i te) := by
  refine ⟨PS.imp (ps_aug hN hi hx he.p ip_add hf) fun D σ H ⟨σd, G, ι, Dd, ok, ht, L⟩ => ?_⟩
  obtain ⟨a, ha, ht⟩ := ht
  obtain ⟨v, hv, rv⟩ := ok.slt i _ ha
  have ev : v = V.int a := rv
  subst ev
  refine ⟨_, hv, σd, G, ι, _, ok, ht, fun v H1 d G1 ι1 h1 g1 r1 q1 => ?_⟩
  obtain ⟨b, rfl, q1⟩ := q1
  have ev : v = V.int b := r1
  subst ev
  exact ⟨a, b, rfl, rfl, L.nx _ H1 _ G1 ι1 ((ok.to h1 g1).set (d := .int (a + b)) rfl) q1⟩
end
end DL
namespace TH
/-! plans of questions -/
inductive Pn where
  | world (w : Wd)
  | ask (n : Nat) (yes no : Pn)
abbrev Qs := List (Wd → Bool)
def walk (qs : Qs) (w : Wd) : Pn → Wd × Nat
  | .world v => (v, 0)
  | .ask n y z => let r := if (qs.getD n fun _ => false) w = true then walk qs w y else walk qs w z; (r.1, r.2 + 1)
abbrev Fd := Option (Nat × Pn)
def better (best tried : Fd) : Fd := match tried with
  | none => best
  | some t => match best with
    | none => some t
    | some b => if t.1 < b.1 then some t else some b
def tryQ (b : List Wd → Fd) (g : List Wd) (n : Nat) (q : Wd → Bool) : Fd :=
  if (g.filter q).isEmpty = true ∨ (g.filter fun w => !q w).isEmpty = true then none else
  match b (g.filter q), b (g.filter fun w => !q w) with
  | some y, some z => some (1 + max y.1 z.1, .ask n y.2 z.2)
  | _, _ => none
def foldQ (b : List Wd → Fd) (g : List Wd) : Nat → Qs → Fd → Fd
  | _, [], acc => acc
  | n, q :: qs, acc => foldQ b g (n + 1) qs (better acc (tryQ b g n q))
def best (qs : Qs) : Nat → List Wd → Fd
  | 0, _ => none
  | f + 1, g => match g with
    | [w] => some (0, .world w)
    | g => foldQ (best qs f) g 0 qs none
theorem best_one {qs : Qs} {f : Nat} {w : Wd} : best qs (f + 1) [w] = some (0, .world w) := rfl
theorem best_more {qs : Qs} {f : Nat} {g : List Wd} (h : g.length ≠ 1) : best qs (f + 1) g = foldQ (best qs f) g 0 qs none := by
  match g, h with
  | [], _ => rfl
  | [_], h => exact absurd rfl h
  | _ :: _ :: _, _ => rfl
/-- what the fold ends with -/
theorem better_none {a t : Fd} : better a t = none ↔ a = none ∧ t = none := by
  cases a <;> cases t <;> simp [better]
  split <;> simp
theorem better_le {a t : Fd} {x : Nat × Pn} (h : better a t = some x) : (a = some x ∨ t = some x) ∧ (∀ y, a = some y → x.1 ≤ y.1) ∧ (∀ y, t = some y → x.1 ≤ y.1) := by
  cases a with
  | none =>
    cases t with
    | none => cases h
    | some t =>
      cases h
      exact ⟨.inr rfl, fun y h => (by cases h), fun y h => by cases h; exact Nat.le_refl _⟩
  | some b =>
    cases t with
    | none =>
      cases h
      exact ⟨.inl rfl, fun y h => by cases h; exact Nat.le_refl _, fun y h => by cases h⟩
    | some t =>
      simp only [better] at h
      split at h
      · cases h
        exact ⟨.inr rfl, fun y h => by cases h; omega, fun y h => by cases h; exact Nat.le_refl _⟩
      · cases h
        exact ⟨.inl rfl, fun y h => by cases h; exact Nat.le_refl _, fun y h => by cases h; omega⟩
theorem fold_none {b : List Wd → Fd} {g : List Wd} : ∀ (qs : Qs) (n : Nat) (acc : Fd), foldQ b g n qs acc = none ↔ acc = none ∧ ∀ (i : Nat) (q : Wd → Bool), qs[i]? = some q → tryQ b g (n + i) q = none
  | [], n, acc => by simp [foldQ]
  | q :: qs, n, acc => by
    unfold foldQ
    rw [fold_none qs (n + 1), better_none]
    constructor
    · rintro ⟨⟨h1, h2⟩, h3⟩
      refine ⟨h1, fun i q' e => ?_⟩
      cases i with
      | zero => simp at e; subst e; exact h2
      | succ i =>
        have := h3 i q' (by simpa using e)
        rw [show n + (i + 1) = n + 1 + i by omega]
        exact this
    · rintro ⟨h1, h2⟩
      refine ⟨⟨h1, h2 0 q rfl⟩, fun i q' e => ?_⟩
      have := h2 (i + 1) q' (by simpa using e)
      rw [show n + 1 + i = n + (i + 1) by omega]
      exact this
theorem fold_some {b : List Wd → Fd} {g : List Wd} : ∀ (qs : Qs) (n : Nat) (acc : Fd) (x : Nat × Pn), foldQ b g n qs acc = some x →
    (acc = some x ∨ ∃ (i : Nat) (q : Wd → Bool), qs[i]? = some q ∧ tryQ b g (n + i) q = some x) ∧ (∀ y, acc = some y → x.1 ≤ y.1) ∧ ∀ (i : Nat) (q : Wd → Bool) (y : Nat × Pn), qs[i]? = some q → tryQ b g (n + i) q = some y → x.1 ≤ y.1
  | [], n, acc, x, h => by
    have h' : acc = some x := h
    subst h'
    exact ⟨.inl rfl, fun y e => by cases e; exact Nat.le_refl _, fun i q y e => by simp at e⟩
  | q :: qs, n, acc, x, h => by
    unfold foldQ at h
    obtain ⟨h1, h2, h3⟩ := fold_some qs (n + 1) _ x h
    have mv : ∀ i, n + 1 + i = n + (i + 1) := fun i => by omega
    have low : ∀ y, (acc = some y ∨ tryQ b g n q = some y) → x.1 ≤ y.1 := fun y hy => by
      cases e : better acc (tryQ b g n q) with
      | none =>
        rw [better_none] at e
        rcases hy with hy | hy
        · rw [e.1] at hy; cases hy
        · rw [e.2] at hy; cases hy
      | some z =>
        have a1 := h2 z e
        obtain ⟨_, l1, l2⟩ := better_le e
        rcases hy with hy | hy
        · exact Nat.le_trans a1 (l1 y hy)
        · exact Nat.le_trans a1 (l2 y hy)
    refine ⟨?_, fun y hy => low y (.inl hy), fun i q' y e t => ?_⟩
    · rcases h1 with h1 | ⟨i, q', e, t⟩
      · obtain ⟨h1 | h1, _⟩ := better_le h1
        · exact .inl h1
        · exact .inr ⟨0, q, rfl, h1⟩
      · exact .inr ⟨i + 1, q', by simpa using e, by rw [← mv]; exact t⟩
    · cases i with
      | zero => simp at e; subst e; exact low y (.inr t)
      | succ i => exact h3 i q' y (by simpa using e) (by rw [mv]; exact t)
/-- two worlds with the same answers -/
def alikeQ (qs : Qs) (w v : Wd) : Prop := ∀ q ∈ qs, q w = q v
def apart (qs : Qs) (g : List Wd) : Prop := g.Pairwise fun w v => ¬ alikeQ qs w v
theorem filter_len {g : List Wd} (q : Wd → Bool) : (g.filter q).length + (g.filter fun w => !q w).length = g.length := by
  induction g with
  | nil => rfl
  | cons w g ih => cases h : q w <;> simp [h] <;> omega
theorem tryQ_some {b : List Wd → Fd} {g : List Wd} {n : Nat} {q : Wd → Bool} {x : Nat × Pn} (h : tryQ b g n q = some x) : ∃ y z, g.filter q ≠ [] ∧ (g.filter fun w => !q w) ≠ [] ∧ b (g.filter q) = some y ∧ b (g.filter fun w => !q w) = some z ∧ x = (1 + max y.1 z.1, .ask n y.2 z.2) := by
  unfold tryQ at h
  split at h
  · cases h
  · rename_i c
    split at h
    · rename_i y z e1 e2
      cases h
      refine ⟨y, z, fun e => c (.inl (by rw [e]; rfl)), fun e => c (.inr (by rw [e]; rfl)), e1, e2, rfl⟩
    · cases h
theorem tryQ_of {b : List Wd → Fd} {g : List Wd} {n : Nat} {q : Wd → Bool} {y z : Nat × Pn} (h1 : g.filter q ≠ []) (h2 : (g.filter fun w => !q w) ≠ []) (e1 : b (g.filter q) = some y) (e2 : b (g.filter fun w => !q w) = some z) :
    tryQ b g n q = some (1 + max y.1 z.1, .ask n y.2 z.2) := by
  unfold tryQ
  rw [if_neg (by rw [List.isEmpty_iff, List.isEmpty_iff]; exact fun c => c.elim h1 h2), e1, e2]
/-- a plan is found just where all are apart -/
theorem best_some {qs : Qs} : ∀ (f : Nat) (g : List Wd), g ≠ [] → g.length ≤ f → apart qs g → ∃ x, best qs f g = some x
  | 0, g, h0, hf, _ => absurd (List.eq_nil_of_length_eq_zero (Nat.le_zero.mp hf)) h0
  | f + 1, g, h0, hf, ha => by
    by_cases h1 : g.length = 1
    · match g, h1 with
      | [w], _ => exact ⟨_, best_one⟩
    · rw [best_more h1]
      match g, h0, h1 with
      | [_], _, h1 => exact absurd rfl h1
      | w :: v :: r, _, _ =>
        have hwv : ¬ alikeQ qs w v := (List.pairwise_cons.mp ha).1 v List.mem_cons_self
        unfold alikeQ at hwv
        have : ∃ q ∈ qs, q w ≠ q v := by
          apply Classical.byContradiction
          intro z
          apply hwv
          intro q hq
          apply Classical.byContradiction
          intro e
          exact z ⟨q, hq, e⟩
        obtain ⟨q, hq, e⟩ := this
        obtain ⟨i, hi⟩ := List.getElem?_of_mem hq
        have ny : (w :: v :: r).filter q ≠ [] := by
          intro z
          rw [List.filter_eq_nil_iff] at z
          have a := z w List.mem_cons_self
          have b := z v (List.mem_cons_of_mem _ List.mem_cons_self)
          cases h1 : q w <;> cases h2 : q v <;> simp_all
        have nz : ((w :: v :: r).filter fun w => !q w) ≠ [] := by
          intro z
          rw [List.filter_eq_nil_iff] at z
          have a := z w List.mem_cons_self
          have b := z v (List.mem_cons_of_mem _ List.mem_cons_self)
          cases h1 : q w <;> cases h2 : q v <;> simp_all
        have fl := filter_len (g := w :: v :: r) q
        have py := List.length_pos_iff.mpr ny
        have pz := List.length_pos_iff.mpr nz
        obtain ⟨y, ey⟩ := best_some f _ ny (by omega) (ha.sublist List.filter_sublist)
        obtain ⟨z, ez⟩ := best_some f _ nz (by omega) (ha.sublist List.filter_sublist)
        have t := tryQ_of (n := 0 + i) (q := q) ny nz ey ez
        cases h : foldQ (best qs f) (w :: v :: r) 0 qs none with
        | some x => exact ⟨x, rfl⟩
        | none =>
          have := ((fold_none qs 0 none).mp h).2 i q hi
          rw [t] at this
          cases this
theorem best_apart {qs : Qs} : ∀ (f : Nat) (g : List Wd) (x : Nat × Pn), best qs f g = some x → apart qs g
  | 0, g, x, h => by cases h
  | f + 1, g, x, h => by
    by_cases h1 : g.length = 1
    · match g, h1 with
      | [w], _ => exact List.pairwise_singleton _ _
    · rw [best_more h1] at h
      obtain ⟨h | ⟨i, q, hq, t⟩, _⟩ := fold_some qs 0 none x h
      · cases h
      · obtain ⟨y, z, _, _, ey, ez, _⟩ := tryQ_some t
        have ay := best_apart f _ _ ey
        have az := best_apart f _ _ ez
        have mq := List.mem_of_getElem? hq
        unfold apart at *
        rw [List.pairwise_filter] at ay az
        refine (ay.and az).imp fun {w v} h => ?_
        intro al
        have e := al q mq
        cases c : q w
        · rw [c] at e; exact h.2 (by simp [c]) (by simp [← e]) al
        · rw [c] at e; exact h.1 c e.symm al
/-- the plan tells each world, the most that it asks is told -/
theorem best_walk {qs : Qs} : ∀ (f : Nat) (g : List Wd) (x : Nat × Pn), best qs f g = some x → (∀ w ∈ g, (walk qs w x.2).1 = w ∧ (walk qs w x.2).2 ≤ x.1) ∧ ∃ w ∈ g, (walk qs w x.2).2 = x.1
  | 0, g, x, h => by cases h
  | f + 1, g, x, h => by
    by_cases h1 : g.length = 1
    · match g, h1 with
      | [w], _ =>
        rw [best_one] at h
        cases h
        exact ⟨fun v hv => by simp at hv; subst hv; exact ⟨rfl, Nat.le_refl _⟩, w, List.mem_cons_self, rfl⟩
    · rw [best_more h1] at h
      obtain ⟨h | ⟨i, q, hq, t⟩, _⟩ := fold_some qs 0 none x h
      · cases h
      · obtain ⟨y, z, _, _, ey, ez, rfl⟩ := tryQ_some t
        obtain ⟨wy, vy, my, ly⟩ := best_walk f _ _ ey
        obtain ⟨wz, vz, mz, lz⟩ := best_walk f _ _ ez
        have gq : qs.getD (0 + i) (fun _ => false) = q := by rw [Nat.zero_add]; simp [List.getD, hq]
        have wk : ∀ w, walk qs w (.ask (0 + i) y.2 z.2) = let r := if q w = true then walk qs w y.2 else walk qs w z.2; (r.1, r.2 + 1) := fun w => by
          show (let r := if (qs.getD (0 + i) fun _ => false) w = true then walk qs w y.2 else walk qs w z.2; (r.1, r.2 + 1)) = _
          rw [gq]
        refine ⟨fun w hw => ?_, ?_⟩
        · rw [wk]
          cases c : q w with
          | true =>
            have := wy w (List.mem_filter.mpr ⟨hw, c⟩)
            simp only [if_true]
            exact ⟨this.1, by have := this.2; have := Nat.le_max_left y.1 z.1; omega⟩
          | false =>
            have := wz w (List.mem_filter.mpr ⟨hw, by simp [c]⟩)
            simp only [Bool.false_eq_true, if_false]
            exact ⟨this.1, by have := this.2; have := Nat.le_max_right y.1 z.1; omega⟩
        · by_cases le : z.1 ≤ y.1
          · rw [List.mem_filter] at my
            refine ⟨vy, my.1, ?_⟩
            rw [wk, my.2]
            simp only [if_true]
            rw [Nat.max_eq_left le, ly]; omega
          · rw [List.mem_filter] at mz
            refine ⟨vz, mz.1, ?_⟩
            have c : q vz = false := by simpa using mz.2
            rw [wk, c]
            simp only [Bool.false_eq_true, if_false]
            rw [Nat.max_eq_right (by omega), lz]; omega
/-- so many questions are enough for some plan -/
def needs (qs : Qs) : Nat → List Wd → Bool
  | 0, g => decide (g.length < 2)
  | m + 1, g => decide (g.length < 2) || qs.any fun q => !(g.filter q).isEmpty && !(g.filter fun w => !q w).isEmpty && needs qs m (g.filter q) && needs qs m (g.filter fun w => !q w)
theorem best_least {qs : Qs} : ∀ (f : Nat) (g : List Wd) (x : Nat × Pn) (m : Nat), g.length ≤ f → best qs f g = some x → needs qs m g = true → x.1 ≤ m
  | 0, g, x, m, _, h, _ => by cases h
  | f + 1, g, x, m, hf, h, hn => by
    by_cases h1 : g.length = 1
    · match g, h1 with
      | [w], _ => rw [best_one] at h; cases h; exact Nat.zero_le _
    · have two : ¬ g.length < 2 := fun c => by
        have : g = [] := List.eq_nil_of_length_eq_zero (by omega)
        subst this
        obtain ⟨_, w, hw, _⟩ := best_walk _ _ _ h
        simp at hw
      rw [best_more h1] at h
      cases m with
      | zero => exact absurd (of_decide_eq_true hn) two
      | succ m =>
        unfold needs at hn
        rw [decide_eq_false two, Bool.false_or, List.any_eq_true] at hn
        obtain ⟨q, hq, hn⟩ := hn
        simp only [Bool.and_eq_true, Bool.not_eq_true', List.isEmpty_eq_false_iff] at hn
        obtain ⟨⟨⟨ny, nz⟩, n1⟩, n2⟩ := hn
        obtain ⟨i, hi⟩ := List.getElem?_of_mem hq
        have fl := filter_len (g := g) q
        have py := List.length_pos_iff.mpr ny
        have pz := List.length_pos_iff.mpr nz
        have ap : apart qs g := best_apart (f + 1) g x (by rw [best_more h1]; exact h)
        obtain ⟨y, ey⟩ := best_some f _ ny (by omega) (ap.sublist List.filter_sublist)
        obtain ⟨z, ez⟩ := best_some f _ nz (by omega) (ap.sublist List.filter_sublist)
        have ly := best_least f _ y m (by omega) ey n1
        have lz := best_least f _ z m (by omega) ez n2
        have t := tryQ_of (n := 0 + i) (q := q) ny nz ey ez
        have := (fold_some qs 0 none x h).2.2 i q _ hi t
        simp only at this
        omega
theorem best_none {qs : Qs} {f : Nat} {g : List Wd} (h0 : g ≠ []) (hf : g.length ≤ f) : best qs f g = none ↔ ¬ apart qs g := by
  constructor
  · intro h ha
    obtain ⟨x, e⟩ := best_some f g h0 hf ha
    rw [h] at e; cases e
  · intro h
    cases e : best qs f g with
    | none => rfl
    | some x => exact absurd (best_apart f g x e) h
end TH
namespace TH
/-! plans: without fuel; how many groups there are; rows of answers -/
theorem tryQ_congr {b b' : List Wd → Fd} {g : List Wd} {n : Nat} {q : Wd → Bool} (h : g.filter q ≠ [] → (g.filter fun w => !q w) ≠ [] → b (g.filter q) = b' (g.filter q) ∧ b (g.filter fun w => !q w) = b' (g.filter fun w => !q w)) : tryQ b g n q = tryQ b' g n q := by
  unfold tryQ
  split
  · rfl
  · rename_i c
    have h1 : g.filter q ≠ [] := fun e => c (.inl (by rw [e]; rfl))
    have h2 : (g.filter fun w => !q w) ≠ [] := fun e => c (.inr (by rw [e]; rfl))
    obtain ⟨e1, e2⟩ := h h1 h2
    rw [e1, e2]
theorem foldQ_congr {b b' : List Wd → Fd} {g : List Wd} : ∀ (qs : Qs) (n : Nat) (acc : Fd), (∀ q ∈ qs, ∀ n, tryQ b g n q = tryQ b' g n q) → foldQ b g n qs acc = foldQ b' g n qs acc
  | [], _, _, _ => rfl
  | q :: qs, n, acc, h => by
    show foldQ b g (n + 1) qs _ = foldQ b' g (n + 1) qs _
    rw [h q (by simp) n]
    exact foldQ_congr qs (n + 1) _ fun q' hq' => h q' (List.mem_cons_of_mem _ hq')
def bst (qs : Qs) (g : List Wd) : Fd := best qs g.length g
theorem split_lt {g : List Wd} {q : Wd → Bool} (h1 : g.filter q ≠ []) (h2 : (g.filter fun w => !q w) ≠ []) : (g.filter q).length < g.length ∧ (g.filter fun w => !q w).length < g.length := by
  have := filter_len (g := g) q
  have := List.length_pos_iff.mpr h1
  have := List.length_pos_iff.mpr h2
  omega
theorem best_fuel {qs : Qs} : ∀ (f : Nat) (g : List Wd), g ≠ [] → g.length ≤ f → best qs f g = bst qs g
  | 0, g, h0, h => absurd (List.eq_nil_of_length_eq_zero (by omega)) h0
  | f + 1, g, h0, h => by
    have hl := List.length_pos_iff.mpr h0
    by_cases h1 : g.length = 1
    · match g, h1 with
      | [w], _ => rfl
    · unfold bst
      obtain ⟨l, hlg⟩ := Nat.exists_eq_succ_of_ne_zero (n := g.length) (by omega)
      rw [hlg, best_more h1, best_more h1]
      refine foldQ_congr qs 0 none fun q _ n => tryQ_congr fun a b => ?_
      obtain ⟨s1, s2⟩ := split_lt a b
      rw [best_fuel f _ a (by omega), best_fuel f _ b (by omega), best_fuel l _ a (by omega), best_fuel l _ b (by omega)]
      exact ⟨rfl, rfl⟩
termination_by f g => f + g.length
theorem bst_one {qs : Qs} {w : Wd} : bst qs [w] = some (0, .world w) := rfl
theorem bst_more {qs : Qs} {g : List Wd} (h : 2 ≤ g.length) : bst qs g = foldQ (bst qs) g 0 qs none := by
  obtain ⟨l, hlg⟩ := Nat.exists_eq_succ_of_ne_zero (n := g.length) (by omega)
  unfold bst
  rw [hlg, best_more (by omega)]
  refine foldQ_congr qs 0 none fun q _ n => tryQ_congr fun a b => ?_
  obtain ⟨s1, s2⟩ := split_lt a b
  rw [best_fuel l _ a (by omega), best_fuel l _ b (by omega)]
  exact ⟨rfl, rfl⟩
/-- the questions that a plan asks -/
def Pn.ok (n : Nat) : Pn → Prop
  | .world _ => True
  | .ask k y z => k < n ∧ y.ok n ∧ z.ok n
def Pn.sz : Pn → Nat
  | .world _ => 0
  | .ask _ y z => y.sz + z.sz + 1
theorem best_ok {qs : Qs} : ∀ (f : Nat) (g : List Wd) (x : Nat × Pn), best qs f g = some x → x.2.ok qs.length
  | 0, g, x, h => by cases h
  | f + 1, g, x, h => by
    by_cases h1 : g.length = 1
    · match g, h1 with
      | [w], _ => rw [best_one] at h; cases h; exact trivial
    · rw [best_more h1] at h
      rcases (fold_some qs 0 none x h).1 with e | ⟨i, q, hi, e⟩
      · cases e
      · obtain ⟨y, z, _, _, ey, ez, rfl⟩ := tryQ_some e
        have := (List.getElem?_eq_some_iff.mp hi).1
        exact ⟨by omega, best_ok f _ y ey, best_ok f _ z ez⟩
/-! lists without doubles -/
theorem nd_le {α : Type} [DecidableEq α] : ∀ {ks l : List α}, ks.Nodup → (∀ x ∈ ks, x ∈ l) → ks.length ≤ l.length
  | [], l, _, _ => Nat.zero_le _
  | x :: ks, l, h, hs => by
    obtain ⟨hx, hk⟩ := List.nodup_cons.mp h
    have hl := hs x (by simp)
    have := nd_le (ks := ks) (l := l.erase x) hk fun y hy => (List.mem_erase_of_ne (fun e : y = x => hx (by rw [← e]; exact hy))).mpr (hs y (List.mem_cons_of_mem _ hy))
    rw [List.length_erase_of_mem hl] at this
    have := List.length_pos_of_mem hl
    rw [List.length_cons]
    omega
theorem nd_lt {α : Type} [DecidableEq α] : ∀ {l ks : List α}, ks.Nodup → (∀ x ∈ ks, x ∈ l) → ¬ l.Nodup → ks.length < l.length
  | [], ks, _, _, h => absurd List.nodup_nil h
  | y :: l, ks, hk, hs, h => by
    by_cases hy : y ∈ l
    · have := nd_le (ks := ks) (l := l) hk fun x hx => by
        rcases List.mem_cons.mp (hs x hx) with rfl | hx
        · exact hy
        · exact hx
      rw [List.length_cons]
      omega
    · have hl : ¬ l.Nodup := fun hn => h (List.nodup_cons.mpr ⟨hy, hn⟩)
      have h1 := nd_lt (l := l) (ks := ks.erase y) (hk.erase y) (fun x hx => by
        have hxm := List.mem_of_mem_erase hx
        rcases List.mem_cons.mp (hs x hxm) with rfl | hx'
        · exact absurd hx (List.Nodup.not_mem_erase hk)
        · exact hx') hl
      have h2 : ks.length ≤ (ks.erase y).length + 1 := by
        rw [List.length_erase]
        split <;> omega
      rw [List.length_cons]
      omega
theorem nd_iff {α : Type} [DecidableEq α] {ks l : List α} (hk : ks.Nodup) (hm : ∀ x, x ∈ ks ↔ x ∈ l) : ks.length < l.length ↔ ¬ l.Nodup := by
  constructor
  · intro h hn
    have := nd_le (ks := l) (l := ks) hn fun x hx => (hm x).mpr hx
    omega
  · exact nd_lt hk fun x hx => (hm x).mp hx
/-! rows of answers -/
def row (qs : Qs) (w : Wd) : List Bool := qs.map fun q => q w
theorem row_len (qs : Qs) (w : Wd) : (row qs w).length = qs.length := List.length_map _
theorem row_eq {qs : Qs} {w v : Wd} : row qs w = row qs v ↔ alikeQ qs w v := by
  unfold row alikeQ
  constructor
  · intro h q hq
    induction qs with
    | nil => cases hq
    | cons q' qs ih =>
      rw [List.map_cons, List.map_cons] at h
      injection h with h1 h2
      rcases List.mem_cons.mp hq with rfl | hq
      · exact h1
      · exact ih h2 hq
  · intro h
    exact List.map_congr_left fun q hq => h q hq
theorem apart_rows {qs : Qs} {g : List Wd} : apart qs g ↔ (g.map (row qs)).Nodup := by
  unfold apart List.Nodup
  rw [List.pairwise_map]
  constructor
  · exact fun h => h.imp fun a e => a (row_eq.mp e)
  · exact fun h => h.imp fun a e => a (row_eq.mpr e)
/-- the groups that are met -/
def Sub (qs : Qs) (g0 g : List Wd) : Prop := ∃ f : List Bool → Bool, g = g0.filter fun w => f (row qs w)
theorem Sub.self {qs : Qs} {g0 : List Wd} : Sub qs g0 g0 := ⟨fun _ => true, (List.filter_eq_self.mpr fun _ _ => rfl).symm⟩
theorem row_at {qs : Qs} {n : Nat} {q : Wd → Bool} (h : qs[n]? = some q) (w : Wd) : (row qs w).getD n false = q w := by
  unfold row
  rw [List.getD_eq_getElem?_getD, List.getElem?_map, h]
  rfl
theorem Sub.yes {qs : Qs} {g0 g : List Wd} {n : Nat} {q : Wd → Bool} (s : Sub qs g0 g) (h : qs[n]? = some q) : Sub qs g0 (g.filter q) := by
  obtain ⟨f, rfl⟩ := s
  refine ⟨fun r => f r && r.getD n false, ?_⟩
  rw [List.filter_filter]
  refine List.filter_congr fun w _ => ?_
  dsimp only
  rw [row_at h, Bool.and_comm]
theorem Sub.no {qs : Qs} {g0 g : List Wd} {n : Nat} {q : Wd → Bool} (s : Sub qs g0 g) (h : qs[n]? = some q) : Sub qs g0 (g.filter fun w => !q w) := by
  obtain ⟨f, rfl⟩ := s
  refine ⟨fun r => f r && !r.getD n false, ?_⟩
  rw [List.filter_filter]
  refine List.filter_congr fun w _ => ?_
  dsimp only
  rw [row_at h, Bool.and_comm]
def subs {α : Type} : List α → List (List α)
  | [] => [[]]
  | x :: l => subs l ++ (subs l).map (x :: ·)
theorem subs_len {α : Type} : ∀ l : List α, (subs l).length = 2 ^ l.length
  | [] => rfl
  | x :: l => by
    show (subs l ++ (subs l).map (x :: ·)).length = _
    rw [List.length_append, List.length_map, subs_len l, List.length_cons, Nat.pow_succ]
    omega
theorem filter_subs {α : Type} (f : α → Bool) : ∀ l : List α, l.filter f ∈ subs l
  | [] => by simp [subs]
  | x :: l => by
    show _ ∈ subs l ++ (subs l).map (x :: ·)
    rw [List.filter_cons]
    split
    · exact List.mem_append_right _ (List.mem_map.mpr ⟨_, filter_subs f l, rfl⟩)
    · exact List.mem_append_left _ (filter_subs f l)
theorem few_groups {qs : Qs} {g0 : List Wd} (h4 : qs.length ≤ 4) {κ : Type} [DecidableEq κ] (e : List Wd → κ) {ks : List κ} (hn : ks.Nodup) (hs : ∀ k ∈ ks, ∃ g, Sub qs g0 g ∧ k = e g) : ks.length ≤ 65536 := by
  have hU : (allW qs.length).length ≤ 16 := by
    have : qs.length = 0 ∨ qs.length = 1 ∨ qs.length = 2 ∨ qs.length = 3 ∨ qs.length = 4 := by omega
    rcases this with h | h | h | h | h <;> rw [h] <;> decide
  have := nd_le (l := (subs (allW qs.length)).map fun S => e (g0.filter fun w => S.contains (row qs w))) hn fun k hk => by
    obtain ⟨g, ⟨f, rfl⟩, rfl⟩ := hs k hk
    refine List.mem_map.mpr ⟨(allW qs.length).filter f, filter_subs f _, ?_⟩
    congr 1
    refine List.filter_congr fun w _ => ?_
    rw [Bool.eq_iff_iff, List.contains_iff_mem, List.mem_filter]
    exact ⟨fun h => h.2, fun h => ⟨(mem_allW _ _).mpr (row_len qs w), h⟩⟩
  rw [List.length_map, subs_len] at this
  have h2 : 2 ^ (allW qs.length).length ≤ 2 ^ 16 := Nat.pow_le_pow_right (by decide) hU
  omega
theorem Sub.mem {qs : Qs} {g0 g : List Wd} (s : Sub qs g0 g) : ∀ w ∈ g, w ∈ g0 := fun w hw => by
  obtain ⟨f, rfl⟩ := s
  exact (List.mem_filter.mp hw).1
theorem Sub.len {qs : Qs} {g0 g : List Wd} (s : Sub qs g0 g) : g.length ≤ g0.length := by
  obtain ⟨f, rfl⟩ := s
  exact List.length_filter_le _ _
theorem best_lt {qs : Qs} : ∀ (f : Nat) (g : List Wd) (x : Nat × Pn), best qs f g = some x → x.1 < g.length
  | 0, g, x, h => by cases h
  | f + 1, g, x, h => by
    by_cases h1 : g.length = 1
    · match g, h1 with
      | [w], _ => rw [best_one] at h; cases h; exact Nat.zero_lt_one
    · rw [best_more h1] at h
      rcases (fold_some qs 0 none x h).1 with e | ⟨i, q, hi, e⟩
      · cases e
      · obtain ⟨y, z, ny, nz, ey, ez, rfl⟩ := tryQ_some e
        have := best_lt f _ y ey
        have := best_lt f _ z ez
        obtain ⟨s1, s2⟩ := split_lt ny nz
        show 1 + max y.1 z.1 < _
        omega
end TH
--LAW k08
namespace K08
open PySem PySem.Spec L2 DL TH KT KH KFM
local macro_rules | `(tactic| walk_at "dx") => `(tactic| (try simp only [↓dSeq, ↓dIfS, ↓dOr, ↓dAnd, ↓dNot, ↓dTru, ↓dIsi, ↓dVar, ↓dRet, ↓dC, ↓dNext, ↓dChain, ↓rdI0, ↓rdI, ↓dTest, ↓dOp, ↓endsD, ↓startD, ↓dAndV, ↓dOrV, ↓dNotV, ↓dIf, ↓dCall, ↓dCons, ↓dNil, ↓dTup, ↓dLst, ↓dSet, ↓dAsg, ↓dgName, ↓dgNil, ↓dgCons, ↓dgTup, ↓dDrop, ↓dCB, ↓dMGet, ↓rdLen_eq, ↓rdLen0, ↓rdIx_eq, ↓rdIx0, ↓rdIs, ↓rdEq_eq, ↓rdEq0, ↓rdAdd, ↓rdMul, ↓dUn, ↓dPart, ↓dNoPart, ↓dSl, ↓rdSl_eq, ↓rdSl0, ↓rdList, ↓rdTuple_eq, ↓rdTuple0, ↓rdAll, ↓dAppend, ↓rdAppend_eq, ↓rdAppend0, ↓dPop, ↓isLstC, ↓dFor, ↓diZip, ↓diSeq, ↓seqR_eq, ↓seqR0, ↓diRng1, ↓dWhile, ↓dDict, ↓dPairs, ↓keysD, ↓keyD, get_endz, get_endj, set_endz, set_endj, Option.some.injEq, Cl.lst.injEq, exists_eq', exists_eq, exists_eq_left,
  isi_non, isi_bl, isi_int, isi_str, isi_tup, isi_ref, tru_non, tru_bl, tru_int, tru_tup, tru_ref, len_tup, len_ref, at_tup, at_ref, at_refs, is_non_non, is_bl_bl, is_bl_non, is_non_bl, is_int_non, is_str_non, is_tup_non, is_ref_non, is_int_bl, is_str_bl, is_tup_bl, is_ref_bl, eqs_int, eqs_str, eqs_bl, seq_tup, seq_ref, atI_0, atI_1, atI_2, succ_eq0, zero_eq0, str_inj,
  List.map_cons, List.map_nil, List.length_cons, List.length_nil, List.replicate, List.cons_append, List.nil_append, List.append_nil, List.append_assoc, List.length_append, List.getElem?_cons_zero, List.getElem?_cons_succ, List.set_cons_zero, List.set_cons_succ, if_true, if_false, Bool.not_true, Bool.not_false, Bool.false_eq_true, Bool.or_true, Bool.or_false, Bool.true_or, Bool.false_or, Bool.and_true, Bool.and_false, Bool.true_and, Bool.false_and, Bool.false_xor, Bool.true_xor, Nat.sub_self, Nat.reduceAdd, Nat.reduceSub, decide_true, decide_false, true_and, and_true, ne_eq, String.reduceBEq, String.reduceEq, reduceIte, reduceCtorEq]))
def top (i : Nat) : Stmt := PySem.Challenge.pw_knavehall_k08_whole_plans.main.body.getD i (.Pass ⟨0, 0, 0, 0⟩)
structure Bl (K : PySem.W.Frag) (mg : Str → Option Value) : Prop where
  b_len : mg "len" = none
  b_isinstance : mg "isinstance" = none
  b_int : mg "int" = none
  b_bool : mg "bool" = none
  b_tuple : mg "tuple" = none
  b_range : mg "range" = none
  b_sum : mg "sum" = none
  b_min : mg "min" = none
  b_max : mg "max" = none
  b_set : mg "set" = none
/-! ### the program's so, would_say, fits -/
abbrev s_so : Stmt := top 1
abbrev s_so_of_two : Stmt := top 2
abbrev s_would_say : Stmt := top 3
theorem sc_so : FnScope ["thing", "world", "word"] ["thing", "world"] (defScope s_so) := ⟨rfl, rfl, rfl, by decide +kernel, rfl, by decide +kernel, by decide +kernel⟩
theorem sc_so_of_two : FnScope ["word", "one", "other"] ["word", "one", "other"] (defScope s_so_of_two) := ⟨rfl, rfl, rfl, by decide +kernel, rfl, by decide +kernel, by decide +kernel⟩
theorem sc_would_say : FnScope ["saying"] ["saying"] (defScope s_would_say) := ⟨rfl, rfl, rfl, by decide +kernel, rfl, by decide +kernel, by decide +kernel⟩
section
variable {P : Program} {w : World} {K : PySem.W.Frag} {mg : Str → Option Value} {base : Heap}
def two (x : String) (a b : Bool) : Bool := if x = "and" then a && b else if x = "or" then a || b else a == b
def sp_so_of_two : SpD := fun ds G Q => match ds with
  | [x, y, z] => ∃ (s : String) (a b : Bool), x = .str (Str.ofString s) ∧ y = .int (b2 a) ∧ z = .int (b2 b) ∧ Q (.int (b2 (two s a b))) G
  | _ => False
theorem ok_so_of_two (T : Bl K mg) (Pl : Plc K mg "so_of_two" s_so_of_two ["word", "one", "other"]) : Fnc P w K mg base "so_of_two" 1 ["word", "one", "other"] sp_so_of_two := by
  have nd := sc_so_of_two.nd
  refine Pl.fn' sc_so_of_two fun f cdv A outer s H E hr => ⟨_, fun F => (dss_cons' (ds_if' (dt_eq' (de_var' 0) de_str')
  (dss_one' (ds_ret' (de_min' (da_cons' (de_var' 1) (da_cons' (de_var' 2) da_nil')) T.b_min)))
  dss_nil')
  (dss_cons' (ds_if' (dt_eq' (de_var' 0) de_str')
  (dss_one' (ds_ret' (de_max' (da_cons' (de_var' 1) (da_cons' (de_var' 2) da_nil')) T.b_max)))
  dss_nil')
  (dss_one' (ds_ret' (de_if' (dt_eq' (de_var' 1) (de_var' 2)) de_int' de_int'))))), fun ds G Q hl hsp hb hG => ?_⟩
  unfold sp_so_of_two at hsp
  split at hsp
  · obtain ⟨s, a, b, rfl, rfl, rfl, hq⟩ := hsp
    unfold two at hq
    by_cases h1 : s = "and"
    · subst h1
      refine rdEq_sT ?_
      refine rdMM_two ?_
      refine RetD.all ?_
      rw [b2_min]
      exact hq
    · rw [if_neg h1] at hq
      refine rdEq_sF ?_ h1
      by_cases h2 : s = "or"
      · subst h2
        refine rdEq_sT ?_
        refine rdMM_two ?_
        refine RetD.all ?_
        rw [b2_max]
        exact hq
      · rw [if_neg h2] at hq
        refine rdEq_sF ?_ h2
        refine rdEq_int ?_
        show if (false ^^ decide (b2 a = b2 b)) = true then RetD G Q (.int 1) G else RetD G Q (.int 0) G
        rw [b2_eq, Bool.false_xor]
        cases h : a == b with
        | true => rw [h] at hq; exact iteT (RetD.all hq)
        | false => rw [h] at hq; exact iteF (RetD.all hq)
  · exact hsp.elim
def sp_so (d : Nat) : SpD := fun ds G Q => match ds with
  | [x, y] => ∃ (t : Th) (as : As), x = enc t ∧ y = aD as ∧ t.wf as.length ∧ t.asd as = true ∧ t.dep < d ∧ Q (.int (b2 (t.so (asW as)))) G
  | _ => False
theorem ok_so_step {d : Nat} (T : Bl K mg) (f_so_of_two : Fnc P w K mg base "so_of_two" 1 ["word", "one", "other"] sp_so_of_two) (f_so : Fnc P w K mg base "so" (d + 1) ["thing", "world"] (sp_so d)) (Pl : Plc K mg "so" s_so ["thing", "world"]) : Fnc P w K mg base "so" (d + 2) ["thing", "world"] (sp_so (d + 1)) := by
  have nd := sc_so.nd
  refine Pl.fn' (k := d + 1) sc_so fun f cdv A outer s H E hr => ⟨_, fun F => (dss_cons' (ds_set' (i := 2) nd (de_ix' hr (de_var' 0) de_int'))
  (dss_cons' (ds_if' (dt_eq' (de_var' 2) de_str')
  (dss_one' (ds_ret' (de_ix' hr (de_var' 1) (de_ix' hr (de_var' 0) de_int'))))
  dss_nil')
  (dss_cons' (ds_if' (dt_eq' (de_var' 2) de_str')
  (dss_one' (ds_ret' (de_if' (dt_ge' (de_sum' (da_cons' (de_var' 1) da_nil') T.b_sum) (de_ix' hr (de_var' 0) de_int')) de_int' de_int')))
  dss_nil')
  (dss_cons' (ds_if' (dt_eq' (de_var' 2) de_str')
  (dss_one' (ds_ret' (de_sub' de_int' (de_callF' f_so (hr.mono (by first | decide | omega)) (da_cons' (de_ix' hr (de_var' 0) de_int') (da_cons' (de_var' 1) da_nil'))))))
  dss_nil')
  (dss_cons' (ds_if' (dt_eq' (de_var' 2) de_str')
  (dss_one' (ds_ret' (de_if' (dt_eq' (de_ix' hr (de_var' 1) (de_ix' hr (de_var' 0) de_int')) (de_callF' f_so (hr.mono (by first | decide | omega)) (da_cons' (de_ix' hr (de_var' 0) de_int') (da_cons' (de_var' 1) da_nil')))) de_int' de_int')))
  dss_nil')
  (dss_one' (ds_ret' (de_callF' f_so_of_two (hr.mono (by first | decide | omega)) (da_cons' (de_var' 2) (da_cons' (de_callF' f_so (hr.mono (by first | decide | omega)) (da_cons' (de_ix' hr (de_var' 0) de_int') (da_cons' (de_var' 1) da_nil'))) (da_cons' (de_callF' f_so (hr.mono (by first | decide | omega)) (da_cons' (de_ix' hr (de_var' 0) de_int') (da_cons' (de_var' 1) da_nil'))) da_nil'))))))))))), fun ds G Q hl hsp hb hG => ?_⟩
  unfold sp_so at hsp
  split at hsp
  · obtain ⟨t, as, rfl, rfl, hw, ha, hd, hq⟩ := hsp
    have pos : ∀ {a : Th} {n : Nat}, a.dep + 1 < n + 1 → a.dep < n := fun h => by omega
    cases t with
    | is k =>
      refine rdIx_of atI_0 ?_
      refine rdEq_sT ?_
      refine rdIx_of atI_1 ?_
      refine rdIx_of (atI_as hw) ?_
      rw [oD_some ha]
      exact RetD.all hq
    | many m =>
      refine rdIx_of atI_0 ?_
      refine rdEq_sF ?_
      refine rdEq_sT ?_
      refine rdSum_of (ints_as ha) ?_
      refine rdIx_of atI_1 ?_
      show if decide ((m : Int) ≤ ((asW as).map b2).sum) = true then RetD G Q (.int 1) G else RetD G Q (.int 0) G
      have e : decide ((m : Int) ≤ ((asW as).map b2).sum) = (Th.many m).so (asW as) := by
        show _ = decide (m ≤ (asW as).count true)
        rw [sum_b2]
        exact decide_eq_decide.mpr (by omega)
      rw [e]
      cases h : (Th.many m).so (asW as) with
      | true => rw [h] at hq; exact iteT (RetD.all hq)
      | false => rw [h] at hq; exact iteF (RetD.all hq)
    | not a =>
      refine rdIx_of atI_0 ?_
      refine rdEq_sF ?_
      refine rdEq_sF ?_
      refine rdEq_sT ?_
      refine rdIx_of atI_1 ?_
      refine ⟨rfl, a, as, rfl, rfl, hw, ha, pos hd, ?_⟩
      refine RetD.all ?_
      show Q (.int (1 - b2 (a.so (asW as)))) G
      rw [b2_not]
      exact hq
    | says k a =>
      have ha' : ((as.getD k none).isSome && a.asd as) = true := ha
      rw [Bool.and_eq_true] at ha'
      refine rdIx_of atI_0 ?_
      refine rdEq_sF ?_
      refine rdEq_sF ?_
      refine rdEq_sF ?_
      refine rdEq_sT ?_
      refine rdIx_of atI_1 ?_
      refine rdIx_of (atI_as hw.1) ?_
      refine rdIx_of atI_2 ?_
      refine ⟨rfl, a, as, rfl, rfl, hw.2, ha'.2, pos hd, ?_⟩
      rw [oD_some ha'.1]
      refine rdEq_int ?_
      show if (false ^^ decide (b2 ((asW as).getD k false) = b2 (a.so (asW as)))) = true then RetD G Q (.int 1) G else RetD G Q (.int 0) G
      rw [b2_eq, Bool.false_xor]
      have e : (Th.says k a).so (asW as) = ((asW as).getD k false == a.so (asW as)) := rfl
      rw [e] at hq
      cases h : ((asW as).getD k false == a.so (asW as)) with
      | true => rw [h] at hq; exact iteT (RetD.all hq)
      | false => rw [h] at hq; exact iteF (RetD.all hq)
    | and a b =>
      have ha' : (a.asd as && b.asd as) = true := ha
      rw [Bool.and_eq_true] at ha'
      have hd' : max a.dep b.dep + 1 < d + 1 := hd
      refine rdIx_of atI_0 ?_
      refine rdEq_sF ?_
      refine rdEq_sF ?_
      refine rdEq_sF ?_
      refine rdEq_sF ?_
      refine rdIx_of atI_1 ?_
      refine ⟨rfl, a, as, rfl, rfl, hw.1, ha'.1, by omega, ?_⟩
      refine rdIx_of atI_2 ?_
      refine ⟨rfl, b, as, rfl, rfl, hw.2, ha'.2, by omega, ?_⟩
      exact ⟨rfl, "and", _, _, rfl, rfl, rfl, RetD.all hq⟩
    | or a b =>
      have ha' : (a.asd as && b.asd as) = true := ha
      rw [Bool.and_eq_true] at ha'
      have hd' : max a.dep b.dep + 1 < d + 1 := hd
      refine rdIx_of atI_0 ?_
      refine rdEq_sF ?_
      refine rdEq_sF ?_
      refine rdEq_sF ?_
      refine rdEq_sF ?_
      refine rdIx_of atI_1 ?_
      refine ⟨rfl, a, as, rfl, rfl, hw.1, ha'.1, by omega, ?_⟩
      refine rdIx_of atI_2 ?_
      refine ⟨rfl, b, as, rfl, rfl, hw.2, ha'.2, by omega, ?_⟩
      exact ⟨rfl, "or", _, _, rfl, rfl, rfl, RetD.all hq⟩
    | alike a b =>
      have ha' : (a.asd as && b.asd as) = true := ha
      rw [Bool.and_eq_true] at ha'
      have hd' : max a.dep b.dep + 1 < d + 1 := hd
      refine rdIx_of atI_0 ?_
      refine rdEq_sF ?_
      refine rdEq_sF ?_
      refine rdEq_sF ?_
      refine rdEq_sF ?_
      refine rdIx_of atI_1 ?_
      refine ⟨rfl, a, as, rfl, rfl, hw.1, ha'.1, by omega, ?_⟩
      refine rdIx_of atI_2 ?_
      refine ⟨rfl, b, as, rfl, rfl, hw.2, ha'.2, by omega, ?_⟩
      exact ⟨rfl, "alike", _, _, rfl, rfl, rfl, RetD.all hq⟩
  · exact hsp.elim
theorem ok_so (T : Bl K mg) (f2 : Fnc P w K mg base "so_of_two" 1 ["word", "one", "other"] sp_so_of_two) (Pl : Plc K mg "so" s_so ["thing", "world"]) : ∀ d : Nat, Fnc P w K mg base "so" (d + 1) ["thing", "world"] (sp_so d)
  | 0 => (Fnc.imp Pl.never fun ds G Q h => by
      unfold sp_so at h
      split at h
      · obtain ⟨_, _, _, _, _, _, h, _⟩ := h; omega
      · exact h).mono (Nat.zero_le _)
  | d + 1 => ok_so_step T f2 (ok_so T f2 Pl d) Pl
def sD (p : Nat × Th) : Dt := .tup [.int (p.1 : Nat), enc p.2]
def hD (n : Nat) (ss : Sg) : Dt := .tup [.int (n : Nat), .tup (ss.map sD)]
def sp_would_say : SpD := fun ds G Q => match ds with
  | [x] => ∃ p, x = sD p ∧ Q (enc (.says p.1 p.2)) G
  | _ => False
theorem ok_would_say (T : Bl K mg) (Pl : Plc K mg "would_say" s_would_say ["saying"]) : Fnc P w K mg base "would_say" 1 ["saying"] sp_would_say := by
  have nd := sc_would_say.nd
  refine Pl.fn' sc_would_say fun f cdv A outer s H E hr => ⟨_, fun F => (dss_one' (ds_ret' (de_tup' (da_cons' de_str' (da_cons' (de_ix' hr (de_var' 0) de_int') (da_cons' (de_ix' hr (de_var' 0) de_int') da_nil')))))), fun ds G Q hl hsp hb hG => ?_⟩
  unfold sp_would_say at hsp
  split at hsp
  · obtain ⟨p, rfl, hq⟩ := hsp
    refine rdIx_of atI_0 ?_
    refine rdIx_of atI_1 ?_
    exact ⟨szl 3, RetD.all hq⟩
  · exact hsp.elim
end
abbrev s_fits : Stmt := top 4
theorem sc_fits : FnScope ["hall", "world", "saying"] ["hall", "world"] (defScope s_fits) := ⟨rfl, rfl, rfl, by decide +kernel, rfl, by decide +kernel, by decide +kernel⟩
section
variable {P : Program} {w : World} {K : PySem.W.Frag} {mg : Str → Option Value} {base : Heap}
/-- of worlds alone -/
def sp_fits (d : Nat) : SpD := fun ds G Q => match ds with
  | [x, y] => ∃ (n : Nat) (ss : Sg) (w : Wd), x = hD n ss ∧ y = wD w ∧ ss.wf w.length ∧ (∀ p ∈ ss, p.2.dep < d) ∧ Q (.bl (fits ss w)) G
  | _ => False
theorem ok_fits {d : Nat} (T : Bl K mg) (f_so : Fnc P w K mg base "so" (d + 2) ["thing", "world"] (sp_so (d + 1))) (f_would_say : Fnc P w K mg base "would_say" 1 ["saying"] sp_would_say) (Pl : Plc K mg "fits" s_fits ["hall", "world"]) : Fnc P w K mg base "fits" (d + 3) ["hall", "world"] (sp_fits d) := by
  have nd := sc_fits.nd
  refine Pl.fn' (k := d + 2) sc_fits fun f cdv A outer s H E hr => ⟨_, fun F => (dss_cons' (ds_for' (di_seq' (de_ix' hr (de_var' 0) de_int')) (fun _ => (dg_name' (i := 2) nd))
  (fun _ => (dss_one' (ds_if' (dt_eq' (de_callF' f_so (hr.mono (by first | decide | omega)) (da_cons' (de_callF' f_would_say (hr.mono (by first | decide | omega)) (da_cons' (de_var' 2) da_nil')) (da_cons' (de_var' 1) da_nil'))) de_int')
  (dss_one' (ds_ret' de_bl'))
  dss_nil'))))
  (dss_one' (ds_ret' de_bl'))), fun ds G Q hl hsp hb hG => ?_⟩
  unfold sp_fits at hsp
  split at hsp
  · obtain ⟨n, ss, w, rfl, rfl, hw, hd, hq⟩ := hsp
    refine rdIx_of atI_1 ?_
    refine seqR_tup ?_
    refine lp_ind (fun ds σ G' => G' = G ∧ ∃ (r : Sg) (s2 : Option Dt), ds = r.map sD ∧ (∀ p ∈ r, p ∈ ss) ∧ σ = [some (hD n ss), some (wD w), s2] ∧ (fits r w = fits ss w)) ?_ ?_ _ _ _ ⟨rfl, ss, none, rfl, fun p h => h, rfl, rfl⟩
    · rintro σ G' ⟨rfl, r, s2, h1, h2, rfl, h3⟩
      cases r with
      | cons a r => cases h1
      | nil =>
        refine ⟨trivial, ?_⟩
        show RetD G' Q (.bl true) G'
        rw [← h3] at hq
        exact RetD.all hq
    · rintro d' r' K' hK σ G' ⟨rfl, r, s2, h1, h2, rfl, h3⟩
      cases r with
      | nil => cases h1
      | cons p r =>
        cases h1
        refine ⟨trivial, ?_⟩
        refine ⟨rfl, p, rfl, ?_⟩
        have hp := h2 p List.mem_cons_self
        have hdp := hd p hp
        refine ⟨rfl, .says p.1 p.2, w.map some, rfl, wD_a w, by rw [List.length_map]; exact hw p hp, asd_all (n := w.length) (List.length_map _) (all_some w) _ (hw p hp), by show p.2.dep + 1 < d + 1; omega, ?_⟩
        rw [asW_some]
        have e : (Th.says p.1 p.2).so w = fit w p := rfl
        rw [e]
        have hf : fits (p :: r) w = (fit w p && fits r w) := by unfold fits; rw [List.all_cons]
        rw [hf] at h3
        refine rdEq_int ?_
        show if (false ^^ decide (b2 (fit w p) = 0)) = true then _ else _
        rw [b2_zero, Bool.false_xor]
        cases h : fit w p with
        | true =>
          rw [h, Bool.true_and] at h3
          exact iteF (Wk.here (hK _ _ ⟨rfl, r, _, rfl, fun p hp => h2 p (List.mem_cons_of_mem _ hp), rfl, h3⟩))
        | false =>
          rw [h, Bool.false_and] at h3
          refine iteT ?_
          show RetD G' Q (.bl false) G'
          rw [← h3] at hq
          exact RetD.all hq
  · exact hsp.elim
end
end K08
--LAW k08
namespace K08
open PySem PySem.Spec L2 DL TH KT KH KFM
local macro_rules | `(tactic| walk_at "dx") => `(tactic| (try simp only [↓dSeq, ↓dIfS, ↓dOr, ↓dAnd, ↓dNot, ↓dTru, ↓dIsi, ↓dVar, ↓dRet, ↓dC, ↓dNext, ↓dChain, ↓rdI0, ↓rdI, ↓dTest, ↓dOp, ↓endsD, ↓startD, ↓dAndV, ↓dOrV, ↓dNotV, ↓dIf, ↓dCall, ↓dCons, ↓dNil, ↓dTup, ↓dLst, ↓dSet, ↓dAsg, ↓dgName, ↓dgNil, ↓dgCons, ↓dgTup, ↓dDrop, ↓dCB, ↓dMGet, ↓rdLen_eq, ↓rdLen0, ↓rdIx_eq, ↓rdIx0, ↓rdIs, ↓rdEq_eq, ↓rdEq0, ↓rdAdd, ↓rdMul, ↓dUn, ↓dPart, ↓dNoPart, ↓dSl, ↓rdSl_eq, ↓rdSl0, ↓rdList, ↓rdTuple_eq, ↓rdTuple0, ↓rdAll, ↓dAppend, ↓rdAppend_eq, ↓rdAppend0, ↓dPop, ↓isLstC, ↓dFor, ↓diZip, ↓diSeq, ↓seqR_eq, ↓seqR0, ↓diRng1, ↓dWhile, ↓dDict, ↓dPairs, ↓keysD, ↓keyD, get_endz, get_endj, set_endz, set_endj, Option.some.injEq, Cl.lst.injEq, exists_eq', exists_eq, exists_eq_left,
  isi_non, isi_bl, isi_int, isi_str, isi_tup, isi_ref, tru_non, tru_bl, tru_int, tru_tup, tru_ref, len_tup, len_ref, at_tup, at_ref, at_refs, is_non_non, is_bl_bl, is_bl_non, is_non_bl, is_int_non, is_str_non, is_tup_non, is_ref_non, is_int_bl, is_str_bl, is_tup_bl, is_ref_bl, eqs_int, eqs_str, eqs_bl, seq_tup, seq_ref, atI_0, atI_1, atI_2, succ_eq0, zero_eq0, str_inj,
  List.map_cons, List.map_nil, List.length_cons, List.length_nil, List.replicate, List.cons_append, List.nil_append, List.append_nil, List.append_assoc, List.length_append, List.getElem?_cons_zero, List.getElem?_cons_succ, List.set_cons_zero, List.set_cons_succ, if_true, if_false, Bool.not_true, Bool.not_false, Bool.false_eq_true, Bool.or_true, Bool.or_false, Bool.true_or, Bool.false_or, Bool.and_true, Bool.and_false, Bool.true_and, Bool.false_and, Bool.false_xor, Bool.true_xor, Nat.sub_self, Nat.reduceAdd, Nat.reduceSub, decide_true, decide_false, true_and, and_true, ne_eq, String.reduceBEq, String.reduceEq, reduceIte, reduceCtorEq]))
/-! ### the law's cells, things, halls -/
abbrev s_cell : Stmt := top 18
abbrev s_mix : Stmt := top 19
abbrev s_thing : Stmt := top 20
abbrev s_hall : Stmt := top 21
theorem sc_cell : FnScope ["_law_script", "_law_k"] ["_law_script", "_law_k"] (defScope s_cell) := ⟨rfl, rfl, rfl, by decide +kernel, rfl, by decide +kernel, by decide +kernel⟩
theorem sc_mix : FnScope ["_law_cell_here", "_law_prime", "_law_many"] ["_law_cell_here", "_law_prime", "_law_many"] (defScope s_mix) := ⟨rfl, rfl, rfl, by decide +kernel, rfl, by decide +kernel, by decide +kernel⟩
theorem sc_thing : FnScope ["_law_cell_here", "_law_many", "_law_deep", "_law_turn", "_law_guest", "_law_one", "_law_other"] ["_law_cell_here", "_law_many", "_law_deep"] (defScope s_thing) := ⟨rfl, rfl, rfl, by decide +kernel, rfl, by decide +kernel, by decide +kernel⟩
theorem sc_hall : FnScope ["_law_script", "_law_many", "_law_size", "_law_some", "_law_k", "_law_cell_here"] ["_law_script"] (defScope s_hall) := ⟨rfl, rfl, rfl, by decide +kernel, rfl, by decide +kernel, by decide +kernel⟩
def cellI (ns : List Int) (k : Int) : Int := ns.getD k.toNat 0
def mixI (c p m : Int) : Int := c * 48271 % p % m
def leafD (c n : Int) : Dt := if mixI c 9973 9 = 8 then .tup [.str "many", .int (mixI c 9949 8)] else .tup [.str "is", .int (mixI c 9967 n)]
def opW (t : Int) : Str := if t = 5 then "and" else if t = 6 then "or" else "alike"
def thD (n : Int) : Nat → Int → Dt
  | 0, c => leafD c n
  | k + 1, c => if mixI c 9973 9 < 2 then leafD c n else if mixI c 9973 9 = 2 then .tup [.str "many", .int (mixI c 9949 (n + 1))] else if mixI c 9973 9 = 3 then .tup [.str "not", thD n k (c * 3 + 1)]
    else if mixI c 9973 9 = 4 then .tup [.str "says", .int (mixI c 9967 n), thD n k (c * 3 + 1)] else .tup [.str (opW (mixI c 9973 9)), thD n k (c * 3 + 1), thD n k (c * 5 + 2)]
theorem mix_lt {c p m : Int} (hm : 0 < m) : 0 ≤ mixI c p m ∧ mixI c p m < m := ⟨Int.emod_nonneg _ (by omega), Int.emod_lt_of_pos _ hm⟩
section
variable {P : Program} {w : World} {K : PySem.W.Frag} {mg : Str → Option Value} {base : Heap}
def sp_cell : SpD := fun ds G Q => match ds with
  | [.ref i, .int k] => ∃ ns : List Int, G[i]? = some (.fz (ns.map Dt.int)) ∧ 0 ≤ k ∧ Q (.int (cellI ns k)) G
  | _ => False
theorem atI_ints {ns : List Int} {k : Int} (h0 : 0 ≤ k) (h : k < ns.length) : atI (ns.map Dt.int) k = some (.int (cellI ns k)) := by
  obtain ⟨m, rfl⟩ := Int.eq_ofNat_of_zero_le h0
  have hk : m < ns.length := by omega
  refine atI_nat ?_
  rw [List.getElem?_map, List.getElem?_eq_getElem hk]
  unfold cellI
  simp [List.getD, hk]
theorem ok_cell (T : Bl K mg) (Pl : Plc K mg "_law_cell" s_cell ["_law_script", "_law_k"]) : Fnc P w K mg base "_law_cell" 1 ["_law_script", "_law_k"] sp_cell := by
  have nd := sc_cell.nd
  refine Pl.fn' sc_cell fun f cdv A outer s H E hr => ⟨_, fun F => (dss_cons' (ds_if' (dt_lt' (de_var' 1) (de_len' (da_cons' (de_var' 0) da_nil') T.b_len))
  (dss_one' (ds_ret' (de_ix' hr (de_var' 0) (de_var' 1))))
  dss_nil')
  (dss_one' (ds_ret' de_int'))), fun ds G Q hl hsp hb hG => ?_⟩
  unfold sp_cell at hsp
  split at hsp
  · rename_i i k
    obtain ⟨ns, hi, h0, hq⟩ := hsp
    walk_at "dx"
    simp only [hi, List.length_map]
    by_cases hk : k < ns.length
    · rw [decide_eq_true hk]
      refine iteT ?_
      rw [atI_ints h0 hk]
      exact RetD.all hq
    · rw [decide_eq_false hk]
      refine iteF (RetD.all ?_)
      have : cellI ns k = 0 := by
        unfold cellI
        simp [List.getD, show ns.length ≤ k.toNat by omega]
      rw [this] at hq
      exact hq
  · exact hsp.elim
def sp_mix : SpD := fun ds G Q => match ds with
  | [.int c, .int p, .int m] => 0 < p ∧ 0 < m ∧ Q (.int (mixI c p m)) G
  | _ => False
theorem cmul (i j : Int) (h : -(2 ^ 64) < j ∧ j < 2 ^ 64 := by decide) : CMul i j := .inr h
theorem ok_mix (T : Bl K mg) (Pl : Plc K mg "_law_mix" s_mix ["_law_cell_here", "_law_prime", "_law_many"]) : Fnc P w K mg base "_law_mix" 1 ["_law_cell_here", "_law_prime", "_law_many"] sp_mix := by
  have nd := sc_mix.nd
  refine Pl.fn' sc_mix fun f cdv A outer s H E hr => ⟨_, fun F => (dss_one' (ds_ret' (de_mod' (de_mod' (de_mul' (de_var' 0) de_int') (de_var' 1)) (de_var' 2)))), fun ds G Q hl hsp hb hG => ?_⟩
  unfold sp_mix at hsp
  split at hsp
  · rename_i c p m
    obtain ⟨hp, hm, hq⟩ := hsp
    walk_at "dx"
    exact ⟨cmul _ _, hp, hm, RetD.all hq⟩
  · exact hsp.elim
theorem spM {c p m : Int} {G : GD} {Q : KD} : sp_mix [.int c, .int p, .int m] G Q = (0 < p ∧ 0 < m ∧ Q (.int (mixI c p m)) G) := rfl
def sp_thing (k : Nat) : SpD := fun ds G Q => match ds with
  | [.int c, .int n, .int j] => 1 ≤ n ∧ 0 ≤ j ∧ j < k ∧ Q (thD n j.toNat c) G
  | _ => False
theorem spTh {k : Nat} {c n j : Int} {G : GD} {Q : KD} : sp_thing k [.int c, .int n, .int j] G Q = (1 ≤ n ∧ 0 ≤ j ∧ j < k ∧ Q (thD n j.toNat c) G) := rfl
theorem bnd_th (b : Nat) (n : Int) : ∀ (k : Nat) (c : Int), bnd b (thD n k c) := by
  have leaf : ∀ c, bnd b (leafD c n) := fun c => by
    unfold leafD
    split <;> exact ⟨trivial, trivial, trivial⟩
  intro k
  induction k with
  | zero => intro c; exact leaf c
  | succ k ih =>
    intro c
    unfold thD
    repeat' split
    · exact leaf c
    · exact ⟨trivial, trivial, trivial⟩
    · exact ⟨trivial, ih _, trivial⟩
    · exact ⟨trivial, trivial, ih _, trivial⟩
    · exact ⟨trivial, ih _, ih _, trivial⟩
theorem ok_thing_step {k : Nat} (T : Bl K mg) (f__law_mix : Fnc P w K mg base "_law_mix" 1 ["_law_cell_here", "_law_prime", "_law_many"] sp_mix) (f__law_thing : Fnc P w K mg base "_law_thing" (k + 1) ["_law_cell_here", "_law_many", "_law_deep"] (sp_thing k))
    (Pl : Plc K mg "_law_thing" s_thing ["_law_cell_here", "_law_many", "_law_deep"]) : Fnc P w K mg base "_law_thing" (k + 2) ["_law_cell_here", "_law_many", "_law_deep"] (sp_thing (k + 1)) := by
  have nd := sc_thing.nd
  refine Pl.fn' (k := k + 1) sc_thing fun f cdv A outer s H E hr => ⟨_, fun F => (dss_cons' (ds_set' (i := 3) nd (de_callF' f__law_mix (hr.mono (by omega)) (da_cons' (de_var' 0) (da_cons' de_int' (da_cons' de_int' da_nil')))))
  (dss_cons' (ds_set' (i := 4) nd (de_callF' f__law_mix (hr.mono (by omega)) (da_cons' (de_var' 0) (da_cons' de_int' (da_cons' (de_var' 1) da_nil')))))
  (dss_cons' (ds_if' (dt_w' (dw_or' (dt_eq' (de_var' 2) de_int') (dw_or1' (dt_lt' (de_var' 3) de_int'))))
  (dss_cons' (ds_if' (dt_eq' (de_var' 3) de_int')
  (dss_one' (ds_ret' (de_tup' (da_cons' de_str' (da_cons' (de_callF' f__law_mix (hr.mono (by omega)) (da_cons' (de_var' 0) (da_cons' de_int' (da_cons' de_int' da_nil')))) da_nil')))))
  dss_nil')
  (dss_one' (ds_ret' (de_tup' (da_cons' de_str' (da_cons' (de_var' 4) da_nil'))))))
  dss_nil')
  (dss_cons' (ds_set' (i := 5) nd (de_callF' f__law_thing (hr.mono (by omega)) (da_cons' (de_add' (de_mul' (de_var' 0) de_int') de_int') (da_cons' (de_var' 1) (da_cons' (de_sub' (de_var' 2) de_int') da_nil')))))
  (dss_cons' (ds_if' (dt_eq' (de_var' 3) de_int')
  (dss_one' (ds_ret' (de_tup' (da_cons' de_str' (da_cons' (de_callF' f__law_mix (hr.mono (by omega)) (da_cons' (de_var' 0) (da_cons' de_int' (da_cons' (de_add' (de_var' 1) de_int') da_nil')))) da_nil')))))
  dss_nil')
  (dss_cons' (ds_if' (dt_eq' (de_var' 3) de_int')
  (dss_one' (ds_ret' (de_tup' (da_cons' de_str' (da_cons' (de_var' 5) da_nil')))))
  dss_nil')
  (dss_cons' (ds_if' (dt_eq' (de_var' 3) de_int')
  (dss_one' (ds_ret' (de_tup' (da_cons' de_str' (da_cons' (de_var' 4) (da_cons' (de_var' 5) da_nil'))))))
  dss_nil')
  (dss_cons' (ds_set' (i := 6) nd (de_callF' f__law_thing (hr.mono (by omega)) (da_cons' (de_add' (de_mul' (de_var' 0) de_int') de_int') (da_cons' (de_var' 1) (da_cons' (de_sub' (de_var' 2) de_int') da_nil')))))
  (dss_one' (ds_ret' (de_tup' (da_cons' (de_ix' hr (de_lst' (da_cons' de_str' (da_cons' de_str' (da_cons' de_str' (da_cons' de_str' da_nil'))))) (de_sub' (de_var' 3) de_int')) (da_cons' (de_var' 5) (da_cons' (de_var' 6) da_nil')))))))))))))), fun ds G Q hl hsp hb hG => ?_⟩
  unfold sp_thing at hsp
  split at hsp
  · rename_i c n j
    obtain ⟨hn, h0, hj, hq⟩ := hsp
    walk_at "dx"
    simp only [spM]
    walk_at "dx"
    have s2 : 2 ≤ sizeLine := by decide
    have s3 : 3 ≤ sizeLine := by decide
    have s4 : 4 ≤ sizeLine := by decide
    refine ⟨by decide, by decide, by decide, by omega, ?_⟩
    obtain ⟨m0, m9⟩ := mix_lt (c := c) (p := 9973) (m := 9) (by decide)
    have leaf : Q (leafD c n) G → if decide (mixI c 9973 9 = 8) = true then 0 < (9949 : Int) ∧ 0 < (8 : Int) ∧ 2 ≤ sizeLine ∧ RetD G Q (.tup [.str "many", .int (mixI c 9949 8)]) G else 2 ≤ sizeLine ∧ RetD G Q (.tup [.str "is", .int (mixI c 9967 n)]) G := fun h => by
      unfold leafD at h
      by_cases e : mixI c 9973 9 = 8
      · rw [if_pos e] at h
        rw [decide_eq_true e]
        exact iteT ⟨by decide, by decide, s2, RetD.all h⟩
      · rw [if_neg e] at h
        rw [decide_eq_false e]
        exact iteF ⟨s2, RetD.all h⟩
    by_cases ej : j = 0
    · rw [decide_eq_true ej]
      subst ej
      exact iteT (leaf hq)
    · rw [decide_eq_false ej]
      refine iteF ?_
      have ejn : j.toNat = (j - 1).toNat + 1 := by omega
      rw [ejn] at hq
      unfold thD at hq
      by_cases e2 : mixI c 9973 9 < 2
      · rw [if_pos e2] at hq
        rw [decide_eq_true e2]
        exact iteT (leaf hq)
      · rw [if_neg e2] at hq
        rw [decide_eq_false e2]
        refine iteF ⟨cmul _ _, ?_⟩
        simp only [spTh]
        refine ⟨hn, by omega, by omega, ?_⟩
        by_cases e3 : mixI c 9973 9 = 2
        · rw [if_pos e3] at hq
          rw [decide_eq_true e3]
          exact iteT ⟨by decide, by omega, s2, RetD.all hq⟩
        · rw [if_neg e3] at hq
          rw [decide_eq_false e3]
          refine iteF ?_
          by_cases e4 : mixI c 9973 9 = 3
          · rw [if_pos e4] at hq
            rw [decide_eq_true e4]
            exact iteT ⟨s2, RetD.all hq⟩
          · rw [if_neg e4] at hq
            rw [decide_eq_false e4]
            refine iteF ?_
            by_cases e5 : mixI c 9973 9 = 4
            · rw [if_pos e5] at hq
              rw [decide_eq_true e5]
              exact iteT ⟨s3, RetD.all hq⟩
            · rw [if_neg e5] at hq
              rw [decide_eq_false e5]
              refine iteF ⟨cmul _ _, hn, by omega, by omega, s4, ?_⟩
              have ea : atI [Dt.str "and", Dt.str "or", Dt.str "alike", Dt.str "alike"] (mixI c 9973 9 - 5) = some (.str (opW (mixI c 9973 9))) := by
                have h4 : mixI c 9973 9 = 5 ∨ mixI c 9973 9 = 6 ∨ mixI c 9973 9 = 7 ∨ mixI c 9973 9 = 8 := by omega
                rcases h4 with h | h | h | h <;> rw [h] <;> rfl
              rw [ea]
              exact ⟨s3, RetD.pure hG ⟨trivial, bnd_th _ _ _ _, bnd_th _ _ _ _, trivial⟩ hq⟩
  · exact hsp.elim
theorem ok_thing (T : Bl K mg) (f_mix : Fnc P w K mg base "_law_mix" 1 ["_law_cell_here", "_law_prime", "_law_many"] sp_mix) (Pl : Plc K mg "_law_thing" s_thing ["_law_cell_here", "_law_many", "_law_deep"]) :
    ∀ k : Nat, Fnc P w K mg base "_law_thing" (k + 1) ["_law_cell_here", "_law_many", "_law_deep"] (sp_thing k)
  | 0 => (Fnc.imp Pl.never fun ds G Q h => by
      unfold sp_thing at h
      split at h
      · obtain ⟨_, h0, h1, _⟩ := h; omega
      · exact h).mono (Nat.zero_le _)
  | k + 1 => ok_thing_step T f_mix (ok_thing T f_mix Pl k) Pl
/-! ### _law_hall -/
def sayD (ns : List Int) (n : Int) (k : Nat) : Dt := .tup [.int (mixI (cellI ns (1 + k)) 9929 n), thD n (1 + cellI ns (1 + k) % 3).toNat (cellI ns (1 + k))]
def manyD (ns : List Int) : Int := 1 + mixI (cellI ns 0) 9941 5
def saysD (ns : List Int) : List Dt := (List.range (mixI (cellI ns 0) 9931 7).toNat).map (sayD ns (manyD ns))
def hallD (ns : List Int) : Dt := .tup [.int (manyD ns), .tup (saysD ns)]
def sp_hall : SpD := fun ds G Q => match ds with
  | [.ref i] => ∃ ns : List Int, G[i]? = some (.fz (ns.map Dt.int)) ∧ Q (hallD ns) G
  | _ => False
theorem spC {i : Nat} {k : Int} {G : GD} {Q : KD} : sp_cell [.ref i, .int k] G Q = (∃ ns : List Int, G[i]? = some (.fz (ns.map Dt.int)) ∧ 0 ≤ k ∧ Q (.int (cellI ns k)) G) := rfl
theorem get_left {G J : GD} {i : Nat} {c : Cl} (h : G[i]? = some c) : (G ++ J)[i]? = some c := by
  rw [List.getElem?_append_left (by have := (List.getElem?_eq_some_iff.mp h).1; exact this)]
  exact h
abbrev hB : TDS := dSeq (dSet 5 (dCall 2 sp_cell (dCons (dVar 0) (dCons (dOp rdAdd (dC (.int 1)) (dVar 4)) dNil)))) (dDrop (dAppend (dVar 3) (dCons (dTup (dCons (dCall 3 sp_mix (dCons (dVar 5) (dCons (dC (.int 9929)) (dCons (dVar 1) dNil))))
  (dCons (dCall 3 (sp_thing 4) (dCons (dVar 5) (dCons (dVar 1) (dCons (dOp rdAdd (dC (.int 1)) (dOp (rdI (fun _ j => 0 < j) fun i j => .int (i % j)) (dVar 5) (dC (.int 3)))) dNil)))) dNil))) dNil)))
theorem hall_loop (D : EndsD) (n0 : Nat) (G : GD) (ns : List Int) (n : Int) (i : Nat) (hi : G[i]? = some (.fz (ns.map Dt.int))) (hn : 1 ≤ n) (sz : Dt) : ∀ (is : List Nat) (acc : List Dt) (k c : Option Dt), acc.length + is.length < sizeLine →
    (∀ k c, D.nx [some (.ref i), some (.int n), some sz, some (.ref G.length), k, c] (G ++ [.lst (acc ++ is.map (sayD ns n))])) →
    lp n0 (dgName 4) hB D (fun _ => True) (is.map fun (j : Nat) => Dt.int (0 + j)) [some (.ref i), some (.int n), some sz, some (.ref G.length), k, c] (G ++ [.lst acc])
  | [], acc, k, c, _, h => ⟨trivial, by simpa using h k c⟩
  | j :: is, acc, k, c, hz, h => by
    refine ⟨trivial, ?_⟩
    have e2 : (j :: is).length = is.length + 1 := rfl
    walk_at "dx"
    try simp only [spC]
    refine ⟨ns, get_left hi, by omega, ?_⟩
    walk_at "dx"
    simp only [spM]
    refine ⟨by decide, by omega, ?_⟩
    walk_at "dx"
    refine ⟨by decide, ?_⟩
    simp only [spTh]
    have h3 := Int.emod_nonneg (cellI ns (1 + (0 + (j : Int)))) (b := 3) (by decide)
    have h4 := Int.emod_lt_of_pos (cellI ns (1 + (0 + (j : Int)))) (b := 3) (by decide)
    refine ⟨hn, by omega, by omega, by decide, ?_⟩
    walk_at "dx"
    refine ⟨by omega, Wk.here (hall_loop D n0 G ns n i hi hn sz is _ _ _ (by rw [List.length_append, List.length_singleton]; omega) fun k c => ?_)⟩
    have := h k c
    have e0 : (0 : Int) + (j : Int) = j := by omega
    rw [e0, List.append_assoc]
    exact this
theorem ok_hall (T : Bl K mg) (f__law_cell : Fnc P w K mg base "_law_cell" 1 ["_law_script", "_law_k"] sp_cell) (f__law_mix : Fnc P w K mg base "_law_mix" 1 ["_law_cell_here", "_law_prime", "_law_many"] sp_mix)
    (f__law_thing : Fnc P w K mg base "_law_thing" 5 ["_law_cell_here", "_law_many", "_law_deep"] (sp_thing 4)) (Pl : Plc K mg "_law_hall" s_hall ["_law_script"]) : Fnc P w K mg base "_law_hall" 6 ["_law_script"] sp_hall := by
  have nd := sc_hall.nd
  refine Pl.fn' sc_hall fun f cdv A outer s H E hr => ⟨_, fun F => (dss_cons' (ds_set' (i := 1) nd (de_add' de_int' (de_callF' f__law_mix (hr.mono (by decide)) (da_cons' (de_callF' f__law_cell (hr.mono (by decide)) (da_cons' (de_var' 0) (da_cons' de_int' da_nil'))) (da_cons' de_int' (da_cons' de_int' da_nil'))))))
  (dss_cons' (ds_set' (i := 2) nd (de_callF' f__law_mix (hr.mono (by decide)) (da_cons' (de_callF' f__law_cell (hr.mono (by decide)) (da_cons' (de_var' 0) (da_cons' de_int' da_nil'))) (da_cons' de_int' (da_cons' de_int' da_nil')))))
  (dss_cons' (ds_set' (i := 3) nd (de_lst' da_nil'))
  (dss_cons' (ds_for' (di_rng1' (da_cons' (de_var' 2) da_nil') T.b_range) (fun _ => (dg_name' (i := 4) nd))
  (fun _ => (dss_cons' (ds_set' (i := 5) nd (de_callF' f__law_cell (hr.mono (by decide)) (da_cons' (de_var' 0) (da_cons' (de_add' de_int' (de_var' 4)) da_nil'))))
  (dss_one' (ds_expr' (de_append' (de_var' 3) (da_cons' (de_tup' (da_cons' (de_callF' f__law_mix (hr.mono (by decide)) (da_cons' (de_var' 5) (da_cons' de_int' (da_cons' (de_var' 1) da_nil')))) (da_cons' (de_callF' f__law_thing (hr.mono (by decide)) (da_cons' (de_var' 5) (da_cons' (de_var' 1) (da_cons' (de_add' de_int' (de_mod' (de_var' 5) de_int')) da_nil')))) da_nil'))) da_nil')))))))
  (dss_one' (ds_ret' (de_tup' (da_cons' (de_var' 1) (da_cons' (de_tupleof' (da_cons' (de_var' 3) da_nil') T.b_tuple) da_nil'))))))))), fun ds G Q hl hsp hb hG => ?_⟩
  unfold sp_hall at hsp
  split at hsp
  · rename_i i
    obtain ⟨ns, hi, hq⟩ := hsp
    walk_at "dx"
    try simp only [spC]
    refine ⟨ns, hi, by decide, ?_⟩
    walk_at "dx"
    try simp only [spM]
    refine ⟨by decide, by decide, ?_⟩
    walk_at "dx"
    try simp only [spC]
    refine ⟨ns, hi, by decide, ?_⟩
    walk_at "dx"
    try simp only [spM]
    refine ⟨by decide, by decide, ?_⟩
    walk_at "dx"
    obtain ⟨m0, m7⟩ := mix_lt (c := cellI ns 0) (p := 9931) (m := 7) (by decide)
    obtain ⟨q0, q5⟩ := mix_lt (c := cellI ns 0) (p := 9941) (m := 5) (by decide)
    refine ⟨by decide, ⟨by omega, by omega⟩, ?_⟩
    refine hall_loop _ _ G ns (manyD ns) i hi (by unfold manyD; omega) _ (List.range (mixI (cellI ns 0) 9931 7).toNat) [] none none ?_ fun k c => ?_
    · have : sizeLine = 16777216 := sizeLine_eq
      rw [List.length_range]; simp only [List.length_nil]; omega
    · walk_at "dx"
      simp only [cellL]
      walk_at "dx"
      refine ⟨by decide, RetD.pure hG ?_ hq⟩
      refine ⟨trivial, ?_, trivial⟩
      show bnds _ (saysD ns)
      unfold saysD
      generalize List.range _ = l
      induction l with
      | nil => exact trivial
      | cons a l ih => exact ⟨⟨trivial, bnd_th _ _ _ _, trivial⟩, ih⟩
  · exact hsp.elim
end
/-! things and halls as the document has them -/
def leafT (c n : Int) : Th := if mixI c 9973 9 = 8 then .many (mixI c 9949 8).toNat else .is (mixI c 9967 n).toNat
def opT (t : Int) (a b : Th) : Th := if t = 5 then .and a b else if t = 6 then .or a b else .alike a b
def thT (n : Int) : Nat → Int → Th
  | 0, c => leafT c n
  | k + 1, c => if mixI c 9973 9 < 2 then leafT c n else if mixI c 9973 9 = 2 then .many (mixI c 9949 (n + 1)).toNat else if mixI c 9973 9 = 3 then .not (thT n k (c * 3 + 1))
    else if mixI c 9973 9 = 4 then .says (mixI c 9967 n).toNat (thT n k (c * 3 + 1)) else opT (mixI c 9973 9) (thT n k (c * 3 + 1)) (thT n k (c * 5 + 2))
theorem mix_nat {c p m : Int} (hm : 0 < m) : Dt.int (mixI c p m) = .int ((mixI c p m).toNat : Nat) := by
  have := (mix_lt (c := c) (p := p) hm).1
  rw [Int.toNat_of_nonneg this]
theorem leaf_enc {c n : Int} (h : 1 ≤ n) : leafD c n = enc (leafT c n) := by
  unfold leafD leafT
  split
  · rw [mix_nat (by decide)]; rfl
  · rw [mix_nat (by omega)]; rfl
theorem th_enc {n : Int} (h : 1 ≤ n) : ∀ (k : Nat) (c : Int), thD n k c = enc (thT n k c) := by
  intro k
  induction k with
  | zero => intro c; exact leaf_enc h
  | succ k ih =>
    intro c
    unfold thD thT
    split
    · exact leaf_enc h
    split
    · rw [mix_nat (by omega)]; rfl
    split
    · rw [ih]; rfl
    split
    · rw [ih, mix_nat (by omega)]; rfl
    · rw [ih, ih]
      unfold opW opT
      split
      · rfl
      split
      · rfl
      · rfl
theorem leaf_wf {c n : Int} (h : 1 ≤ n) : (leafT c n).wf n.toNat := by
  unfold leafT
  split
  · exact trivial
  · show (mixI c 9967 n).toNat < n.toNat
    have := mix_lt (c := c) (p := 9967) (m := n) (by omega)
    omega
theorem th_wf {n : Int} (h : 1 ≤ n) : ∀ (k : Nat) (c : Int), (thT n k c).wf n.toNat := by
  intro k
  induction k with
  | zero => intro c; exact leaf_wf h
  | succ k ih =>
    intro c
    unfold thT
    split
    · exact leaf_wf h
    split
    · exact trivial
    split
    · exact ih _
    split
    · refine ⟨?_, ih _⟩
      have := mix_lt (c := c) (p := 9967) (m := n) (by omega)
      omega
    · unfold opT
      split
      · exact ⟨ih _, ih _⟩
      split
      · exact ⟨ih _, ih _⟩
      · exact ⟨ih _, ih _⟩
theorem leaf_dep {c n : Int} : (leafT c n).dep = 0 := by
  unfold leafT
  split <;> rfl
theorem th_dep {n : Int} : ∀ (k : Nat) (c : Int), (thT n k c).dep ≤ k := by
  intro k
  induction k with
  | zero => intro c; exact Nat.le_of_eq leaf_dep
  | succ k ih =>
    intro c
    have i1 := ih (c * 3 + 1)
    have i2 := ih (c * 5 + 2)
    unfold thT
    split
    · rw [leaf_dep]; exact Nat.zero_le _
    split
    · exact Nat.zero_le _
    split
    · show (thT n k (c * 3 + 1)).dep + 1 ≤ k + 1; omega
    split
    · show (thT n k (c * 3 + 1)).dep + 1 ≤ k + 1; omega
    · unfold opT
      split
      · show max (thT n k (c * 3 + 1)).dep (thT n k (c * 5 + 2)).dep + 1 ≤ k + 1; omega
      split
      · show max (thT n k (c * 3 + 1)).dep (thT n k (c * 5 + 2)).dep + 1 ≤ k + 1; omega
      · show max (thT n k (c * 3 + 1)).dep (thT n k (c * 5 + 2)).dep + 1 ≤ k + 1; omega
def manyN (ns : List Int) : Nat := (manyD ns).toNat
def sgT (ns : List Int) : Sg := (List.range (mixI (cellI ns 0) 9931 7).toNat).map fun (k : Nat) => ((mixI (cellI ns (1 + k)) 9929 (manyD ns)).toNat, thT (manyD ns) (1 + cellI ns (1 + k) % 3).toNat (cellI ns (1 + k)))
theorem many_le (ns : List Int) : 1 ≤ manyD ns ∧ manyD ns ≤ 5 := by
  obtain ⟨a, b⟩ := mix_lt (c := cellI ns 0) (p := 9941) (m := 5) (by decide)
  unfold manyD
  omega
theorem manyN_le (ns : List Int) : 1 ≤ manyN ns ∧ manyN ns ≤ 5 := by
  have := many_le ns
  unfold manyN
  omega
theorem manyN_eq (ns : List Int) : manyD ns = (manyN ns : Nat) := by
  have := many_le ns
  unfold manyN
  omega
theorem hall_enc (ns : List Int) : hallD ns = hD (manyN ns) (sgT ns) := by
  unfold hallD hD
  rw [← manyN_eq]
  congr 3
  unfold saysD sgT
  rw [List.map_map]
  congr 1
  apply List.map_congr_left
  intro k _
  show sayD ns (manyD ns) k = sD _
  unfold sayD sD
  rw [mix_nat (by have := many_le ns; omega), th_enc (many_le ns).1]
theorem sg_wf (ns : List Int) : (sgT ns).wf (manyN ns) := fun p hp => by
  unfold sgT at hp
  rw [List.mem_map] at hp
  obtain ⟨k, _, rfl⟩ := hp
  have h := many_le ns
  refine ⟨?_, th_wf h.1 _ _⟩
  have := mix_lt (c := cellI ns (1 + k)) (p := 9929) (m := manyD ns) (by omega)
  show (mixI (cellI ns (1 + k)) 9929 (manyD ns)).toNat < (manyD ns).toNat
  omega
theorem sg_dep (ns : List Int) : ∀ p ∈ sgT ns, p.2.dep ≤ 3 := fun p hp => by
  unfold sgT at hp
  rw [List.mem_map] at hp
  obtain ⟨k, _, rfl⟩ := hp
  have h3 := Int.emod_nonneg (cellI ns (1 + k)) (b := 3) (by decide)
  have h4 := Int.emod_lt_of_pos (cellI ns (1 + k)) (b := 3) (by decide)
  exact Nat.le_trans (th_dep _ _) (by omega)
end K08
--LAW k08
namespace K08
open PySem PySem.Spec L2 DL TH KT KH KFM
local macro_rules | `(tactic| walk_at "dx") => `(tactic| (try simp only [↓dSeq, ↓dIfS, ↓dOr, ↓dAnd, ↓dNot, ↓dTru, ↓dIsi, ↓dVar, ↓dRet, ↓dC, ↓dNext, ↓dChain, ↓rdI0, ↓rdI, ↓dTest, ↓dOp, ↓endsD, ↓startD, ↓dAndV, ↓dOrV, ↓dNotV, ↓dIf, ↓dCall, ↓dCons, ↓dNil, ↓dTup, ↓dLst, ↓dSet, ↓dAsg, ↓dgName, ↓dgNil, ↓dgCons, ↓dgTup, ↓dDrop, ↓dCB, ↓dMGet, ↓rdLen_eq, ↓rdLen0, ↓rdIx_eq, ↓rdIx0, ↓rdIs, ↓rdEq_eq, ↓rdEq0, ↓rdAdd, ↓rdMul, ↓dUn, ↓dPart, ↓dNoPart, ↓dSl, ↓rdSl_eq, ↓rdSl0, ↓rdList, ↓rdTuple_eq, ↓rdTuple0, ↓rdAll, ↓dAppend, ↓rdAppend_eq, ↓rdAppend0, ↓dPop, ↓isLstC, ↓dFor, ↓diZip, ↓diSeq, ↓seqR_eq, ↓seqR0, ↓diRng1, ↓dWhile, ↓dDict, ↓dPairs, ↓keysD, ↓keyD, get_endz, get_endj, set_endz, set_endj, Option.some.injEq, Cl.lst.injEq, exists_eq', exists_eq, exists_eq_left,
  isi_non, isi_bl, isi_int, isi_str, isi_tup, isi_ref, tru_non, tru_bl, tru_int, tru_tup, tru_ref, len_tup, len_ref, at_tup, at_ref, at_refs, is_non_non, is_bl_bl, is_bl_non, is_non_bl, is_int_non, is_str_non, is_tup_non, is_ref_non, is_int_bl, is_str_bl, is_tup_bl, is_ref_bl, eqs_int, eqs_str, eqs_bl, seq_tup, seq_ref, atI_0, atI_1, atI_2, succ_eq0, zero_eq0, str_inj,
  List.map_cons, List.map_nil, List.length_cons, List.length_nil, List.replicate, List.cons_append, List.nil_append, List.append_nil, List.append_assoc, List.length_append, List.getElem?_cons_zero, List.getElem?_cons_succ, List.set_cons_zero, List.set_cons_succ, if_true, if_false, Bool.not_true, Bool.not_false, Bool.false_eq_true, Bool.or_true, Bool.or_false, Bool.true_or, Bool.false_or, Bool.and_true, Bool.and_false, Bool.true_and, Bool.false_and, Bool.false_xor, Bool.true_xor, Nat.sub_self, Nat.reduceAdd, Nat.reduceSub, decide_true, decide_false, true_and, and_true, ne_eq, String.reduceBEq, String.reduceEq, reduceIte, reduceCtorEq]))
/-! ### the law's own so, all worlds -/
abbrev s_l_so : Stmt := top 23
theorem sc_l_so : FnScope ["_law_thing_here", "_law_world", "_law_one", "_law_other"] ["_law_thing_here", "_law_world"] (defScope s_l_so) := ⟨rfl, rfl, rfl, by decide +kernel, rfl, by decide +kernel, by decide +kernel⟩
section
variable {P : Program} {w : World} {K : PySem.W.Frag} {mg : Str → Option Value} {base : Heap}
def sp_l_so (d : Nat) : SpD := fun ds G Q => match ds with
  | [x, y] => ∃ (t : Th) (w : Wd), x = enc t ∧ y = wD w ∧ t.wf w.length ∧ t.dep < d ∧ ∀ J, Q (.bl (t.so w)) (G ++ J)
  | _ => False
theorem atI_wd {w : Wd} {k : Nat} (h : k < w.length) : atI (w.map fun b => Dt.int (b2 b)) (k : Int) = some (.int (b2 (w.getD k false))) := by
  refine atI_nat ?_
  rw [List.getElem?_map, List.getElem?_eq_getElem h]
  simp [List.getD, h]
theorem flat_wd (w : Wd) : (w.map fun b => Dt.int (b2 b)).all flatD = true := by
  rw [List.all_map]
  induction w with
  | nil => rfl
  | cons b w ih => exact ih
theorem app0 {G : GD} {Q : GD → Prop} (h : ∀ J, Q (G ++ J)) : Q G := by simpa using h []
theorem ix_and : ([.str "and", .str "or", .str "alike"] : List Dt).findIdx (fun z => eqF z (.str "and")) = 0 := by decide +kernel
theorem ix_or : ([.str "and", .str "or", .str "alike"] : List Dt).findIdx (fun z => eqF z (.str "or")) = 1 := by decide +kernel
theorem ix_alike : ([.str "and", .str "or", .str "alike"] : List Dt).findIdx (fun z => eqF z (.str "alike")) = 2 := by decide +kernel
theorem ok_l_so_step {d : Nat} (T : Bl K mg) (f__law_so : Fnc P w K mg base "_law_so" (d + 1) ["_law_thing_here", "_law_world"] (sp_l_so d)) (Pl : Plc K mg "_law_so" s_l_so ["_law_thing_here", "_law_world"]) : Fnc P w K mg base "_law_so" (d + 2) ["_law_thing_here", "_law_world"] (sp_l_so (d + 1)) := by
  have nd := sc_l_so.nd
  refine Pl.fn' (k := d + 1) sc_l_so fun f cdv A outer s H E hr => ⟨_, fun F => (dss_cons' (ds_if' (dt_eq' (de_ix' hr (de_var' 0) de_int') de_str')
  (dss_one' (ds_ret' (de_eq' (de_ix' hr (de_var' 1) (de_ix' hr (de_var' 0) de_int')) de_int')))
  dss_nil')
  (dss_cons' (ds_if' (dt_eq' (de_ix' hr (de_var' 0) de_int') de_str')
  (dss_one' (ds_ret' (de_ge' (de_count' (de_var' 1) (da_cons' de_int' da_nil')) (de_ix' hr (de_var' 0) de_int'))))
  dss_nil')
  (dss_cons' (ds_if' (dt_eq' (de_ix' hr (de_var' 0) de_int') de_str')
  (dss_one' (ds_ret' (de_not' (de_callF' f__law_so (hr.mono (by first | decide | omega)) (da_cons' (de_ix' hr (de_var' 0) de_int') (da_cons' (de_var' 1) da_nil'))))))
  dss_nil')
  (dss_cons' (ds_if' (dt_eq' (de_ix' hr (de_var' 0) de_int') de_str')
  (dss_one' (ds_ret' (de_eq' (de_eq' (de_ix' hr (de_var' 1) (de_ix' hr (de_var' 0) de_int')) de_int') (de_callF' f__law_so (hr.mono (by first | decide | omega)) (da_cons' (de_ix' hr (de_var' 0) de_int') (da_cons' (de_var' 1) da_nil'))))))
  dss_nil')
  (dss_cons' (ds_set' (i := 2) nd (de_callF' f__law_so (hr.mono (by first | decide | omega)) (da_cons' (de_ix' hr (de_var' 0) de_int') (da_cons' (de_var' 1) da_nil'))))
  (dss_cons' (ds_set' (i := 3) nd (de_callF' f__law_so (hr.mono (by first | decide | omega)) (da_cons' (de_ix' hr (de_var' 0) de_int') (da_cons' (de_var' 1) da_nil'))))
  (dss_one' (ds_ret' (de_ix' hr (de_lst' (da_cons' (de_and' (de_var' 2) (de_one' (de_var' 3))) (da_cons' (de_or' (de_var' 2) (de_one' (de_var' 3))) (da_cons' (de_eq' (de_var' 2) (de_var' 3)) da_nil')))) (de_indexL' (de_lst' (da_cons' de_str' (da_cons' de_str' (da_cons' de_str' da_nil')))) (da_cons' (de_ix' hr (de_var' 0) de_int') da_nil'))))))))))), fun ds G Q hl hsp hb hG => ?_⟩
  unfold sp_l_so at hsp
  split at hsp
  · obtain ⟨t, w, rfl, rfl, hw, hd, hq⟩ := hsp
    have pos : ∀ {a : Th} {n : Nat}, a.dep + 1 < n + 1 → a.dep < n := fun h => by omega
    cases t with
    | is k =>
      refine rdIx_of atI_0 ?_
      refine rdEq_sT ?_
      refine rdIx_of atI_1 ?_
      refine rdIx_of (atI_wd hw) ?_
      refine rdEq_int ?_
      show RetD G Q (.bl (false ^^ decide (b2 (w.getD k false) = 1))) G
      rw [b2_one, Bool.false_xor]
      exact RetD.all (app0 hq)
    | many m =>
      refine rdIx_of atI_0 ?_
      refine rdEq_sF ?_
      refine rdIx_of atI_0 ?_
      refine rdEq_sT ?_
      refine ⟨⟨_, rfl⟩, ?_⟩
      refine rdCount_of rfl (flat_wd w) ?_
      refine rdIx_of atI_1 ?_
      rw [count_b2]
      show RetD G Q (.bl (decide ((m : Int) ≤ (w.count true : Nat)))) G
      have e : decide ((m : Int) ≤ (w.count true : Nat)) = (Th.many m).so w := decide_eq_decide.mpr (by omega)
      rw [e]
      exact RetD.all (app0 hq)
    | not a =>
      refine rdIx_of atI_0 ?_
      refine rdEq_sF ?_
      refine rdIx_of atI_0 ?_
      refine rdEq_sF ?_
      refine rdIx_of atI_0 ?_
      refine rdEq_sT ?_
      refine rdIx_of atI_1 ?_
      refine ⟨rfl, a, w, rfl, rfl, hw, pos hd, fun J => ?_⟩
      exact RetD.all (hq J)
    | says k a =>
      refine rdIx_of atI_0 ?_
      refine rdEq_sF ?_
      refine rdIx_of atI_0 ?_
      refine rdEq_sF ?_
      refine rdIx_of atI_0 ?_
      refine rdEq_sF ?_
      refine rdIx_of atI_0 ?_
      refine rdEq_sT ?_
      refine rdIx_of atI_1 ?_
      refine rdIx_of (atI_wd hw.1) ?_
      refine rdEq_int ?_
      refine rdIx_of atI_2 ?_
      refine ⟨rfl, a, w, rfl, rfl, hw.2, pos hd, fun J => ?_⟩
      refine rdEq_bl ?_
      show RetD G Q (.bl (false ^^ decide ((false ^^ decide (b2 (w.getD k false) = 1)) = a.so w))) (G ++ J)
      rw [b2_one, Bool.false_xor, Bool.false_xor]
      have e : decide (w.getD k false = a.so w) = (Th.says k a).so w := by
        show _ = (w.getD k false == a.so w)
        cases w.getD k false <;> cases a.so w <;> rfl
      rw [e]
      exact RetD.all (hq J)
    | and a b =>
      have hd' : max a.dep b.dep + 1 < d + 1 := hd
      refine rdIx_of atI_0 ?_
      refine rdEq_sF ?_
      refine rdIx_of atI_0 ?_
      refine rdEq_sF ?_
      refine rdIx_of atI_0 ?_
      refine rdEq_sF ?_
      refine rdIx_of atI_0 ?_
      refine rdEq_sF ?_
      refine rdIx_of atI_1 ?_
      refine ⟨rfl, a, w, rfl, rfl, hw.1, by omega, fun J1 => ?_⟩
      refine rdIx_of atI_2 ?_
      refine ⟨rfl, b, w, rfl, rfl, hw.2, by omega, fun J2 => ?_⟩
      have q : ∀ {G'}, Grw G G' → Q (.bl (a.so w && b.so w)) G' := fun ⟨J, e⟩ => by rw [e]; exact hq J
      generalize a.so w = x at q ⊢
      generalize b.so w = y at q ⊢
      cases x <;> cases y
      all_goals
        refine rdEq_bl ?_
        refine ⟨szl 3, szl 3, ⟨_, _, rfl, cell_lst at_last⟩, ?_⟩
        refine rdIx_of atI_0 ?_
        refine rdIndexL_at (cell_lst at_last) rfl rfl ix_and (by decide) ?_
        refine rdIx_of ((atD_lst (at_prev at_last)).trans atI_0) ?_
        exact RetD.all (q (Grw.refl.more.more.push.push))
    | or a b =>
      have hd' : max a.dep b.dep + 1 < d + 1 := hd
      refine rdIx_of atI_0 ?_
      refine rdEq_sF ?_
      refine rdIx_of atI_0 ?_
      refine rdEq_sF ?_
      refine rdIx_of atI_0 ?_
      refine rdEq_sF ?_
      refine rdIx_of atI_0 ?_
      refine rdEq_sF ?_
      refine rdIx_of atI_1 ?_
      refine ⟨rfl, a, w, rfl, rfl, hw.1, by omega, fun J1 => ?_⟩
      refine rdIx_of atI_2 ?_
      refine ⟨rfl, b, w, rfl, rfl, hw.2, by omega, fun J2 => ?_⟩
      have q : ∀ {G'}, Grw G G' → Q (.bl (a.so w || b.so w)) G' := fun ⟨J, e⟩ => by rw [e]; exact hq J
      generalize a.so w = x at q ⊢
      generalize b.so w = y at q ⊢
      cases x <;> cases y
      all_goals
        refine rdEq_bl ?_
        refine ⟨szl 3, szl 3, ⟨_, _, rfl, cell_lst at_last⟩, ?_⟩
        refine rdIx_of atI_0 ?_
        refine rdIndexL_at (cell_lst at_last) rfl rfl ix_or (by decide) ?_
        refine rdIx_of ((atD_lst (at_prev at_last)).trans atI_1) ?_
        exact RetD.all (q (Grw.refl.more.more.push.push))
    | alike a b =>
      have hd' : max a.dep b.dep + 1 < d + 1 := hd
      refine rdIx_of atI_0 ?_
      refine rdEq_sF ?_
      refine rdIx_of atI_0 ?_
      refine rdEq_sF ?_
      refine rdIx_of atI_0 ?_
      refine rdEq_sF ?_
      refine rdIx_of atI_0 ?_
      refine rdEq_sF ?_
      refine rdIx_of atI_1 ?_
      refine ⟨rfl, a, w, rfl, rfl, hw.1, by omega, fun J1 => ?_⟩
      refine rdIx_of atI_2 ?_
      refine ⟨rfl, b, w, rfl, rfl, hw.2, by omega, fun J2 => ?_⟩
      have q : ∀ {G'}, Grw G G' → Q (.bl (a.so w == b.so w)) G' := fun ⟨J, e⟩ => by rw [e]; exact hq J
      generalize a.so w = x at q ⊢
      generalize b.so w = y at q ⊢
      cases x <;> cases y
      all_goals
        refine rdEq_bl ?_
        refine ⟨szl 3, szl 3, ⟨_, _, rfl, cell_lst at_last⟩, ?_⟩
        refine rdIx_of atI_0 ?_
        refine rdIndexL_at (cell_lst at_last) rfl rfl ix_alike (by decide) ?_
        refine rdIx_of ((atD_lst (at_prev at_last)).trans atI_2) ?_
        exact RetD.all (q (Grw.refl.more.more.push.push))
  · exact hsp.elim
theorem ok_l_so (T : Bl K mg) (Pl : Plc K mg "_law_so" s_l_so ["_law_thing_here", "_law_world"]) : ∀ d : Nat, Fnc P w K mg base "_law_so" (d + 1) ["_law_thing_here", "_law_world"] (sp_l_so d)
  | 0 => (Fnc.imp Pl.never fun ds G Q h => by
      unfold sp_l_so at h
      split at h
      · obtain ⟨_, _, _, _, _, h, _⟩ := h; omega
      · exact h).mono (Nat.zero_le _)
  | d + 1 => ok_l_so_step T (ok_l_so T Pl d) Pl
end
end K08
--LAW k08
namespace K08
open PySem PySem.Spec L2 DL TH KT KH KFM
local macro_rules | `(tactic| walk_at "dx") => `(tactic| (try simp only [↓dSeq, ↓dIfS, ↓dOr, ↓dAnd, ↓dNot, ↓dTru, ↓dIsi, ↓dVar, ↓dRet, ↓dC, ↓dNext, ↓dChain, ↓rdI0, ↓rdI, ↓dTest, ↓dOp, ↓endsD, ↓startD, ↓dAndV, ↓dOrV, ↓dNotV, ↓dIf, ↓dCall, ↓dCons, ↓dNil, ↓dTup, ↓dLst, ↓dSet, ↓dAsg, ↓dgName, ↓dgNil, ↓dgCons, ↓dgTup, ↓dDrop, ↓dCB, ↓dMGet, ↓rdLen_eq, ↓rdLen0, ↓rdIx_eq, ↓rdIx0, ↓rdIs, ↓rdEq_eq, ↓rdEq0, ↓rdAdd, ↓rdMul, ↓dUn, ↓dPart, ↓dNoPart, ↓dSl, ↓rdSl_eq, ↓rdSl0, ↓rdList, ↓rdTuple_eq, ↓rdTuple0, ↓rdAll, ↓dAppend, ↓rdAppend_eq, ↓rdAppend0, ↓dPop, ↓isLstC, ↓dFor, ↓diZip, ↓diSeq, ↓seqR_eq, ↓seqR0, ↓diRng1, ↓dWhile, ↓dDict, ↓dPairs, ↓keysD, ↓keyD, get_endz, get_endj, set_endz, set_endj, Option.some.injEq, Cl.lst.injEq, exists_eq', exists_eq, exists_eq_left,
  isi_non, isi_bl, isi_int, isi_str, isi_tup, isi_ref, tru_non, tru_bl, tru_int, tru_tup, tru_ref, len_tup, len_ref, at_tup, at_ref, at_refs, is_non_non, is_bl_bl, is_bl_non, is_non_bl, is_int_non, is_str_non, is_tup_non, is_ref_non, is_int_bl, is_str_bl, is_tup_bl, is_ref_bl, eqs_int, eqs_str, eqs_bl, seq_tup, seq_ref, atI_0, atI_1, atI_2, succ_eq0, zero_eq0, str_inj,
  List.map_cons, List.map_nil, List.length_cons, List.length_nil, List.replicate, List.cons_append, List.nil_append, List.append_nil, List.append_assoc, List.length_append, List.getElem?_cons_zero, List.getElem?_cons_succ, List.set_cons_zero, List.set_cons_succ, if_true, if_false, Bool.not_true, Bool.not_false, Bool.false_eq_true, Bool.or_true, Bool.or_false, Bool.true_or, Bool.false_or, Bool.and_true, Bool.and_false, Bool.true_and, Bool.false_and, Bool.false_xor, Bool.true_xor, Nat.sub_self, Nat.reduceAdd, Nat.reduceSub, decide_true, decide_false, true_and, and_true, ne_eq, String.reduceBEq, String.reduceEq, reduceIte, reduceCtorEq]))
abbrev s_l_all : Stmt := top 25
theorem sc_l_all : FnScope ["_law_many"] ["_law_many"] (defScope s_l_all) := ⟨rfl, rfl, rfl, by decide +kernel, rfl, by decide +kernel, by decide +kernel⟩
section
variable {P : Program} {w : World} {K : PySem.W.Frag} {mg : Str → Option Value} {base : Heap}
/-! all worlds -/
theorem bit_and : ∀ x : Nat, x < 32 → Builtin.bitAnd (x : Int) 1 = b2 (decide (x % 2 = 1)) := by
  have h : ∀ x : Fin 32, Builtin.bitAnd ((x.val : Nat) : Int) 1 = b2 (decide (x.val % 2 = 1)) := by decide +kernel
  exact fun x hx => h ⟨x, hx⟩
def sc_c_l_all_1 : Scope := { kind := .function, names := [(".0", .local), ("_law_number", .cell), ("tuple", .globalImplicit), ("range", .globalImplicit), ("_law_many", .free)], isGenerator := false, isCoroutine := false, more := [] }
theorem ndc_l_all_1 : (["_law_number", "_law_many"] : List Str).Nodup := by decide +kernel
theorem cm_l_all_1 {f : Addr} {cdv : Value} {A : Around} {outer : List Env} {s : Shared} {H : Hp} {E : XK} : CmpOk1 (cxOf CX0 P w K mg base ["_law_many"] "_law_all" (defScope s_l_all) f cdv A outer s H E).nox sc_c_l_all_1 [("_law_many", s.heap.objs.size + 1)] "_law_number" ["_law_number", "_law_many"] [none, some 0] where
  clos := by rfl
  hcf := fun _ _ => rfl
  hpc := fun _ => rfl
  kind := by rfl
  names := by decide +kernel
  lenN := by rfl
  capN := fun i j x h1 h2 => by
    match i, h1, h2 with
    | 0, h1, _ => cases h1
    | 1, h1, h2 =>
      cases h1
      cases h2
      exact ⟨rfl, Or.inr (Or.inl rfl), cellNe rfl, cellNe rfl, by decide +kernel, _, rfl, rfl⟩
  cls := fun x c h => by
    have m := PySem.mem_of_lookup h
    simp only [List.mem_cons, List.not_mem_nil, or_false, Prod.mk.injEq] at m
    rcases m with ⟨rfl, rfl⟩ <;> rfl
  has := fun x h => by
    have h' : List.lookup x ([(".0", .local), ("_law_number", .cell), ("tuple", .globalImplicit), ("range", .globalImplicit), ("_law_many", .cell)] : List (Str × NameKind)) = some .cell ∨ List.lookup x ([(".0", .local), ("_law_number", .cell), ("tuple", .globalImplicit), ("range", .globalImplicit), ("_law_many", .cell)] : List (Str × NameKind)) = some .free := h
    have m := h'.imp PySem.mem_of_lookup PySem.mem_of_lookup
    have e : x = "_law_number" ∨ x = "_law_many" := by simpa using m
    rcases e with rfl | rfl
    · exact .inl rfl
    · exact .inr ⟨_, rfl⟩
def sc_c_l_all_0 : Scope := { kind := .function, names := [(".0", .local), ("_law_k", .local), ("_law_many", .free), ("_law_number", .free)], isGenerator := false, isCoroutine := false, more := [] }
theorem ndc_l_all_0 : (["_law_k", "_law_many", "_law_number"] : List Str).Nodup := by decide +kernel
theorem cm_l_all_0 {f : Addr} {cdv : Value} {A : Around} {outer : List Env} {s : Shared} {H : Hp} {E : XK} {C1 : Addr} {sh1 : Shared} {Hh1 : Hp} {ex1 : List Addr} {pn1 : List (Addr × Obj)} : CmpOk (cmpX1 (cxOf CX0 P w K mg base ["_law_many"] "_law_all" (defScope s_l_all) f cdv A outer s H E).nox sc_c_l_all_1 [("_law_many", s.heap.objs.size + 1)] "_law_number" ["_law_number", "_law_many"] C1 sh1 Hh1 ex1 pn1) sc_c_l_all_0 [("_law_number", C1 + 1), ("_law_many", s.heap.objs.size + 1)] ["_law_k", "_law_many", "_law_number"] [none, some 1, some 0] where
  clos := by rfl
  cell := by decide +kernel
  kind := by rfl
  names := by decide +kernel
  lenN := by rfl
  capN := fun i j x h1 h2 => by
    match i, h1, h2 with
    | 0, h1, _ => cases h1
    | 1, h1, h2 =>
      cases h1
      cases h2
      exact ⟨rfl, Or.inr (Or.inl rfl), cellNe rfl, cellNe rfl, _, rfl, rfl⟩
    | 2, h1, h2 =>
      cases h1
      cases h2
      exact ⟨rfl, Or.inr (Or.inl rfl), cellNe rfl, cellNe rfl, _, rfl, rfl⟩
  cls := fun x c h => by
    have m := PySem.mem_of_lookup h
    simp only [List.mem_cons, List.not_mem_nil, or_false, Prod.mk.injEq] at m
    rcases m with ⟨rfl, rfl⟩ | ⟨rfl, rfl⟩ <;> rfl
  has := fun x h => by
    have h' : List.lookup x ([(".0", .local), ("_law_k", .local), ("_law_many", .cell), ("_law_number", .cell)] : List (Str × NameKind)) = some .cell ∨ List.lookup x ([(".0", .local), ("_law_k", .local), ("_law_many", .cell), ("_law_number", .cell)] : List (Str × NameKind)) = some .free := h
    have m := h'.imp PySem.mem_of_lookup PySem.mem_of_lookup
    have e : x = "_law_many" ∨ x = "_law_number" := by simpa using m
    rcases e with rfl | rfl
    · exact ⟨_, rfl⟩
    · exact ⟨_, rfl⟩
def sp_l_all : SpD := fun ds G Q => match ds with
  | [x] => ∃ n : Nat, x = .int (n : Nat) ∧ 1 ≤ n ∧ n ≤ 5 ∧ ∀ J, Q (.ref G.length) (G ++ [.lst ((allW n).map wD)] ++ J)
  | _ => False
theorem ok_l_all (T : Bl K mg) (Pl : Plc K mg "_law_all" s_l_all ["_law_many"]) : Fnc P w K mg base "_law_all" 1 ["_law_many"] sp_l_all := by
  have nd := sc_l_all.nd
  refine Pl.fn' sc_l_all fun f cdv A outer s H E hr => ⟨_, fun F => (dss_one' (ds_ret' (de_comp1' cm_l_all_1 (di_rng1' (da_cons' (de_shl' de_int' (de_var' 0)) da_nil') T.b_range) (fun _ _ _ _ _ _ => (dg_name' (i := 0) ndc_l_all_1)) (fun _ _ _ _ _ _ => dif_nil') (fun _ _ _ _ _ _ => (de_tupleof' (da_cons' (de_comp' cm_l_all_0 (di_rng1' (da_cons' (de_var' 1) da_nil') T.b_range) (fun _ _ _ _ _ _ => (dg_name' (i := 0) ndc_l_all_0)) (fun _ _ _ _ _ _ => dif_nil') (fun _ _ _ _ _ _ => (de_band' (de_shr' (de_var' 2) (de_sub' (de_sub' (de_var' 1) de_int') (de_var' 0))) de_int'))) da_nil') T.b_tuple))))), fun ds G Q hl hsp hb hG => ?_⟩
  unfold sp_l_all at hsp
  split at hsp
  · obtain ⟨n, rfl, h1, h5, hq⟩ := hsp
    have pw : (1 * 2 ^ ((n : Nat) : Int).toNat : Int) = ((2 ^ n : Nat) : Int) := by
      have h : n = 1 ∨ n = 2 ∨ n = 3 ∨ n = 4 ∨ n = 5 := by omega
      rcases h with rfl | rfl | rfl | rfl | rfl <;> rfl
    have p32 : 2 ^ n ≤ 32 := Nat.pow_le_pow_right (by decide) h5
    refine ⟨⟨by omega, by omega, by decide⟩, ⟨?_, ?_⟩, ?_⟩
    · show -(2 ^ 62) ≤ (1 * 2 ^ ((n : Nat) : Int).toNat : Int)
      rw [pw]; exact Int.le_trans (by decide) (Int.natCast_nonneg _)
    · show (1 * 2 ^ ((n : Nat) : Int).toNat : Int) < 2 ^ 62
      rw [pw]; omega
    have pn : (1 * 2 ^ ((n : Nat) : Int).toNat : Int).toNat = 2 ^ n := by rw [pw]; rfl
    rw [pn]
    refine compS (fun _ => true) (fun d => match d with | .int m => wD ((List.range n).map fun k => decide (m.toNat / 2 ^ (n - 1 - k) % 2 = 1)) | d => d) (fun _ _ => trivial) (by rw [rngD_len]; exact szlt _ (by omega)) (fun d _ acc J K h => h J) (fun d hd _ acc J K h => ?_) fun J => ?_
    · obtain ⟨m, hm, rfl⟩ := mem_rngD hd
      refine ⟨⟨by omega, by omega⟩, ?_⟩
      refine comp0S (fun _ => true) (fun d => match d with | .int k => .int (b2 (decide (m / 2 ^ (n - 1 - k.toNat) % 2 = 1))) | d => d) (fun _ => trivial) (by rw [rngD_len]; exact szlt _ (by omega)) (fun d _ acc K h => h) (fun d hd _ acc K h => ?_) ?_
      · obtain ⟨k, hk, rfl⟩ := mem_rngD hd
        have hk' : k < n := by omega
        refine ⟨by omega, ?_⟩
        have e : Builtin.bitAnd ((0 + (m : Nat) : Int) / 2 ^ ((n : Nat) - 1 - (0 + (k : Nat)) : Int).toNat) 1 = b2 (decide (m / 2 ^ (n - 1 - (0 + (k : Nat) : Int).toNat) % 2 = 1)) := by
          have e1 : ((n : Nat) - 1 - (0 + (k : Nat)) : Int).toNat = n - 1 - k := by omega
          have e2 : (0 + (k : Nat) : Int).toNat = k := by omega
          have e3 : ((0 + (m : Nat) : Int) / 2 ^ (n - 1 - k)) = ((m / 2 ^ (n - 1 - k) : Nat) : Int) := by
            rw [Int.zero_add]; simp
          rw [e1, e2, e3]
          exact bit_and _ (Nat.lt_of_le_of_lt (Nat.div_le_self _ _) (by omega))
        show K (.int (Builtin.bitAnd ((0 + (m : Nat) : Int) / 2 ^ ((n : Nat) - 1 - (0 + (k : Nat)) : Int).toNat) 1)) _
        rw [e]
        exact h
      · refine rdTuple_ref (cell_lst at_last) ?_
        rw [filter_all]
        have e : (rngD 0 ((n : Nat) : Int).toNat).map (fun d => match d with | .int k => .int (b2 (decide (m / 2 ^ (n - 1 - k.toNat) % 2 = 1))) | d => d) = ((List.range n).map fun k => decide (m / 2 ^ (n - 1 - k) % 2 = 1)).map fun b => Dt.int (b2 b) := by
          unfold rngD
          rw [Int.toNat_natCast, List.map_map, List.map_map]
          apply List.map_congr_left
          intro k _
          show Dt.int (b2 (decide (m / 2 ^ (n - 1 - (0 + (k : Nat) : Int).toNat) % 2 = 1))) = _
          have e2 : (0 + (k : Nat) : Int).toNat = k := by omega
          rw [e2]
          rfl
        rw [e, List.append_assoc]
        have := h (J ++ [Cl.lst (((List.range n).map fun k => decide (m / 2 ^ (n - 1 - k) % 2 = 1)).map fun b => Dt.int (b2 b))])
        have e2 : (0 + (m : Nat) : Int).toNat = m := by omega
        simp only [e2] at this
        exact this
    · rw [filter_all]
      refine RetD.all ?_
      have e : (rngD 0 (2 ^ n)).map (fun d => match d with | .int m => wD ((List.range n).map fun k => decide (m.toNat / 2 ^ (n - 1 - k) % 2 = 1)) | d => d) = (allW n).map wD := by
        rw [← lawW_eq h1 h5]
        unfold rngD lawW
        rw [List.map_map, List.map_map]
        apply List.map_congr_left
        intro m _
        show wD ((List.range n).map fun k => decide ((0 + (m : Nat) : Int).toNat / 2 ^ (n - 1 - k) % 2 = 1)) = _
        have e2 : (0 + (m : Nat) : Int).toNat = m := by omega
        rw [e2]
        rfl
      rw [e]
      exact hq J
  · exact hsp.elim
end
end K08
--LAW k08
namespace K08
open PySem PySem.Spec L2 DL TH KT KH KFM
local macro_rules | `(tactic| walk_at "dx") => `(tactic| (try simp only [↓dSeq, ↓dIfS, ↓dOr, ↓dAnd, ↓dNot, ↓dTru, ↓dIsi, ↓dVar, ↓dRet, ↓dC, ↓dNext, ↓dChain, ↓rdI0, ↓rdI, ↓dTest, ↓dOp, ↓endsD, ↓startD, ↓dAndV, ↓dOrV, ↓dNotV, ↓dIf, ↓dCall, ↓dCons, ↓dNil, ↓dTup, ↓dLst, ↓dSet, ↓dAsg, ↓dgName, ↓dgNil, ↓dgCons, ↓dgTup, ↓dDrop, ↓dCB, ↓dMGet, ↓rdLen_eq, ↓rdLen0, ↓rdIx_eq, ↓rdIx0, ↓rdIs, ↓rdEq_eq, ↓rdEq0, ↓rdAdd, ↓rdMul, ↓dUn, ↓dPart, ↓dNoPart, ↓dSl, ↓rdSl_eq, ↓rdSl0, ↓rdList, ↓rdTuple_eq, ↓rdTuple0, ↓rdAll, ↓dAppend, ↓rdAppend_eq, ↓rdAppend0, ↓dPop, ↓isLstC, ↓dFor, ↓diZip, ↓diSeq, ↓seqR_eq, ↓seqR0, ↓diRng1, ↓dWhile, ↓dDict, ↓dPairs, ↓keysD, ↓keyD, get_endz, get_endj, set_endz, set_endj, Option.some.injEq, Cl.lst.injEq, exists_eq', exists_eq, exists_eq_left,
  isi_non, isi_bl, isi_int, isi_str, isi_tup, isi_ref, tru_non, tru_bl, tru_int, tru_tup, tru_ref, len_tup, len_ref, at_tup, at_ref, at_refs, is_non_non, is_bl_bl, is_bl_non, is_non_bl, is_int_non, is_str_non, is_tup_non, is_ref_non, is_int_bl, is_str_bl, is_tup_bl, is_ref_bl, eqs_int, eqs_str, eqs_bl, seq_tup, seq_ref, atI_0, atI_1, atI_2, succ_eq0, zero_eq0, str_inj,
  List.map_cons, List.map_nil, List.length_cons, List.length_nil, List.replicate, List.cons_append, List.nil_append, List.append_nil, List.append_assoc, List.length_append, List.getElem?_cons_zero, List.getElem?_cons_succ, List.set_cons_zero, List.set_cons_succ, if_true, if_false, Bool.not_true, Bool.not_false, Bool.false_eq_true, Bool.or_true, Bool.or_false, Bool.true_or, Bool.false_or, Bool.and_true, Bool.and_false, Bool.true_and, Bool.false_and, Bool.false_xor, Bool.true_xor, Nat.sub_self, Nat.reduceAdd, Nat.reduceSub, decide_true, decide_false, true_and, and_true, ne_eq, String.reduceBEq, String.reduceEq, reduceIte, reduceCtorEq]))
/-! ### the program's worlds -/
abbrev s_all_worlds : Stmt := top 5
abbrev s_worlds : Stmt := top 6
theorem sc_all_worlds : FnScope ["many", "shorter", "k", "longer", "world"] ["many"] (defScope s_all_worlds) := ⟨rfl, rfl, rfl, by decide +kernel, rfl, by decide +kernel, by decide +kernel⟩
theorem sc_worlds : FnScope ["hall"] ["hall"] (defScope s_worlds) := ⟨rfl, rfl, rfl, by decide +kernel, rfl, by decide +kernel, by decide +kernel⟩
section
variable {P : Program} {w : World} {K : PySem.W.Frag} {mg : Str → Option Value} {base : Heap}
theorem stepW_len : ∀ a : List Wd, (stepW a).length = 2 * a.length
  | [] => rfl
  | x :: a => by
    have e : stepW (x :: a) = [x ++ [false], x ++ [true]] ++ stepW a := rfl
    rw [e, List.length_append, stepW_len a]
    simp
    omega
def sp_all_worlds : SpD := fun ds G Q => match ds with
  | [x] => ∃ n : Nat, x = .int (n : Nat) ∧ n ≤ 6 ∧ ∀ i G', Grw G G' → G'[i]? = some (.lst ((allW n).map wD)) → Q (.ref i) G'
  | _ => False
theorem ok_all_worlds (T : Bl K mg) (Pl : Plc K mg "all_worlds" s_all_worlds ["many"]) : Fnc P w K mg base "all_worlds" 1 ["many"] sp_all_worlds := by
  have nd := sc_all_worlds.nd
  refine Pl.fn' sc_all_worlds fun f cdv A outer s H E hr => ⟨_, fun F => (dss_cons' (ds_set' (i := 1) nd (de_lst' (da_cons' (de_tup' da_nil') da_nil')))
  (dss_cons' (ds_for' (di_rng1' (da_cons' (de_var' 0) da_nil') T.b_range) (fun _ => (dg_name' (i := 2) nd))
  (fun _ => (dss_cons' (ds_set' (i := 3) nd (de_lst' da_nil'))
  (dss_cons' (ds_for' (di_seq' (de_var' 1)) (fun _ => (dg_name' (i := 4) nd))
  (fun _ => (dss_cons' (ds_expr' (de_append' (de_var' 3) (da_cons' (de_add' (de_var' 4) (de_tup' (da_cons' de_int' da_nil'))) da_nil')))
  (dss_one' (ds_expr' (de_append' (de_var' 3) (da_cons' (de_add' (de_var' 4) (de_tup' (da_cons' de_int' da_nil'))) da_nil')))))))
  (dss_one' (ds_set' (i := 1) nd (de_var' 3)))))))
  (dss_one' (ds_ret' (de_var' 1))))), fun ds G Q hl hsp hb hG => ?_⟩
  unfold sp_all_worlds at hsp
  split at hsp
  · obtain ⟨n, rfl, h6, hq⟩ := hsp
    refine ⟨szl 0, szl 1, ?_⟩
    refine ⟨⟨by omega, by omega⟩, ?_⟩
    refine lp_ind (fun ds σ G' => ∃ (t i : Nat) (s2 s3 s4 : Option Dt), ds.length + t = n ∧ Grw G G' ∧ G'[i]? = some (.lst ((allW t).map wD)) ∧ σ = [some (.int (n : Nat)), some (.ref i), s2, s3, s4]) ?_ ?_ _ _ _ ⟨0, G.length, none, none, none, by rw [rngD_len]; simp, Grw.refl.push, at_last, rfl⟩
    · rintro σ G' ⟨t, i, s2, s3, s4, h1, g, hi, rfl⟩
      have e : t = n := by simpa using h1
      subst e
      exact ⟨trivial, RetD.all (hq i G' g hi)⟩
    · rintro d r K' hK σ G' ⟨t, i, s2, s3, s4, h1, g, hi, rfl⟩
      have ht : t + 1 ≤ 6 := by rw [List.length_cons] at h1; omega
      refine ⟨trivial, ?_⟩
      refine ⟨szl 0, ?_⟩
      refine seqR_ref (cell_lst (at_prev hi)) ?_
      have hil : i < G'.length := (List.getElem?_eq_some_iff.mp hi).1
      have hsz : ∀ a b : List Wd, allW t = a ++ b → ((stepW a).map wD).length + 1 < sizeLine := fun a b e => by
        have l1 : (stepW a).length = 2 * a.length := stepW_len a
        have l2 : (allW t).length ≤ 64 := by
          have : t = 0 ∨ t = 1 ∨ t = 2 ∨ t = 3 ∨ t = 4 ∨ t = 5 := by omega
          rcases this with rfl | rfl | rfl | rfl | rfl | rfl <;> decide +kernel
        have l3 : a.length ≤ 64 := by rw [e, List.length_append] at l2; omega
        rw [List.length_map, l1]
        exact szlt _ (by omega)
      refine lp_ind (fun ds σ G2 => ∃ (a b : List Wd) (s4 : Option Dt), allW t = a ++ b ∧ ds = b.map wD ∧ G2 = G' ++ [.lst ((stepW a).map wD)] ∧ σ = [some (.int (n : Nat)), some (.ref i), some d, some (.ref G'.length), s4]) ?_ ?_ _ _ _ ⟨[], allW t, s4, rfl, rfl, rfl, rfl⟩
      · rintro σ G2 ⟨a, b, s4', e, hd, rfl, rfl⟩
        cases b with
        | cons x b => cases hd
        | nil =>
          rw [List.append_nil] at e
          subst e
          exact ⟨cell_lst (at_prev hi), Wk.here (hK _ _ ⟨t + 1, G'.length, _, _, _, by rw [List.length_cons] at h1; omega, g.push, at_last, rfl⟩)⟩
      · rintro d' r' K2 hK2 σ G2 ⟨a, b, s4', e, hd, rfl, rfl⟩
        cases b with
        | nil => cases hd
        | cons x b =>
          cases hd
          refine ⟨cell_lst (at_prev hi), ?_⟩
          have hx : x.length = t := (mem_allW t x).mp (by rw [e]; simp)
          have hs2 := hsz a (x :: b) e
          have hxl : (x.map fun b => Dt.int (b2 b)).length + [Dt.int 0].length ≤ sizeLine := by rw [List.length_map, hx]; exact Nat.le_of_lt (szlt _ (by show t + 1 < _; omega))
          refine ⟨⟨_, at_last⟩, szl 1, hxl, ?_⟩
          refine rdAppend_of at_last (by omega) ?_
          rw [show ∀ c : Cl, (G' ++ [Cl.lst ((stepW a).map wD)]).set G'.length c = G' ++ [c] from fun c => by simp]
          refine ⟨⟨_, at_last⟩, szl 1, hxl, ?_⟩
          refine rdAppend_of at_last (by rw [List.length_append]; exact hs2) ?_
          rw [show ∀ c d : Cl, (G' ++ [d]).set G'.length c = G' ++ [c] from fun c d => by simp]
          refine Wk.here (hK2 _ _ ⟨a ++ [x], b, _, by rw [e]; simp, rfl, ?_, rfl⟩)
          rw [stepW_app, List.map_append, List.append_assoc]
          have e2 : (stepW [x]).map wD = [wD (x ++ [false]), wD (x ++ [true])] := rfl
          have e3 : ∀ c : Bool, wD (x ++ [c]) = .tup ((x.map fun b => Dt.int (b2 b)) ++ [Dt.int (b2 c)]) := fun c => by
            unfold wD; rw [List.map_append]; rfl
          rw [e2, e3, e3]
          rfl
  · exact hsp.elim
def sc_c_worlds_0 : Scope := { kind := .function, names := [(".0", .local), ("world", .local), ("fits", .globalImplicit), ("hall", .free)], isGenerator := false, isCoroutine := false, more := [] }
theorem ndc_worlds_0 : (["world", "hall"] : List Str).Nodup := by decide +kernel
theorem cm_worlds_0 {f : Addr} {cdv : Value} {A : Around} {outer : List Env} {s : Shared} {H : Hp} {E : XK} : CmpOk (cxOf CX0 P w K mg base ["hall"] "worlds" (defScope s_worlds) f cdv A outer s H E).nox sc_c_worlds_0 [("hall", s.heap.objs.size + 1)] ["world", "hall"] [none, some 0] where
  clos := by rfl
  cell := by decide +kernel
  kind := by rfl
  names := by decide +kernel
  lenN := by rfl
  capN := fun i j x h1 h2 => by
    match i, h1, h2 with
    | 0, h1, _ => cases h1
    | 1, h1, h2 =>
      cases h1
      cases h2
      exact ⟨rfl, Or.inr (Or.inl rfl), cellNe rfl, cellNe rfl, _, rfl, rfl⟩
  cls := fun x c h => by
    have m := PySem.mem_of_lookup h
    simp only [List.mem_cons, List.not_mem_nil, or_false, Prod.mk.injEq] at m
    rcases m with ⟨rfl, rfl⟩ <;> rfl
  has := fun x h => by
    have h' : List.lookup x ([(".0", .local), ("world", .local), ("fits", .globalImplicit), ("hall", .cell)] : List (Str × NameKind)) = some .cell ∨ List.lookup x ([(".0", .local), ("world", .local), ("fits", .globalImplicit), ("hall", .cell)] : List (Str × NameKind)) = some .free := h
    have m := h'.imp PySem.mem_of_lookup PySem.mem_of_lookup
    have e : x = "hall" := by simpa using m
    rcases e with rfl
    · exact ⟨_, rfl⟩
theorem bnd_worlds (m : Nat) (ws : List Wd) : bnd m (.tup (ws.map wD)) := bnds_of (bnd_wD m) ws
theorem worlds_len {n : Nat} (h : n ≤ 6) : (allW n).length ≤ 64 := by
  have : n = 0 ∨ n = 1 ∨ n = 2 ∨ n = 3 ∨ n = 4 ∨ n = 5 ∨ n = 6 := by omega
  rcases this with rfl | rfl | rfl | rfl | rfl | rfl | rfl <;> decide +kernel
/-- whether a datum is a world that fits -/
def fitD (ss : Sg) (d : Dt) : Bool := match d with
  | .tup xs => fits ss (xs.map fun x => match x with | .int i => decide (i = 1) | _ => false)
  | _ => false
theorem fitD_wD (ss : Sg) (w : Wd) : fitD ss (wD w) = fits ss w := by
  show fits ss ((w.map fun b => Dt.int (b2 b)).map _) = _
  rw [List.map_map]
  congr 1
  conv => rhs; rw [← List.map_id w]
  apply List.map_congr_left
  intro b _
  cases b <;> rfl
theorem filter_fitD (ss : Sg) (ws : List Wd) : (ws.map wD).filter (fitD ss) = (ws.filter (fits ss)).map wD := by
  rw [List.filter_map]
  congr 1
  apply List.filter_congr
  intro w _
  exact fitD_wD ss w
def sp_worlds (d : Nat) : SpD := fun ds G Q => match ds with
  | [x] => ∃ (n : Nat) (ss : Sg), x = hD n ss ∧ n ≤ 6 ∧ ss.wf n ∧ (∀ p ∈ ss, p.2.dep < d) ∧ Q (.tup ((worlds n ss).map wD)) G
  | _ => False
theorem ok_worlds {d : Nat} (T : Bl K mg) (f_all_worlds : Fnc P w K mg base "all_worlds" 1 ["many"] sp_all_worlds) (f_fits : Fnc P w K mg base "fits" (d + 3) ["hall", "world"] (sp_fits d)) (Pl : Plc K mg "worlds" s_worlds ["hall"]) : Fnc P w K mg base "worlds" (d + 4) ["hall"] (sp_worlds d) := by
  have nd := sc_worlds.nd
  refine Pl.fn' (k := d + 3) sc_worlds fun f cdv A outer s H E hr => ⟨_, fun F => (dss_one' (ds_ret' (de_tupleof' (da_cons' (de_comp' cm_worlds_0 (di_seq' (de_callF' f_all_worlds (hr.mono (by first | decide | omega)) (da_cons' (de_ix' hr (de_var' 0) de_int') da_nil'))) (fun _ _ _ _ _ _ => (dg_name' (i := 0) ndc_worlds_0)) (fun _ _ _ _ _ _ => (dif_one' (dt_tru' (de_callF' f_fits (hr.mono (by first | decide | omega)) (da_cons' (de_var' 1) (da_cons' (de_var' 0) da_nil')))))) (fun _ _ _ _ _ _ => (de_var' 0))) da_nil') T.b_tuple))), fun ds G Q hl hsp hb hG => ?_⟩
  unfold sp_worlds at hsp
  split at hsp
  · obtain ⟨n, ss, rfl, h6, hw, hd, hq⟩ := hsp
    refine rdIx_of atI_0 ?_
    refine ⟨rfl, n, rfl, h6, fun i G' g hi => ?_⟩
    refine seqR_ref (cell_lst hi) ?_
    refine compS (fitD ss) (fun d => d) (fun _ _ => cell_lst (at_more (at_prev hi))) (by rw [List.length_map]; exact szlt _ (Nat.lt_of_le_of_lt (worlds_len h6) (by decide))) (fun d hd acc J K h => ?_) (fun d hd _ acc J K h => h J) fun J => ?_
    · rw [List.mem_map] at hd
      obtain ⟨w, hw', rfl⟩ := hd
      have hl := (mem_allW n w).mp hw'
      refine ⟨rfl, n, ss, w, rfl, rfl, by rw [hl]; exact hw, hd, ?_⟩
      rw [fitD_wD] at h
      exact h J
    · refine rdTuple_ref (cell_lst get_at) ?_
      rw [filter_fitD, List.map_id']
      exact RetD.cut (g.push.more) hG (bnd_worlds _ _) hq
  · exact hsp.elim
end
end K08
--LAW k08
namespace K08
open PySem PySem.Spec L2 DL TH KT KH KFM
local macro_rules | `(tactic| walk_at "dx") => `(tactic| (try simp only [↓dSeq, ↓dIfS, ↓dOr, ↓dAnd, ↓dNot, ↓dTru, ↓dIsi, ↓dVar, ↓dRet, ↓dC, ↓dNext, ↓dChain, ↓rdI0, ↓rdI, ↓dTest, ↓dOp, ↓endsD, ↓startD, ↓dAndV, ↓dOrV, ↓dNotV, ↓dIf, ↓dCall, ↓dCons, ↓dNil, ↓dTup, ↓dLst, ↓dSet, ↓dAsg, ↓dgName, ↓dgNil, ↓dgCons, ↓dgTup, ↓dDrop, ↓dCB, ↓dMGet, ↓rdLen_eq, ↓rdLen0, ↓rdIx_eq, ↓rdIx0, ↓rdIs, ↓rdEq_eq, ↓rdEq0, ↓rdAdd, ↓rdMul, ↓dUn, ↓dPart, ↓dNoPart, ↓dSl, ↓rdSl_eq, ↓rdSl0, ↓rdList, ↓rdTuple_eq, ↓rdTuple0, ↓rdAll, ↓dAppend, ↓rdAppend_eq, ↓rdAppend0, ↓dPop, ↓isLstC, ↓dFor, ↓diZip, ↓diSeq, ↓seqR_eq, ↓seqR0, ↓diRng1, ↓dWhile, ↓dDict, ↓dPairs, ↓keysD, ↓keyD, get_endz, get_endj, set_endz, set_endj, Option.some.injEq, Cl.lst.injEq, exists_eq', exists_eq, exists_eq_left,
  isi_non, isi_bl, isi_int, isi_str, isi_tup, isi_ref, tru_non, tru_bl, tru_int, tru_tup, tru_ref, len_tup, len_ref, at_tup, at_ref, at_refs, is_non_non, is_bl_bl, is_bl_non, is_non_bl, is_int_non, is_str_non, is_tup_non, is_ref_non, is_int_bl, is_str_bl, is_tup_bl, is_ref_bl, eqs_int, eqs_str, eqs_bl, seq_tup, seq_ref, atI_0, atI_1, atI_2, succ_eq0, zero_eq0, str_inj,
  List.map_cons, List.map_nil, List.length_cons, List.length_nil, List.replicate, List.cons_append, List.nil_append, List.append_nil, List.append_assoc, List.length_append, List.getElem?_cons_zero, List.getElem?_cons_succ, List.set_cons_zero, List.set_cons_succ, if_true, if_false, Bool.not_true, Bool.not_false, Bool.false_eq_true, Bool.or_true, Bool.or_false, Bool.true_or, Bool.false_or, Bool.and_true, Bool.and_false, Bool.true_and, Bool.false_and, Bool.false_xor, Bool.true_xor, Nat.sub_self, Nat.reduceAdd, Nat.reduceSub, decide_true, decide_false, true_and, and_true, ne_eq, String.reduceBEq, String.reduceEq, reduceIte, reduceCtorEq]))
/-! ### the law's own fits, worlds -/
abbrev s_l_fits : Stmt := top 24
abbrev s_l_worlds : Stmt := top 26
theorem sc_l_fits : FnScope ["_law_hall_here", "_law_world", "_law_k", "_law_thing_here"] ["_law_hall_here", "_law_world"] (defScope s_l_fits) := ⟨rfl, rfl, rfl, by decide +kernel, rfl, by decide +kernel, by decide +kernel⟩
theorem sc_l_worlds : FnScope ["_law_hall_here"] ["_law_hall_here"] (defScope s_l_worlds) := ⟨rfl, rfl, rfl, by decide +kernel, rfl, by decide +kernel, by decide +kernel⟩
section
variable {P : Program} {w : World} {K : PySem.W.Frag} {mg : Str → Option Value} {base : Heap}
theorem ok_l_fits {d : Nat} (T : Bl K mg) (f__law_so : Fnc P w K mg base "_law_so" (d + 1) ["_law_thing_here", "_law_world"] (sp_l_so d)) (Pl : Plc K mg "_law_fits" s_l_fits ["_law_hall_here", "_law_world"]) : Fnc P w K mg base "_law_fits" (d + 2) ["_law_hall_here", "_law_world"] (sp_fits d) := by
  have nd := sc_l_fits.nd
  refine Pl.fn' (k := d + 1) sc_l_fits fun f cdv A outer s H E hr => ⟨_, fun F => (dss_cons' (ds_for' (di_seq' (de_ix' hr (de_var' 0) de_int')) (fun _ => (dg_tup' (n := 2) (dgs_cons' (i := 2) nd (dgs_cons' (i := 3) nd dgs_nil'))))
  (fun _ => (dss_one' (ds_if' (dt_ne' (de_eq' (de_ix' hr (de_var' 1) (de_var' 2)) de_int') (de_callF' f__law_so (hr.mono (by first | decide | omega)) (da_cons' (de_var' 3) (da_cons' (de_var' 1) da_nil'))))
  (dss_one' (ds_ret' de_bl'))
  dss_nil'))))
  (dss_one' (ds_ret' de_bl'))), fun ds G Q hl hsp hb hG => ?_⟩
  unfold sp_fits at hsp
  split at hsp
  · obtain ⟨n, ss, w, rfl, rfl, hw, hd, hq⟩ := hsp
    refine rdIx_of atI_1 ?_
    refine seqR_tup ?_
    refine lp_ind (fun ds σ G' => Grw G G' ∧ ∃ (r : Sg) (s2 s3 : Option Dt), ds = r.map sD ∧ (∀ p ∈ r, p ∈ ss) ∧ σ = [some (hD n ss), some (wD w), s2, s3] ∧ (fits r w = fits ss w)) ?_ ?_ _ _ _ ⟨Grw.refl, ss, none, none, rfl, fun p h => h, rfl, rfl⟩
    · rintro σ G' ⟨g, r, s2, s3, h1, h2, rfl, h3⟩
      cases r with
      | cons a r => cases h1
      | nil =>
        rw [← h3] at hq
        exact ⟨trivial, RetD.cut g hG trivial hq⟩
    · rintro d' r' K' hK σ G' ⟨g, r, s2, s3, h1, h2, rfl, h3⟩
      cases r with
      | nil => cases h1
      | cons p r =>
        cases h1
        have hp := h2 p List.mem_cons_self
        have hf : fits (p :: r) w = (fit w p && fits r w) := by unfold fits; rw [List.all_cons]
        rw [hf] at h3
        refine ⟨trivial, rfl, rfl, ?_⟩
        refine rdIx_of (atI_wd (hw p hp).1) ?_
        refine rdEq_int ?_
        refine ⟨rfl, p.2, w, rfl, rfl, (hw p hp).2, hd p hp, fun J => ?_⟩
        refine rdEq_bl ?_
        have e : (true ^^ decide ((false ^^ decide (b2 (w.getD p.1 false) = 1)) = p.2.so w)) = !(fit w p) := by
          unfold fit
          cases w.getD p.1 false <;> cases p.2.so w <;> rfl
        show if (true ^^ decide ((false ^^ decide (b2 (w.getD p.1 false) = 1)) = p.2.so w)) = true then _ else _
        rw [e]
        cases h : fit w p with
        | true =>
          rw [h, Bool.true_and] at h3
          exact iteF (Wk.here (hK _ _ ⟨g.more, r, _, _, rfl, fun p hp => h2 p (List.mem_cons_of_mem _ hp), rfl, h3⟩))
        | false =>
          rw [h, Bool.false_and] at h3
          rw [← h3] at hq
          exact iteT (RetD.cut g.more hG trivial hq)
  · exact hsp.elim
def sc_c_l_worlds_0 : Scope := { kind := .function, names := [(".0", .local), ("_law_world", .local), ("_law_fits", .globalImplicit), ("_law_hall_here", .free)], isGenerator := false, isCoroutine := false, more := [] }
theorem ndc_l_worlds_0 : (["_law_world", "_law_hall_here"] : List Str).Nodup := by decide +kernel
theorem cm_l_worlds_0 {f : Addr} {cdv : Value} {A : Around} {outer : List Env} {s : Shared} {H : Hp} {E : XK} : CmpOk (cxOf CX0 P w K mg base ["_law_hall_here"] "_law_worlds" (defScope s_l_worlds) f cdv A outer s H E).nox sc_c_l_worlds_0 [("_law_hall_here", s.heap.objs.size + 1)] ["_law_world", "_law_hall_here"] [none, some 0] where
  clos := by rfl
  cell := by decide +kernel
  kind := by rfl
  names := by decide +kernel
  lenN := by rfl
  capN := fun i j x h1 h2 => by
    match i, h1, h2 with
    | 0, h1, _ => cases h1
    | 1, h1, h2 =>
      cases h1
      cases h2
      exact ⟨rfl, Or.inr (Or.inl rfl), cellNe rfl, cellNe rfl, _, rfl, rfl⟩
  cls := fun x c h => by
    have m := PySem.mem_of_lookup h
    simp only [List.mem_cons, List.not_mem_nil, or_false, Prod.mk.injEq] at m
    rcases m with ⟨rfl, rfl⟩ <;> rfl
  has := fun x h => by
    have h' : List.lookup x ([(".0", .local), ("_law_world", .local), ("_law_fits", .globalImplicit), ("_law_hall_here", .cell)] : List (Str × NameKind)) = some .cell ∨ List.lookup x ([(".0", .local), ("_law_world", .local), ("_law_fits", .globalImplicit), ("_law_hall_here", .cell)] : List (Str × NameKind)) = some .free := h
    have m := h'.imp PySem.mem_of_lookup PySem.mem_of_lookup
    have e : x = "_law_hall_here" := by simpa using m
    rcases e with rfl
    · exact ⟨_, rfl⟩
def sp_l_worlds (d : Nat) : SpD := fun ds G Q => match ds with
  | [x] => ∃ (n : Nat) (ss : Sg), x = hD n ss ∧ 1 ≤ n ∧ n ≤ 5 ∧ ss.wf n ∧ (∀ p ∈ ss, p.2.dep < d) ∧ ∀ i G', Grw G G' → G'[i]? = some (.lst ((worlds n ss).map wD)) → Q (.ref i) G'
  | _ => False
theorem ok_l_worlds {d : Nat} (T : Bl K mg) (f__law_all : Fnc P w K mg base "_law_all" 1 ["_law_many"] sp_l_all) (f__law_fits : Fnc P w K mg base "_law_fits" (d + 2) ["_law_hall_here", "_law_world"] (sp_fits d)) (Pl : Plc K mg "_law_worlds" s_l_worlds ["_law_hall_here"]) : Fnc P w K mg base "_law_worlds" (d + 3) ["_law_hall_here"] (sp_l_worlds d) := by
  have nd := sc_l_worlds.nd
  refine Pl.fn' (k := d + 2) sc_l_worlds fun f cdv A outer s H E hr => ⟨_, fun F => (dss_one' (ds_ret' (de_comp' cm_l_worlds_0 (di_seq' (de_callF' f__law_all (hr.mono (by first | decide | omega)) (da_cons' (de_ix' hr (de_var' 0) de_int') da_nil'))) (fun _ _ _ _ _ _ => (dg_name' (i := 0) ndc_l_worlds_0)) (fun _ _ _ _ _ _ => (dif_one' (dt_tru' (de_callF' f__law_fits (hr.mono (by first | decide | omega)) (da_cons' (de_var' 1) (da_cons' (de_var' 0) da_nil')))))) (fun _ _ _ _ _ _ => (de_var' 0))))), fun ds G Q hl hsp hb hG => ?_⟩
  unfold sp_l_worlds at hsp
  split at hsp
  · obtain ⟨n, ss, rfl, h1, h5, hw, hd, hq⟩ := hsp
    refine rdIx_of atI_0 ?_
    refine ⟨rfl, n, rfl, h1, h5, fun J => ?_⟩
    refine seqR_ref (cell_lst get_at) ?_
    refine compS (fitD ss) (fun d => d) (fun _ _ => cell_lst (at_more (at_prev get_at))) (by rw [List.length_map]; exact szlt _ (Nat.lt_of_le_of_lt (worlds_len (by omega)) (by decide))) (fun d hd acc J K h => ?_) (fun d hd _ acc J K h => h J) fun J2 => ?_
    · rw [List.mem_map] at hd
      obtain ⟨w, hw', rfl⟩ := hd
      have hl := (mem_allW n w).mp hw'
      refine ⟨rfl, n, ss, w, rfl, rfl, by rw [hl]; exact hw, hd, ?_⟩
      rw [fitD_wD] at h
      exact h _
    · rw [filter_fitD, List.map_id']
      exact RetD.all (hq _ _ (Grw.refl.push.more.push.more) get_at)
  · exact hsp.elim
end
end K08
--LAW k08
namespace K08
open PySem PySem.Spec L2 DL TH KT KH KFM
local macro_rules | `(tactic| walk_at "dx") => `(tactic| (try simp only [↓dSeq, ↓dIfS, ↓dOr, ↓dAnd, ↓dNot, ↓dTru, ↓dIsi, ↓dVar, ↓dRet, ↓dC, ↓dNext, ↓dChain, ↓rdI0, ↓rdI, ↓dTest, ↓dOp, ↓endsD, ↓startD, ↓dAndV, ↓dOrV, ↓dNotV, ↓dIf, ↓dCall, ↓dCons, ↓dNil, ↓dTup, ↓dLst, ↓dSet, ↓dAsg, ↓dgName, ↓dgNil, ↓dgCons, ↓dgTup, ↓dDrop, ↓dCB, ↓dMGet, ↓rdLen_eq, ↓rdLen0, ↓rdIx_eq, ↓rdIx0, ↓rdIs, ↓rdEq_eq, ↓rdEq0, ↓rdAdd, ↓rdMul, ↓dUn, ↓dPart, ↓dNoPart, ↓dSl, ↓rdSl_eq, ↓rdSl0, ↓rdList, ↓rdTuple_eq, ↓rdTuple0, ↓rdAll, ↓dAppend, ↓rdAppend_eq, ↓rdAppend0, ↓dPop, ↓isLstC, ↓dFor, ↓diZip, ↓diSeq, ↓seqR_eq, ↓seqR0, ↓diRng1, ↓dWhile, ↓dDict, ↓dPairs, ↓keysD, ↓keyD, get_endz, get_endj, set_endz, set_endj, Option.some.injEq, Cl.lst.injEq, exists_eq', exists_eq, exists_eq_left,
  isi_non, isi_bl, isi_int, isi_str, isi_tup, isi_ref, tru_non, tru_bl, tru_int, tru_tup, tru_ref, len_tup, len_ref, at_tup, at_ref, at_refs, is_non_non, is_bl_bl, is_bl_non, is_non_bl, is_int_non, is_str_non, is_tup_non, is_ref_non, is_int_bl, is_str_bl, is_tup_bl, is_ref_bl, eqs_int, eqs_str, eqs_bl, seq_tup, seq_ref, atI_0, atI_1, atI_2, succ_eq0, zero_eq0, str_inj,
  List.map_cons, List.map_nil, List.length_cons, List.length_nil, List.replicate, List.cons_append, List.nil_append, List.append_nil, List.append_assoc, List.length_append, List.getElem?_cons_zero, List.getElem?_cons_succ, List.set_cons_zero, List.set_cons_succ, if_true, if_false, Bool.not_true, Bool.not_false, Bool.false_eq_true, Bool.or_true, Bool.or_false, Bool.true_or, Bool.false_or, Bool.and_true, Bool.and_false, Bool.true_and, Bool.false_and, Bool.false_xor, Bool.true_xor, Nat.sub_self, Nat.reduceAdd, Nat.reduceSub, decide_true, decide_false, true_and, and_true, ne_eq, String.reduceBEq, String.reduceEq, reduceIte, reduceCtorEq]))
/-! ### answers, walks, tables -/
abbrev s_answer : Stmt := top 8
abbrev s_walked : Stmt := top 9
abbrev s_answers : Stmt := top 10
theorem sc_answer : FnScope ["world", "question"] ["world", "question"] (defScope s_answer) := ⟨rfl, rfl, rfl, by decide +kernel, rfl, by decide +kernel, by decide +kernel⟩
theorem sc_walked : FnScope ["plan", "questions", "world", "left", "asked"] ["plan", "questions", "world"] (defScope s_walked) := ⟨rfl, rfl, rfl, by decide +kernel, rfl, by decide +kernel, by decide +kernel⟩
theorem sc_answers : FnScope ["question", "group", "answers", "world"] ["question", "group"] (defScope s_answers) := ⟨rfl, rfl, rfl, by decide +kernel, rfl, by decide +kernel, by decide +kernel⟩
def qf (p : Nat × Th) : Wd → Bool := fun w => fit w p
def qfs (qq : Sg) : Qs := qq.map qf
theorem qfs_len (qq : Sg) : (qfs qq).length = qq.length := List.length_map _
theorem qfs_at {qq : Sg} {n : Nat} {p : Nat × Th} (h : qq[n]? = some p) : (qfs qq)[n]? = some (qf p) := by
  unfold qfs
  rw [List.getElem?_map, h]
  rfl
def pnD : Pn → Dt
  | .world w => .tup [.str "world", wD w]
  | .ask n y z => .tup [.str "ask", .int (n : Nat), pnD y, pnD z]
def fdD : Fd → Dt
  | none => .non
  | some x => .tup [.int (x.1 : Nat), pnD x.2]
def gD (g : List Wd) : Dt := .tup (g.map wD)
def kW (w : Wd) : List Int := w.map b2
def kGr (g : List Wd) : List (List Int) := g.map kW
theorem wD_T (w : Wd) : wD w = DL.encT (kW w) := by
  unfold wD DL.encT kW
  rw [List.map_map]
  rfl
theorem gD_G (g : List Wd) : gD g = encG (kGr g) := by
  unfold gD encG kGr
  rw [List.map_map]
  congr 1
  exact List.map_congr_left fun w _ => wD_T w
theorem b2_inj {a b : Bool} (h : b2 a = b2 b) : a = b := by cases a <;> cases b <;> first | rfl | cases h
theorem kW_inj : ∀ {a b : Wd}, kW a = kW b → a = b
  | [], [], _ => rfl
  | [], _ :: _, h => by cases h
  | _ :: _, [], h => by cases h
  | x :: a, y :: b, h => by
    have h' : b2 x :: kW a = b2 y :: kW b := h
    injection h' with h1 h2
    rw [b2_inj h1, kW_inj h2]
theorem kGr_inj : ∀ {a b : List Wd}, kGr a = kGr b → a = b
  | [], [], _ => rfl
  | [], _ :: _, h => by cases h
  | _ :: _, [], h => by cases h
  | x :: a, y :: b, h => by
    have h' : kW x :: kGr a = kW y :: kGr b := h
    injection h' with h1 h2
    rw [kW_inj h1, kGr_inj h2]
theorem bnd_pnD (n : Nat) : ∀ p : Pn, bnd n (pnD p)
  | .world w => ⟨trivial, bnd_wD n w, trivial⟩
  | .ask k y z => ⟨trivial, trivial, bnd_pnD n y, bnd_pnD n z, trivial⟩
theorem bnd_fdD (n : Nat) : ∀ f : Fd, bnd n (fdD f)
  | none => trivial
  | some x => ⟨trivial, bnd_pnD n x.2, trivial⟩
theorem atI_3 {a b c d : Dt} {xs : List Dt} : atI (a :: b :: c :: d :: xs) 3 = some d := atI_nat (j := 3) rfl
/-- the answers of a group to a question -/
def tabOf (g : List Wd) (p : Nat × Th) : List (List Int × Dt) := g.map fun w => (kW w, Dt.int (b2 (fit w p)))
theorem tab_at {g : List Wd} {p : Nat × Th} {w : Wd} (h : w ∈ g) : valH (tabOf g p) (kW w) = some (.int (b2 (fit w p))) := by
  unfold valH tabOf
  rw [List.find?_map]
  induction g with
  | nil => cases h
  | cons v g ih =>
    rw [List.find?_cons]
    by_cases e : kW v = kW w
    · have e' := kW_inj e
      subst e'
      simp
    · have hd : ((fun p : List Int × Dt => decide (p.1 = kW w)) ∘ fun w => (kW w, Dt.int (b2 (fit w p)))) v = false := decide_eq_false e
      rw [hd]
      rcases List.mem_cons.mp h with rfl | h
      · exact absurd rfl e
      · exact ih h
theorem tab_none {g : List Wd} {p : Nat × Th} {w : Wd} (h : w ∉ g) : valH (tabOf g p) (kW w) = none := by
  unfold valH tabOf
  rw [Option.map_eq_none_iff, List.find?_eq_none]
  intro x hx
  rw [List.mem_map] at hx
  obtain ⟨v, hv, rfl⟩ := hx
  intro e
  have e' := kW_inj (of_decide_eq_true e)
  subst e'
  exact h hv
section
variable {P : Program} {w : World} {K : PySem.W.Frag} {mg : Str → Option Value} {base : Heap}
def sp_answer (d : Nat) : SpD := fun ds G Q => match ds with
  | [x, y] => ∃ (w : Wd) (p : Nat × Th), x = wD w ∧ y = sD p ∧ (p.1 < w.length ∧ p.2.wf w.length) ∧ p.2.dep < d ∧ Q (.int (b2 (fit w p))) G
  | _ => False
theorem ok_answer {d : Nat} (T : Bl K mg) (f_so : Fnc P w K mg base "so" (d + 2) ["thing", "world"] (sp_so (d + 1))) (f_would_say : Fnc P w K mg base "would_say" 1 ["saying"] sp_would_say) (Pl : Plc K mg "answer" s_answer ["world", "question"]) : Fnc P w K mg base "answer" (d + 3) ["world", "question"] (sp_answer d) := by
  have nd := sc_answer.nd
  refine Pl.fn' (k := d + 2) sc_answer fun f cdv A outer s H E hr => ⟨_, fun F => (dss_one' (ds_ret' (de_callF' f_so (hr.mono (by first | decide | omega)) (da_cons' (de_callF' f_would_say (hr.mono (by first | decide | omega)) (da_cons' (de_var' 1) da_nil')) (da_cons' (de_var' 0) da_nil'))))), fun ds G Q hl hsp hb hG => ?_⟩
  unfold sp_answer at hsp
  split at hsp
  · obtain ⟨w, p, rfl, rfl, hw, hd, hq⟩ := hsp
    refine ⟨rfl, p, rfl, ?_⟩
    refine ⟨rfl, .says p.1 p.2, w.map some, rfl, wD_a w, by rw [List.length_map]; exact hw, asd_all (n := w.length) (List.length_map _) (all_some w) _ hw, by show p.2.dep + 1 < d + 1; omega, ?_⟩
    rw [asW_some]
    exact RetD.all hq
  · exact hsp.elim
theorem whl_by {n0 : Nat} {c : TDT} {tb : TDS} {D : EndsD} (I : Nat → SD → GD → Prop)
    (h : ∀ m σ G (K : SD → GD → Prop), (∀ k, k < m → ∀ σ G, I k σ G → K σ G) → I m σ G → c σ G fun b G1 => if b = true then tb { D with nx := Wk n0 K, ct := Wk n0 K, bk := D.nx } σ G1 else D.nx σ G1) :
    ∀ m' m σ G, m < m' → I m σ G → whl n0 c tb D m' σ G
  | 0, m, _, _, hm, _ => absurd hm (Nat.not_lt_zero _)
  | m' + 1, m, σ, G, hm, hI => h m σ G (whl n0 c tb D m') (fun k hk σ G hI => whl_by I h m' k σ G (by omega) hI) hI
theorem walk_ask {qq : Sg} {n : Nat} {p : Nat × Th} {w : Wd} {y z : Pn} (h : qq[n]? = some p) : walk (qfs qq) w (.ask n y z) = ((if fit w p = true then walk (qfs qq) w y else walk (qfs qq) w z).1, (if fit w p = true then walk (qfs qq) w y else walk (qfs qq) w z).2 + 1) := by
  have e : (qfs qq).getD n (fun _ => false) = qf p := by rw [List.getD_eq_getElem?_getD, qfs_at h]; rfl
  show ((if (qfs qq).getD n (fun _ => false) w = true then walk (qfs qq) w y else walk (qfs qq) w z).1, (if (qfs qq).getD n (fun _ => false) w = true then walk (qfs qq) w y else walk (qfs qq) w z).2 + 1) = _
  rw [e]
  rfl
def sp_walked (d : Nat) : SpD := fun ds G Q => match ds with
  | [x, y, z] => ∃ (pn : Pn) (qq : Sg) (w : Wd), x = pnD pn ∧ y = .tup (qq.map sD) ∧ z = wD w ∧ qq.wf w.length ∧ (∀ p ∈ qq, p.2.dep < d) ∧ pn.ok qq.length ∧ Q (.tup [wD (walk (qfs qq) w pn).1, .int ((walk (qfs qq) w pn).2 : Nat)]) G
  | _ => False
theorem ok_walked {d : Nat} (T : Bl K mg) (f_answer : Fnc P w K mg base "answer" (d + 3) ["world", "question"] (sp_answer d)) (Pl : Plc K mg "walked" s_walked ["plan", "questions", "world"]) : Fnc P w K mg base "walked" (d + 4) ["plan", "questions", "world"] (sp_walked d) := by
  have nd := sc_walked.nd
  refine Pl.fn' (k := d + 3) sc_walked fun f cdv A outer s H E hr => ⟨_, fun F => (dss_cons' (ds_set' (i := 3) nd (de_var' 0))
  (dss_cons' (ds_set' (i := 4) nd de_int')
  (dss_cons' (ds_while' (fun _ => (dt_eq' (de_ix' hr (de_var' 3) de_int') de_str'))
  (fun _ => (dss_cons' (ds_set' (i := 3) nd (de_if' (dt_eq' (de_callF' f_answer (hr.mono (by first | decide | omega)) (da_cons' (de_var' 2) (da_cons' (de_ix' hr (de_var' 1) (de_ix' hr (de_var' 3) de_int')) da_nil'))) de_int') (de_ix' hr (de_var' 3) de_int') (de_ix' hr (de_var' 3) de_int')))
  (dss_one' (ds_inc' (i := 4) nd de_int')))))
  (dss_one' (ds_ret' (de_tup' (da_cons' (de_ix' hr (de_var' 3) de_int') (da_cons' (de_var' 4) da_nil')))))))), fun ds G Q hl hsp hb hG => ?_⟩
  unfold sp_walked at hsp
  split at hsp
  · obtain ⟨pn, qq, w, rfl, rfl, rfl, hw, hd, hok, hq⟩ := hsp
    refine ⟨pn.sz + 1, whl_by (fun m σ G' => G' = G ∧ ∃ (p' : Pn) (k : Nat), m = p'.sz ∧ p'.ok qq.length ∧ (walk (qfs qq) w p').1 = (walk (qfs qq) w pn).1 ∧ k + (walk (qfs qq) w p').2 = (walk (qfs qq) w pn).2 ∧
      σ = [some (pnD pn), some (.tup (qq.map sD)), some (wD w), some (pnD p'), some (.int (k : Nat))]) ?_ (pn.sz + 1) pn.sz _ _ (by omega) ⟨rfl, pn, 0, rfl, hok, rfl, by omega, rfl⟩⟩
    rintro m σ G' K1 hK1 ⟨rfl, p', k, rfl, hok', h1, h2, rfl⟩
    cases p' with
    | world v =>
      refine rdIx_of atI_0 ?_
      refine rdEq_sF ?_
      refine iteF ?_
      refine rdIx_of atI_1 ?_
      refine ⟨szl 2, ?_⟩
      have e1 : v = (walk (qfs qq) w pn).1 := h1
      have e2 : k = (walk (qfs qq) w pn).2 := by rw [← h2]; rfl
      rw [← e1, ← e2] at hq
      exact RetD.all hq
    | ask n y z =>
      obtain ⟨hn, hy, hz⟩ := hok'
      have hp : qq[n]? = some qq[n] := List.getElem?_eq_getElem hn
      have hmem := List.getElem_mem hn
      generalize qq[n] = p at hp hmem
      rw [walk_ask hp] at h1 h2
      refine rdIx_of atI_0 ?_
      refine rdEq_sT ?_
      refine iteT ?_
      refine rdIx_of atI_1 ?_
      refine rdIx_of (d := sD p) (atI_nat (by rw [List.getElem?_map, hp]; rfl)) ?_
      refine ⟨rfl, w, p, rfl, rfl, hw p hmem, hd p hmem, ?_⟩
      refine rdEq_int ?_
      show if (false ^^ decide (b2 (fit w p) = 1)) = true then _ else _
      rw [b2_one, Bool.false_xor]
      cases hf : fit w p with
      | true =>
        rw [hf] at h1 h2
        refine iteT ?_
        refine rdIx_of atI_2 ?_
        refine ⟨_, rfl, _, rfl, ?_⟩
        refine Wk.here (hK1 y.sz (by show y.sz < y.sz + z.sz + 1; omega) _ _ ⟨rfl, y, k + 1, rfl, hy, h1, ?_, rfl⟩)
        have h2' : k + ((walk (qfs qq) w y).2 + 1) = (walk (qfs qq) w pn).2 := h2
        omega
      | false =>
        rw [hf] at h1 h2
        refine iteF ?_
        refine rdIx_of atI_3 ?_
        refine ⟨_, rfl, _, rfl, ?_⟩
        refine Wk.here (hK1 z.sz (by show z.sz < y.sz + z.sz + 1; omega) _ _ ⟨rfl, z, k + 1, rfl, hz, h1, ?_, rfl⟩)
        have h2' : k + ((walk (qfs qq) w z).2 + 1) = (walk (qfs qq) w pn).2 := h2
        omega
  · exact hsp.elim
def sp_answers (d : Nat) : SpD := fun ds G Q => match ds with
  | [x, y] => ∃ (p : Nat × Th) (g : List Wd) (n : Nat), x = sD p ∧ y = gD g ∧ g.Nodup ∧ g.length ≤ 64 ∧ (∀ w ∈ g, w.length = n) ∧ (p.1 < n ∧ p.2.wf n) ∧ p.2.dep < d ∧ Q (.ref G.length) (G ++ [.dT (tabOf g p)])
  | _ => False
theorem ok_answers {d : Nat} (T : Bl K mg) (f_answer : Fnc P w K mg base "answer" (d + 3) ["world", "question"] (sp_answer d)) (Pl : Plc K mg "answers_by_world" s_answers ["question", "group"]) : Fnc P w K mg base "answers_by_world" (d + 4) ["question", "group"] (sp_answers d) := by
  have nd := sc_answers.nd
  refine Pl.fn' (k := d + 3) sc_answers fun f cdv A outer s H E hr => ⟨_, fun F => (dss_cons' (ds_set' (i := 2) nd (de_dictH' kT))
  (dss_cons' (ds_for' (di_seq' (de_var' 1)) (fun _ => (dg_name' (i := 3) nd))
  (fun _ => (dss_one' (ds_putH' kT hr (de_callF' f_answer (hr.mono (by first | decide | omega)) (da_cons' (de_var' 3) (da_cons' (de_var' 0) da_nil'))) (de_var' 2) (de_var' 3)))))
  (dss_one' (ds_ret' (de_var' 2))))), fun ds G Q hl hsp hb hG => ?_⟩
  unfold sp_answers at hsp
  split at hsp
  · obtain ⟨p, g, n, rfl, rfl, hnd, h64, hln, hw, hd, hq⟩ := hsp
    refine seqR_tup ?_
    refine lp_ind (fun ds σ G' => ∃ (a b : List Wd) (s3 : Option Dt), g = a ++ b ∧ ds = b.map wD ∧ G' = G ++ [.dT (tabOf a p)] ∧ σ = [some (sD p), some (gD g), some (.ref G.length), s3]) ?_ ?_ _ _ _ ⟨[], g, none, rfl, rfl, rfl, rfl⟩
    · rintro σ G' ⟨a, b, s3, e, hds, rfl, rfl⟩
      cases b with
      | cons x b => cases hds
      | nil =>
        rw [List.append_nil] at e
        subst e
        exact ⟨trivial, RetD.all hq⟩
    · rintro d' r K1 hK1 σ G' ⟨a, b, s3, e, hds, rfl, rfl⟩
      cases b with
      | nil => cases hds
      | cons v b =>
        cases hds
        have hv : v ∈ g := by rw [e]; simp
        have hva : v ∉ a := fun hva => by
          rw [e] at hnd
          exact (List.nodup_append.mp hnd).2.2 v hva v (by simp) rfl
        refine ⟨trivial, ?_⟩
        refine ⟨rfl, v, p, rfl, rfl, by rw [hln v hv]; exact hw, hd, ?_⟩
        refine ⟨⟨G.length, tabOf a p, kW v, rfl, wD_T v, at_last, tab_none hva, ?_, ?_⟩⟩
        · show (a.map _).length < _
          rw [List.length_map]
          have : a.length ≤ 64 := by rw [e, List.length_append] at h64; omega
          exact szlt _ (by omega)
        · refine Wk.here (hK1 _ _ ⟨a ++ [v], b, _, by rw [e]; simp, rfl, ?_, rfl⟩)
          show (G ++ [Cl.dT (tabOf a p)]).set G.length (.dT (tabOf a p ++ [(kW v, .int (b2 (fit v p)))])) = _
          rw [show ∀ c d : Cl, (G ++ [d]).set G.length c = G ++ [c] from fun c d => by simp]
          unfold tabOf
          rw [List.map_append]
          rfl
  · exact hsp.elim
end
end K08
--LAW k08
namespace K08
open PySem PySem.Spec L2 DL TH KT KH KFM
local macro_rules | `(tactic| walk_at "dx") => `(tactic| (try simp only [↓dSeq, ↓dIfS, ↓dOr, ↓dAnd, ↓dNot, ↓dTru, ↓dIsi, ↓dVar, ↓dRet, ↓dC, ↓dNext, ↓dChain, ↓rdI0, ↓rdI, ↓dTest, ↓dOp, ↓endsD, ↓startD, ↓dAndV, ↓dOrV, ↓dNotV, ↓dIf, ↓dCall, ↓dCons, ↓dNil, ↓dTup, ↓dLst, ↓dSet, ↓dAsg, ↓dgName, ↓dgNil, ↓dgCons, ↓dgTup, ↓dDrop, ↓dCB, ↓dMGet, ↓rdLen_eq, ↓rdLen0, ↓rdIx_eq, ↓rdIx0, ↓rdIs, ↓rdEq_eq, ↓rdEq0, ↓rdAdd, ↓rdMul, ↓dUn, ↓dPart, ↓dNoPart, ↓dSl, ↓rdSl_eq, ↓rdSl0, ↓rdList, ↓rdTuple_eq, ↓rdTuple0, ↓rdAll, ↓dAppend, ↓rdAppend_eq, ↓rdAppend0, ↓dPop, ↓isLstC, ↓dFor, ↓diZip, ↓diSeq, ↓seqR_eq, ↓seqR0, ↓diRng1, ↓dWhile, ↓dDict, ↓dPairs, ↓keysD, ↓keyD, get_endz, get_endj, set_endz, set_endj, Option.some.injEq, Cl.lst.injEq, exists_eq', exists_eq, exists_eq_left,
  isi_non, isi_bl, isi_int, isi_str, isi_tup, isi_ref, tru_non, tru_bl, tru_int, tru_tup, tru_ref, len_tup, len_ref, at_tup, at_ref, at_refs, is_non_non, is_bl_bl, is_bl_non, is_non_bl, is_int_non, is_str_non, is_tup_non, is_ref_non, is_int_bl, is_str_bl, is_tup_bl, is_ref_bl, eqs_int, eqs_str, eqs_bl, seq_tup, seq_ref, atI_0, atI_1, atI_2, succ_eq0, zero_eq0, str_inj,
  List.map_cons, List.map_nil, List.length_cons, List.length_nil, List.replicate, List.cons_append, List.nil_append, List.append_nil, List.append_assoc, List.length_append, List.getElem?_cons_zero, List.getElem?_cons_succ, List.set_cons_zero, List.set_cons_succ, if_true, if_false, Bool.not_true, Bool.not_false, Bool.false_eq_true, Bool.or_true, Bool.or_false, Bool.true_or, Bool.false_or, Bool.and_true, Bool.and_false, Bool.true_and, Bool.false_and, Bool.false_xor, Bool.true_xor, Nat.sub_self, Nat.reduceAdd, Nat.reduceSub, decide_true, decide_false, true_and, and_true, ne_eq, String.reduceBEq, String.reduceEq, reduceIte, reduceCtorEq]))
/-! ### the shortest plans -/
abbrev s_shortest : Stmt := top 11
abbrev s_shortest_asking : Stmt := top 12
abbrev s_asking_first : Stmt := top 13
theorem sc_shortest : FnScope ["group", "table", "found"] ["group", "table", "found"] (defScope s_shortest) := ⟨rfl, rfl, rfl, by decide +kernel, rfl, by decide +kernel, by decide +kernel⟩
theorem sc_shortest_asking : FnScope ["group", "table", "found", "best", "n", "tried"] ["group", "table", "found"] (defScope s_shortest_asking) := ⟨rfl, rfl, rfl, by decide +kernel, rfl, by decide +kernel, by decide +kernel⟩
theorem sc_asking_first : FnScope ["n", "group", "table", "found", "yes", "no", "after_yes", "after_no"] ["n", "group", "table", "found"] (defScope s_asking_first) := ⟨rfl, rfl, rfl, by decide +kernel, rfl, by decide +kernel, by decide +kernel⟩
/-- the cells but one are as they were -/
structure Mv (j : Nat) (G G' : GD) : Prop where
  len : G.length ≤ G'.length
  at_ : ∀ (i : Nat) (c : Cl), i ≠ j → G[i]? = some c → G'[i]? = some c
theorem Mv.refl {j : Nat} {G : GD} : Mv j G G := ⟨Nat.le_refl _, fun _ _ _ h => h⟩
theorem Mv.trans {j : Nat} {G G1 G2 : GD} (a : Mv j G G1) (b : Mv j G1 G2) : Mv j G G2 := ⟨Nat.le_trans a.len b.len, fun i c hi h => b.at_ i c hi (a.at_ i c hi h)⟩
theorem Mv.push {j : Nat} {G G' : GD} {c : Cl} (a : Mv j G G') : Mv j G (G' ++ [c]) := ⟨by rw [List.length_append]; have := a.len; omega, fun i d hi h => at_prev (a.at_ i d hi h)⟩
theorem Mv.put {j : Nat} {G G' : GD} {c : Cl} (a : Mv j G G') : Mv j G (G'.set j c) := ⟨by rw [List.length_set]; exact a.len, fun i d hi h => by rw [List.getElem?_set_ne (Ne.symm hi)]; exact a.at_ i d hi h⟩
/-- the table: for each question a dict -/
def Tb (G : GD) (i : Nat) (g0 : List Wd) (qq : Sg) : Prop :=
  ∃ refs : List Nat, G[i]? = some (.lst (refs.map Dt.ref)) ∧ refs.length = qq.length ∧ ∀ (n : Nat) (p : Nat × Th), qq[n]? = some p → ∃ j, refs[n]? = some j ∧ G[j]? = some (.dT (tabOf g0 p))
/-- what has been found -/
structure Fnd (qq : Sg) (g0 : List Wd) (kds : List (List (List Int) × Dt)) : Prop where
  nd : (kds.map (·.1)).Nodup
  ok : ∀ (k : List (List Int)) (d : Dt), (k, d) ∈ kds → ∃ g, k = kGr g ∧ Sub (qfs qq) g0 g ∧ d = fdD (bst (qfs qq) g)
structure At8 (g0 : List Wd) (qq : Sg) (i j : Nat) (G : GD) (kds : List (List (List Int) × Dt)) : Prop where
  tb : Tb G i g0 qq
  at_ : G[j]? = some (.dG kds)
  fnd : Fnd qq g0 kds
  h4 : qq.length ≤ 4
  h64 : g0.length ≤ 64
theorem At8.move {g0 : List Wd} {qq : Sg} {i j : Nat} {G G' : GD} {kds kds' : List (List (List Int) × Dt)} (a : At8 g0 qq i j G kds) (m : Mv j G G') (h : G'[j]? = some (.dG kds')) (f : Fnd qq g0 kds') : At8 g0 qq i j G' kds' := by
  refine ⟨?_, h, f, a.h4, a.h64⟩
  obtain ⟨refs, h1, h2, h3⟩ := a.tb
  have hi : i ≠ j := fun e => by
    subst e
    rw [a.at_] at h1
    cases h1
  refine ⟨refs, m.at_ _ _ hi h1, h2, fun n p hp => ?_⟩
  obtain ⟨q, hq, hc⟩ := h3 n p hp
  have hqj : q ≠ j := fun e => by
    subst e
    rw [a.at_] at hc
    cases hc
  exact ⟨q, hq, m.at_ _ _ hqj hc⟩
theorem At8.push {g0 : List Wd} {qq : Sg} {i j : Nat} {G : GD} {kds : List (List (List Int) × Dt)} {c : Cl} (a : At8 g0 qq i j G kds) : At8 g0 qq i j (G ++ [c]) kds := a.move Mv.refl.push (at_prev a.at_) a.fnd
theorem Fnd.few {qq : Sg} {g0 : List Wd} {kds : List (List (List Int) × Dt)} (f : Fnd qq g0 kds) (h4 : qq.length ≤ 4) : kds.length < sizeLine := by
  have := few_groups (qs := qfs qq) (g0 := g0) (by rw [qfs_len]; exact h4) kGr f.nd fun k hk => by
    rw [List.mem_map] at hk
    obtain ⟨⟨k', d⟩, hm, rfl⟩ := hk
    obtain ⟨g, e, s, _⟩ := f.ok k' d hm
    exact ⟨g, s, e⟩
  rw [List.length_map] at this
  exact szlt _ (by omega)
theorem Fnd.val {qq : Sg} {g0 g : List Wd} {kds : List (List (List Int) × Dt)} {d : Dt} (f : Fnd qq g0 kds) (h : valH kds (kGr g) = some d) : d = fdD (bst (qfs qq) g) := by
  unfold valH at h
  obtain ⟨p, hp, e⟩ := Option.map_eq_some_iff.mp h
  have hm := List.mem_of_find?_eq_some hp
  have hk' := List.find?_some hp
  have hk : p.1 = kGr g := of_decide_eq_true hk'
  obtain ⟨g', e', _, ed⟩ := f.ok p.1 p.2 hm
  rw [hk] at e'
  rw [kGr_inj e', ← ed]
  exact e.symm
theorem Fnd.add {qq : Sg} {g0 g : List Wd} {kds : List (List (List Int) × Dt)} (f : Fnd qq g0 kds) (h : valH kds (kGr g) = none) (s : Sub (qfs qq) g0 g) : Fnd qq g0 (kds ++ [(kGr g, fdD (bst (qfs qq) g))]) := by
  refine ⟨?_, fun k d hm => ?_⟩
  · rw [List.map_append, List.nodup_append]
    refine ⟨f.nd, by simp, fun x hx y hy e => ?_⟩
    simp at hy
    subst hy
    subst e
    unfold valH at h
    rw [Option.map_eq_none_iff, List.find?_eq_none] at h
    rw [List.mem_map] at hx
    obtain ⟨p, hp, ep⟩ := hx
    exact h p hp (decide_eq_true ep)
  · rcases List.mem_append.mp hm with hm | hm
    · exact f.ok k d hm
    · simp at hm
      obtain ⟨rfl, rfl⟩ := hm
      exact ⟨g, rfl, s, rfl⟩
def decW (d : Dt) : Wd := match d with
  | .tup xs => xs.map fun x => match x with | .int i => decide (i = 1) | _ => false
  | _ => []
theorem decW_wD (w : Wd) : decW (wD w) = w := by
  show (w.map fun b => Dt.int (b2 b)).map _ = _
  rw [List.map_map]
  conv => rhs; rw [← List.map_id w]
  apply List.map_congr_left
  intro b _
  cases b <;> rfl
theorem filter_dec (q : Wd → Bool) (g : List Wd) : (g.map wD).filter (fun d => q (decW d)) = (g.filter q).map wD := by
  rw [List.filter_map]
  congr 1
  apply List.filter_congr
  intro w _
  show q (decW (wD w)) = q w
  rw [decW_wD]
def sc_c_asking_first_1 : Scope := { kind := .function, names := [(".0", .local), ("world", .local), ("n", .free), ("table", .free)], isGenerator := false, isCoroutine := false, more := [] }
theorem ndc_asking_first_1 : (["world", "n", "table"] : List Str).Nodup := by decide +kernel
theorem cm_asking_first_1 {f : Addr} {cdv : Value} {A : Around} {outer : List Env} {s : Shared} {H : Hp} {E : XK} : CmpOk (cxOf CX0 P w K mg base ["n", "group", "table", "found", "yes", "no", "after_yes", "after_no"] "asking_first" (defScope s_asking_first) f cdv A outer s H E).nox sc_c_asking_first_1 [("table", s.heap.objs.size + 1 + 1), ("n", s.heap.objs.size + 1)] ["world", "n", "table"] [none, some 0, some 2] where
  clos := by rfl
  cell := by decide +kernel
  kind := by rfl
  names := by decide +kernel
  lenN := by rfl
  capN := fun i j x h1 h2 => by
    match i, h1, h2 with
    | 0, h1, _ => cases h1
    | 1, h1, h2 =>
      cases h1
      cases h2
      exact ⟨rfl, Or.inr (Or.inl rfl), cellNe rfl, cellNe rfl, _, rfl, rfl⟩
    | 2, h1, h2 =>
      cases h1
      cases h2
      exact ⟨rfl, Or.inr (Or.inl rfl), cellNe rfl, cellNe rfl, _, rfl, rfl⟩
  cls := fun x c h => by
    have m := PySem.mem_of_lookup h
    simp only [List.mem_cons, List.not_mem_nil, or_false, Prod.mk.injEq] at m
    rcases m with ⟨rfl, rfl⟩ | ⟨rfl, rfl⟩ <;> rfl
  has := fun x h => by
    have h' : List.lookup x ([(".0", .local), ("world", .local), ("n", .cell), ("table", .cell)] : List (Str × NameKind)) = some .cell ∨ List.lookup x ([(".0", .local), ("world", .local), ("n", .cell), ("table", .cell)] : List (Str × NameKind)) = some .free := h
    have m := h'.imp PySem.mem_of_lookup PySem.mem_of_lookup
    have e : x = "n" ∨ x = "table" := by simpa using m
    rcases e with rfl | rfl
    · exact ⟨_, rfl⟩
    · exact ⟨_, rfl⟩
def sc_c_asking_first_0 : Scope := { kind := .function, names := [(".0", .local), ("world", .local), ("n", .free), ("table", .free)], isGenerator := false, isCoroutine := false, more := [] }
theorem ndc_asking_first_0 : (["world", "n", "table"] : List Str).Nodup := by decide +kernel
theorem cm_asking_first_0 {f : Addr} {cdv : Value} {A : Around} {outer : List Env} {s : Shared} {H : Hp} {E : XK} : CmpOk (cxOf CX0 P w K mg base ["n", "group", "table", "found", "yes", "no", "after_yes", "after_no"] "asking_first" (defScope s_asking_first) f cdv A outer s H E).nox sc_c_asking_first_0 [("table", s.heap.objs.size + 1 + 1), ("n", s.heap.objs.size + 1)] ["world", "n", "table"] [none, some 0, some 2] where
  clos := by rfl
  cell := by decide +kernel
  kind := by rfl
  names := by decide +kernel
  lenN := by rfl
  capN := fun i j x h1 h2 => by
    match i, h1, h2 with
    | 0, h1, _ => cases h1
    | 1, h1, h2 =>
      cases h1
      cases h2
      exact ⟨rfl, Or.inr (Or.inl rfl), cellNe rfl, cellNe rfl, _, rfl, rfl⟩
    | 2, h1, h2 =>
      cases h1
      cases h2
      exact ⟨rfl, Or.inr (Or.inl rfl), cellNe rfl, cellNe rfl, _, rfl, rfl⟩
  cls := fun x c h => by
    have m := PySem.mem_of_lookup h
    simp only [List.mem_cons, List.not_mem_nil, or_false, Prod.mk.injEq] at m
    rcases m with ⟨rfl, rfl⟩ | ⟨rfl, rfl⟩ <;> rfl
  has := fun x h => by
    have h' : List.lookup x ([(".0", .local), ("world", .local), ("n", .cell), ("table", .cell)] : List (Str × NameKind)) = some .cell ∨ List.lookup x ([(".0", .local), ("world", .local), ("n", .cell), ("table", .cell)] : List (Str × NameKind)) = some .free := h
    have m := h'.imp PySem.mem_of_lookup PySem.mem_of_lookup
    have e : x = "n" ∨ x = "table" := by simpa using m
    rcases e with rfl | rfl
    · exact ⟨_, rfl⟩
    · exact ⟨_, rfl⟩
section
variable {P : Program} {w : World} {K : PySem.W.Frag} {mg : Str → Option Value} {base : Heap}
def After (g0 : List Wd) (qq : Sg) (j : Nat) (G : GD) (kds : List (List (List Int) × Dt)) (b : Nat) (R : GD → Prop) : Prop := ∀ (G' : GD) (kds' : List (List (List Int) × Dt)), Mv j G G' → G'[j]? = some (.dG kds') → Fnd qq g0 kds' →
  (∀ k : List (List Int), b ≤ k.length → valH kds k = none → valH kds' k = none) → R G'
theorem kGr_len (g : List Wd) : (kGr g).length = g.length := List.length_map _
theorem tryQ_no1 {b : List Wd → Fd} {g : List Wd} {n : Nat} {q : Wd → Bool} (h : g.filter q = []) : tryQ b g n q = none := by
  unfold tryQ
  rw [if_pos (.inl (by rw [h]; rfl))]
theorem tryQ_no2 {b : List Wd → Fd} {g : List Wd} {n : Nat} {q : Wd → Bool} (h : (g.filter fun w => !q w) = []) : tryQ b g n q = none := by
  unfold tryQ
  rw [if_pos (.inr (by rw [h]; rfl))]
theorem tryQ_non1 {b : List Wd → Fd} {g : List Wd} {n : Nat} {q : Wd → Bool} (h : b (g.filter q) = none) : tryQ b g n q = none := by
  unfold tryQ
  split
  · rfl
  · rw [h]
theorem tryQ_non2 {b : List Wd → Fd} {g : List Wd} {n : Nat} {q : Wd → Bool} (h : b (g.filter fun w => !q w) = none) : tryQ b g n q = none := by
  unfold tryQ
  split
  · rfl
  · rw [h]
    cases b (g.filter q) <;> rfl
def sp_shortest (m : Nat) : SpD := fun ds G Q => match ds with
  | [x, y, z] => ∃ (g0 : List Wd) (qq : Sg) (g : List Wd) (i j : Nat) (kds : List (List (List Int) × Dt)), x = gD g ∧ y = .ref i ∧ z = .ref j ∧ g ≠ [] ∧ g.length ≤ m ∧ Sub (qfs qq) g0 g ∧ At8 g0 qq i j G kds ∧ After g0 qq j G kds (g.length + 1) (Q (fdD (bst (qfs qq) g)))
  | _ => False
def sp_asking (m : Nat) : SpD := fun ds G Q => match ds with
  | [x0, x, y, z] => ∃ (g0 : List Wd) (qq : Sg) (g : List Wd) (i j : Nat) (kds : List (List (List Int) × Dt)) (n : Nat) (p : Nat × Th), x0 = .int (n : Nat) ∧ qq[n]? = some p ∧ x = gD g ∧ y = .ref i ∧ z = .ref j ∧ g.length ≤ m ∧ Sub (qfs qq) g0 g ∧ At8 g0 qq i j G kds ∧
      After g0 qq j G kds g.length (Q (fdD (tryQ (bst (qfs qq)) g n (qf p))))
  | _ => False
def sp_sasking (m : Nat) : SpD := fun ds G Q => match ds with
  | [x, y, z] => ∃ (g0 : List Wd) (qq : Sg) (g : List Wd) (i j : Nat) (kds : List (List (List Int) × Dt)), x = gD g ∧ y = .ref i ∧ z = .ref j ∧ 2 ≤ g.length ∧ g.length ≤ m ∧ Sub (qfs qq) g0 g ∧ At8 g0 qq i j G kds ∧ After g0 qq j G kds g.length (Q (fdD (bst (qfs qq) g)))
  | _ => False
theorem ok_asking {m d : Nat} (T : Bl K mg) (f_shortest : Fnc P w K mg base "shortest" d ["group", "table", "found"] (sp_shortest m)) (Pl : Plc K mg "asking_first" s_asking_first ["n", "group", "table", "found"]) : Fnc P w K mg base "asking_first" (d + 1) ["n", "group", "table", "found"] (sp_asking (m + 1)) := by
  have nd := sc_asking_first.nd
  refine Pl.fn' (k := d) sc_asking_first fun f cdv A outer s H E hr => ⟨_, fun F => (dss_cons' (ds_set' (i := 4) nd (de_tupleof' (da_cons' (de_comp' cm_asking_first_0 (di_seq' (de_var' 1)) (fun _ _ _ _ _ _ => (dg_name' (i := 0) ndc_asking_first_0)) (fun _ _ _ _ _ _ => (dif_one' (dt_eq' (de_ixH' kT hr (de_ix' hr (de_var' 2) (de_var' 1)) (de_var' 0)) de_int'))) (fun _ _ _ _ _ _ => (de_var' 0))) da_nil') T.b_tuple))
  (dss_cons' (ds_set' (i := 5) nd (de_tupleof' (da_cons' (de_comp' cm_asking_first_1 (di_seq' (de_var' 1)) (fun _ _ _ _ _ _ => (dg_name' (i := 0) ndc_asking_first_1)) (fun _ _ _ _ _ _ => (dif_one' (dt_eq' (de_ixH' kT hr (de_ix' hr (de_var' 2) (de_var' 1)) (de_var' 0)) de_int'))) (fun _ _ _ _ _ _ => (de_var' 0))) da_nil') T.b_tuple))
  (dss_cons' (ds_if' (dt_w' (dw_or' (dt_eq' (de_len' (da_cons' (de_var' 4) da_nil') T.b_len) de_int') (dw_or1' (dt_eq' (de_len' (da_cons' (de_var' 5) da_nil') T.b_len) de_int'))))
  (dss_one' (ds_ret' de_non'))
  dss_nil')
  (dss_cons' (ds_set' (i := 6) nd (de_callF' f_shortest (hr.mono (by first | decide | omega)) (da_cons' (de_var' 4) (da_cons' (de_var' 2) (da_cons' (de_var' 3) da_nil')))))
  (dss_cons' (ds_set' (i := 7) nd (de_callF' f_shortest (hr.mono (by first | decide | omega)) (da_cons' (de_var' 5) (da_cons' (de_var' 2) (da_cons' (de_var' 3) da_nil')))))
  (dss_cons' (ds_if' (dt_w' (dw_or' (dt_is' (de_var' 6) de_non') (dw_or1' (dt_is' (de_var' 7) de_non'))))
  (dss_one' (ds_ret' de_non'))
  dss_nil')
  (dss_one' (ds_ret' (de_tup' (da_cons' (de_add' de_int' (de_max' (da_cons' (de_ix' hr (de_var' 6) de_int') (da_cons' (de_ix' hr (de_var' 7) de_int') da_nil')) T.b_max)) (da_cons' (de_tup' (da_cons' de_str' (da_cons' (de_var' 0) (da_cons' (de_ix' hr (de_var' 6) de_int') (da_cons' (de_ix' hr (de_var' 7) de_int') da_nil'))))) da_nil'))))))))))), fun ds G Q hl hsp hb hG => ?_⟩
  unfold sp_asking at hsp
  split at hsp
  · obtain ⟨g0, qq, g, i, j, kds, n, p, rfl, hp, rfl, rfl, rfl, hm, hs, a8, hq⟩ := hsp
    have hgl : g.length ≤ 64 := Nat.le_trans hs.len a8.h64
    obtain ⟨refs, t1, t2, t3⟩ := a8.tb
    obtain ⟨jn, r1, r2⟩ := t3 n p hp
    have tix : ∀ {G' : GD}, G'[i]? = some (.lst (refs.map Dt.ref)) → atD G' (.ref i) (.int (n : Nat)) = some (.ref jn) := fun {G'} h => by
      rw [at_ref, h]
      exact atI_nat (by rw [List.getElem?_map, r1]; rfl)
    refine seqR_tup ?_
    refine comp0S (fun d => qf p (decW d)) (fun d => d) (fun _ => trivial) (by rw [List.length_map]; exact szlt _ (by omega)) (fun d hd acc K1 h => ?_) (fun d hd _ acc K1 h => h) ?_
    · rw [List.mem_map] at hd
      obtain ⟨v, hv, rfl⟩ := hd
      refine rdIx_of (tix (at_prev t1)) ?_
      refine ⟨⟨jn, tabOf g0 p, kW v, _, rfl, wD_T v, at_prev r2, tab_at (hs.mem v hv), ?_⟩⟩
      refine rdEq_int ?_
      rw [decW_wD] at h
      show K1 (false ^^ decide (b2 (fit v p) = 1)) _
      rw [b2_one, Bool.false_xor]
      exact h
    refine rdTuple_ref (cell_lst at_last) ?_
    rw [filter_dec (qf p), List.map_id']
    refine seqR_tup ?_
    refine comp0S (fun d => !qf p (decW d)) (fun d => d) (fun _ => trivial) (by rw [List.length_map]; exact szlt _ (by omega)) (fun d hd acc K1 h => ?_) (fun d hd _ acc K1 h => h) ?_
    · rw [List.mem_map] at hd
      obtain ⟨v, hv, rfl⟩ := hd
      refine rdIx_of (tix (at_prev (at_prev t1))) ?_
      refine ⟨⟨jn, tabOf g0 p, kW v, _, rfl, wD_T v, at_prev (at_prev r2), tab_at (hs.mem v hv), ?_⟩⟩
      refine rdEq_int ?_
      rw [decW_wD] at h
      show K1 (false ^^ decide (b2 (fit v p) = 0)) _
      rw [b2_zero, Bool.false_xor]
      exact h
    refine rdTuple_ref (cell_lst at_last) ?_
    rw [filter_dec (fun w => !qf p w), List.map_id']
    have a82 := (a8.push (c := .lst ((g.filter (qf p)).map wD))).push (c := .lst ((g.filter fun w => !qf p w).map wD))
    have m2 : Mv j G (G ++ [.lst ((g.filter (qf p)).map wD)] ++ [.lst ((g.filter fun w => !qf p w).map wD)]) := Mv.refl.push.push
    generalize (G ++ [.lst ((g.filter (qf p)).map wD)] ++ [.lst ((g.filter fun w => !qf p w).map wD)] : GD) = G2 at a82 m2 ⊢
    have qpn := qfs_at hp
    refine rdLen_of rfl ?_
    refine rdEq_int ?_
    show if (false ^^ decide ((((g.filter (qf p)).map wD).length : Int) = 0)) = true then _ else _
    by_cases hy : g.filter (qf p) = []
    · have hq' := hq G2 kds m2 a82.at_ a82.fnd fun _ _ h => h
      rw [tryQ_no1 hy] at hq'
      refine iteTb (by rw [hy]; rfl) ?_
      exact iteT (RetD.all hq')
    have hyl := List.length_pos_iff.mpr hy
    refine iteFb (by rw [List.length_map, Bool.false_xor]; exact decide_eq_false (by omega)) ?_
    refine rdLen_of rfl ?_
    refine rdEq_int ?_
    show if (false ^^ decide ((((g.filter fun w => !qf p w).map wD).length : Int) = 0)) = true then _ else _
    by_cases hn : (g.filter fun w => !qf p w) = []
    · have hq' := hq G2 kds m2 a82.at_ a82.fnd fun _ _ h => h
      rw [tryQ_no2 hn] at hq'
      refine iteTb (by rw [hn]; rfl) ?_
      exact RetD.all hq'
    have hnl := List.length_pos_iff.mpr hn
    refine iteFb (by rw [List.length_map, Bool.false_xor]; exact decide_eq_false (by omega)) ?_
    obtain ⟨l1, l2⟩ := split_lt hy hn
    refine ⟨rfl, g0, qq, g.filter (qf p), i, j, kds, rfl, rfl, rfl, hy, by omega, hs.yes qpn, a82, fun G3 kds3 m3 h3 f3 n3 => ?_⟩
    have a83 := a82.move m3 h3 f3
    refine ⟨rfl, g0, qq, g.filter fun w => !qf p w, i, j, kds3, rfl, rfl, rfl, hn, by omega, hs.no qpn, a83, fun G4 kds4 m4 h4 f4 n4 => ?_⟩
    have hq' := hq G4 kds4 (m2.trans (m3.trans m4)) h4 f4 fun k hk e => n4 k (by omega) (n3 k (by omega) e)
    cases ey : bst (qfs qq) (g.filter (qf p)) with
    | none =>
      rw [tryQ_non1 ey] at hq'
      exact RetD.all hq'
    | some y =>
      cases ez : bst (qfs qq) (g.filter fun w => !qf p w) with
      | none =>
        rw [tryQ_non2 ez] at hq'
        exact RetD.all hq'
      | some z =>
        rw [tryQ_of hy hn ey ez] at hq'
        refine rdIx_of atI_0 ?_
        refine rdIx_of atI_0 ?_
        refine rdMM_two ?_
        refine rdIx_of atI_1 ?_
        refine rdIx_of atI_1 ?_
        refine ⟨szl 4, szl 2, ?_⟩
        have e : (1 + max2 (y.1 : Nat) (z.1 : Nat) : Int) = ((1 + max y.1 z.1 : Nat) : Int) := by
          unfold max2
          split <;> omega
        rw [e]
        exact RetD.all hq'
  · exact hsp.elim
def natD (i : Nat) : Dt := .int (i : Nat)
theorem rng_nat (n : Nat) : rngD 0 n = (List.range n).map natD := by
  unfold rngD natD
  apply List.map_congr_left
  intro i _
  rw [Int.zero_add]
theorem range_from {k n : Nat} (h : k < n) : List.range' k (n - k) = k :: List.range' (k + 1) (n - (k + 1)) := by
  have e : n - k = (n - (k + 1)) + 1 := by omega
  rw [e, List.range'_succ]
theorem ok_sasking {m d : Nat} (T : Bl K mg) (f_asking_first : Fnc P w K mg base "asking_first" d ["n", "group", "table", "found"] (sp_asking m)) (Pl : Plc K mg "shortest_asking" s_shortest_asking ["group", "table", "found"]) : Fnc P w K mg base "shortest_asking" (d + 1) ["group", "table", "found"] (sp_sasking m) := by
  have nd := sc_shortest_asking.nd
  refine Pl.fn' (k := d) sc_shortest_asking fun f cdv A outer s H E hr => ⟨_, fun F => (dss_cons' (ds_set' (i := 3) nd de_non')
  (dss_cons' (ds_for' (di_rng1' (da_cons' (de_len' (da_cons' (de_var' 1) da_nil') T.b_len) da_nil') T.b_range) (fun _ => (dg_name' (i := 4) nd))
  (fun _ => (dss_cons' (ds_set' (i := 5) nd (de_callF' f_asking_first (hr.mono (by first | decide | omega)) (da_cons' (de_var' 4) (da_cons' (de_var' 0) (da_cons' (de_var' 1) (da_cons' (de_var' 2) da_nil'))))))
  (dss_one' (ds_if' (dt_w' (dw_and' (dt_isnot' (de_var' 5) de_non') (dw_and1' (dt_w' (dw_or' (dt_is' (de_var' 3) de_non') (dw_or1' (dt_lt' (de_ix' hr (de_var' 5) de_int') (de_ix' hr (de_var' 3) de_int'))))))))
  (dss_one' (ds_set' (i := 3) nd (de_var' 5)))
  dss_nil')))))
  (dss_one' (ds_ret' (de_var' 3))))), fun ds G Q hl hsp hb hG => ?_⟩
  unfold sp_sasking at hsp
  split at hsp
  · obtain ⟨g0, qq, g, i, j, kds, rfl, rfl, rfl, h2, hm, hs, a8, hq⟩ := hsp
    obtain ⟨refs, t1, t2, t3⟩ := a8.tb
    refine rdLen_of (len_lst t1) ?_
    rw [List.length_map, t2]
    have h4 := a8.h4
    refine ⟨⟨by omega, by omega⟩, ?_⟩
    rw [Int.toNat_natCast, rng_nat]
    refine lp_ind (fun ds σ G' => ∃ (n : Nat) (acc : Fd) (kds' : List (List (List Int) × Dt)) (s4 s5 : Option Dt), n ≤ qq.length ∧ ds = (List.range' n (qq.length - n)).map natD ∧ Mv j G G' ∧ At8 g0 qq i j G' kds' ∧ (∀ k : List (List Int), g.length ≤ k.length → valH kds k = none → valH kds' k = none) ∧
      foldQ (bst (qfs qq)) g n ((qfs qq).drop n) acc = bst (qfs qq) g ∧ σ = [some (gD g), some (.ref i), some (.ref j), some (fdD acc), s4, s5]) ?_ ?_ _ _ _
      ⟨0, none, kds, none, none, Nat.zero_le _, by rw [Nat.sub_zero, List.range_eq_range'], Mv.refl, a8, fun _ _ h => h, (bst_more h2).symm, rfl⟩
    · rintro σ G' ⟨n, acc, kds', s4, s5, hn, hds, mv, a8', nw, hf, rfl⟩
      have en : n = qq.length := by
        by_cases h : n = qq.length
        · exact h
        · rw [range_from (by omega)] at hds
          cases hds
      subst en
      rw [List.drop_of_length_le (by rw [qfs_len]; exact Nat.le_refl _)] at hf
      have hf' : acc = bst (qfs qq) g := hf
      rw [← hf'] at hq
      exact ⟨trivial, RetD.all (hq G' kds' mv a8'.at_ a8'.fnd nw)⟩
    · rintro d' r K1 hK1 σ G' ⟨n, acc, kds', s4, s5, hn, hds, mv, a8', nw, hf, rfl⟩
      have hlt : n < qq.length := by
        by_cases h : n < qq.length
        · exact h
        · have : qq.length - n = 0 := by omega
          rw [this] at hds
          cases hds
      rw [range_from hlt] at hds
      cases hds
      have hp : qq[n]? = some qq[n] := List.getElem?_eq_getElem hlt
      generalize qq[n] = p at hp
      have hdrop : (qfs qq).drop n = qf p :: (qfs qq).drop (n + 1) := by
        have hl' : n < (qfs qq).length := by rw [qfs_len]; exact hlt
        rw [List.drop_eq_getElem_cons hl']
        have := qfs_at hp
        rw [List.getElem?_eq_getElem hl'] at this
        rw [Option.some.inj this]
      rw [hdrop] at hf
      have hf' : foldQ (bst (qfs qq)) g (n + 1) ((qfs qq).drop (n + 1)) (better acc (tryQ (bst (qfs qq)) g n (qf p))) = bst (qfs qq) g := hf
      refine ⟨trivial, ?_⟩
      refine ⟨rfl, g0, qq, g, i, j, kds', n, p, rfl, hp, rfl, rfl, rfl, hm, hs, a8', fun G2 kds2 m2 h2' f2 n2 => ?_⟩
      have a82 := a8'.move m2 h2' f2
      have nxt : ∀ acc' : Fd, better acc (tryQ (bst (qfs qq)) g n (qf p)) = acc' → K1 [some (gD g), some (.ref i), some (.ref j), some (fdD acc'), some (natD n), some (fdD (tryQ (bst (qfs qq)) g n (qf p)))] G2 := fun acc' e => by
        rw [e] at hf'
        exact hK1 _ _ ⟨n + 1, acc', kds2, _, _, hlt, rfl, mv.trans m2, a82, fun k hk e => n2 k hk (nw k hk e), hf', rfl⟩
      cases et : tryQ (bst (qfs qq)) g n (qf p) with
      | none =>
        rw [et] at nxt
        exact Wk.here (nxt acc rfl)
      | some t =>
        rw [et] at nxt
        cases acc with
        | none => exact Wk.here (nxt _ rfl)
        | some b =>
          refine rdIx_of atI_0 ?_
          refine rdIx_of atI_0 ?_
          show if decide (((t.1 : Nat) : Int) < ((b.1 : Nat) : Int)) = true then _ else _
          by_cases hc : t.1 < b.1
          · refine iteTb (decide_eq_true (by omega)) ?_
            refine Wk.here (nxt _ ?_)
            show (if t.1 < b.1 then some t else some b) = _
            rw [if_pos hc]
          · refine iteFb (decide_eq_false (by omega)) ?_
            refine Wk.here (nxt _ ?_)
            show (if t.1 < b.1 then some t else some b) = _
            rw [if_neg hc]
  · exact hsp.elim
theorem ok_shortest_step {m d : Nat} (T : Bl K mg) (f_shortest_asking : Fnc P w K mg base "shortest_asking" d ["group", "table", "found"] (sp_sasking m)) (Pl : Plc K mg "shortest" s_shortest ["group", "table", "found"]) : Fnc P w K mg base "shortest" (d + 1) ["group", "table", "found"] (sp_shortest m) := by
  have nd := sc_shortest.nd
  refine Pl.fn' (k := d) sc_shortest fun f cdv A outer s H E hr => ⟨_, fun F => (dss_cons' (ds_if' (dt_eq' (de_len' (da_cons' (de_var' 0) da_nil') T.b_len) de_int')
  (dss_one' (ds_ret' (de_tup' (da_cons' de_int' (da_cons' (de_tup' (da_cons' de_str' (da_cons' (de_ix' hr (de_var' 0) de_int') da_nil'))) da_nil')))))
  dss_nil')
  (dss_cons' (ds_if' (dt_notinH' kG hr (de_var' 0) (de_var' 2))
  (dss_one' (ds_putH' kG hr (de_callF' f_shortest_asking (hr.mono (by first | decide | omega)) (da_cons' (de_var' 0) (da_cons' (de_var' 1) (da_cons' (de_var' 2) da_nil')))) (de_var' 2) (de_var' 0)))
  dss_nil')
  (dss_one' (ds_ret' (de_ixH' kG hr (de_var' 2) (de_var' 0)))))), fun ds G Q hl hsp hb hG => ?_⟩
  unfold sp_shortest at hsp
  split at hsp
  · obtain ⟨g0, qq, g, i, j, kds, rfl, rfl, rfl, hne, hm, hs, a8, hq⟩ := hsp
    have hgl := List.length_pos_iff.mpr hne
    refine rdLen_of rfl ?_
    refine rdEq_int ?_
    show if (false ^^ decide (((g.map wD).length : Int) = 1)) = true then _ else _
    by_cases h1 : g.length = 1
    · match g, h1 with
      | [v], _ =>
        have hq' := hq G kds Mv.refl a8.at_ a8.fnd fun _ _ h => h
        rw [bst_one] at hq'
        refine iteTb rfl ?_
        refine rdIx_of atI_0 ?_
        exact ⟨szl 2, szl 2, RetD.all hq'⟩
    refine iteFb (by rw [List.length_map, Bool.false_xor]; exact decide_eq_false (by omega)) ?_
    refine ⟨⟨j, kds, kGr g, rfl, gD_G g, a8.at_, ?_⟩⟩
    cases hv : valH kds (kGr g) with
    | none =>
      refine iteT ?_
      refine ⟨rfl, g0, qq, g, i, j, kds, rfl, rfl, rfl, by omega, hm, hs, a8, fun G2 kds2 m2 h2 f2 n2 => ?_⟩
      have hv2 := n2 (kGr g) (by rw [kGr_len]; exact Nat.le_refl _) hv
      refine ⟨⟨j, kds2, kGr g, rfl, gD_G g, h2, hv2, f2.few a8.h4, ?_⟩⟩
      have h3 : (G2.set j (.dG (kds2 ++ [(kGr g, fdD (bst (qfs qq) g))])))[j]? = some (.dG (kds2 ++ [(kGr g, fdD (bst (qfs qq) g))])) := at_set h2
      refine ⟨⟨j, _, kGr g, fdD (bst (qfs qq) g), rfl, gD_G g, h3, ?_, ?_⟩⟩
      · rw [valH_app, hv2, if_pos rfl]
        rfl
      · refine RetD.all (hq _ _ m2.put h3 (f2.add hv2 hs) fun k hk e => ?_)
        rw [valH_app, n2 k (by omega) e, if_neg]
        · rfl
        · intro e2
          rw [← e2, kGr_len] at hk
          omega
    | some d =>
      refine iteF ?_
      have ed := a8.fnd.val hv
      refine ⟨⟨j, kds, kGr g, d, rfl, gD_G g, a8.at_, hv, ?_⟩⟩
      rw [ed]
      exact RetD.all (hq G kds Mv.refl a8.at_ a8.fnd fun _ _ h => h)
  · exact hsp.elim
theorem ok_shortest (T : Bl K mg) (Pa : Plc K mg "asking_first" s_asking_first ["n", "group", "table", "found"]) (Ps : Plc K mg "shortest_asking" s_shortest_asking ["group", "table", "found"]) (Pl : Plc K mg "shortest" s_shortest ["group", "table", "found"]) : ∀ m : Nat, Fnc P w K mg base "shortest" (3 * m) ["group", "table", "found"] (sp_shortest m)
  | 0 => (Fnc.imp Pl.never fun ds G Q h => by
      unfold sp_shortest at h
      split at h
      · obtain ⟨_, _, g, _, _, _, _, _, _, h1, h2, _⟩ := h
        exact h1 (List.eq_nil_of_length_eq_zero (by omega))
      · exact h).mono (Nat.zero_le _)
  | m + 1 => ok_shortest_step T (ok_sasking T (ok_asking T (ok_shortest T Pa Ps Pl m) Pa) Ps) Pl
end
end K08
--LAW k08
namespace K08
open PySem PySem.Spec L2 DL TH KT KH KFM
local macro_rules | `(tactic| walk_at "dx") => `(tactic| (try simp only [↓dSeq, ↓dIfS, ↓dOr, ↓dAnd, ↓dNot, ↓dTru, ↓dIsi, ↓dVar, ↓dRet, ↓dC, ↓dNext, ↓dChain, ↓rdI0, ↓rdI, ↓dTest, ↓dOp, ↓endsD, ↓startD, ↓dAndV, ↓dOrV, ↓dNotV, ↓dIf, ↓dCall, ↓dCons, ↓dNil, ↓dTup, ↓dLst, ↓dSet, ↓dAsg, ↓dgName, ↓dgNil, ↓dgCons, ↓dgTup, ↓dDrop, ↓dCB, ↓dMGet, ↓rdLen_eq, ↓rdLen0, ↓rdIx_eq, ↓rdIx0, ↓rdIs, ↓rdEq_eq, ↓rdEq0, ↓rdAdd, ↓rdMul, ↓dUn, ↓dPart, ↓dNoPart, ↓dSl, ↓rdSl_eq, ↓rdSl0, ↓rdList, ↓rdTuple_eq, ↓rdTuple0, ↓rdAll, ↓dAppend, ↓rdAppend_eq, ↓rdAppend0, ↓dPop, ↓isLstC, ↓dFor, ↓diZip, ↓diSeq, ↓seqR_eq, ↓seqR0, ↓diRng1, ↓dWhile, ↓dDict, ↓dPairs, ↓keysD, ↓keyD, get_endz, get_endj, set_endz, set_endj, Option.some.injEq, Cl.lst.injEq, exists_eq', exists_eq, exists_eq_left,
  isi_non, isi_bl, isi_int, isi_str, isi_tup, isi_ref, tru_non, tru_bl, tru_int, tru_tup, tru_ref, len_tup, len_ref, at_tup, at_ref, at_refs, is_non_non, is_bl_bl, is_bl_non, is_non_bl, is_int_non, is_str_non, is_tup_non, is_ref_non, is_int_bl, is_str_bl, is_tup_bl, is_ref_bl, eqs_int, eqs_str, eqs_bl, seq_tup, seq_ref, atI_0, atI_1, atI_2, succ_eq0, zero_eq0, str_inj,
  List.map_cons, List.map_nil, List.length_cons, List.length_nil, List.replicate, List.cons_append, List.nil_append, List.append_nil, List.append_assoc, List.length_append, List.getElem?_cons_zero, List.getElem?_cons_succ, List.set_cons_zero, List.set_cons_succ, if_true, if_false, Bool.not_true, Bool.not_false, Bool.false_eq_true, Bool.or_true, Bool.or_false, Bool.true_or, Bool.false_or, Bool.and_true, Bool.and_false, Bool.true_and, Bool.false_and, Bool.false_xor, Bool.true_xor, Nat.sub_self, Nat.reduceAdd, Nat.reduceSub, decide_true, decide_false, true_and, and_true, ne_eq, String.reduceBEq, String.reduceEq, reduceIte, reduceCtorEq]))
/-! ### plan and least -/
abbrev s_shortest_of : Stmt := top 14
abbrev s_plan : Stmt := top 15
abbrev s_least : Stmt := top 16
theorem sc_shortest_of : FnScope ["hall", "questions", "group", "table"] ["hall", "questions"] (defScope s_shortest_of) := ⟨rfl, rfl, rfl, by decide +kernel, rfl, by decide +kernel, by decide +kernel⟩
theorem sc_plan : FnScope ["hall", "questions", "best"] ["hall", "questions"] (defScope s_plan) := ⟨rfl, rfl, rfl, by decide +kernel, rfl, by decide +kernel, by decide +kernel⟩
theorem sc_least : FnScope ["hall", "questions", "best"] ["hall", "questions"] (defScope s_least) := ⟨rfl, rfl, rfl, by decide +kernel, rfl, by decide +kernel, by decide +kernel⟩
def sc_c_shortest_of_0 : Scope := { kind := .function, names := [(".0", .local), ("question", .local), ("answers_by_world", .globalImplicit), ("group", .free)], isGenerator := false, isCoroutine := false, more := [] }
theorem ndc_shortest_of_0 : (["question", "group"] : List Str).Nodup := by decide +kernel
theorem cm_shortest_of_0 {f : Addr} {cdv : Value} {A : Around} {outer : List Env} {s : Shared} {H : Hp} {E : XK} : CmpOk (cxOf CX0 P w K mg base ["hall", "questions", "group", "table"] "shortest_of" (defScope s_shortest_of) f cdv A outer s H E).nox sc_c_shortest_of_0 [("group", s.heap.objs.size + 1)] ["question", "group"] [none, some 2] where
  clos := by rfl
  cell := by decide +kernel
  kind := by rfl
  names := by decide +kernel
  lenN := by rfl
  capN := fun i j x h1 h2 => by
    match i, h1, h2 with
    | 0, h1, _ => cases h1
    | 1, h1, h2 =>
      cases h1
      cases h2
      exact ⟨rfl, Or.inr (Or.inl rfl), cellNe rfl, cellNe rfl, _, rfl, rfl⟩
  cls := fun x c h => by
    have m := PySem.mem_of_lookup h
    simp only [List.mem_cons, List.not_mem_nil, or_false, Prod.mk.injEq] at m
    rcases m with ⟨rfl, rfl⟩ <;> rfl
  has := fun x h => by
    have h' : List.lookup x ([(".0", .local), ("question", .local), ("answers_by_world", .globalImplicit), ("group", .cell)] : List (Str × NameKind)) = some .cell ∨ List.lookup x ([(".0", .local), ("question", .local), ("answers_by_world", .globalImplicit), ("group", .cell)] : List (Str × NameKind)) = some .free := h
    have m := h'.imp PySem.mem_of_lookup PySem.mem_of_lookup
    have e : x = "group" := by simpa using m
    rcases e with rfl
    · exact ⟨_, rfl⟩
/-- what is asked of a hall and its questions -/
structure Ask (n : Nat) (ss qq : Sg) (d : Nat) : Prop where
  h1 : 1 ≤ n
  h5 : n ≤ 5
  sw : ss.wf n
  sd : ∀ p ∈ ss, p.2.dep < d
  qw : qq.wf n
  qd : ∀ p ∈ qq, p.2.dep < d
  q4 : qq.length ≤ 4
  ne : worlds n ss ≠ []
theorem worlds32 {n : Nat} {ss : Sg} (h : n ≤ 5) : (worlds n ss).length ≤ 32 := by
  refine Nat.le_trans (List.length_filter_le _ _) ?_
  have : n = 0 ∨ n = 1 ∨ n = 2 ∨ n = 3 ∨ n = 4 ∨ n = 5 := by omega
  rcases this with rfl | rfl | rfl | rfl | rfl | rfl <;> decide +kernel
theorem worlds_nd (n : Nat) (ss : Sg) : (worlds n ss).Nodup := (allW_nodup n).sublist List.filter_sublist
theorem worlds_mem {n : Nat} {ss : Sg} {w : Wd} (h : w ∈ worlds n ss) : w.length = n := (mem_allW n w).mp (List.mem_filter.mp h).1
/-- the cells of the table while it is made -/
def tabG (G : GD) (g0 : List Wd) (a : Sg) : GD := G ++ [.lst ((List.range a.length).map fun k => Dt.ref (G.length + 1 + k))] ++ a.map fun p => Cl.dT (tabOf g0 p)
theorem tabG_len (G : GD) (g0 : List Wd) (a : Sg) : (tabG G g0 a).length = G.length + 1 + a.length := by
  unfold tabG
  simp
  omega
theorem tabG_at (G : GD) (g0 : List Wd) (a : Sg) : (tabG G g0 a)[G.length]? = some (.lst ((List.range a.length).map fun k => Dt.ref (G.length + 1 + k))) := get_at
theorem tabG_cell {G : GD} {g0 : List Wd} {a : Sg} {n : Nat} {p : Nat × Th} (h : a[n]? = some p) : (tabG G g0 a)[G.length + 1 + n]? = some (.dT (tabOf g0 p)) := by
  unfold tabG
  rw [List.getElem?_append_right (by simp)]
  have e : G.length + 1 + n - (G ++ [Cl.lst ((List.range a.length).map fun k => Dt.ref (G.length + 1 + k))]).length = n := by simp
  rw [e, List.getElem?_map, h]
  rfl
theorem tabG_tb (G : GD) (g0 : List Wd) (qq : Sg) : Tb (tabG G g0 qq) G.length g0 qq := by
  refine ⟨(List.range qq.length).map fun k => G.length + 1 + k, ?_, by simp, fun n p hp => ⟨G.length + 1 + n, ?_, tabG_cell hp⟩⟩
  · rw [tabG_at, List.map_map]
    rfl
  · have hl := (List.getElem?_eq_some_iff.mp hp).1
    rw [List.getElem?_map, List.getElem?_range hl]
    rfl
theorem tabG_next (G : GD) (g0 : List Wd) (a : Sg) (p : Nat × Th) : (tabG G g0 a ++ [Cl.dT (tabOf g0 p)]).set G.length (Cl.lst (((List.range a.length).map fun k => Dt.ref (G.length + 1 + k)) ++ [Dt.ref (tabG G g0 a).length])) = tabG G g0 (a ++ [p]) := by
  rw [tabG_len]
  unfold tabG
  rw [List.append_assoc, List.append_assoc, List.set_append_right _ _ (Nat.le_refl _), Nat.sub_self]
  rw [List.length_append, List.length_singleton, List.range_succ, List.map_append, List.map_append, List.append_assoc]
  rfl
theorem mv_grw {j : Nat} {G G0 G' : GD} (g : Grw G G0) (m : Mv j G0 G') (hj : G.length ≤ j) : Grw G G' := by
  refine ⟨G'.drop G.length, ?_⟩
  have hl := g.len
  have hl2 := m.len
  have e : G'.take G.length = G := by
    refine List.ext_getElem? fun i => ?_
    by_cases hi : i < G.length
    · rw [List.getElem?_take, if_pos hi, List.getElem?_eq_getElem hi]
      exact m.at_ i _ (by omega) (g.at (List.getElem?_eq_getElem hi))
    · rw [List.getElem?_take, if_neg hi, List.getElem?_eq_none (by omega)]
  conv => lhs; rw [← List.take_append_drop G.length G', e]
section
variable {P : Program} {w : World} {K : PySem.W.Frag} {mg : Str → Option Value} {base : Heap}
def sp_shortest_of (d : Nat) : SpD := fun ds G Q => match ds with
  | [x, y] => ∃ (n : Nat) (ss qq : Sg), x = hD n ss ∧ y = .tup (qq.map sD) ∧ Ask n ss qq d ∧ Q (fdD (bst (qfs qq) (worlds n ss))) G
  | _ => False
theorem ok_shortest_of (T : Bl K mg) (f_worlds : Fnc P w K mg base "worlds" 8 ["hall"] (sp_worlds 4)) (f_answers_by_world : Fnc P w K mg base "answers_by_world" 8 ["question", "group"] (sp_answers 4)) (f_shortest : Fnc P w K mg base "shortest" 96 ["group", "table", "found"] (sp_shortest 32)) (Pl : Plc K mg "shortest_of" s_shortest_of ["hall", "questions"]) :
    Fnc P w K mg base "shortest_of" 97 ["hall", "questions"] (sp_shortest_of 4) := by
  have nd := sc_shortest_of.nd
  refine Pl.fn' (k := 96) sc_shortest_of fun f cdv A outer s H E hr => ⟨_, fun F => (dss_cons' (ds_set' (i := 2) nd (de_callF' f_worlds (hr.mono (by first | decide | omega)) (da_cons' (de_var' 0) da_nil')))
  (dss_cons' (ds_setC' (i := 3) nd cm_shortest_of_0 (di_seq' (de_var' 1)) (fun _ _ _ _ _ _ => (dg_name' (i := 0) ndc_shortest_of_0)) (fun _ _ _ _ _ _ => dif_nil') (fun _ _ _ _ _ _ => (de_callF' f_answers_by_world (hr.mono (by first | decide | omega)) (da_cons' (de_var' 0) (da_cons' (de_var' 1) da_nil')))))
  (dss_one' (ds_ret' (de_callF' f_shortest (hr.mono (by first | decide | omega)) (da_cons' (de_var' 2) (da_cons' (de_var' 3) (da_cons' (de_dictH' kG) da_nil')))))))), fun ds G Q hl hsp hb hG => ?_⟩
  unfold sp_shortest_of at hsp
  split at hsp
  · obtain ⟨n, ss, qq, rfl, rfl, ak, hq⟩ := hsp
    refine ⟨rfl, n, ss, rfl, by have := ak.h5; omega, ak.sw, ak.sd, ?_⟩
    have h32 := worlds32 (ss := ss) ak.h5
    refine seqR_tup ?_
    refine lpc_ind (fun ds σ G' => ∃ (a b : Sg) (s0 : Option Dt), qq = a ++ b ∧ ds = b.map sD ∧ G' = tabG G (worlds n ss) a ∧ σ = [s0, some (gD (worlds n ss))]) ?_ ?_ _ _ _ ⟨[], qq, none, rfl, rfl, by unfold tabG; simp, rfl⟩
    · rintro σ G' ⟨a, b, s0, e, hds, rfl, rfl⟩
      cases b with
      | cons x b => cases hds
      | nil =>
        rw [List.append_nil] at e
        subst e
        refine ⟨trivial, ?_⟩
        have g1 : Grw G (tabG G (worlds n ss) qq) := by unfold tabG; exact Grw.refl.push.more
        have a8 : At8 (worlds n ss) qq G.length (tabG G (worlds n ss) qq).length (tabG G (worlds n ss) qq ++ [.dG []]) [] := by
          obtain ⟨refs, t1, t2, t3⟩ := tabG_tb G (worlds n ss) qq
          refine ⟨⟨refs, at_prev t1, t2, fun k p hp => ?_⟩, at_last, ⟨List.nodup_nil, fun _ _ h => by cases h⟩, ak.q4, by omega⟩
          obtain ⟨q, e1, e2⟩ := t3 k p hp
          exact ⟨q, e1, at_prev e2⟩
        refine ⟨rfl, worlds n ss, qq, worlds n ss, G.length, _, [], rfl, rfl, rfl, ak.ne, h32, Sub.self, a8, fun G' kds' mv h' f' _ => ?_⟩
        exact RetD.cut (mv_grw g1.push mv (by rw [tabG_len]; omega)) hG (bnd_fdD _ _) hq
    · rintro d r K1 hK1 σ G' ⟨a, b, s0, e, hds, rfl, rfl⟩
      cases b with
      | nil => cases hds
      | cons p b =>
        cases hds
        have hp : p ∈ qq := by rw [e]; simp
        refine ⟨trivial, ?_⟩
        refine ⟨rfl, p, worlds n ss, n, rfl, rfl, worlds_nd n ss, by omega, fun w hw => worlds_mem hw, ak.qw p hp, ak.qd p hp, ?_⟩
        refine gather_of (at_prev (tabG_at G (worlds n ss) a)) ?_ ?_
        · rw [List.length_map, List.length_range]
          have := ak.q4
          have : a.length ≤ 4 := by rw [e, List.length_append] at this; omega
          exact szlt _ (by omega)
        · rw [tabG_next]
          exact Wk.here (hK1 _ _ ⟨a ++ [p], b, _, by rw [e]; simp, rfl, rfl, rfl⟩)
  · exact hsp.elim
def planD : Fd → Dt
  | none => .non
  | some x => pnD x.2
def leastD : Fd → Dt
  | none => .non
  | some x => .int (x.1 : Nat)
def sp_plan (f : Fd → Dt) (d : Nat) : SpD := fun ds G Q => match ds with
  | [x, y] => ∃ (n : Nat) (ss qq : Sg), x = hD n ss ∧ y = .tup (qq.map sD) ∧ Ask n ss qq d ∧ Q (f (bst (qfs qq) (worlds n ss))) G
  | _ => False
theorem ok_plan (T : Bl K mg) (f_shortest_of : Fnc P w K mg base "shortest_of" 97 ["hall", "questions"] (sp_shortest_of 4)) (Pl : Plc K mg "plan" s_plan ["hall", "questions"]) : Fnc P w K mg base "plan" 98 ["hall", "questions"] (sp_plan planD 4) := by
  have nd := sc_plan.nd
  refine Pl.fn' (k := 97) sc_plan fun f cdv A outer s H E hr => ⟨_, fun F => (dss_cons' (ds_set' (i := 2) nd (de_callF' f_shortest_of (hr.mono (by first | decide | omega)) (da_cons' (de_var' 0) (da_cons' (de_var' 1) da_nil'))))
  (dss_one' (ds_ret' (de_if' (dt_is' (de_var' 2) de_non') de_non' (de_ix' hr (de_var' 2) de_int'))))), fun ds G Q hl hsp hb hG => ?_⟩
  unfold sp_plan at hsp
  split at hsp
  · obtain ⟨n, ss, qq, rfl, rfl, ak, hq⟩ := hsp
    refine ⟨rfl, n, ss, qq, rfl, rfl, ak, ?_⟩
    cases e : bst (qfs qq) (worlds n ss) with
    | none =>
      rw [e] at hq
      exact RetD.all hq
    | some x =>
      rw [e] at hq
      exact rdIx_of atI_1 (RetD.all hq)
  · exact hsp.elim
theorem ok_least (T : Bl K mg) (f_shortest_of : Fnc P w K mg base "shortest_of" 97 ["hall", "questions"] (sp_shortest_of 4)) (Pl : Plc K mg "least" s_least ["hall", "questions"]) : Fnc P w K mg base "least" 98 ["hall", "questions"] (sp_plan leastD 4) := by
  have nd := sc_least.nd
  refine Pl.fn' (k := 97) sc_least fun f cdv A outer s H E hr => ⟨_, fun F => (dss_cons' (ds_set' (i := 2) nd (de_callF' f_shortest_of (hr.mono (by first | decide | omega)) (da_cons' (de_var' 0) (da_cons' (de_var' 1) da_nil'))))
  (dss_one' (ds_ret' (de_if' (dt_is' (de_var' 2) de_non') de_non' (de_ix' hr (de_var' 2) de_int'))))), fun ds G Q hl hsp hb hG => ?_⟩
  unfold sp_plan at hsp
  split at hsp
  · obtain ⟨n, ss, qq, rfl, rfl, ak, hq⟩ := hsp
    refine ⟨rfl, n, ss, qq, rfl, rfl, ak, ?_⟩
    cases e : bst (qfs qq) (worlds n ss) with
    | none =>
      rw [e] at hq
      exact RetD.all hq
    | some x =>
      rw [e] at hq
      exact rdIx_of atI_0 (RetD.all hq)
  · exact hsp.elim
end
end K08
--LAW k08
namespace K08
open PySem PySem.Spec L2 DL TH KT KH KFM
local macro_rules | `(tactic| walk_at "dx") => `(tactic| (try simp only [↓dSeq, ↓dIfS, ↓dOr, ↓dAnd, ↓dNot, ↓dTru, ↓dIsi, ↓dVar, ↓dRet, ↓dC, ↓dNext, ↓dChain, ↓rdI0, ↓rdI, ↓dTest, ↓dOp, ↓endsD, ↓startD, ↓dAndV, ↓dOrV, ↓dNotV, ↓dIf, ↓dCall, ↓dCons, ↓dNil, ↓dTup, ↓dLst, ↓dSet, ↓dAsg, ↓dgName, ↓dgNil, ↓dgCons, ↓dgTup, ↓dDrop, ↓dCB, ↓dMGet, ↓rdLen_eq, ↓rdLen0, ↓rdIx_eq, ↓rdIx0, ↓rdIs, ↓rdEq_eq, ↓rdEq0, ↓rdAdd, ↓rdMul, ↓dUn, ↓dPart, ↓dNoPart, ↓dSl, ↓rdSl_eq, ↓rdSl0, ↓rdList, ↓rdTuple_eq, ↓rdTuple0, ↓rdAll, ↓dAppend, ↓rdAppend_eq, ↓rdAppend0, ↓dPop, ↓isLstC, ↓dFor, ↓diZip, ↓diSeq, ↓seqR_eq, ↓seqR0, ↓diRng1, ↓dWhile, ↓dDict, ↓dPairs, ↓keysD, ↓keyD, get_endz, get_endj, set_endz, set_endj, Option.some.injEq, Cl.lst.injEq, exists_eq', exists_eq, exists_eq_left,
  isi_non, isi_bl, isi_int, isi_str, isi_tup, isi_ref, tru_non, tru_bl, tru_int, tru_tup, tru_ref, len_tup, len_ref, at_tup, at_ref, at_refs, is_non_non, is_bl_bl, is_bl_non, is_non_bl, is_int_non, is_str_non, is_tup_non, is_ref_non, is_int_bl, is_str_bl, is_tup_bl, is_ref_bl, eqs_int, eqs_str, eqs_bl, seq_tup, seq_ref, atI_0, atI_1, atI_2, succ_eq0, zero_eq0, str_inj,
  List.map_cons, List.map_nil, List.length_cons, List.length_nil, List.replicate, List.cons_append, List.nil_append, List.append_nil, List.append_assoc, List.length_append, List.getElem?_cons_zero, List.getElem?_cons_succ, List.set_cons_zero, List.set_cons_succ, if_true, if_false, Bool.not_true, Bool.not_false, Bool.false_eq_true, Bool.or_true, Bool.or_false, Bool.true_or, Bool.false_or, Bool.and_true, Bool.and_false, Bool.true_and, Bool.false_and, Bool.false_xor, Bool.true_xor, Nat.sub_self, Nat.reduceAdd, Nat.reduceSub, decide_true, decide_false, true_and, and_true, ne_eq, String.reduceBEq, String.reduceEq, reduceIte, reduceCtorEq]))
/-! ### the law's own answer, walk, needs -/
abbrev s_l_answer : Stmt := top 27
abbrev s_l_walk : Stmt := top 28
abbrev s_l_needs : Stmt := top 29
abbrev s_l_whole : Stmt := top 22
theorem sc_l_answer : FnScope ["_law_world", "_law_question"] ["_law_world", "_law_question"] (defScope s_l_answer) := ⟨rfl, rfl, rfl, by decide +kernel, rfl, by decide +kernel, by decide +kernel⟩
theorem sc_l_walk : FnScope ["_law_told", "_law_questions", "_law_world", "_law_asked"] ["_law_told", "_law_questions", "_law_world"] (defScope s_l_walk) := ⟨rfl, rfl, rfl, by decide +kernel, rfl, by decide +kernel, by decide +kernel⟩
theorem sc_l_needs : FnScope ["_law_some", "_law_questions", "_law_most", "_law_question", "_law_yes", "_law_no"] ["_law_some", "_law_questions", "_law_most"] (defScope s_l_needs) := ⟨rfl, rfl, rfl, by decide +kernel, rfl, by decide +kernel, by decide +kernel⟩
theorem sc_l_whole : FnScope ["_law_found"] ["_law_found"] (defScope s_l_whole) := ⟨rfl, rfl, rfl, by decide +kernel, rfl, by decide +kernel, by decide +kernel⟩
theorem eqv_wD (a b : Wd) : PyData.eqv (pyD (wD a)) (pyD (wD b)) = decide (a = b) := by
  have h : ∀ a b : Wd, PyData.eqvAll (pyDs (a.map fun b => Dt.int (b2 b))) (pyDs (b.map fun b => Dt.int (b2 b))) = decide (a = b) := by
    intro a
    induction a with
    | nil => intro b; cases b <;> simp [pyDs, PyData.eqvAll]
    | cons x a ih =>
      intro b
      cases b with
      | nil => simp [pyDs, PyData.eqvAll]
      | cons y b =>
        have := ih b
        simp only [List.map_cons, pyDs, PyData.eqvAll, this]
        cases x <;> cases y <;> simp [pyD, PyData.eqv, b2]
  show PyData.eqv (.tuple _) (.tuple _) = _
  simp only [PyData.eqv]
  exact h a b
theorem in_yes {g : List Wd} {q : Wd → Bool} {w : Wd} (h : w ∈ g) : (((g.filter q).map wD).any fun z => PyData.eqv (pyD z) (pyD (wD w))) = q w := by
  rw [List.any_map, Bool.eq_iff_iff, List.any_eq_true]
  constructor
  · rintro ⟨v, hv, e⟩
    have e' : PyData.eqv (pyD (wD v)) (pyD (wD w)) = true := e
    rw [eqv_wD, decide_eq_true_eq] at e'
    rw [← e']
    exact (List.mem_filter.mp hv).2
  · intro hf
    refine ⟨w, List.mem_filter.mpr ⟨h, hf⟩, ?_⟩
    show PyData.eqv (pyD (wD w)) (pyD (wD w)) = true
    rw [eqv_wD]
    simp
def sc_c_l_needs_1 : Scope := { kind := .function, names := [(".0", .local), ("_law_world", .local), ("_law_yes", .free)], isGenerator := false, isCoroutine := false, more := [] }
theorem ndc_l_needs_1 : (["_law_world", "_law_yes"] : List Str).Nodup := by decide +kernel
theorem cm_l_needs_1 {f : Addr} {cdv : Value} {A : Around} {outer : List Env} {s : Shared} {H : Hp} {E : XK} : CmpOk (cxOf CX0 P w K mg base ["_law_some", "_law_questions", "_law_most", "_law_question", "_law_yes", "_law_no"] "_law_needs" (defScope s_l_needs) f cdv A outer s H E).nox sc_c_l_needs_1 [("_law_yes", s.heap.objs.size + 1 + 1)] ["_law_world", "_law_yes"] [none, some 4] where
  clos := by rfl
  cell := by decide +kernel
  kind := by rfl
  names := by decide +kernel
  lenN := by rfl
  capN := fun i j x h1 h2 => by
    match i, h1, h2 with
    | 0, h1, _ => cases h1
    | 1, h1, h2 =>
      cases h1
      cases h2
      exact ⟨rfl, Or.inr (Or.inl rfl), cellNe rfl, cellNe rfl, _, rfl, rfl⟩
  cls := fun x c h => by
    have m := PySem.mem_of_lookup h
    simp only [List.mem_cons, List.not_mem_nil, or_false, Prod.mk.injEq] at m
    rcases m with ⟨rfl, rfl⟩ <;> rfl
  has := fun x h => by
    have h' : List.lookup x ([(".0", .local), ("_law_world", .local), ("_law_yes", .cell)] : List (Str × NameKind)) = some .cell ∨ List.lookup x ([(".0", .local), ("_law_world", .local), ("_law_yes", .cell)] : List (Str × NameKind)) = some .free := h
    have m := h'.imp PySem.mem_of_lookup PySem.mem_of_lookup
    have e : x = "_law_yes" := by simpa using m
    rcases e with rfl
    · exact ⟨_, rfl⟩
def sc_c_l_needs_0 : Scope := { kind := .function, names := [(".0", .local), ("_law_world", .local), ("_law_answer", .globalImplicit), ("_law_question", .free)], isGenerator := false, isCoroutine := false, more := [] }
theorem ndc_l_needs_0 : (["_law_world", "_law_question"] : List Str).Nodup := by decide +kernel
theorem cm_l_needs_0 {f : Addr} {cdv : Value} {A : Around} {outer : List Env} {s : Shared} {H : Hp} {E : XK} : CmpOk (cxOf CX0 P w K mg base ["_law_some", "_law_questions", "_law_most", "_law_question", "_law_yes", "_law_no"] "_law_needs" (defScope s_l_needs) f cdv A outer s H E).nox sc_c_l_needs_0 [("_law_question", s.heap.objs.size + 1)] ["_law_world", "_law_question"] [none, some 3] where
  clos := by rfl
  cell := by decide +kernel
  kind := by rfl
  names := by decide +kernel
  lenN := by rfl
  capN := fun i j x h1 h2 => by
    match i, h1, h2 with
    | 0, h1, _ => cases h1
    | 1, h1, h2 =>
      cases h1
      cases h2
      exact ⟨rfl, Or.inr (Or.inl rfl), cellNe rfl, cellNe rfl, _, rfl, rfl⟩
  cls := fun x c h => by
    have m := PySem.mem_of_lookup h
    simp only [List.mem_cons, List.not_mem_nil, or_false, Prod.mk.injEq] at m
    rcases m with ⟨rfl, rfl⟩ <;> rfl
  has := fun x h => by
    have h' : List.lookup x ([(".0", .local), ("_law_world", .local), ("_law_answer", .globalImplicit), ("_law_question", .cell)] : List (Str × NameKind)) = some .cell ∨ List.lookup x ([(".0", .local), ("_law_world", .local), ("_law_answer", .globalImplicit), ("_law_question", .cell)] : List (Str × NameKind)) = some .free := h
    have m := h'.imp PySem.mem_of_lookup PySem.mem_of_lookup
    have e : x = "_law_question" := by simpa using m
    rcases e with rfl
    · exact ⟨_, rfl⟩
section
variable {P : Program} {w : World} {K : PySem.W.Frag} {mg : Str → Option Value} {base : Heap}
theorem ok_l_answer (T : Bl K mg) (f__law_so : Fnc P w K mg base "_law_so" 5 ["_law_thing_here", "_law_world"] (sp_l_so 4)) (Pl : Plc K mg "_law_answer" s_l_answer ["_law_world", "_law_question"]) : Fnc P w K mg base "_law_answer" 6 ["_law_world", "_law_question"] (sp_answer 4) := by
  have nd := sc_l_answer.nd
  refine Pl.fn' (k := 5) sc_l_answer fun f cdv A outer s H E hr => ⟨_, fun F => (dss_one' (ds_ret' (de_intof' (da_cons' (de_eq' (de_eq' (de_ix' hr (de_var' 0) (de_ix' hr (de_var' 1) de_int')) de_int') (de_callF' f__law_so (hr.mono (by first | decide | omega)) (da_cons' (de_ix' hr (de_var' 1) de_int') (da_cons' (de_var' 0) da_nil')))) da_nil') T.b_int))), fun ds G Q hl hsp hb hG => ?_⟩
  unfold sp_answer at hsp
  split at hsp
  · obtain ⟨w, p, rfl, rfl, hw, hd, hq⟩ := hsp
    refine rdIx_of atI_0 ?_
    refine rdIx_of (atI_wd hw.1) ?_
    refine rdEq_int ?_
    refine rdIx_of atI_1 ?_
    refine ⟨rfl, p.2, w, rfl, rfl, hw.2, hd, fun J => ?_⟩
    refine rdEq_bl ?_
    have e : (if (false ^^ decide ((false ^^ decide (b2 (w.getD p.1 false) = 1)) = p.2.so w)) = true then (1 : Int) else 0) = b2 (fit w p) := by
      unfold fit
      cases w.getD p.1 false <;> cases p.2.so w <;> rfl
    show RetD G Q (.int (if (false ^^ decide ((false ^^ decide (b2 (w.getD p.1 false) = 1)) = p.2.so w)) = true then (1 : Int) else 0)) (G ++ J)
    rw [e]
    exact RetD.pure hG trivial hq
  · exact hsp.elim
def sp_l_walk (d : Nat) : SpD := fun ds G Q => match ds with
  | [x, y, z] => ∃ (pn : Pn) (qq : Sg) (w : Wd) (i : Nat), x = pnD pn ∧ y = .ref i ∧ G[i]? = some (.lst (qq.map sD)) ∧ z = wD w ∧ qq.wf w.length ∧ (∀ p ∈ qq, p.2.dep < d) ∧ pn.ok qq.length ∧ Q (.tup [wD (walk (qfs qq) w pn).1, .int ((walk (qfs qq) w pn).2 : Nat)]) G
  | _ => False
theorem ok_l_walk (T : Bl K mg) (f__law_answer : Fnc P w K mg base "_law_answer" 6 ["_law_world", "_law_question"] (sp_answer 4)) (Pl : Plc K mg "_law_walk" s_l_walk ["_law_told", "_law_questions", "_law_world"]) : Fnc P w K mg base "_law_walk" 7 ["_law_told", "_law_questions", "_law_world"] (sp_l_walk 4) := by
  have nd := sc_l_walk.nd
  refine Pl.fn' (k := 6) sc_l_walk fun f cdv A outer s H E hr => ⟨_, fun F => (dss_cons' (ds_set' (i := 3) nd de_int')
  (dss_cons' (ds_while' (fun _ => (dt_eq' (de_ix' hr (de_var' 0) de_int') de_str'))
  (fun _ => (dss_cons' (ds_set' (i := 0) nd (de_ix' hr (de_var' 0) (de_sub' de_int' (de_callF' f__law_answer (hr.mono (by first | decide | omega)) (da_cons' (de_var' 2) (da_cons' (de_ix' hr (de_var' 1) (de_ix' hr (de_var' 0) de_int')) da_nil'))))))
  (dss_one' (ds_set' (i := 3) nd (de_add' (de_var' 3) de_int'))))))
  (dss_one' (ds_ret' (de_tup' (da_cons' (de_ix' hr (de_var' 0) de_int') (da_cons' (de_var' 3) da_nil'))))))), fun ds G Q hl hsp hb hG => ?_⟩
  unfold sp_l_walk at hsp
  split at hsp
  · obtain ⟨pn, qq, w, i, rfl, rfl, hi, rfl, hw, hd, hok, hq⟩ := hsp
    refine ⟨pn.sz + 1, whl_by (fun m σ G' => G' = G ∧ ∃ (p' : Pn) (k : Nat), m = p'.sz ∧ p'.ok qq.length ∧ (walk (qfs qq) w p').1 = (walk (qfs qq) w pn).1 ∧ k + (walk (qfs qq) w p').2 = (walk (qfs qq) w pn).2 ∧
      σ = [some (pnD p'), some (.ref i), some (wD w), some (.int (k : Nat))]) ?_ (pn.sz + 1) pn.sz _ _ (by omega) ⟨rfl, pn, 0, rfl, hok, rfl, by omega, rfl⟩⟩
    rintro m σ G' K1 hK1 ⟨rfl, p', k, rfl, hok', h1, h2, rfl⟩
    cases p' with
    | world v =>
      refine rdIx_of atI_0 ?_
      refine rdEq_sF ?_
      refine iteF ?_
      refine rdIx_of atI_1 ?_
      refine ⟨szl 2, ?_⟩
      have e1 : v = (walk (qfs qq) w pn).1 := h1
      have e2 : k = (walk (qfs qq) w pn).2 := by rw [← h2]; rfl
      rw [← e1, ← e2] at hq
      exact RetD.all hq
    | ask n y z =>
      obtain ⟨hn, hy, hz⟩ := hok'
      have hp : qq[n]? = some qq[n] := List.getElem?_eq_getElem hn
      have hmem := List.getElem_mem hn
      generalize qq[n] = p at hp hmem
      rw [walk_ask hp] at h1 h2
      refine rdIx_of atI_0 ?_
      refine rdEq_sT ?_
      refine iteT ?_
      refine rdIx_of atI_1 ?_
      refine rdIx_of (d := sD p) (by rw [at_ref, hi]; exact atI_nat (by rw [List.getElem?_map, hp]; rfl)) ?_
      refine ⟨rfl, w, p, rfl, rfl, hw p hmem, hd p hmem, ?_⟩
      cases hf : fit w p with
      | true =>
        rw [hf] at h1 h2
        refine rdIx_of (d := pnD y) atI_2 ?_
        refine Wk.here (hK1 y.sz (by show y.sz < y.sz + z.sz + 1; omega) _ _ ⟨rfl, y, k + 1, rfl, hy, h1, ?_, rfl⟩)
        have h2' : k + ((walk (qfs qq) w y).2 + 1) = (walk (qfs qq) w pn).2 := h2
        omega
      | false =>
        rw [hf] at h1 h2
        refine rdIx_of (d := pnD z) atI_3 ?_
        refine Wk.here (hK1 z.sz (by show z.sz < y.sz + z.sz + 1; omega) _ _ ⟨rfl, z, k + 1, rfl, hz, h1, ?_, rfl⟩)
        have h2' : k + ((walk (qfs qq) w z).2 + 1) = (walk (qfs qq) w pn).2 := h2
        omega
  · exact hsp.elim
def sp_needs (m : Nat) : SpD := fun ds G Q => match ds with
  | [x, y, z] => ∃ (g : List Wd) (qq : Sg) (i j c n : Nat), x = .ref i ∧ y = .ref j ∧ z = .int (c : Nat) ∧ G[i]? = some (.lst (g.map wD)) ∧ G[j]? = some (.lst (qq.map sD)) ∧ g.length ≤ 64 ∧ (∀ w ∈ g, w.length = n) ∧ qq.wf n ∧ (∀ p ∈ qq, p.2.dep < 4) ∧ c < m ∧ Q (.bl (needs (qfs qq) c g)) G
  | _ => False
theorem ok_needs_step {m : Nat} (T : Bl K mg) (f__law_answer : Fnc P w K mg base "_law_answer" 6 ["_law_world", "_law_question"] (sp_answer 4)) (f__law_needs : Fnc P w K mg base "_law_needs" (m + 6) ["_law_some", "_law_questions", "_law_most"] (sp_needs m)) (Pl : Plc K mg "_law_needs" s_l_needs ["_law_some", "_law_questions", "_law_most"]) : Fnc P w K mg base "_law_needs" (m + 7) ["_law_some", "_law_questions", "_law_most"] (sp_needs (m + 1)) := by
  have nd := sc_l_needs.nd
  refine Pl.fn' (k := m + 6) sc_l_needs fun f cdv A outer s H E hr => ⟨_, fun F => (dss_cons' (ds_if' (dt_lt' (de_len' (da_cons' (de_var' 0) da_nil') T.b_len) de_int')
  (dss_one' (ds_ret' de_bl'))
  dss_nil')
  (dss_cons' (ds_if' (dt_eq' (de_var' 2) de_int')
  (dss_one' (ds_ret' de_bl'))
  dss_nil')
  (dss_cons' (ds_for' (di_seq' (de_var' 1)) (fun _ => (dg_name' (i := 3) nd))
  (fun _ => (dss_cons' (ds_set' (i := 4) nd (de_comp' cm_l_needs_0 (di_seq' (de_var' 0)) (fun _ _ _ _ _ _ => (dg_name' (i := 0) ndc_l_needs_0)) (fun _ _ _ _ _ _ => (dif_one' (dt_eq' (de_callF' f__law_answer (hr.mono (by first | decide | omega)) (da_cons' (de_var' 0) (da_cons' (de_var' 1) da_nil'))) de_int'))) (fun _ _ _ _ _ _ => (de_var' 0))))
  (dss_cons' (ds_setC' (i := 5) nd cm_l_needs_1 (di_seq' (de_var' 0)) (fun _ _ _ _ _ _ => (dg_name' (i := 0) ndc_l_needs_1)) (fun _ _ _ _ _ _ => (dif_one' (dt_notin' hr (de_var' 0) (de_var' 1)))) (fun _ _ _ _ _ _ => (de_var' 0)))
  (dss_one' (ds_if' (dt_w' (dw_and' (dt_tru' (de_var' 4)) (dw_and' (dt_tru' (de_var' 5)) (dw_and' (dt_tru' (de_callF' f__law_needs (hr.mono (by first | decide | omega)) (da_cons' (de_var' 4) (da_cons' (de_var' 1) (da_cons' (de_sub' (de_var' 2) de_int') da_nil'))))) (dw_and1' (dt_tru' (de_callF' f__law_needs (hr.mono (by first | decide | omega)) (da_cons' (de_var' 5) (da_cons' (de_var' 1) (da_cons' (de_sub' (de_var' 2) de_int') da_nil'))))))))))
  (dss_one' (ds_ret' de_bl'))
  dss_nil'))))))
  (dss_one' (ds_ret' de_bl'))))), fun ds G Q hl hsp hb hG => ?_⟩
  unfold sp_needs at hsp
  split at hsp
  · obtain ⟨g, qq, i, j, c, n, rfl, rfl, rfl, hi, hj, h64, hln, hw, hd, hc, hq⟩ := hsp
    refine rdLen_of (len_lst hi) ?_
    rw [List.length_map]
    show if decide (((g.length : Nat) : Int) < 2) = true then _ else _
    by_cases h2 : g.length < 2
    · refine iteTb (decide_eq_true (by omega)) ?_
      have e : needs (qfs qq) c g = true := by
        cases c with
        | zero => exact decide_eq_true h2
        | succ c => unfold needs; rw [decide_eq_true h2]; rfl
      rw [e] at hq
      exact RetD.all hq
    refine iteFb (decide_eq_false (by omega)) ?_
    refine rdEq_int ?_
    show if (false ^^ decide (((c : Nat) : Int) = 0)) = true then _ else _
    cases c with
    | zero =>
      refine iteTb rfl ?_
      have e : needs (qfs qq) 0 g = false := decide_eq_false h2
      rw [e] at hq
      exact RetD.all hq
    | succ c =>
    refine iteFb (by rw [Bool.false_xor]; exact decide_eq_false (by omega)) ?_
    refine seqR_ref (cell_lst hj) ?_
    have hnd : needs (qfs qq) (c + 1) g = (qfs qq).any fun q => !(g.filter q).isEmpty && !(g.filter fun w => !q w).isEmpty && needs (qfs qq) c (g.filter q) && needs (qfs qq) c (g.filter fun w => !q w) := by
      show (decide (g.length < 2) || _) = _
      rw [decide_eq_false h2, Bool.false_or]
    refine lp_ind (fun ds σ G' => ∃ (r : Sg) (s3 s4 s5 : Option Dt), ds = r.map sD ∧ (∀ p ∈ r, p ∈ qq) ∧ Grw G G' ∧ ((qfs r).any fun q => !(g.filter q).isEmpty && !(g.filter fun w => !q w).isEmpty && needs (qfs qq) c (g.filter q) && needs (qfs qq) c (g.filter fun w => !q w)) = needs (qfs qq) (c + 1) g ∧
      σ = [some (.ref i), some (.ref j), some (.int ((c + 1 : Nat) : Int)), s3, s4, s5]) ?_ ?_ _ _ _ ⟨qq, none, none, none, rfl, fun p h => h, Grw.refl, hnd.symm, rfl⟩
    · rintro σ G' ⟨r, s3, s4, s5, hds, hr', gr, hany, rfl⟩
      cases r with
      | cons p r => cases hds
      | nil =>
        have e : needs (qfs qq) (c + 1) g = false := hany.symm
        rw [e] at hq
        exact ⟨gr.cell (cell_lst hj), RetD.cut gr hG trivial hq⟩
    · rintro d' rr K1 hK1 σ G' ⟨r, s3, s4, s5, hds, hr', gr, hany, rfl⟩
      cases r with
      | nil => cases hds
      | cons p r =>
        cases hds
        have hp := hr' p (by simp)
        refine ⟨gr.cell (cell_lst hj), ?_⟩
        refine seqR_ref (cell_lst (gr.at hi)) ?_
        refine comp0S (fun d => qf p (decW d)) (fun d => d) (fun _ => cell_lst (at_prev (gr.at hi))) (by rw [List.length_map]; exact szlt _ (by omega)) (fun d hd' acc K2 h => ?_) (fun d hd' _ acc K2 h => h) ?_
        · rw [List.mem_map] at hd'
          obtain ⟨v, hv, rfl⟩ := hd'
          refine ⟨rfl, v, p, rfl, rfl, by rw [hln v hv]; exact hw p hp, hd p hp, ?_⟩
          refine rdEq_int ?_
          rw [decW_wD] at h
          show K2 (false ^^ decide (b2 (fit v p) = 1)) _
          rw [b2_one, Bool.false_xor]
          exact h
        rw [filter_dec (qf p), List.map_id']
        have g1 : Grw G (G' ++ [.lst ((g.filter (qf p)).map wD)]) := gr.push
        have hy1 : (G' ++ [.lst ((g.filter (qf p)).map wD)] : GD)[G'.length]? = some (.lst ((g.filter (qf p)).map wD)) := at_last
        refine seqR_ref (cell_lst (g1.at hi)) ?_
        generalize (G' ++ [.lst ((g.filter (qf p)).map wD)] : GD) = G1 at g1 hy1 ⊢
        refine comp0S (fun d => !qf p (decW d)) (fun d => d) (fun _ => cell_lst (at_prev (g1.at hi))) (by rw [List.length_map]; exact szlt _ (by omega)) (fun d hd' acc K2 h => ?_) (fun d hd' _ acc K2 h => h) ?_
        · rw [List.mem_map] at hd'
          obtain ⟨v, hv, rfl⟩ := hd'
          refine rdIn_ref (cell_lst (at_prev hy1)) (fun _ e => nomatch e) (lay_wD v) (lays_map lay_wD _) (Nat.le_trans (dep_wD v) (by decide)) ?_
          rw [decW_wD] at h
          rw [in_yes hv]
          show K2 (true ^^ fit v p) _
          rw [Bool.true_xor]
          exact h
        rw [filter_dec (fun w => !qf p w), List.map_id']
        have g2 : Grw G (G1 ++ [.lst ((g.filter fun w => !qf p w).map wD)]) := g1.push
        have hy2 : (G1 ++ [.lst ((g.filter fun w => !qf p w).map wD)] : GD)[G'.length]? = some (.lst ((g.filter (qf p)).map wD)) := at_prev hy1
        have hn2 : (G1 ++ [.lst ((g.filter fun w => !qf p w).map wD)] : GD)[G1.length]? = some (.lst ((g.filter fun w => !qf p w).map wD)) := at_last
        generalize (G1 ++ [.lst ((g.filter fun w => !qf p w).map wD)] : GD) = G2 at g2 hy2 hn2 ⊢
        have hany' : ((!(g.filter (qf p)).isEmpty && !(g.filter fun w => !qf p w).isEmpty && needs (qfs qq) c (g.filter (qf p)) && needs (qfs qq) c (g.filter fun w => !qf p w)) || (qfs r).any fun q => !(g.filter q).isEmpty && !(g.filter fun w => !q w).isEmpty && needs (qfs qq) c (g.filter q) && needs (qfs qq) c (g.filter fun w => !q w)) = needs (qfs qq) (c + 1) g := hany
        have nxt : (!(g.filter (qf p)).isEmpty && !(g.filter fun w => !qf p w).isEmpty && needs (qfs qq) c (g.filter (qf p)) && needs (qfs qq) c (g.filter fun w => !qf p w)) = false → K1 [some (.ref i), some (.ref j), some (.int ((c + 1 : Nat) : Int)), some (sD p), some (.ref G'.length), some (.ref G1.length)] G2 := fun e => by
          rw [e, Bool.false_or] at hany'
          exact hK1 _ _ ⟨r, _, _, _, rfl, fun p' hp' => hr' p' (List.mem_cons_of_mem _ hp'), g2, hany', rfl⟩
        refine truM (tru_lst hy2) ?_
        rw [List.isEmpty_map]
        cases ey : (g.filter (qf p)).isEmpty with
        | true =>
          rw [ey] at nxt
          exact iteF (iteF (Wk.here (nxt rfl)))
        | false =>
        rw [ey] at nxt hany'
        refine iteT ?_
        refine truM (tru_lst hn2) ?_
        rw [List.isEmpty_map]
        cases en : (g.filter fun w => !qf p w).isEmpty with
        | true =>
          rw [en] at nxt
          exact iteF (iteF (Wk.here (nxt rfl)))
        | false =>
        rw [en] at nxt hany'
        refine iteT ?_
        have hfy : (g.filter (qf p)).length ≤ 64 := Nat.le_trans (List.length_filter_le _ _) h64
        have hfn : (g.filter fun w => !qf p w).length ≤ 64 := Nat.le_trans (List.length_filter_le _ _) h64
        have ec : (((c + 1 : Nat) : Int) - 1) = ((c : Nat) : Int) := by omega
        refine ⟨rfl, g.filter (qf p), qq, G'.length, j, c, n, rfl, rfl, by dsimp only; rw [ec], hy2, g2.at hj, hfy, fun w hw' => hln w (List.mem_filter.mp hw').1, hw, hd, by omega, ?_⟩
        cases e1 : needs (qfs qq) c (g.filter (qf p)) with
        | false =>
          rw [e1] at nxt
          exact iteF (iteF (Wk.here (nxt rfl)))
        | true =>
        rw [e1] at nxt hany'
        refine iteT ?_
        refine ⟨rfl, g.filter fun w => !qf p w, qq, G1.length, j, c, n, rfl, rfl, by dsimp only; rw [ec], hn2, g2.at hj, hfn, fun w hw' => hln w (List.mem_filter.mp hw').1, hw, hd, by omega, ?_⟩
        cases e2 : needs (qfs qq) c (g.filter fun w => !qf p w) with
        | false =>
          rw [e2] at nxt
          exact iteF (Wk.here (nxt rfl))
        | true =>
        rw [e2] at hany'
        have e : needs (qfs qq) (c + 1) g = true := hany'.symm
        rw [e] at hq
        exact iteT (RetD.cut g2 hG trivial hq)
  · exact hsp.elim
theorem ok_needs (T : Bl K mg) (f__law_answer : Fnc P w K mg base "_law_answer" 6 ["_law_world", "_law_question"] (sp_answer 4)) (Pl : Plc K mg "_law_needs" s_l_needs ["_law_some", "_law_questions", "_law_most"]) : ∀ m : Nat, Fnc P w K mg base "_law_needs" (m + 6) ["_law_some", "_law_questions", "_law_most"] (sp_needs m)
  | 0 => (Fnc.imp Pl.never fun ds G Q h => by
      unfold sp_needs at h
      split at h
      · obtain ⟨_, _, _, _, _, _, _, _, _, _, _, _, _, _, _, h, _⟩ := h; omega
      · exact h).mono (Nat.zero_le _)
  | m + 1 => ok_needs_step T f__law_answer (ok_needs T f__law_answer Pl m) Pl
def sp_l_whole : SpD := fun ds G Q => match ds with
  | [x] => ∃ i, x = .int i ∧ Q (.bl true) G
  | _ => False
theorem ok_l_whole (T : Bl K mg) (Pl : Plc K mg "_law_whole" s_l_whole ["_law_found"]) : Fnc P w K mg base "_law_whole" 1 ["_law_found"] sp_l_whole := by
  have nd := sc_l_whole.nd
  refine Pl.fn' sc_l_whole fun f cdv A outer s H E hr => ⟨_, fun F => (dss_one' (ds_ret' (de_and' (de_isi' bt_int (by decide) (de_var' 0) T.b_isinstance T.b_int) (de_one' (de_not' (de_isi' bt_bool (by decide) (de_var' 0) T.b_isinstance T.b_bool)))))), fun ds G Q hl hsp hb hG => ?_⟩
  unfold sp_l_whole at hsp
  split at hsp
  · obtain ⟨i, rfl, hq⟩ := hsp
    walk_at "dx"
    exact RetD.all hq
  · exact hsp.elim
end
end K08
namespace ST
open PySem PySem.SetTable
/-- the step of a search: of the table only the mask is asked -/
def msk (mask : Nat) : SetTable := { mask, place := #[], dummies := #[], finger := 0, led := true, moves := 0, plain := true }
def adv (mask : Nat) (p : Probe) : Probe := (msk mask).advance p
theorem adv_in {mask : Nat} {p : Probe} (h : 0 < p.more) : adv mask p = ⟨p.j + 1, p.more - 1, p.i, p.perturb, p.dummy⟩ := by
  unfold adv advance
  rw [if_pos h]
theorem adv_out {mask : Nat} {p : Probe} (h : ¬ 0 < p.more) : adv mask p = ⟨(leap mask p.i p.perturb).1, runEnd mask (leap mask p.i p.perturb).1 - (leap mask p.i p.perturb).1, (leap mask p.i p.perturb).1, (leap mask p.i p.perturb).2, p.dummy⟩ := by
  unfold adv advance
  rw [if_neg h]
  rfl
def at0 (mask i perturb : Nat) : Probe := { j := i, more := runEnd mask i - i, i, perturb, dummy := none }
def start (mask : Nat) (h : Int) : Probe := at0 mask (bits h % (mask + 1)) (bits h)
theorem adv_eq (t : SetTable) (p : Probe) : t.advance p = adv t.mask p := rfl
theorem start_eq (t : SetTable) (h : Int) : t.probeStart h = start t.mask h := rfl
theorem adv_dummy {mask : Nat} {p : Probe} : (adv mask p).dummy = p.dummy := by
  by_cases h : 0 < p.more
  · rw [adv_in h]
  · rw [adv_out h]
def pth (mask : Nat) : Nat → Probe → Probe
  | 0, p => p
  | n + 1, p => pth mask n (adv mask p)
theorem pth_add {mask : Nat} : ∀ (n m : Nat) (p : Probe), pth mask (n + m) p = pth mask m (pth mask n p)
  | 0, m, p => by rw [Nat.zero_add]; rfl
  | n + 1, m, p => by rw [Nat.succ_add_eq_add_succ, ← Nat.add_one, ← Nat.add_assoc]; exact pth_add n m (adv mask p)
theorem runEnd_ge {mask i : Nat} : i ≤ runEnd mask i ∧ runEnd mask i ≤ i + 9 := by unfold runEnd; split <;> omega
theorem runEnd_le {mask i : Nat} (h : i ≤ mask) : runEnd mask i ≤ mask := by unfold runEnd; split <;> omega
/-- within a run -/
theorem pth_run {mask : Nat} : ∀ (k : Nat) (p : Probe), k ≤ p.more → pth mask k p = { p with j := p.j + k, more := p.more - k }
  | 0, p, _ => rfl
  | k + 1, p, h => by
    show pth mask k (adv mask p) = _
    rw [adv_in (by omega), pth_run k _ (by show k ≤ p.more - 1; omega)]
    show Probe.mk (p.j + 1 + k) (p.more - 1 - k) p.i p.perturb p.dummy = Probe.mk _ _ _ _ _
    rw [Nat.add_assoc, Nat.add_comm 1 k, Nat.sub_sub, Nat.add_comm 1 k]
theorem pth_leap {mask i pb : Nat} : pth mask (runEnd mask i - i + 1) (at0 mask i pb) = at0 mask (leap mask i pb).1 (leap mask i pb).2 := by
  rw [pth_add, pth_run (mask := mask) (runEnd mask i - i) (at0 mask i pb) (Nat.le_refl _)]
  show adv mask _ = _
  rw [adv_out (by show ¬ (0 < runEnd mask i - i - (runEnd mask i - i)); omega)]
  rfl
def lp (mask : Nat) : Nat → Nat × Nat → Nat × Nat
  | 0, x => x
  | n + 1, x => lp mask n (leap mask x.1 x.2)
theorem lp_add {mask : Nat} : ∀ (n m : Nat) (x : Nat × Nat), lp mask (n + m) x = lp mask m (lp mask n x)
  | 0, m, x => by rw [Nat.zero_add]; rfl
  | n + 1, m, x => by rw [Nat.succ_add_eq_add_succ, ← Nat.add_one, ← Nat.add_assoc]; exact lp_add n m _
theorem lp_pth {mask : Nat} : ∀ (k i pb : Nat), ∃ n ≤ 10 * k, pth mask n (at0 mask i pb) = at0 mask (lp mask k (i, pb)).1 (lp mask k (i, pb)).2
  | 0, i, pb => ⟨0, by omega, rfl⟩
  | k + 1, i, pb => by
    obtain ⟨n, hn, e⟩ := lp_pth (mask := mask) k (leap mask i pb).1 (leap mask i pb).2
    have hr := runEnd_ge (mask := mask) (i := i)
    refine ⟨runEnd mask i - i + 1 + n, by omega, ?_⟩
    rw [pth_add, pth_leap, e]
    rfl
theorem lp_perturb {mask : Nat} : ∀ (k i pb : Nat), (lp mask k (i, pb)).2 = pb / 32 ^ k
  | 0, i, pb => by simp [lp]
  | k + 1, i, pb => by
    show (lp mask k ((leap mask i pb).1, pb / 32)).2 = _
    rw [lp_perturb k, Nat.div_div_eq_div_mul, Nat.pow_succ, Nat.mul_comm]
theorem lp_lt {mask : Nat} : ∀ (k i pb : Nat), i ≤ mask → (lp mask k (i, pb)).1 ≤ mask
  | 0, i, pb, h => h
  | k + 1, i, pb, h => lp_lt k _ _ (by show (i * 5 + 1 + pb / 32) % (mask + 1) ≤ mask; exact Nat.lt_succ_iff.mp (Nat.mod_lt _ (Nat.succ_pos mask)))
theorem cover0_7 : ∀ i < 8, ∀ j < 8, ∃ m < 8, (lp 7 m (i, 0)).1 = j := by decide +kernel
theorem cover0_31 : ∀ i < 32, ∀ j < 32, ∃ m < 32, (lp 31 m (i, 0)).1 = j := by decide +kernel
theorem bits_lt (h : Int) : bits h < 2 ^ 64 := by
  unfold bits
  have h1 := Int.emod_nonneg h (b := (2 ^ 64 : Int)) (by decide)
  have h2 := Int.emod_lt_of_pos h (b := (2 ^ 64 : Int)) (by decide)
  omega
/-- the sizes that are met -/
def Msk (mask : Nat) : Prop := mask = 7 ∨ mask = 31
theorem cover_lp {mask : Nat} (hm : Msk mask) (h : Int) {j : Nat} (hj : j ≤ mask) : ∃ k < turns mask, (lp mask k (bits h % (mask + 1), bits h)).1 = j := by
  have hb := bits_lt h
  have h0 : bits h / 32 ^ 13 = 0 := Nat.div_eq_of_lt (by omega)
  have hi : bits h % (mask + 1) ≤ mask := Nat.lt_succ_iff.mp (Nat.mod_lt _ (Nat.succ_pos mask))
  have h1 := lp_perturb (mask := mask) 13 (bits h % (mask + 1)) (bits h)
  have h2 := lp_lt (mask := mask) 13 (bits h % (mask + 1)) (bits h) hi
  rw [h0] at h1
  generalize hx : lp mask 13 (bits h % (mask + 1), bits h) = x at h1 h2
  have hx2 : x = (x.1, 0) := by rw [← h1]
  rcases hm with rfl | rfl
  · obtain ⟨m, hm, e⟩ := cover0_7 x.1 (by omega) j (by omega)
    refine ⟨13 + m, by unfold turns; omega, ?_⟩
    rw [lp_add, hx, hx2, e]
  · obtain ⟨m, hm, e⟩ := cover0_31 x.1 (by omega) j (by omega)
    refine ⟨13 + m, by unfold turns; omega, ?_⟩
    rw [lp_add, hx, hx2, e]
theorem cover {mask : Nat} (hm : Msk mask) (h : Int) {j : Nat} (hj : j ≤ mask) : ∃ n < 10 * turns mask, (pth mask n (start mask h)).j = j := by
  obtain ⟨k, hk, e⟩ := cover_lp hm h hj
  obtain ⟨n, hn, e2⟩ := lp_pth (mask := mask) k (bits h % (mask + 1)) (bits h)
  refine ⟨n, by omega, ?_⟩
  unfold start
  rw [e2, ← e]
  rfl
end ST
namespace ST
open PySem PySem.SetTable
/-- strictly rising -/
def Ris (l : List Nat) : Prop := l.Pairwise (· < ·)
theorem below_go {xs : Array Nat} (hr : Ris xs.toList) (j : Nat) : ∀ (fuel lo hi : Nat), hi ≤ lo + fuel → lo ≤ hi → hi ≤ xs.size →
    (∀ i x, xs[i]? = some x → i < lo → x < j) → (∀ i x, xs[i]? = some x → hi ≤ i → j ≤ x) →
    below.go xs j fuel lo hi ≤ xs.size ∧ (∀ i x, xs[i]? = some x → i < below.go xs j fuel lo hi → x < j) ∧ (∀ i x, xs[i]? = some x → below.go xs j fuel lo hi ≤ i → j ≤ x)
  | 0, lo, hi, h1, h2, h3, a, b => by
    have e : lo = hi := by omega
    subst e
    exact ⟨h3, a, b⟩
  | fuel + 1, lo, hi, h1, h2, h3, a, b => by
    unfold below.go
    by_cases h : lo < hi
    · rw [if_pos h]
      dsimp only
      have hm : (lo + hi) / 2 < xs.size := by omega
      have e : xs.getD ((lo + hi) / 2) j = xs[(lo + hi) / 2] := by simp [Array.getD, hm]
      have mono : ∀ i k x y, xs[i]? = some x → xs[k]? = some y → i < k → x < y := fun i k x y hx hy hik => by
        rw [← Array.getElem?_toList] at hx hy
        obtain ⟨p1, q1⟩ := List.getElem?_eq_some_iff.mp hx
        obtain ⟨p2, q2⟩ := List.getElem?_eq_some_iff.mp hy
        have := List.pairwise_iff_getElem.mp hr i k p1 p2 hik
        omega
      have em : xs[(lo + hi) / 2]? = some xs[(lo + hi) / 2] := Array.getElem?_eq_getElem hm
      rw [e]
      by_cases hj : xs[(lo + hi) / 2] < j
      · rw [if_pos hj]
        refine below_go hr j fuel _ _ (by omega) (by omega) h3 (fun i x hx hii => ?_) b
        by_cases hlt : i < (lo + hi) / 2
        · have := mono _ _ _ _ hx em hlt; omega
        · have e2 : i = (lo + hi) / 2 := by omega
          subst e2
          rw [em] at hx
          cases hx
          exact hj
      · rw [if_neg hj]
        refine below_go hr j fuel _ _ (by omega) (by omega) (by omega) a (fun i x hx hii => ?_)
        by_cases hlt : (lo + hi) / 2 < i
        · have := mono _ _ _ _ em hx hlt; omega
        · have e2 : i = (lo + hi) / 2 := by omega
          subst e2
          rw [em] at hx
          cases hx
          omega
    · rw [if_neg h]
      have e : lo = hi := by omega
      subst e
      exact ⟨h3, a, b⟩
theorem below_spec {xs : Array Nat} (hr : Ris xs.toList) (j : Nat) : below xs j ≤ xs.size ∧ (∀ i x, xs[i]? = some x → i < below xs j → x < j) ∧ (∀ i x, xs[i]? = some x → below xs j ≤ i → j ≤ x) :=
  below_go hr j xs.size 0 xs.size (by omega) (by omega) (by omega) (fun _ _ _ h => by omega) (fun i x hx h => by
    rw [Array.getElem?_eq_none (by omega)] at hx
    cases hx)
theorem below_at {xs : Array Nat} (hr : Ris xs.toList) {i j : Nat} (h : xs[i]? = some j) : below xs j = i := by
  obtain ⟨h1, h2, h3⟩ := below_spec hr j
  have hi : i < xs.size := (Array.getElem?_eq_some_iff.mp h).1
  rcases Nat.lt_trichotomy (below xs j) i with hlt | he | hgt
  · have hb : below xs j < xs.size := by omega
    have e := Array.getElem?_eq_getElem hb
    have h4 := h3 _ _ e (Nat.le_refl _)
    have h5 : xs[below xs j] < j := by
      have hx := h
      rw [← Array.getElem?_toList] at hx e
      obtain ⟨p1, q1⟩ := List.getElem?_eq_some_iff.mp hx
      obtain ⟨p2, q2⟩ := List.getElem?_eq_some_iff.mp e
      have := List.pairwise_iff_getElem.mp hr _ _ p2 p1 hlt
      omega
    omega
  · exact he
  · have := h2 _ _ h hgt
    omega
theorem has_nil (j : Nat) : has #[] j = false := rfl
theorem slot_live {t : SetTable} (hr : Ris t.place.toList) {i j : Nat} (h : t.place[i]? = some j) : t.slot j = .live i := by
  unfold slot
  dsimp only
  rw [below_at hr h, h]
  simp
theorem slot_empty {t : SetTable} (hd : t.dummies = #[]) {j : Nat} (h : j ∉ t.place.toList) : t.slot j = .empty := by
  unfold slot
  dsimp only
  rw [hd, has_nil, if_neg, if_neg (by decide)]
  intro e
  have e' := eq_of_beq e
  rw [← Array.getElem?_toList] at e'
  exact h (List.mem_of_getElem? e')
theorem insertAt_list {α : Type} (xs : Array α) (p : Nat) (x : α) (h : p ≤ xs.size) : (insertAt xs p x).toList = xs.toList.take p ++ x :: xs.toList.drop p := by
  unfold insertAt
  simp [Array.toList_append, List.take_of_length_le]
theorem put_ris {xs : Array Nat} (hr : Ris xs.toList) {j : Nat} (hj : j ∉ xs.toList) : Ris (insertAt xs (below xs j) j).toList := by
  obtain ⟨h1, h2, h3⟩ := below_spec hr j
  rw [insertAt_list _ _ _ h1]
  have hr' : Ris (xs.toList.take (below xs j) ++ xs.toList.drop (below xs j)) := by rw [List.take_append_drop]; exact hr
  obtain ⟨p1, p2, p3⟩ := List.pairwise_append.mp hr'
  have lo : ∀ x ∈ xs.toList.take (below xs j), x < j := fun x hx => by
    obtain ⟨i, hi⟩ := List.getElem?_of_mem hx
    rw [List.getElem?_take] at hi
    split at hi
    · rw [Array.getElem?_toList] at hi
      exact h2 i x hi (by assumption)
    · cases hi
  have hi : ∀ x ∈ xs.toList.drop (below xs j), j < x := fun x hx => by
    have hm : x ∈ xs.toList := List.mem_of_mem_drop hx
    obtain ⟨i, hi⟩ := List.getElem?_of_mem hx
    rw [List.getElem?_drop, Array.getElem?_toList] at hi
    have := h3 _ x hi (by omega)
    have hne : x ≠ j := fun e => hj (e ▸ hm)
    omega
  refine List.pairwise_append.mpr ⟨p1, List.pairwise_cons.mpr ⟨hi, p2⟩, fun a ha b hb => ?_⟩
  rcases List.mem_cons.mp hb with rfl | hb
  · exact lo a ha
  · exact p3 a ha b hb
/-- the search -/
theorem go_spec {t : SetTable} {hashAt : Nat → Int} {h : Int} (hr : Ris t.place.toList) (hd : t.dummies = #[]) : ∀ (fuel : Nat) (p : Probe), p.dummy = none → (∃ N < fuel, (pth t.mask N p).j ∉ t.place.toList) →
    (∃ n, probe.go t hashAt h fuel p = some (.empty (pth t.mask n p).j none) ∧ (pth t.mask n p).j ∉ t.place.toList ∧ ∀ m < n, ∃ i, t.place[i]? = some (pth t.mask m p).j ∧ hashAt i ≠ h) ∨
    (∃ j i next, probe.go t hashAt h fuel p = some (.candidate j i next) ∧ t.place[i]? = some j ∧ hashAt i = h)
  | 0, p, _, hN => by obtain ⟨N, hN, _⟩ := hN; omega
  | fuel + 1, p, hp, hN => by
    unfold probe.go
    by_cases hm : p.j ∈ t.place.toList
    · obtain ⟨i, hi⟩ := List.getElem?_of_mem hm
      rw [Array.getElem?_toList] at hi
      rw [slot_live hr hi]
      dsimp only
      by_cases hh : hashAt i = h
      · rw [if_pos (beq_iff_eq.mpr hh)]
        exact .inr ⟨_, _, _, rfl, hi, hh⟩
      · rw [if_neg (fun e => hh (eq_of_beq e)), adv_eq]
        obtain ⟨N, hN1, hN2⟩ := hN
        have hN0 : N ≠ 0 := fun e => by subst e; exact hN2 hm
        obtain ⟨N', rfl⟩ := Nat.exists_eq_succ_of_ne_zero hN0
        rcases go_spec hr hd fuel (adv t.mask p) (by rw [adv_dummy]; exact hp) ⟨N', by omega, hN2⟩ with ⟨n, e, h1, h2⟩ | ⟨j, i', nx, e, h1, h2⟩
        · refine .inl ⟨n + 1, e, h1, fun m hm' => ?_⟩
          match m, hm' with
          | 0, _ => exact ⟨i, hi, hh⟩
          | m + 1, hm' => exact h2 m (by omega)
        · exact .inr ⟨j, i', nx, e, h1, h2⟩
    · rw [slot_empty hd hm]
      dsimp only
      rw [hp]
      exact .inl ⟨0, rfl, hm, fun m hm' => by omega⟩
def Rch (mask : Nat) (occ : Nat → Prop) (h : Int) (j : Nat) : Prop := ∃ n, (pth mask n (start mask h)).j = j ∧ ∀ m < n, occ (pth mask m (start mask h)).j
theorem Rch.mono {mask : Nat} {occ occ' : Nat → Prop} {h : Int} {j : Nat} (r : Rch mask occ h j) (hm : ∀ j, occ j → occ' j) : Rch mask occ' h j := by
  obtain ⟨n, e, a⟩ := r
  exact ⟨n, e, fun m hm' => hm _ (a m hm')⟩
structure Ok (hs : List Int) (t : SetTable) : Prop where
  msk : Msk t.mask
  len : t.place.size = hs.length
  room : hs.length ≤ t.mask
  ris : Ris t.place.toList
  low : ∀ j ∈ t.place.toList, j ≤ t.mask
  dum : t.dummies = #[]
  rch : ∀ (i : Nat) (h : Int) (j : Nat), hs[i]? = some h → t.place[i]? = some j → Rch t.mask (· ∈ t.place.toList) h j
def Inn (mask : Nat) (p : Probe) : Prop := p.i ≤ mask ∧ p.j + p.more ≤ mask
theorem at0_inn {mask i pb : Nat} (h : i ≤ mask) : Inn mask (at0 mask i pb) := ⟨h, by
  have := runEnd_le h
  have := runEnd_ge (mask := mask) (i := i)
  show i + (runEnd mask i - i) ≤ mask
  omega⟩
theorem adv_inn {mask : Nat} {p : Probe} (h : Inn mask p) : Inn mask (adv mask p) := by
  obtain ⟨h1, h2⟩ := h
  by_cases hm : 0 < p.more
  · rw [adv_in hm]
    exact ⟨h1, by show p.j + 1 + (p.more - 1) ≤ mask; omega⟩
  · rw [adv_out hm]
    exact at0_inn (pb := 0) (show (leap mask p.i p.perturb).1 ≤ mask from Nat.lt_succ_iff.mp (Nat.mod_lt _ (Nat.succ_pos mask)))
theorem pth_inn {mask : Nat} : ∀ (n : Nat) (p : Probe), Inn mask p → Inn mask (pth mask n p)
  | 0, _, h => h
  | n + 1, _, h => pth_inn n _ (adv_inn h)
theorem pth_low {mask : Nat} (hm : Msk mask) (h : Int) (n : Nat) : (pth mask n (start mask h)).j ≤ mask := by
  have := (pth_inn n (start mask h) (at0_inn (Nat.lt_succ_iff.mp (Nat.mod_lt _ (Nat.succ_pos mask))))).2
  omega
theorem free_of : ∀ (m : Nat) {l : List Nat}, l.length ≤ m → ∃ j ≤ m, j ∉ l
  | 0, l, hl => by
    have e : l = [] := List.eq_nil_of_length_eq_zero (by omega)
    subst e
    exact ⟨0, by omega, by simp⟩
  | m + 1, l, hl => by
    by_cases h : (m + 1) ∈ l
    · have h1 := List.length_erase_of_mem h
      obtain ⟨j, hj, hn⟩ := free_of m (l := l.erase (m + 1)) (by omega)
      exact ⟨j, by omega, fun hm => hn ((List.mem_erase_of_ne (by omega)).mpr hm)⟩
    · exact ⟨m + 1, by omega, h⟩
/-- the search in a table -/
theorem probe_spec {hs : List Int} {t : SetTable} (ok : Ok hs t) (h : Int) :
    (h ∉ hs ∧ ∃ j, t.probe (fun i => (hs[i]?).getD 0) h (t.probeStart h) = some (.empty j none) ∧ j ∉ t.place.toList ∧ j ≤ t.mask ∧ Rch t.mask (· ∈ t.place.toList) h j) ∨
    (∃ j i next, t.probe (fun i => (hs[i]?).getD 0) h (t.probeStart h) = some (.candidate j i next) ∧ t.place[i]? = some j ∧ hs[i]? = some h) := by
  have at_i : ∀ (i j : Nat), t.place[i]? = some j → hs[i]? = some ((hs[i]?).getD 0) := fun i j hj => by
    have hl : i < hs.length := by rw [← ok.len]; exact (Array.getElem?_eq_some_iff.mp hj).1
    rw [List.getElem?_eq_getElem hl]
    rfl
  obtain ⟨j0, hj0, hn0⟩ := free_of t.mask (l := t.place.toList) (by rw [Array.length_toList, ok.len]; exact ok.room)
  obtain ⟨N, hN, eN⟩ := cover ok.msk h hj0
  have hg := go_spec (t := t) (hashAt := fun i => (hs[i]?).getD 0) (h := h) ok.ris ok.dum (10 * turns t.mask) (start t.mask h) rfl ⟨N, hN, by rw [eN]; exact hn0⟩
  rw [start_eq]
  rcases hg with ⟨n, e, h1, h2⟩ | ⟨j, i, nx, e, h1, h2⟩
  · refine .inl ⟨fun hmem => ?_, _, e, h1, ?_, n, rfl, fun m hm => ?_⟩
    · obtain ⟨i, hi⟩ := List.getElem?_of_mem hmem
      have hlt : i < t.place.size := by rw [ok.len]; exact (List.getElem?_eq_some_iff.mp hi).1
      have hp := Array.getElem?_eq_getElem hlt
      obtain ⟨n0, e0, a0⟩ := ok.rch i h _ hi hp
      rcases Nat.lt_trichotomy n0 n with hlt' | he | hgt
      · obtain ⟨i', hi', hne⟩ := h2 n0 hlt'
        rw [e0, ← hp] at hi'
        have : i' = i := by
          have q1 := below_at ok.ris (hi'.trans hp)
          have q2 := below_at ok.ris hp
          omega
        subst this
        exact hne (by rw [hi]; rfl)
      · subst he
        rw [e0] at h1
        exact h1 (by have := List.mem_of_getElem? (l := t.place.toList) (i := i) (by rw [Array.getElem?_toList]; exact hp); exact this)
      · exact h1 (a0 n hgt)
    · -- the slot is in the table
      exact pth_low ok.msk h n
    · obtain ⟨i, hi, _⟩ := h2 m hm
      exact List.mem_of_getElem? (l := t.place.toList) (i := i) (by rw [Array.getElem?_toList]; exact hi)
  · exact .inr ⟨j, i, nx, e, h1, by rw [at_i i j h1]; exact congrArg some h2⟩
theorem put_ok {hs : List Int} {t : SetTable} (ok : Ok hs t) {h : Int} {j : Nat} (hr : hs.length + 1 ≤ t.mask) (hj : j ∉ t.place.toList) (hjm : j ≤ t.mask) (rc : Rch t.mask (· ∈ t.place.toList) h j) :
    (t.put j).2 ≤ hs.length ∧ Ok (hs.take (t.put j).2 ++ h :: hs.drop (t.put j).2) (t.put j).1 := by
  have hb := (below_spec ok.ris j).1
  have ed : (t.put j).1.dummies = #[] := by
    show (if has t.dummies j then _ else t.dummies) = _
    rw [ok.dum, has_nil]
    rfl
  have el : (t.put j).1.place.toList = t.place.toList.take (below t.place j) ++ j :: t.place.toList.drop (below t.place j) := insertAt_list _ _ _ hb
  have hlen : t.place.toList.length = hs.length := by rw [Array.length_toList]; exact ok.len
  have hb' : below t.place j ≤ hs.length := by rw [← ok.len]; exact hb
  have hmem : ∀ x, x ∈ t.place.toList → x ∈ (t.put j).1.place.toList := fun x hx => by
    rw [el]
    rw [← List.take_append_drop (below t.place j) t.place.toList] at hx
    rcases List.mem_append.mp hx with hx | hx
    · exact List.mem_append_left _ hx
    · exact List.mem_append_right _ (List.mem_cons_of_mem _ hx)
  refine ⟨hb', ⟨ok.msk, ?_, ?_, put_ris ok.ris hj, ?_, ed, ?_⟩⟩
  · rw [← Array.length_toList, el]
    simp only [List.length_append, List.length_take, List.length_cons, List.length_drop]
    show _ = min (below t.place j) _ + (_ - below t.place j + 1)
    omega
  · show List.length _ ≤ t.mask
    simp only [List.length_append, List.length_take, List.length_cons, List.length_drop]
    show min (below t.place j) _ + (_ - below t.place j + 1) ≤ _
    omega
  · intro x hx
    rw [el] at hx
    rcases List.mem_append.mp hx with hx | hx
    · exact ok.low x (List.mem_of_mem_take hx)
    · rcases List.mem_cons.mp hx with rfl | hx
      · exact hjm
      · exact ok.low x (List.mem_of_mem_drop hx)
  · intro i h' j' hi hj'
    rw [← Array.getElem?_toList, el] at hj'
    have hi : (hs.take (below t.place j) ++ h :: hs.drop (below t.place j))[i]? = some h' := hi
    show Rch t.mask _ h' j'
    rw [List.getElem?_append] at hi hj'
    have l1 : (hs.take (below t.place j)).length = below t.place j := by rw [List.length_take]; omega
    have l2 : (t.place.toList.take (below t.place j)).length = below t.place j := by rw [List.length_take]; omega
    rw [l1] at hi
    rw [l2] at hj'
    by_cases hlt : i < below t.place j
    · rw [if_pos hlt, List.getElem?_take, if_pos hlt] at hi hj'
      rw [Array.getElem?_toList] at hj'
      exact (ok.rch i h' j' hi hj').mono hmem
    · rw [if_neg hlt] at hi hj'
      cases hk : i - below t.place j with
      | zero =>
        rw [hk] at hi hj'
        simp only [List.getElem?_cons_zero, Option.some.injEq] at hi hj'
        subst hi
        subst hj'
        exact rc.mono hmem
      | succ k =>
        rw [hk] at hi hj'
        simp only [List.getElem?_cons_succ, List.getElem?_drop] at hi hj'
        rw [Array.getElem?_toList] at hj'
        exact (ok.rch _ h' j' hi hj').mono hmem
end ST
namespace ST
open PySem PySem.SetTable
abbrev Own := Array (Option Nat)
def occ (o : Own) (j : Nat) : Prop := ∃ k, o[j]? = some (some k)
theorem occ_of {o : Own} {mask : Nat} (hs : o.size = mask + 1) {j : Nat} (hj : j ≤ mask) (h : (o.getD j (some 0)).isNone = false) : occ o j := by
  have hl : j < o.size := by omega
  simp only [Array.getD, hl, ↓reduceDIte] at h
  cases e : o[j] with
  | none => rw [show o.getInternal j hl = o[j] from rfl, e] at h; cases h
  | some k => exact ⟨k, by rw [Array.getElem?_eq_getElem hl, e]⟩
theorem vac_of {o : Own} {mask : Nat} (hs : o.size = mask + 1) {j : Nat} (hj : j ≤ mask) (h : (o.getD j (some 0)).isNone = true) : o[j]? = some none := by
  have hl : j < o.size := by omega
  simp only [Array.getD, hl, ↓reduceDIte] at h
  cases e : o[j] with
  | none => rw [Array.getElem?_eq_getElem hl, e]
  | some k => rw [show o.getInternal j hl = o[j] from rfl, e] at h; cases h
theorem free_spec {mask : Nat} {o : Own} (hs : o.size = mask + 1) : ∀ (fuel i pb : Nat), i ≤ mask → (∃ k < fuel, o[(lp mask k (i, pb)).1]? = some none) →
    ∃ j n, layClean.free mask o fuel i pb = some j ∧ o[j]? = some none ∧ (pth mask n (at0 mask i pb)).j = j ∧ ∀ m < n, occ o (pth mask m (at0 mask i pb)).j
  | 0, i, pb, _, h => by obtain ⟨k, hk, _⟩ := h; omega
  | fuel + 1, i, pb, hi, h => by
    have hr1 := runEnd_ge (mask := mask) (i := i)
    have hr2 := runEnd_le hi
    have run : ∀ k, k ≤ runEnd mask i - i → (pth mask k (at0 mask i pb)).j = i + k := fun k hk => by
      rw [pth_run (mask := mask) k (at0 mask i pb) hk]
      rfl
    unfold layClean.free
    cases hf : (List.range (runEnd mask i + 1 - i)).find? fun k => (o.getD (i + k) (some 0)).isNone with
    | some k =>
      dsimp only
      have hk1 := List.mem_of_find?_eq_some hf
      have hk2 := List.find?_some hf
      rw [List.mem_range] at hk1
      have hle : k ≤ runEnd mask i - i := by omega
      refine ⟨i + k, k, rfl, vac_of hs (by omega) hk2, run k hle, fun m hm => ?_⟩
      rw [run m (by omega)]
      refine occ_of hs (by omega) ?_
      have hm2 := List.find?_eq_some_iff_getElem.mp hf
      obtain ⟨_, q, hq, e, hall⟩ := hm2
      rw [List.getElem_range] at e
      subst e
      have := hall m hm
      rw [List.getElem_range] at this
      simpa using this
    | none =>
      dsimp only
      have hall := List.find?_eq_none.mp hf
      have hocc : ∀ m, m ≤ runEnd mask i - i → occ o (pth mask m (at0 mask i pb)).j := fun m hm => by
        rw [run m hm]
        have := hall m (List.mem_range.mpr (by omega))
        exact occ_of hs (by omega) (Bool.eq_false_iff.mpr this)
      obtain ⟨k, hk, hk2⟩ := h
      have hk0 : k ≠ 0 := fun e => by
        subst e
        obtain ⟨q, hq⟩ := hocc 0 (by omega)
        rw [show (pth mask 0 (at0 mask i pb)).j = i from rfl, show o[i]? = some none from hk2] at hq
        cases hq
      obtain ⟨k', rfl⟩ := Nat.exists_eq_succ_of_ne_zero hk0
      obtain ⟨j, n, e, h1, h2, h3⟩ := free_spec hs fuel (leap mask i pb).1 (leap mask i pb).2 (Nat.lt_succ_iff.mp (Nat.mod_lt _ (Nat.succ_pos mask))) ⟨k', by omega, hk2⟩
      refine ⟨j, runEnd mask i - i + 1 + n, e, h1, by rw [pth_add, pth_leap]; exact h2, fun m hm => ?_⟩
      by_cases hm' : m ≤ runEnd mask i - i
      · exact hocc m hm'
      · obtain ⟨q, rfl⟩ : ∃ q, m = runEnd mask i - i + 1 + q := ⟨m - (runEnd mask i - i + 1), by omega⟩
        rw [pth_add, pth_leap]
        exact h3 q (by omega)
theorem fm_congr {α β : Type} {f g : α → Option β} : ∀ {l : List α}, (∀ x ∈ l, f x = g x) → l.filterMap f = l.filterMap g
  | [], _ => rfl
  | x :: l, h => by
    rw [List.filterMap_cons, List.filterMap_cons, h x (by simp), fm_congr (l := l) fun y hy => h y (List.mem_cons_of_mem _ hy)]
/-- what lies in the slots -/
def live (mask : Nat) (o : Own) : List (Nat × Nat) := (List.range (mask + 1)).filterMap fun j => (o.getD j none).map (j, ·)
theorem live_mem {mask : Nat} {o : Own} (hs : o.size = mask + 1) {j k : Nat} : (j, k) ∈ live mask o ↔ o[j]? = some (some k) := by
  unfold live
  rw [List.mem_filterMap]
  constructor
  · rintro ⟨j', hj', e⟩
    rw [List.mem_range] at hj'
    have hl : j' < o.size := by omega
    simp only [Array.getD, hl, ↓reduceDIte] at e
    rw [show o.getInternal j' hl = o[j'] from rfl] at e
    cases e2 : o[j'] with
    | none => rw [e2] at e; cases e
    | some k' =>
      rw [e2] at e
      cases e
      rw [Array.getElem?_eq_getElem hl, e2]
  · intro h
    obtain ⟨hl, e⟩ := Array.getElem?_eq_some_iff.mp h
    refine ⟨j, List.mem_range.mpr (by omega), ?_⟩
    simp only [Array.getD, hl, ↓reduceDIte]
    rw [show o.getInternal j hl = o[j] from rfl, e]
    rfl
theorem live_ris {mask : Nat} {o : Own} : Ris ((live mask o).map (·.1)) := by
  unfold live Ris
  rw [List.map_filterMap]
  have e : (fun j => Option.map (fun x => x.1) ((o.getD j none).map (j, ·))) = Option.guard fun j => (o.getD j none).isSome := by
    funext j
    unfold Option.guard
    dsimp only
    by_cases hx : (o.getD j none).isSome = true
    · rw [if_pos hx]
      obtain ⟨k, hk⟩ := Option.isSome_iff_exists.mp hx
      rw [hk]
      rfl
    · rw [if_neg hx]
      have hk : o.getD j none = none := by simpa using hx
      rw [hk]
      rfl
  rw [e, List.filterMap_eq_filter]
  exact List.Pairwise.filter _ List.pairwise_lt_range
theorem live_set {mask : Nat} {o : Own} (hs : o.size = mask + 1) {j k : Nat} (hj : o[j]? = some none) : (live mask (o.setIfInBounds j (some k))).Perm ((j, k) :: live mask o) := by
  obtain ⟨hl, e⟩ := Array.getElem?_eq_some_iff.mp hj
  have hsp : List.range (mask + 1) = List.range j ++ j :: (List.range (mask - j)).map (· + (j + 1)) := by
    have e1 : mask + 1 = j + (1 + (mask - j)) := by omega
    rw [e1, List.range_add, List.range_add]
    simp [List.map_map, Function.comp_def, Nat.add_comm, Nat.add_left_comm]
  have same : ∀ q, q ≠ j → (o.setIfInBounds j (some k)).getD q none = o.getD q none := fun q hq => by
    simp only [Array.getD_eq_getD_getElem?]
    rw [Array.getElem?_setIfInBounds_ne (by omega)]
  have hset : (o.setIfInBounds j (some k)).getD j none = some k := by
    simp only [Array.getD_eq_getD_getElem?]
    rw [Array.getElem?_setIfInBounds_self_of_lt hl]
    rfl
  have hold : o.getD j none = none := by
    simp only [Array.getD_eq_getD_getElem?]
    rw [hj]
    rfl
  unfold live
  rw [hsp, List.filterMap_append, List.filterMap_append, List.filterMap_cons, List.filterMap_cons, hset, hold]
  dsimp only [Option.map]
  have c1 : List.filterMap (fun j_1 => ((o.setIfInBounds j (some k)).getD j_1 none).map (j_1, ·)) (List.range j) = List.filterMap (fun j => (o.getD j none).map (j, ·)) (List.range j) := by
    refine fm_congr fun q hq => ?_
    rw [same q (by have := List.mem_range.mp hq; omega)]
  have c2 : List.filterMap (fun j_1 => ((o.setIfInBounds j (some k)).getD j_1 none).map (j_1, ·)) ((List.range (mask - j)).map (· + (j + 1))) = List.filterMap (fun j => (o.getD j none).map (j, ·)) ((List.range (mask - j)).map (· + (j + 1))) := by
    refine fm_congr fun q hq => ?_
    rw [List.mem_map] at hq
    obtain ⟨r, _, rfl⟩ := hq
    rw [same _ (by omega)]
  have d1 := c1
  have d2 := c2
  unfold Option.map at d1 d2
  rw [d1, d2]
  exact List.perm_middle
structure Lay (mask : Nat) (hs : List Int) (o : Own) : Prop where
  size : o.size = mask + 1
  perm : ((live mask o).map (·.2)).Perm (List.range hs.length)
  rch : ∀ j k, o[j]? = some (some k) → ∃ h, hs[k]? = some h ∧ Rch mask (occ o) h j
theorem lay_nil (mask : Nat) : Lay mask [] (Array.replicate (mask + 1) none) := by
  have hs : (Array.replicate (mask + 1) (none : Option Nat)).size = mask + 1 := Array.size_replicate
  have no : ∀ j k, (Array.replicate (mask + 1) (none : Option Nat))[j]? ≠ some (some k) := fun j k e => by
    rw [Array.getElem?_replicate] at e
    split at e <;> cases e
  have e0 : live mask (Array.replicate (mask + 1) (none : Option Nat)) = [] := List.eq_nil_iff_forall_not_mem.mpr fun x hx => by
    obtain ⟨j, k⟩ := x
    exact no j k ((live_mem hs).mp hx)
  exact ⟨hs, by rw [e0]; exact .refl _, fun j k e => absurd e (no j k)⟩
theorem lay_step {mask : Nat} {hs : List Int} {o : Own} (hm : Msk mask) (L : Lay mask hs o) (hl : hs.length ≤ mask) (h : Int) :
    ∃ j, layClean.free mask o (turns mask) (bits h % (mask + 1)) (bits h) = some j ∧ Lay mask (hs ++ [h]) (o.setIfInBounds j (some hs.length)) := by
  have hlen : ((live mask o).map (·.1)).length = hs.length := by
    have := L.perm.length_eq
    rw [List.length_map, List.length_range] at this
    rw [List.length_map]
    exact this
  obtain ⟨j0, hj0, hn0⟩ := free_of mask (l := (live mask o).map (·.1)) (by omega)
  have hv : o[j0]? = some none := by
    have hlt : j0 < o.size := by rw [L.size]; omega
    have e := Array.getElem?_eq_getElem hlt
    cases e2 : o[j0] with
    | none => rw [e, e2]
    | some k =>
      rw [e2] at e
      exact absurd (List.mem_map.mpr ⟨(j0, k), (live_mem L.size).mpr e, rfl⟩) hn0
  obtain ⟨k, hk, ek⟩ := cover_lp hm h hj0
  obtain ⟨j, n, e, h1, h2, h3⟩ := free_spec L.size (turns mask) (bits h % (mask + 1)) (bits h) (Nat.lt_succ_iff.mp (Nat.mod_lt _ (Nat.succ_pos mask))) ⟨k, hk, by rw [ek]; exact hv⟩
  obtain ⟨hjl, _⟩ := Array.getElem?_eq_some_iff.mp h1
  have hself : (o.setIfInBounds j (some hs.length))[j]? = some (some hs.length) := Array.getElem?_setIfInBounds_self_of_lt hjl
  have hne : ∀ q, q ≠ j → (o.setIfInBounds j (some hs.length))[q]? = o[q]? := fun q hq => Array.getElem?_setIfInBounds_ne (by omega)
  have grow : ∀ q, occ o q → occ (o.setIfInBounds j (some hs.length)) q := fun q hq => by
    obtain ⟨k', hk'⟩ := hq
    have : q ≠ j := fun e => by subst e; rw [h1] at hk'; cases hk'
    exact ⟨k', by rw [hne q this]; exact hk'⟩
  refine ⟨j, e, ⟨by rw [Array.size_setIfInBounds]; exact L.size, ?_, fun q k' hq => ?_⟩⟩
  · refine ((live_set L.size h1).map _).trans ?_
    rw [List.map_cons, List.length_append, List.length_singleton, List.range_succ]
    exact ((L.perm.cons _).trans (List.perm_append_singleton _ _).symm)
  · by_cases hqj : q = j
    · subst hqj
      rw [hself] at hq
      cases hq
      exact ⟨h, by simp, n, h2, fun m hm' => grow _ (h3 m hm')⟩
    · rw [hne q hqj] at hq
      obtain ⟨h', e1, r⟩ := L.rch q k' hq
      refine ⟨h', ?_, r.mono grow⟩
      rw [List.getElem?_append_left (List.getElem?_eq_some_iff.mp e1).1]
      exact e1
/-- a fold that lays one after the other -/
def Lays (mask : Nat) (F : Option (Own × Nat) → Int → Option (Own × Nat)) : Prop := ∀ (o : Own) (k : Nat) (h : Int) (j : Nat), layClean.free mask o (turns mask) (bits h % (mask + 1)) (bits h) = some j → F (some (o, k)) h = some (o.setIfInBounds j (some k), k + 1)
theorem lay_fold {mask : Nat} (hm : Msk mask) {F : Option (Own × Nat) → Int → Option (Own × Nat)} (hF : Lays mask F) : ∀ (l done : List Int) (o : Own), Lay mask done o → done.length + l.length ≤ mask →
    ∃ o', l.foldl F (some (o, done.length)) = some (o', (done ++ l).length) ∧ Lay mask (done ++ l) o'
  | [], done, o, L, _ => ⟨o, by rw [List.append_nil]; rfl, by rw [List.append_nil]; exact L⟩
  | h :: l, done, o, L, hl => by
    rw [List.length_cons] at hl
    obtain ⟨j, e, L'⟩ := lay_step hm L (by omega) h
    obtain ⟨o', e', L''⟩ := lay_fold hm hF l (done ++ [h]) _ L' (by rw [List.length_append, List.length_singleton]; omega)
    refine ⟨o', ?_, by rw [List.append_assoc] at L''; exact L''⟩
    have el : (done ++ [h]).length = done.length + 1 := by rw [List.length_append]; rfl
    rw [List.foldl_cons, hF o done.length h j e, ← el, e', List.append_assoc]
    rfl
theorem layClean_fold (mask : Nat) (hs : Array Int) : ∃ F, Lays mask F ∧ layClean mask hs = (hs.foldl F (some (Array.replicate (mask + 1) none, 0))).map (·.1) :=
  ⟨_, fun o k h j e => by
    dsimp only [Option.bind_eq_bind, Option.bind]
    rw [e]
    rfl, rfl⟩
theorem layClean_spec {mask : Nat} (hm : Msk mask) {hs : Array Int} (hl : hs.size ≤ mask) : ∃ o, layClean mask hs = some o ∧ Lay mask hs.toList o := by
  obtain ⟨F, hF, e2⟩ := layClean_fold mask hs
  obtain ⟨o, e, L⟩ := lay_fold hm hF hs.toList [] _ (lay_nil mask) (by have := Array.length_toList (xs := hs); show 0 + hs.toList.length ≤ _; omega)
  refine ⟨o, ?_, L⟩
  rw [e2, ← Array.foldl_toList, show (0 : Nat) = ([] : List Int).length from rfl, e]
  rfl
theorem relaid_spec {hs : Array Int} {t : SetTable} {wanted mask : Nat} (hw : sizeAbove wanted - 1 = mask) (hm : Msk mask) (hl : hs.size ≤ mask) :
    ∃ t' order, t.relaid hs wanted = some (t', order) ∧ t'.mask = mask ∧ t'.led = t.led ∧ t'.plain = t.plain ∧ order.toList.Perm (List.range hs.size) ∧ Ok (order.toList.filterMap (hs[·]?)) t' := by
  obtain ⟨o, e, L⟩ := layClean_spec hm hl
  have hperm : ((live mask o).map (·.2)).Perm (List.range hs.size) := L.perm
  have hin : ∀ k ∈ (live mask o).map (·.2), k < hs.size := fun k hk => List.mem_range.mp (hperm.mem_iff.mp hk)
  have hfm : ∀ l : List Nat, (∀ k ∈ l, k < hs.size) → l.filterMap (hs[·]?) = l.map fun k => (hs[k]?).getD 0 := fun l => by
    induction l with
    | nil => intro _; rfl
    | cons k l ih =>
      intro h
      have hk := h k (by simp)
      rw [List.filterMap_cons, Array.getElem?_eq_getElem hk, List.map_cons, ih fun q hq => h q (List.mem_cons_of_mem _ hq), Array.getElem?_eq_getElem hk]
      rfl
  have hlen : (live mask o).length = hs.size := by
    have := hperm.length_eq
    rw [List.length_map, List.length_range] at this
    exact this
  refine ⟨{ mask := mask, place := ((live mask o).map (·.1)).toArray, dummies := #[], finger := t.finger, led := t.led, moves := t.movedTo mask, plain := t.plain }, ((live mask o).map (·.2)).toArray, ?_, ?_⟩
  · unfold relaid laid
    rw [hw, e]
    rfl
  · refine ⟨rfl, rfl, rfl, by simpa using hperm, ?_⟩
    have hfl : ((live mask o).map (·.2)).toArray.toList.filterMap (hs[·]?) = ((live mask o).map (·.2)).map fun k => (hs[k]?).getD 0 := by
      rw [List.toList_toArray]
      exact hfm _ hin
    rw [hfl]
    refine ⟨hm, ?_, ?_, live_ris, ?_, rfl, ?_⟩
    · simp
    · rw [List.length_map, List.length_map]
      show _ ≤ mask
      omega
    · intro j hj
      have hj : j ∈ (live mask o).map (·.1) := hj
      rw [List.mem_map] at hj
      obtain ⟨⟨j', k⟩, hx, rfl⟩ := hj
      have := (Array.getElem?_eq_some_iff.mp ((live_mem L.size).mp hx)).1
      show j' ≤ mask
      rw [L.size] at this
      omega
    · intro i h j hi hj
      have hj : ((live mask o).map (·.1))[i]? = some j := by simpa using hj
      rw [List.getElem?_map] at hi hj
      rw [List.getElem?_map] at hi
      cases ex : (live mask o)[i]? with
      | none => rw [ex] at hj; cases hj
      | some x =>
        obtain ⟨j', k⟩ := x
        rw [ex] at hi hj
        cases hj
        have hmem := List.mem_of_getElem? ex
        obtain ⟨h', e1, r⟩ := L.rch j' k ((live_mem L.size).mp hmem)
        have e2 : h = h' := by
          have : (hs[k]?).getD 0 = h := by simpa using hi
          rw [← this, ← Array.getElem?_toList, e1]
          rfl
        subst e2
        refine r.mono fun q hq => ?_
        obtain ⟨k', hk'⟩ := hq
        exact List.mem_map.mpr ⟨(q, k'), (live_mem L.size).mpr hk', rfl⟩
end ST
/-! a set of tuples of numbers: the very table -/
namespace TS
open PySem ST
abbrev IK (prog : Program) (w : World) := tupleKind (intKind prog w)
def hT (k : List Int) : Int := reduceHash (Builtin.Tuple.tupleHashOf (k.map hashInt))
section
variable {prog : Program} {w : World} {A : Around} {E : Value → Shared → Prop} {s : Shared}
theorem is_stay {h h' : Heap} {k : List Int} {b : Addr} (x : (IK prog w).is h k b) (e : ∀ o, h.get? b = some o → h'.get? b = some o) : (IK prog w).is h' k b :=
  let ⟨o, it, n, ho, r⟩ := x
  ⟨o, it, n, e o ho, r⟩
theorem is_apart {h : Heap} {k : List Int} {a b : Addr} {o : Obj} (x : (IK prog w).is h k b) (e : h.get? a = some o) (c : o.cls = .type "set") : b ≠ a := fun z => by
  obtain ⟨o', it, n, ho, hc, r⟩ := x
  subst z
  rw [e] at ho
  cases ho
  rw [c] at hc
  exact absurd (Value.type.inj hc) (by decide)
theorem items_int {k : List Int} {vs : List Value} (x : ItemsAre (intKind prog w) k vs) : ∀ v ∈ vs, ∃ i t, v = Value.int i t := by
  induction x with
  | nil => intro v h; cases h
  | cons h1 _ ih =>
    intro v h
    rcases List.mem_cons.mp h with rfl | h
    · obtain ⟨t, e⟩ := Value.isInt_shape h1
      exact ⟨_, t, e⟩
    · exact ih v h
theorem byValue_tup {k : List Int} {b : Addr} {Q : Bool → Shared → Prop} (x : (IK prog w).is s.heap k b) (q : Q true s) : wpAny (model prog w) A (hashByValue 8 (.ref b)) Q E s := by
  have ty := IsTupleKey.typeIs (s := s) x
  obtain ⟨o, it, n, ho, _, hdt, hit⟩ := x
  have hint := items_int hit
  unfold hashByValue
  refine wpAny_bind (wpAny_specialOf ty F.slot_tuple_hash.lookup ?_)
  dsimp only
  refine wpAny_bind (wpAny_seqItems ho hdt ?_)
  refine wpAny_bind ?_
  show wpAny _ _ (forIn it _ _) _ _ s
  rw [← Array.forIn_toList]
  refine wpAny_forIn_list _ (fun rest r s' => r.1 = none ∧ s' = s ∧ ∀ v ∈ rest, ∃ i t, v = Value.int i t) _ ?_ ?_ _ _ ⟨rfl, rfl, hint⟩
  · rintro v rest r s' ⟨hr, rfl, hall⟩
    obtain ⟨i, t, rfl⟩ := hall v (by simp)
    unfold hashByValue
    refine wpAny_bind (wpAny_pure ?_)
    rw [if_neg (by decide)]
    exact wpAny_pure ⟨rfl, rfl, fun u hu => hall u (List.mem_cons_of_mem _ hu)⟩
  · rintro ⟨r1, r2⟩ s' ⟨hr, rfl, _⟩
    cases hr
    exact wpAny_pure q
theorem noClass_tup {k : List Int} {b : Addr} {Q : Bool → Shared → Prop} (x : (IK prog w).is s.heap k b) (q : Q false s) : wpAny (model prog w) A (ofAClassStatement 8 (.ref b)) Q E s := by
  have ty := IsTupleKey.typeIs (s := s) x
  obtain ⟨o, it, n, ho, _, hdt, hit⟩ := x
  have hint := items_int hit
  unfold ofAClassStatement
  refine wpAny_bind (wpAny_typeOf ty ?_)
  dsimp only
  refine wpAny_bind (wpAny_pure ?_)
  rw [if_neg (by decide)]
  refine wpAny_bind (wpAny_seqItems ho hdt ?_)
  dsimp only
  refine wpAny_bind ?_
  rw [← Array.forIn_toList]
  refine wpAny_forIn_list _ (fun rest r s' => r.1 = none ∧ s' = s ∧ ∀ v ∈ rest, ∃ i t, v = Value.int i t) _ ?_ ?_ _ _ ⟨rfl, rfl, hint⟩
  · rintro v rest r s' ⟨hr, rfl, hall⟩
    obtain ⟨i, t, rfl⟩ := hall v (by simp)
    unfold ofAClassStatement
    refine wpAny_bind (wpAny_pure ?_)
    rw [if_neg (by decide)]
    exact wpAny_pure ⟨rfl, rfl, fun u hu => hall u (List.mem_cons_of_mem _ hu)⟩
  · rintro ⟨r1, r2⟩ s' ⟨hr, rfl, _⟩
    cases hr
    exact wpAny_pure q
theorem unseen {k : List Int} {b : Addr} {stored : List Value} {Q : Bool → Shared → Prop} (x : (IK prog w).is s.heap k b) (hs : ∀ v ∈ stored, ∃ k' c, v = Value.ref c ∧ (IK prog w).is s.heap k' c) (q : Q false s) :
    wpAny (model prog w) A (searchCouldBeSeen (.ref b) stored) Q E s := by
  unfold searchCouldBeSeen
  refine wpAny_bind ?_
  refine wpAny_forIn_list _ (fun rest r s' => r.1 = none ∧ s' = s ∧ ∀ v ∈ rest, ∃ k' c, v = Value.ref c ∧ (IK prog w).is s.heap k' c) _ ?_ ?_ _ _ ⟨rfl, rfl, hs⟩
  · rintro v rest r s' ⟨hr, rfl, hall⟩
    obtain ⟨k', c, rfl, x'⟩ := hall v (by simp)
    have nx : ∀ u ∈ rest, ∃ k' c, u = Value.ref c ∧ (IK prog w).is s'.heap k' c := fun u hu => hall u (List.mem_cons_of_mem _ hu)
    dsimp only
    by_cases hbc : (b == c) = true
    · rw [hbc]
      simp only [Bool.true_or, ↓reduceIte]
      exact wpAny_pure ⟨rfl, rfl, nx⟩
    · rw [Bool.eq_false_iff.mpr hbc]
      have hcv : (false || carriedByValue (Value.ref b) && carriedByValue (Value.ref c)) = false := rfl
      rw [hcv]
      rw [if_neg (by decide)]
      refine wpAny_bind ((IK prog w).quiet x ?_)
      rw [if_neg (by decide)]
      refine wpAny_bind ((IK prog w).quiet x' ?_)
      rw [if_neg (by decide)]
      refine wpAny_bind (noClass_tup x ?_)
      rw [if_neg (by decide)]
      refine wpAny_bind (noClass_tup x' ?_)
      rw [if_neg (by decide)]
      exact wpAny_pure ⟨rfl, rfl, nx⟩
  · rintro ⟨r1, r2⟩ s' ⟨hr, rfl, _⟩
    cases hr
    exact wpAny_pure q
end
/-- the set at an address: its keys in the table's order -/
structure Has (prog : Program) (w : World) (N : Nat) (h : Heap) (ks : List (List Int)) (es : Array (Int × Value)) : Prop where
  len : es.size = ks.length
  ent : ∀ (i : Nat) (k : List Int), ks[i]? = some k → ∃ b : Addr, es[i]? = some (hT k, Value.ref b) ∧ (IK prog w).is h k b ∧ b < N
def Sz (mask n : Nat) : Prop := (mask = 7 ∧ n ≤ 4) ∨ (mask = 31 ∧ n ≤ 16)
def SetT (prog : Program) (w : World) (N : Nat) (h : Heap) (a : Addr) (ks : List (List Int)) : Prop :=
  ∃ (es : Array (Int × Value)) (ep : Nat) (t : SetTable), h.get? a = some { cls := .type "set", dict := none, data := .set es ep t, slots := #[] } ∧ Ok (ks.map hT) t ∧ Has prog w N h ks es ∧ Sz t.mask ks.length
theorem Has.hs {prog : Program} {w : World} {N : Nat} {h : Heap} {ks : List (List Int)} {es : Array (Int × Value)} (x : Has prog w N h ks es) : (es.map (·.1)).toList = ks.map hT := by
  refine List.ext_getElem? fun i => ?_
  rw [Array.getElem?_toList, Array.getElem?_map, List.getElem?_map]
  cases e : ks[i]? with
  | none =>
    have : es[i]? = none := by
      rw [Array.getElem?_eq_none_iff, x.len]
      exact List.getElem?_eq_none_iff.mp e
    rw [this]
    rfl
  | some k =>
    obtain ⟨b, eb, _⟩ := x.ent i k e
    rw [eb]
    rfl
theorem Has.ins {prog : Program} {w : World} {N : Nat} {h h' : Heap} {ks : List (List Int)} {es : Array (Int × Value)} {k : List Int} {b : Addr} {p : Nat} (x : Has prog w N h ks es) (hp : p ≤ ks.length) (hb : (IK prog w).is h' k b) (hN : b < N)
    (st : ∀ k' c, (IK prog w).is h k' c → (IK prog w).is h' k' c)   : Has prog w N h' (ks.take p ++ k :: ks.drop p) (SetTable.insertAt es p (hT k, .ref b)) := by
  have el : (SetTable.insertAt es p (hT k, .ref b)).toList = es.toList.take p ++ (hT k, .ref b) :: es.toList.drop p := insertAt_list _ _ _ (by rw [x.len]; exact hp)
  have hle : es.toList.length = ks.length := by rw [Array.length_toList]; exact x.len
  refine ⟨?_, fun i k' hi => ?_⟩
  · rw [← Array.length_toList, el]
    simp only [List.length_append, List.length_take, List.length_cons, List.length_drop]
    omega
  · rw [← Array.getElem?_toList, el]
    rw [List.getElem?_append] at hi ⊢
    have l1 : (ks.take p).length = p := by rw [List.length_take]; omega
    have l2 : (es.toList.take p).length = p := by rw [List.length_take]; omega
    rw [l1] at hi
    rw [l2]
    by_cases hlt : i < p
    · rw [if_pos hlt, List.getElem?_take, if_pos hlt] at hi ⊢
      obtain ⟨c, e, r, rN⟩ := x.ent i k' hi
      exact ⟨c, by rw [Array.getElem?_toList]; exact e, st _ _ r, rN⟩
    · rw [if_neg hlt] at hi ⊢
      cases hk : i - p with
      | zero =>
        rw [hk] at hi
        simp only [List.getElem?_cons_zero, Option.some.injEq] at hi
        subst hi
        exact ⟨b, rfl, hb, hN⟩
      | succ q =>
        rw [hk] at hi
        simp only [List.getElem?_cons_succ, List.getElem?_drop] at hi ⊢
        obtain ⟨c, e, r, rN⟩ := x.ent _ k' hi
        exact ⟨c, by rw [Array.getElem?_toList]; exact e, st _ _ r, rN⟩
theorem fm_map {α : Type} [Inhabited α] (l : List α) : ∀ o : List Nat, (∀ i ∈ o, i < l.length) → o.filterMap (l[·]?) = o.map fun i => (l[i]?).getD default
  | [], _ => rfl
  | i :: o, h => by
    have hi := h i (by simp)
    rw [List.filterMap_cons, List.getElem?_eq_getElem hi, List.map_cons, fm_map l o fun q hq => h q (List.mem_cons_of_mem _ hq), List.getElem?_eq_getElem hi]
    rfl
theorem Has.turn {prog : Program} {w : World} {N : Nat} {h h' : Heap} {ks : List (List Int)} {es : Array (Int × Value)} {o : Array Nat} (x : Has prog w N h ks es) (ho : o.toList.Perm (List.range ks.length))
    (st : ∀ k' c, (IK prog w).is h k' c → (IK prog w).is h' k' c)   : Has prog w N h' (o.toList.filterMap (ks[·]?)) (o.filterMap (es[·]?)) := by
  have hin : ∀ i ∈ o.toList, i < ks.length := fun i hi => List.mem_range.mp (ho.mem_iff.mp hi)
  have e1 := fm_map ks o.toList hin
  have e2 : (o.filterMap (es[·]?)).toList = o.toList.map fun i => (es.toList[i]?).getD default := by
    have : (o.filterMap (es[·]?)).toList = o.toList.filterMap (es.toList[·]?) := by
      rw [Array.toList_filterMap]
      congr 1
      funext i
      rw [Array.getElem?_toList]
    rw [this]
    exact fm_map es.toList o.toList fun i hi => by rw [Array.length_toList, x.len]; exact hin i hi
  refine ⟨?_, fun i k hi => ?_⟩
  · rw [← Array.length_toList, e2, e1, List.length_map, List.length_map]
  · rw [e1, List.getElem?_map] at hi
    rw [← Array.getElem?_toList, e2, List.getElem?_map]
    cases eo : o.toList[i]? with
    | none => rw [eo] at hi; cases hi
    | some j =>
      rw [eo] at hi
      have hj := hin j (List.mem_of_getElem? eo)
      have ek : ks[j]? = some k := by
        have hi' : some ((ks[j]?).getD default) = some k := hi
        rw [List.getElem?_eq_getElem hj] at hi' ⊢
        exact hi'
      obtain ⟨c, e, r, rN⟩ := x.ent j k ek
      refine ⟨c, ?_, st _ _ r, rN⟩
      show some ((es.toList[j]?).getD default) = _
      rw [Array.getElem?_toList, e]
      rfl
end TS
namespace TS
open PySem ST
section
variable {prog : Program} {w : World} {A : Around} {E : Value → Shared → Prop} {s : Shared}
theorem fits_of {ks : List (List Int)} {es : Array (Int × Value)} {t : SetTable} {N : Nat} {h : Heap} (ok : Ok (ks.map hT) t) (x : Has prog w N h ks es) : t.fits es.size = true := by
  unfold SetTable.fits SetTable.fill
  have h1 := ok.len
  have h2 := ok.room
  rw [List.length_map] at h1 h2
  rw [ok.dum, h1, x.len]
  simp
  omega
theorem odd_of {ks : List Int} {t : SetTable} (ok : Ok ks t) : t.gaveWay = false := by
  unfold SetTable.gaveWay
  rcases ok.msk with h | h <;> rw [h] <;> rfl
/-- the search of a key -/
theorem search {N : Nat} {a b : Addr} {k : List Int} {ks : List (List Int)} {es : Array (Int × Value)} {ep : Nat} {t : SetTable} {Q : SetFound → Shared → Prop} (hu : A.units < cLine)
    (ho : s.heap.get? a = some { cls := .type "set", dict := none, data := .set es ep t, slots := #[] }) (ok : Ok (ks.map hT) t) (x : Has prog w N s.heap ks es) (hb : (IK prog w).is s.heap k b)
    (inj : ∀ k' ∈ ks, hT k' = hT k → k' = k)
    (h1 : k ∈ ks → Q (.there none) s)
    (h2 : k ∉ ks → ∀ j, j ∉ t.place.toList → j ≤ t.mask → Rch t.mask (· ∈ t.place.toList) (hT k) j → Q (.free j false) s) :
    wpAny (model prog w) A (setSearch a (.ref b) (hT k) true) Q E s := by
  have hf := fits_of ok x
  unfold setSearch setSearchFrom
  refine wpAny_bind (wpAny_setState_of ho rfl hf ?_)
  dsimp only
  rw [odd_of ok]
  rw [if_neg (by decide)]
  have hat : ∀ i : Nat, ((es[i]?).map (·.1)).getD 0 = (((ks.map hT)[i]?).getD 0 : Int) := fun i => by
    rw [← x.hs, Array.getElem?_toList, Array.getElem?_map]
  have hfun : (fun i : Nat => ((es[i]?).map (·.1)).getD (0 : Int)) = fun i => ((ks.map hT)[i]?).getD 0 := funext hat
  rcases probe_spec ok (hT k) with ⟨hn, j, e, hj1, hj2, rc⟩ | ⟨j, i, nx, e, hp, hi⟩
  · have e' : t.probe (fun i : Nat => ((es[i]?).map (·.1)).getD (0 : Int)) (hT k) (t.probeStart (hT k)) = some (.empty j none) := by rw [hfun]; exact e
    show wpAny _ _ (match t.probe (fun i : Nat => ((es[i]?).map (·.1)).getD (0 : Int)) (hT k) (t.probeStart (hT k)) with | some met => _ | _ => _) _ _ _
    rw [e']
    dsimp only
    exact wpAny_pure (h2 (fun hm => hn (List.mem_map.mpr ⟨k, hm, rfl⟩)) j hj1 hj2 rc)
  · have e' : t.probe (fun i : Nat => ((es[i]?).map (·.1)).getD (0 : Int)) (hT k) (t.probeStart (hT k)) = some (.candidate j i nx) := by rw [hfun]; exact e
    show wpAny _ _ (match t.probe (fun i : Nat => ((es[i]?).map (·.1)).getD (0 : Int)) (hT k) (t.probeStart (hT k)) with | some met => _ | _ => _) _ _ _
    rw [e']
    dsimp only
    rw [List.getElem?_map] at hi
    cases ek : ks[i]? with
    | none => rw [ek] at hi; cases hi
    | some k' =>
      rw [ek] at hi
      have hk : k' = k := inj k' (List.mem_of_getElem? ek) (Option.some.inj hi)
      subst hk
      obtain ⟨c, ec, hc, _⟩ := x.ent i k' ek
      by_cases hl : t.led = true
      · rw [hl, if_neg (by decide)]
        rw [ec]
        dsimp only
        refine wpAny_bind (wpAny_holding ((IK prog w).eqBool hu hc hb ?_))
        refine wpAny_bind (wpAny_setState_of ho rfl hf ?_)
        rw [decide_eq_true rfl]
        exact wpAny_pure (h1 (List.mem_of_getElem? ek))
      · rw [Bool.eq_false_iff.mpr hl, if_pos (by decide)]
        refine wpAny_bind (unseen hb (fun v hv => ?_) ?_)
        · rw [List.mem_map] at hv
          obtain ⟨e0, he0, rfl⟩ := hv
          have he1 : e0 ∈ es.toList := by
            have := Array.mem_toList_iff.mp he0
            exact Array.mem_toList_iff.mpr (Array.mem_of_mem_filter this)
          obtain ⟨q, hq⟩ := List.getElem?_of_mem he1
          have hql : q < ks.length := by rw [← x.len, ← Array.length_toList]; exact (List.getElem?_eq_some_iff.mp hq).1
          obtain ⟨d, ed, hd, _⟩ := x.ent q _ (List.getElem?_eq_getElem hql)
          rw [← Array.getElem?_toList, hq] at ed
          cases ed
          exact ⟨_, d, rfl, hd⟩
        rw [if_neg (by decide)]
        rw [ec]
        dsimp only
        refine wpAny_bind (wpAny_holding ((IK prog w).eqBool hu hc hb ?_))
        refine wpAny_bind (wpAny_setState_of ho rfl hf ?_)
        rw [decide_eq_true rfl]
        exact wpAny_pure (h1 (List.mem_of_getElem? ek))
end
end TS
namespace TS
open PySem ST
section
variable {prog : Program} {w : World} {A : Around} {E : Value → Shared → Prop} {s : Shared}
theorem put_at {h : Heap} {a : Addr} {es es' : Array (Int × Value)} {ep : Nat} {t t' : SetTable} (ho : h.get? a = some { cls := .type "set", dict := none, data := .set es ep t, slots := #[] }) :
    (h.update a (Obj.putSet es' t')).get? a = some { cls := .type "set", dict := none, data := .set es' (ep + 1) t', slots := #[] } := by
  have := Heap.get?_update_self (Obj.putSet es' t') ho (by rw [putSet_of _ _ (es := es) (ep := ep) (t := t) rfl]; rfl)
  rw [putSet_of _ _ (es := es) (ep := ep) (t := t) rfl] at this
  exact this
theorem same_is {h h' : Heap} {a : Addr} {o : Obj} (ho : h.get? a = some o) (hc : o.cls = .type "set") (sb : Heap.SameBut a h h') : ∀ k c, (IK prog w).is h k c → (IK prog w).is h' k c := fun k c x =>
  is_stay x fun ob q => (sb.2 c (is_apart x ho hc)).trans q
theorem perm_ins {α : Type} (l : List α) (p : Nat) (x : α) : (l.take p ++ x :: l.drop p).Perm (x :: l) := by
  have := List.perm_middle (l₁ := l.take p) (l₂ := l.drop p) (a := x)
  rw [List.take_append_drop] at this
  exact this
theorem full_of {t : SetTable} (hd : t.dummies = #[]) : t.tooFull = decide (t.place.size * 5 ≥ t.mask * 3) := by
  unfold SetTable.tooFull SetTable.fill
  rw [hd]
  rfl
theorem add_tup {N : Nat} {a b : Addr} {k : List Int} {ks : List (List Int)} {Q : Bool → Shared → Prop} (hu : A.units < cLine) (hS : SetT prog w N s.heap a ks) (hb : (IK prog w).is s.heap k b) (hbN : b < N)
    (inj : ∀ k' ∈ ks, hT k' = hT k → k' = k) (hroom : k ∉ ks → ks.length + 1 ≤ 16)
    (h : ∀ (bl : Bool) (h' : Heap) (ks' : List (List Int)), Heap.SameBut a s.heap h' → SetT prog w N h' a ks' → (k ∈ ks ∧ ks' = ks) ∨ (k ∉ ks ∧ ks'.Perm (k :: ks)) → Q bl { s with heap := h' }) :
    wpAny (model prog w) A (setAddHashed a (.ref b) (hT k)) Q E s := by
  have hS0 := hS
  obtain ⟨es, ep, t, ho, ok, x, sz⟩ := hS
  have hf := fits_of ok x
  unfold setAddHashed setAddHashedIn
  refine wpAny_holding (wpAny_bind (wpAny_setState_of ho rfl hf ?_))
  dsimp only
  have hsc : byScan (.ref b) es = false := rfl
  rw [hsc, if_neg (by decide)]
  refine wpAny_bind (search hu ho ok x hb inj (fun hm => ?_) fun hn j hj1 hj2 rc => ?_)
  · dsimp only
    exact wpAny_pure (h false s.heap ks (Heap.SameBut.refl a s.heap) hS0 (.inl ⟨hm, rfl⟩))
  · dsimp only
    refine wpAny_bind (wpAny_setState_of ho rfl hf ?_)
    dsimp only
    have hl16 := hroom hn
    have hmask : ks.length + 1 ≤ t.mask := by rcases sz with ⟨h1, h2⟩ | ⟨h1, h2⟩ <;> omega
    obtain ⟨hp, okp⟩ := put_ok ok (h := hT k) (by rw [List.length_map]; exact hmask) hj1 hj2 rc
    rw [List.length_map] at hp
    have hmap : (ks.map hT).take (t.put j).2 ++ hT k :: (ks.map hT).drop (t.put j).2 = (ks.take (t.put j).2 ++ k :: ks.drop (t.put j).2).map hT := by
      rw [List.map_append, List.map_cons, List.map_take, List.map_drop]
    rw [hmap] at okp
    have hmk : (t.put j).1.mask = t.mask := rfl
    have hpl : (t.put j).1.plain = t.plain := rfl
    generalize (t.put j).1 = t1 at okp hmk hpl ⊢
    generalize (t.put j).2 = p at okp hp ⊢
    suffices fin : wpAny (model prog w) A (do storeSet a (SetTable.insertAt es p (hT k, .ref b)) t1; if t1.tooFull = true then (do setRelay a (SetTable.grown (es.size + 1)); pure true) else pure true) Q E s by
      by_cases hpl : t1.plain = true
      · rw [if_pos hpl]; exact wpAny_bind (byValue_tup hb fin)
      · rw [if_neg hpl]; exact wpAny_bind (wpAny_pure fin)
    have len1 : (ks.take p ++ k :: ks.drop p).length = ks.length + 1 := (perm_ins ks p k).length_eq
    have sb1 := Heap.SameBut.update s.heap a (Obj.putSet (SetTable.insertAt es p (hT k, .ref b)) t1)
    have st1 := same_is (prog := prog) (w := w) ho rfl sb1
    have has1 := x.ins hp (st1 _ _ hb) hbN st1
    have ho1 := put_at (es' := SetTable.insertAt es p (hT k, .ref b)) (t' := t1) ho
    have hz : (SetTable.insertAt es p (hT k, .ref b)).size ≤ sizeLine := by rw [has1.len, len1, sizeLine_eq]; omega
    refine wpAny_bind (wpAny_storeSet_of ho rfl ?_ hz)
    have hfull : t1.tooFull = decide ((ks.length + 1) * 5 ≥ t.mask * 3) := by
      rw [full_of okp.dum, hmk]
      have := okp.len
      rw [List.length_map, len1] at this
      rw [this]
    rw [hfull]
    by_cases h5 : (ks.length + 1) * 5 ≥ t.mask * 3
    · rw [decide_eq_true h5]
      rw [if_pos rfl]
      have hm7 : t.mask = 7 ∧ ks.length = 4 := by rcases sz with ⟨h1, h2⟩ | ⟨h1, h2⟩ <;> omega
      unfold setRelay
      refine wpAny_bind (wpAny_bind (wpAny_setState_of ho1 rfl (fits_of okp has1) ?_))
      dsimp only
      have hes : es.size = 4 := by rw [x.len]; exact hm7.2
      rw [hes]
      have hsa : SetTable.sizeAbove (SetTable.grown (4 + 1)) = 32 := by decide +kernel
      rw [hsa, if_neg (by rw [sizeLine_eq]; decide)]
      have hsz1 : ((SetTable.insertAt es p (hT k, .ref b)).map (·.1)).size = 5 := by rw [Array.size_map, has1.len, len1]; omega
      obtain ⟨t2, order, e2, m2, _, _, hperm, ok2⟩ := relaid_spec (hs := (SetTable.insertAt es p (hT k, .ref b)).map (·.1)) (t := t1) (wanted := SetTable.grown (4 + 1)) (mask := 31) (by rw [hsa]) (.inr rfl) (by rw [hsz1]; decide)
      rw [hsz1] at hperm
      have hperm' : order.toList.Perm (List.range (ks.take p ++ k :: ks.drop p).length) := by rw [len1, hm7.2]; exact hperm
      have sb2 := Heap.SameBut.update (s.heap.update a (Obj.putSet (SetTable.insertAt es p (hT k, .ref b)) t1)) a (Obj.putSet (order.filterMap ((SetTable.insertAt es p (hT k, .ref b))[·]?)) t2)
      have st2 := same_is (prog := prog) (w := w) ho1 rfl sb2
      have has2 := has1.turn hperm' st2
      have len2 : (order.toList.filterMap ((ks.take p ++ k :: ks.drop p)[·]?)).length = 5 := by
        rw [fm_map _ _ fun i hi => List.mem_range.mp (hperm'.mem_iff.mp hi), List.length_map, hperm.length_eq, List.length_range]
      have hks : (order.toList.filterMap ((ks.take p ++ k :: ks.drop p)[·]?)).Perm (ks.take p ++ k :: ks.drop p) := by
        have e3 : (List.range (ks.take p ++ k :: ks.drop p).length).filterMap ((ks.take p ++ k :: ks.drop p)[·]?) = ks.take p ++ k :: ks.drop p := List.filterMap_getElem?_range_length _
        have := hperm'.filterMap ((ks.take p ++ k :: ks.drop p)[·]?)
        rw [e3] at this
        exact this
      have hok2 : order.toList.filterMap (((SetTable.insertAt es p (hT k, .ref b)).map (·.1))[·]?) = (order.toList.filterMap ((ks.take p ++ k :: ks.drop p)[·]?)).map hT := by
        rw [List.map_filterMap]
        refine fm_congr fun i _ => ?_
        rw [← Array.getElem?_toList, has1.hs, List.getElem?_map]
      rw [hok2] at ok2
      have hsz2 : (order.filterMap ((SetTable.insertAt es p (hT k, .ref b))[·]?)).size = (SetTable.insertAt es p (hT k, .ref b)).size := by rw [has2.len, len2, has1.len, len1, hm7.2]
      rw [e2]
      show wpAny _ _ ((if ((order.filterMap ((SetTable.insertAt es p (hT k, .ref b))[·]?)).size != (SetTable.insertAt es p (hT k, .ref b)).size) = true then _ else _) >>= _) _ _ _
      rw [hsz2, bne_self_eq_false]
      refine wpAny_bind (wpAny_pure ?_)
      dsimp only
      refine wpAny_storeSet_of ho1 rfl ?_ (by rw [has2.len, len2, sizeLine_eq]; decide)
      refine wpAny_pure ?_
      refine h true _ _ (sb1.trans sb2) ⟨_, _, t2, put_at ho1, ok2, has2, .inr ⟨m2, by rw [len2]; decide⟩⟩ (.inr ⟨hn, hks.trans (perm_ins ks p k)⟩)
    · rw [decide_eq_false h5]
      rw [if_neg (by decide)]
      refine wpAny_pure ?_
      refine h true _ _ sb1 ⟨_, _, t1, ho1, okp, has1, ?_⟩ (.inr ⟨hn, perm_ins ks p k⟩)
      rw [hmk, len1]
      rcases sz with ⟨h1, h2⟩ | ⟨h1, h2⟩
      · exact .inl ⟨h1, by omega⟩
      · exact .inr ⟨h1, by omega⟩
end
end TS
/-! sets of small numbers (below 8): the very table, so that they can be walked -/
namespace SS
open PySem
def hs (p : Nat → Bool) : List Nat := (List.range 8).filter p
def tab (led : Bool) (l : List Nat) : SetTable := { mask := if l.length < 5 then 7 else 31, place := l.toArray, dummies := #[], finger := 0, led := led, moves := if l.length < 5 then 0 else 1, plain := true }
def pos (l : List Nat) (n : Nat) : Nat := (l.filter fun i => decide (i < n)).length
def ins (l : List Nat) (n : Nat) : List Nat := (List.range 8).filter fun i => l.contains i || i == n
end SS
namespace SS
open PySem PyProof.Rows
def ent (tk : Nat → Tok) (n : Nat) : Int × Value := ((n : Int), .int (n : Int) (tk n))
/-- the set at an address: its numbers, its very table -/
def SetAt (h : Heap) (a : Addr) (led : Bool) (p : Nat → Bool) : Prop :=
  ∃ (tk : Nat → Tok) (ep : Nat), h.get? a = some { cls := .type "set", dict := none, data := .set ((hs p).map (ent tk)).toArray ep (tab led (hs p)), slots := #[] }
end SS
namespace SS
open PySem PyProof.Rows
def met (val : Nat → Nat) (i : Nat) (m : Nat) : Bool := (List.range i).any fun j => val j == m
theorem SetAt.at {h h' : Heap} {a : Addr} {led : Bool} {p : Nat → Bool} (x : SetAt h a led p) (e : ∀ o, h.get? a = some o → h'.get? a = some o) : SetAt h' a led p := by
  obtain ⟨tk, ep, g⟩ := x
  exact ⟨tk, ep, e _ g⟩
section
variable {prog : Program} {w : World} {A : Around} {E : Value → Shared → Prop} {s : Shared}
abbrev ledOf (w : World) : Bool := !(w.params.followText "set-order")
theorem code_set_new (a : Value) {Q₁ : Value → Shared → Prop}
    (h : Q₁ (.ref s.heap.objs.size) { s with heap := s.heap.push { cls := .type "set", dict := none, data := .set #[] 0 (.fresh 0 0 (ledOf w)) } }) :
    codeAny (model prog w) A (.call (.builtin "set.__new__") ⟨[.type "set", a], []⟩) (wants Q₁ E) s := by
  refine codeAny_of_tree ?_
  show wpAny _ A.in1 (do checkBuiltinCall "set.__new__" ⟨[.type "set", a], []⟩; again (.builtin "set.__new__" ⟨[.type "set", a], []⟩)) _ _ s
  refine wpAny_bind (wpAny_of_eq (PySem.F.newCall_set_1 a) (wpAny_pure ⟨plainId_quiet PySem.F.plain_set_new _, codeAny_builtin PySem.F.entry_set_new ?_⟩))
  rw [Around.under_plainId PySem.F.plain_set_new _]
  unfold Builtin.«set.__new__» Builtin.Frozenset.newClass
  have hsub := sub_set_self
  obtain ⟨hp, g, d, tk, os⟩ := s
  dsimp only
  wp_walk
  refine wpAny_askSetting (wpAny_pure ?_)
  dsimp only
  simp only [newObj]
  refine wpAny_bind (wpAny_alloc (wpAny_pure ?_))
  exact wpAny_pure h
end
end SS
namespace SS
open PySem PyProof.Rows
theorem sub_list_set : isSubtype (.type "list") (.type "set") = pure false := by rw [isSubtype_type]; kernel_rfl
theorem sub_list_frozenset : isSubtype (.type "list") (.type "frozenset") = pure false := by rw [isSubtype_type]; kernel_rfl
end SS
namespace TS
open PySem ST SS PyProof.Rows
/-- the keys that come -/
structure Cap (kk : Nat → List Int) (n : Nat) : Prop where
  inj : ∀ i j, i < n → j < n → hT (kk i) = hT (kk j) → kk i = kk j
  few : ∀ l : List (List Int), l.Nodup → (∀ x ∈ l, ∃ j, j < n ∧ kk j = x) → l.length ≤ 16
structure Got (prog : Program) (w : World) (N : Nat) (h : Heap) (S : Addr) (kk : Nat → List Int) (i : Nat) (ks : List (List Int)) : Prop where
  set : SetT prog w N h S ks
  nd : ks.Nodup
  mem : ∀ x, x ∈ ks ↔ ∃ j, j < i ∧ kk j = x
theorem got_nil {prog : Program} {w : World} {N : Nat} {h : Heap} {S : Addr} {kk : Nat → List Int} {led : Bool} (e : h.get? S = some { cls := .type "set", dict := none, data := .set #[] 0 (.fresh 0 0 led) }) : Got prog w N h S kk 0 [] := by
  refine ⟨⟨#[], 0, _, e, ⟨.inl rfl, rfl, Nat.zero_le _, List.Pairwise.nil, fun j hj => ?_, rfl, fun i q j hq => ?_⟩, ⟨rfl, fun i k hk => ?_⟩, .inl ⟨rfl, Nat.zero_le _⟩⟩, List.nodup_nil, fun x => ⟨fun hx => ?_, fun hx => ?_⟩⟩
  · cases hj
  · simp at hq
  · simp at hk
  · cases hx
  · obtain ⟨j, hj, _⟩ := hx
    omega
theorem SetT.to {prog : Program} {w : World} {N : Nat} {h h' : Heap} {S : Addr} {ks : List (List Int)} (x : SetT prog w N h S ks) (e : ∀ o, h.get? S = some o → h'.get? S = some o) (st : ∀ b < N, ∀ o, h.get? b = some o → h'.get? b = some o) : SetT prog w N h' S ks := by
  obtain ⟨es, ep, t, ho, ok, hs, sz⟩ := x
  refine ⟨es, ep, t, e _ ho, ok, ⟨hs.len, fun i k hk => ?_⟩, sz⟩
  obtain ⟨b, eb, hb, hN⟩ := hs.ent i k hk
  exact ⟨b, eb, is_stay hb (st b hN), hN⟩
section
variable {prog : Program} {w : World} {A : Around} {R : Result → Shared → Prop} {I : Addr} {fp wr : List Addr} {G : Array GenState → Array GenState → Prop} {n : Nat} {P : Nat → Value → Prop} {St : Nat → Shared → Prop}
theorem loop_tups (W : WalksS prog w A.in1 I fp wr G n P St) (S : Addr) (hSf : S ∉ fp) {N : Nat} (hNw : ∀ b ∈ wr, N ≤ b)
    (kk : Nat → List Int) (ad : Nat → Addr) (hval : ∀ (i : Nat) (v : Value), P i v → v = Value.ref (ad i)) (hNa : ∀ i < n, ad i < N) (hu : A.in1.units < cLine) (C : Cap kk n) :
    ∀ (k i : Nat) (s : Shared), n - i = k → i ≤ n → St i s → (∀ j < n, (IK prog w).is s.heap (kk j) (ad j)) → (∃ ks, Got prog w N s.heap S kk i ks) →
      (∀ s' ks, Moved (S :: wr) G s s' → Got prog w N s'.heap S kk n ks → R (.ok (.ret .none)) s') →
      codeAny (model prog w) A (.builtin "set.update.loop" ⟨[.ref S, .ref I], []⟩) R s := by
  have hSw : S ∉ wr := fun h => hSf (W.sub _ h)
  have hsub : ∀ b ∈ wr, b ∈ S :: wr := fun b hb => List.mem_cons_of_mem _ hb
  have low : ∀ b, b < N → b ∉ wr := fun b hb hw => by have := hNw b hw; omega
  intro k
  induction k with
  | zero =>
    intro i s hk hi hst hks hS hR
    have hin : i = n := by omega
    subst hin
    obtain ⟨ks, g⟩ := hS
    refine codeAny_builtin PyProof.Rows.F.entry_set_update_loop ?_
    rw [Around.under_plainId PyProof.Rows.F.plain_set_update_loop _]
    show wpAny _ A.in1 (pyNext (.ref I) >>= _) _ _ s
    refine wpAny_bind (W.done s _ _ hst fun s' hm => ?_)
    show wpAny _ A.in1 (ret Value.none) _ _ s'
    exact wpAny_pure (hR s' ks (hm.mono hsub) ⟨g.set.to (fun o e => hm.heap S _ hSw e) (fun b hb o e => hm.heap b o (low b hb) e), g.nd, g.mem⟩)
  | succ k ih =>
    intro i s hk hi hst hks hS hR
    have hlt : i < n := by omega
    obtain ⟨ks, g⟩ := hS
    refine codeAny_builtin PyProof.Rows.F.entry_set_update_loop ?_
    rw [Around.under_plainId PyProof.Rows.F.plain_set_update_loop _]
    show wpAny _ A.in1 (pyNext (.ref I) >>= _) _ _ s
    refine wpAny_bind (W.item i s _ _ hlt hst fun v s' hP hst' hm => ?_)
    have ev := hval i v hP
    subst ev
    have hS' : SetT prog w N s'.heap S ks := g.set.to (fun o e => hm.heap S _ hSw e) (fun b hb o e => hm.heap b o (low b hb) e)
    have hks' : ∀ j < n, (IK prog w).is s'.heap (kk j) (ad j) := fun j hj => is_stay (hks j hj) fun o e => hm.heap _ o (low _ (hNa j hj)) e
    show wpAny _ A.in1 (holding [Value.ref (ad i)] (setAdd S (.ref (ad i))) >>= _) _ _ s'
    refine wpAny_bind (wpAny_holding ?_)
    unfold setAdd
    refine wpAny_holding ?_
    refine wpAny_bind ((IK prog w).pyHash (k := kk i) hu (hks' i hlt) ?_)
    have few : kk i ∉ ks → ks.length + 1 ≤ 16 := fun hn => by
      have := C.few (kk i :: ks) (List.nodup_cons.mpr ⟨hn, g.nd⟩) fun x hx => by
        rcases List.mem_cons.mp hx with rfl | hx
        · exact ⟨i, hlt, rfl⟩
        · obtain ⟨j, hj, e⟩ := (g.mem x).mp hx
          exact ⟨j, by omega, e⟩
      simpa using this
    refine add_tup (s := { s' with toks := s'.toks + (IK prog w).draws (kk i) }) hu hS' (hks' i hlt) (hNa i hlt) (fun x hx e => ?_) few fun b h' ks' hsb hS2 hc => ?_
    · obtain ⟨j, hj, ej⟩ := (g.mem x).mp hx
      subst ej
      exact C.inj j i (by omega) hlt e
    have hSet : ∃ o, s'.heap.get? S = some o ∧ o.cls = .type "set" := let ⟨es, ep, t, ho, _⟩ := hS'; ⟨_, ho, rfl⟩
    obtain ⟨oS, hoS, hcS⟩ := hSet
    have hks2 : ∀ j < n, (IK prog w).is h' (kk j) (ad j) := fun j hj => same_is hoS hcS hsb _ _ (hks' j hj)
    have g2 : Got prog w N h' S kk (i + 1) ks' := by
      rcases hc with ⟨hm1, rfl⟩ | ⟨hn1, hp⟩
      · refine ⟨hS2, g.nd, fun x => ⟨fun hx => ?_, fun hx => ?_⟩⟩
        · obtain ⟨j, hj, e⟩ := (g.mem x).mp hx
          exact ⟨j, by omega, e⟩
        · obtain ⟨j, hj, e⟩ := hx
          by_cases hji : j = i
          · subst hji; rw [← e]; exact hm1
          · exact (g.mem x).mpr ⟨j, by omega, e⟩
      · refine ⟨hS2, hp.nodup_iff.mpr (List.nodup_cons.mpr ⟨hn1, g.nd⟩), fun x => ⟨fun hx => ?_, fun hx => ?_⟩⟩
        · rcases List.mem_cons.mp (hp.mem_iff.mp hx) with rfl | hx
          · exact ⟨i, by omega, rfl⟩
          · obtain ⟨j, hj, e⟩ := (g.mem x).mp hx
            exact ⟨j, by omega, e⟩
        · obtain ⟨j, hj, e⟩ := hx
          refine hp.mem_iff.mpr ?_
          by_cases hji : j = i
          · subst hji; rw [← e]; simp
          · exact List.mem_cons_of_mem _ ((g.mem x).mpr ⟨j, by omega, e⟩)
    refine wpAny_pure ⟨plainId_quiet PyProof.Rows.F.plain_set_update_loop _, ih (i + 1) _ (by omega) hlt (W.frame _ s' _ _ hst' (Nat.le_add_right _ _) fun b hb o e => ?_) hks2 ⟨ks', g2⟩ fun s'' ks'' hm'' hS'' => ?_⟩
    · rw [hsb.2 b (fun h : b = S => hSf (by rw [← h]; exact hb))]; exact e
    · refine hR s'' ks'' (Moved.trans W.gtrans ((hm.mono hsub).then_heap (Nat.le_add_right _ _) fun b o hb e => ?_) hm'') hS''
      rw [hsb.2 b (fun h : b = S => hb (by rw [h]; exact List.mem_cons_self))]; exact e
end
section
variable {prog : Program} {w : World} {A : Around} {E : Value → Shared → Prop} {s : Shared}
set_option maxHeartbeats 3200000 in
theorem call_set_tups {l : Addr} {items : Array Value} {kk : Nat → List Int} {ad : Nat → Addr} {Q : Value → Shared → Prop}
    (hh : A.handled = none) (hun : A.units + 8 < cLine) (hl : s.heap.IsList l items) (hi : ∀ (i : Nat) (v : Value), items[i]? = some v → v = Value.ref (ad i)) (hk : ∀ j < items.size, (IK prog w).is s.heap (kk j) (ad j)) (C : Cap kk items.size)
    (h : ∀ (h' : Heap) (tk : Nat) (ks : List (List Int)), Got prog w s.heap.objs.size h' s.heap.objs.size kk items.size ks →
      (∀ b o, b < s.heap.objs.size → s.heap.get? b = some o → h'.get? b = some o) → Q (.ref s.heap.objs.size) { s with heap := h', toks := tk }) :
    wpAny (model prog w) A (call (.type "set") [.ref l]) Q E s := by
  obtain ⟨c, tl, hmro⟩ := PySem.F.called_set.mro
  have hmade := PySem.F.called_set.made
  have hsub := PySem.F.called_set.sub
  refine wpAny_call (codeAny_of_tree ?_)
  show wpAny _ _ (callAny (.type "set") _) _ _ _
  refine wpAny_pure ⟨Code.quiet_builtin _ (by decide +kernel), codeAny_builtin PySem.F.entry_type_call ?_⟩
  rw [Around.under_plain (weight_type_call_type "set" [.ref l] []) rfl]
  have h1 := PySem.F.called_set.notType
  have h2 := PySem.F.called_set.canCreate
  have hct := PySem.F.typeCall_set_1 (.ref l)
  repeat (any_goals (first | assumption | wp_step))
  refine codeAny_mono (code_set_new (.ref l) (E := E) (Q₁ := fun obj s₁ => obj = .ref s.heap.objs.size ∧ s₁ = { s with heap := s.heap.push { cls := .type "set", dict := none, data := .set #[] 0 (.fresh 0 0 (ledOf w)) } }) ⟨rfl, rfl⟩) fun r s₁ hr => ?_
  cases r with
  | error e => exact hr
  | ok fl =>
    cases fl with
    | ret obj =>
      obtain ⟨rfl, rfl⟩ := hr
      have hS : (s.heap.push { cls := .type "set", dict := none, data := .set #[] 0 (.fresh 0 0 (ledOf w)) }).get? s.heap.objs.size = some { cls := .type "set", dict := none, data := .set #[] 0 (.fresh 0 0 (ledOf w)) } := Heap.get?_push_size _ rfl
      have hT : Shared.TypeIs { s with heap := s.heap.push { cls := .type "set", dict := none, data := .set #[] 0 (.fresh 0 0 (ledOf w)) } } (.ref s.heap.objs.size) "set" := ⟨_, hS, rfl⟩
      have hli := PySem.F.called_set.init.lookup
      have hbi := PySem.F.called_set.init.bind (.ref s.heap.objs.size)
      repeat (any_goals (first | assumption | wp_step))
      refine codeAny_mono (codeAny_call_builtin (R := wants (fun r s₂ => r = .none ∧ ∃ h' tk, s₂ = { s with heap := h', toks := tk } ∧ (∃ ks, Got prog w s.heap.objs.size h' s.heap.objs.size kk items.size ks) ∧
          (∀ b o, b < s.heap.objs.size → s.heap.get? b = some o → h'.get? b = some o)) E) PySem.F.called_set.init.plain PySem.F.entry_set_init (check_set_init_1 hT ?_)) fun r₂ s₂ hr₂ => ?_
      · obtain ⟨ol, hol, hcl, nl, hdl⟩ := hl
        obtain ⟨ocls, odict, odata, oslots⟩ := ol
        simp only at hcl hdl
        subst hcl; subst hdl
        have hol' : (s.heap.push { cls := .type "set", dict := none, data := .set #[] 0 (.fresh 0 0 (ledOf w)) }).get? l = some { cls := .type "list", dict := odict, data := .seq items nl, slots := oslots } := Heap.get?_push_of_some _ hol
        have hsls := sub_list_set
        have hslf := sub_list_frozenset
        have hne : (Value.type "list" == Value.type "dict") = false := by decide
        have hl1 : (s.heap.push { cls := .type "set", dict := none, data := .set #[] 0 (.fresh 0 0 (ledOf w)) }).IsList l items := ⟨_, hol', rfl, nl, rfl⟩
        unfold Builtin.«set.__init__» noKeywords Builtin.Frozenset.updateFrom
        generalize hPI : pyIter = PI
        wp_walk
        subst hPI
        refine wpAny_pyIter_list hl1 ?_
        refine wpAny_bind (wpAny_runValue ?_)
        have hlS : l < s.heap.objs.size := Heap.lt_size hol
        have hh3 : A.in1.in1.in1.handled = none := by simp [hh]
        have hneI : l ≠ (s.heap.push { cls := .type "set", dict := none, data := .set #[] 0 (.fresh 0 0 (ledOf w)) }).objs.size := by
          rw [Heap.size_push]; exact Nat.ne_of_lt (Nat.lt_succ_of_lt hlS)
        have hSf : s.heap.objs.size ∉ [(s.heap.push { cls := .type "set", dict := none, data := .set #[] 0 (.fresh 0 0 (ledOf w)) }).objs.size, l] := by
          rw [Heap.size_push]; simp only [List.mem_cons, List.mem_singleton, List.not_mem_nil, or_false, not_or]
          exact ⟨Nat.ne_of_lt (Nat.lt_succ_self _), Nat.ne_of_gt hlS⟩
        have hkl : ∀ j < items.size, ad j < s.heap.objs.size := fun j hj => by
          obtain ⟨oj, _, _, hoj, _⟩ := hk j hj
          exact Heap.lt_size hoj
        have hall : ∀ b ∈ [(s.heap.push { cls := .type "set", dict := none, data := .set #[] 0 (.fresh 0 0 (ledOf w)) }).objs.size], s.heap.objs.size ≤ b := fun b hb => by
          rw [Heap.size_push] at hb
          simp only [List.mem_cons, List.not_mem_nil, or_false] at hb
          omega
        refine loop_tups ((Walks.list hh3 _ l hneI items).toS) s.heap.objs.size
          hSf (N := s.heap.objs.size) hall kk ad (fun i v hv => hi i v hv) hkl (by show A.units + 1 + 1 + 1 < cLine; omega) C (items.size - 0) 0 _ (by omega) (Nat.zero_le _)
          ⟨⟨_, Heap.get?_push_size _ rfl, rfl, rfl⟩, ⟨_, Heap.get?_push_of_some _ hol', rfl, nl, rfl⟩⟩ (fun j hj => is_stay (hk j hj) fun o q => Heap.get?_push_of_some _ (Heap.get?_push_of_some _ q)) ?hS0 ?hR
        case hS0 =>
          have hget : ((s.heap.push { cls := .type "set", dict := none, data := .set #[] 0 (.fresh 0 0 (ledOf w)) }).push { cls := .type "list_iterator", data := .fields #[.ref l, .int 0 0] }).get? s.heap.objs.size
              = some { cls := .type "set", dict := none, data := .set #[] 0 (.fresh 0 0 (ledOf w)) } := Heap.get?_push_of_some _ hS
          exact ⟨[], got_nil hget⟩
        case hR =>
          intro s' ks hm hS'
          obtain ⟨h', g', d', tk', os'⟩ := s'
          have eg : g' = s.gens := hm.gens
          have ed : d' = s.drawn := hm.drawn
          have eo : os' = s.os := hm.os
          subst eg; subst ed; subst eo
          show wpAny _ _ _ _ _ _
          refine wpAny_pure ?_
          show wpAny _ _ (ret Value.none) _ _ _
          refine wpAny_pure ⟨rfl, h', tk', rfl, ⟨ks, hS'⟩, fun b o hb e => ?_⟩
          have hb1 : b ≠ s.heap.objs.size := Nat.ne_of_lt hb
          have hb2 : b ≠ (s.heap.push { cls := .type "set", dict := none, data := .set #[] 0 (.fresh 0 0 (ledOf w)) }).objs.size := by
            rw [Heap.size_push]; exact Nat.ne_of_lt (Nat.lt_succ_of_lt hb)
          exact hm.heap b o (by simp only [List.mem_cons, List.mem_singleton, List.not_mem_nil, or_false, not_or]; exact ⟨hb1, hb2⟩) (Heap.get?_push_of_some _ (Heap.get?_push_of_some _ e))
      · cases r₂ with
        | error e => exact hr₂
        | ok fl₂ =>
          cases fl₂ with
          | ret r =>
            obtain ⟨rfl, h', tk, rfl, ⟨ks, hS'⟩, hk'⟩ := hr₂
            repeat (any_goals (first | assumption | wp_step))
            exact h _ _ ks hS' hk'
          | _ => exact hr₂.elim
    | _ => exact hr.elim
end
end TS
namespace SS
open PySem PyProof.Rows
/-- what a walk of the set gives, in its order -/
def walkOf (w : World) (a : Addr) (ep : Nat) (es : Array (Int × Value)) : Array (Int × Value) := if w.params.followText "set-order" = true then pickOrder (w.params.setOrder a ep) es else es
end SS
namespace SS
open PySem PyProof.Rows
section
variable {prog : Program} {w : World} {A : Around} {E : Value → Shared → Prop} {s : Shared}
def SP (w : World) (S : Addr) (tk : Nat → Tok) (ep : Nat) (p : Nat → Bool) (i : Nat) (v : Value) : Prop := ∃ e, (walkOf w S ep ((hs p).map (ent tk)).toArray)[i]? = some e ∧ v = e.2
end
end SS
set_option maxHeartbeats 4000000
namespace SS
open PySem PyProof.Rows
end SS
set_option maxHeartbeats 4000000
namespace L2
open PySem PySem.Spec
open PyProof.Rows hiding St
end L2
namespace DL
open PySem PySem.Spec L2
open PyProof.Rows hiding St
theorem bt_set : bootBuiltins "set" = some (.type "set") := by decide +kernel
end DL
set_option maxHeartbeats 4000000
namespace L2
open PySem PySem.Spec DL
open PyProof.Rows hiding St
/-- a set of n members -/
def LenS (l : Addr) (n : Nat) (h : Heap) : Prop := n ≤ 16 ∧ ∃ (es : Array (Int × Value)) (ep : Nat) (t : SetTable), h.get? l = some { cls := .type "set", dict := none, data := .set es ep t, slots := #[] } ∧ es.size = n ∧ t.fits es.size = true
theorem ext_len {P : Program} {w : World} {H : Hp} {h : Heap} {l : Addr} {n : Nat} (x : LenS l n h) : ObjOk P w H h l (.ext (LenS l n)) := by
  have x' := x
  obtain ⟨z, es, ep, t, ho, q⟩ := x
  exact ⟨x', ⟨_, ho⟩, fun h1 h2 p e => by
    obtain ⟨z, es, ep, t, ho, q⟩ := p
    exact ⟨z, es, ep, t, e _ ho, q⟩⟩
section
variable {X : Cx}
theorem call_setTT (hc : X.calm = true) (hu : X.A.units + 8 < cLine) : CallR X (.type "set") (fun xs H Q => ∃ (q : Addr) (vs : List V) (kk : Nat → List Int), xs = [V.ref q] ∧ SqL X.K H q vs ∧ (∀ (i : Nat) (v : V), vs[i]? = some v → ∃ ι, Rp X.K H ι (encT (kk i)) v) ∧ TS.Cap kk vs.length ∧
    ∀ l n, H l = none → (∃ ks : List (List Int), ks.Nodup ∧ (∀ x, x ∈ ks ↔ ∃ j, j < vs.length ∧ kk j = x) ∧ ks.length = n) → Q (.ref l) (upd H l (.ext (LenS l n)))) := by
  intro pins s σ H xs us Q I r h
  obtain ⟨q, vs, kk, rfl, hq, hk, C, hQ⟩ := h
  obtain ⟨u, rfl, rx⟩ := vals1 r
  cases rx
  obtain ⟨its, rv, pt, hz⟩ := I.list hq
  have pt : s.heap.IsList q its.toArray := by
    obtain ⟨o, n, e1, e2, e3, e4⟩ := pt
    exact ⟨o, e1, e2, n, by first | exact e3 | exact e4⟩
  have hl := rv.length
  have hal : ∀ i : Nat, i < vs.length → ∃ b : Addr, its[i]? = some (.ref b) ∧ (TS.IK X.prog X.w).is s.heap (kk i) b := fun i hi => by
    obtain ⟨ι, rp⟩ := hk i _ (List.getElem?_eq_getElem hi)
    obtain ⟨b, e, hb⟩ := isT I rp
    obtain ⟨u, hu, ru⟩ := rv.get (List.getElem?_eq_getElem hi)
    rw [e] at ru
    have eu := (show u = Value.ref b from ru)
    subst eu
    exact ⟨b, hu, hb⟩
  have hsz : its.toArray.size = vs.length := by simp [hl]
  refine TS.call_set_tups (kk := kk) (ad := fun i => if h : i < vs.length then (hal i h).choose else 0) (I.ok.hd hc) hu pt (fun i v e => ?_) (fun j hj => ?_) (by rw [hsz]; exact C) fun h' tk ks hS hkp => ?_
  · have e' : its[i]? = some v := by simpa using e
    have hi : i < vs.length := by rw [hl]; exact (List.getElem?_eq_some_iff.mp e').1
    have := (hal i hi).choose_spec.1
    rw [dif_pos hi]
    exact Option.some.inj (e'.symm.trans this)
  · rw [hsz] at hj
    rw [dif_pos hj]
    exact (hal j hj).choose_spec.2
  · have hn := C.few ks hS.nd fun x hx => by
      have := (hS.mem x).mp hx
      rw [hsz] at this
      exact this
    have hLS : LenS s.heap.objs.size ks.length h' := by
      obtain ⟨es, ep, t, ho, ok, hs, sz⟩ := hS.set
      exact ⟨hn, es, ep, t, ho, hs.len, TS.fits_of ok hs⟩
    exact ⟨.ref s.heap.objs.size, _, I.laid (t' := tk) (fun b o e => hkp b o (Heap.lt_size e) e) (Nat.le_refl _) (ext_len hLS), rfl, hQ _ _ (I.hok.fresh (Nat.le_refl _)) ⟨ks, hS.nd, fun x => by rw [hS.mem x, hsz], rfl⟩⟩
theorem call_lenS : CallR X (.builtin "len") (fun xs H Q => ∃ (l : Addr) (n : Nat), xs = [V.ref l] ∧ H l = some (.ext (LenS l n)) ∧ Q (.int (n : Nat)) H) := by
  intro pins s σ H xs us Q I r h
  obtain ⟨l, n, rfl, e, q⟩ := h
  obtain ⟨u, rfl, ru⟩ := vals1 r
  cases ru
  obtain ⟨⟨hn, es, ep, t, ho, hs, hf⟩, _⟩ := (show ObjOk X.prog X.w H s.heap l (.ext (LenS l n)) from I.hok l _ e)
  refine call_len_set ho ⟨rfl, rfl, rfl⟩ rfl hf (by omega) ?_
  rw [hs]
  exact ⟨.int n, H, I.tok _, ⟨_, rfl⟩, q⟩
end
end L2
namespace DL
open PySem PySem.Spec L2
open PyProof.Rows hiding St
/-- len(set(..)) of a list of rows -/
structure rdLenSet (ds : List Dt) (G : GD) (Q : KD) : Prop where
  p : ∃ (i : Nat) (rows : List (List Int)), ds = [.ref i] ∧ cellL G i = some (rows.map encT) ∧ TS.Cap (fun j => rows.getD j []) rows.length ∧
    ∀ ks : List (List Int), ks.Nodup → (∀ x, x ∈ ks ↔ x ∈ rows) → Q (.int (ks.length : Nat)) G
theorem rps_at {K : PySem.W.Frag} {H : Hp} {ι : List Addr} {rows : List (List Int)} {ws : List V} (rr : Rps K H ι (rows.map encT) ws) (i : Nat) (v : V) (h : ws[i]? = some v) : Rp K H ι (encT (rows.getD i [])) v := by
  obtain ⟨d, hd, r⟩ := rr.getV h
  rw [List.getElem?_map] at hd
  rw [List.getD_eq_getElem?_getD]
  cases e : rows[i]? with
  | none => rw [e] at hd; cases hd
  | some k => rw [e] at hd; cases hd; exact r
section
variable {X : Cx} {F : Fx} {e : Expr} {t : TDA} {pos p pos2 p2 : Pos} {k : Nat}
theorem de_lenset' (hr : Room k X.A) (ha : DA' X F [e] t) (hm : X.mg "len" = none) (hm2 : X.mg "set" = none) (hg : Gl X "len" := by rfl) (hg2 : Gl X "set" := by rfl) (hcalm : X.calm = true := by rfl)
    (he : starEach [e] X.env = (false, eval e X.env) :: starEach [] X.env := by exact star_cons rfl) (hpl : (backTo pos2 (starEach [] X.env)).any (·.1) = false := by exact back_any rfl)
    (he2 : starEach [.Call (.Name "set" p2) [e] [] pos2] X.env = (false, eval (.Call (.Name "set" p2) [e] [] pos2) X.env) :: starEach [] X.env := by exact star_cons rfl) (hpl2 : (backTo pos (starEach [] X.env)).any (·.1) = false := by exact back_any rfl) :
    DE' X F (.Call (.Name "len" p) [.Call (.Name "set" p2) [e] [] pos2] [] pos) (dCB rdLenSet t) := by
  refine ⟨PE.imp (pe_callB call_lenS hg hm PySem.boot_len (pa_cons (pe_callTy (call_setTT hcalm (by have := hr.units; omega)) hg2 hm2 bt_set ha.p (by decide) (by decide) he hpl) pa_nil he2) (by decide) (by decide) he2 hpl2) fun σ H Qv ⟨σd, G, ι, Q, ok, ht, hq⟩ => ?_⟩
  refine ⟨σd, G, ι, _, ok, ht, fun vs H1 ds G1 ι1 h1 g1 r1 q1 => ?_⟩
  obtain ⟨i, rows, rfl, ec, C, q1⟩ := q1.p
  obtain ⟨v, e1, rv⟩ := rps1 r1
  subst e1
  obtain ⟨a, e2, q2⟩ := rv
  subst e2
  obtain ⟨ws, s2, rr⟩ := cellL_sq h1 q2 ec
  have hwl : ws.length = rows.length := by have := rr.len; rw [List.length_map] at this; omega
  refine ⟨a, ws, fun j => rows.getD j [], rfl, s2, fun j v hv => ⟨ι1, rps_at rr j v hv⟩, by rw [hwl]; exact C, fun l n hl ⟨ks, hn, hmm, hkl⟩ => ?_⟩
  subst hkl
  refine ⟨l, _, rfl, upd_same, ?_⟩
  have hG2 := h1.free (o := .ext (LenS l ks.length)) hl
  have g2 : Gr X.K H1 ι1 (upd H1 l (.ext (LenS l ks.length))) ι1 := Gr.free0 hl
  refine hq _ _ (.int (ks.length : Nat)) _ ι1 hG2 (g1.trans g2) rfl (q1 ks hn fun x => ?_)
  rw [hmm x, hwl]
  constructor
  · rintro ⟨j, hj, rfl⟩
    dsimp only
    rw [List.getD_eq_getElem?_getD, List.getElem?_eq_getElem hj]
    exact List.getElem_mem hj
  · intro hx
    obtain ⟨j, hj, e⟩ := List.getElem_of_mem hx
    exact ⟨j, hj, by dsimp only; rw [List.getD_eq_getElem?_getD, List.getElem?_eq_getElem hj]; exact e⟩
end
end DL
--LAW k08
namespace K08
open PySem PySem.Spec L2 DL TH KT KH KFM
local macro_rules | `(tactic| walk_at "dx") => `(tactic| (try simp only [↓dSeq, ↓dIfS, ↓dOr, ↓dAnd, ↓dNot, ↓dTru, ↓dIsi, ↓dVar, ↓dRet, ↓dC, ↓dNext, ↓dChain, ↓rdI0, ↓rdI, ↓dTest, ↓dOp, ↓endsD, ↓startD, ↓dAndV, ↓dOrV, ↓dNotV, ↓dIf, ↓dCall, ↓dCons, ↓dNil, ↓dTup, ↓dLst, ↓dSet, ↓dAsg, ↓dgName, ↓dgNil, ↓dgCons, ↓dgTup, ↓dDrop, ↓dCB, ↓dMGet, ↓rdLen_eq, ↓rdLen0, ↓rdIx_eq, ↓rdIx0, ↓rdIs, ↓rdEq_eq, ↓rdEq0, ↓rdAdd, ↓rdMul, ↓dUn, ↓dPart, ↓dNoPart, ↓dSl, ↓rdSl_eq, ↓rdSl0, ↓rdList, ↓rdTuple_eq, ↓rdTuple0, ↓rdAll, ↓dAppend, ↓rdAppend_eq, ↓rdAppend0, ↓dPop, ↓isLstC, ↓dFor, ↓diZip, ↓diSeq, ↓seqR_eq, ↓seqR0, ↓diRng1, ↓dWhile, ↓dDict, ↓dPairs, ↓keysD, ↓keyD, get_endz, get_endj, set_endz, set_endj, Option.some.injEq, Cl.lst.injEq, exists_eq', exists_eq, exists_eq_left,
  isi_non, isi_bl, isi_int, isi_str, isi_tup, isi_ref, tru_non, tru_bl, tru_int, tru_tup, tru_ref, len_tup, len_ref, at_tup, at_ref, at_refs, is_non_non, is_bl_bl, is_bl_non, is_non_bl, is_int_non, is_str_non, is_tup_non, is_ref_non, is_int_bl, is_str_bl, is_tup_bl, is_ref_bl, eqs_int, eqs_str, eqs_bl, seq_tup, seq_ref, atI_0, atI_1, atI_2, succ_eq0, zero_eq0, str_inj,
  List.map_cons, List.map_nil, List.length_cons, List.length_nil, List.replicate, List.cons_append, List.nil_append, List.append_nil, List.append_assoc, List.length_append, List.getElem?_cons_zero, List.getElem?_cons_succ, List.set_cons_zero, List.set_cons_succ, if_true, if_false, Bool.not_true, Bool.not_false, Bool.false_eq_true, Bool.or_true, Bool.or_false, Bool.true_or, Bool.false_or, Bool.and_true, Bool.and_false, Bool.true_and, Bool.false_and, Bool.false_xor, Bool.true_xor, Nat.sub_self, Nat.reduceAdd, Nat.reduceSub, decide_true, decide_false, true_and, and_true, ne_eq, String.reduceBEq, String.reduceEq, reduceIte, reduceCtorEq]))
--WHOLE _law_due[0] != _law_world
--WHOLE walked(_law_told, tuple(_law_questions), _law_world) != _law_due
/-! ### the law -/
abbrev s_law : Stmt := top 30
theorem sc_law : FnScope ["_law_script", "_law_hall_here", "_law_some", "_law_questions", "_law_cell_here", "_law_rows", "_law_world", "_law_told", "_law_number", "_law_counts", "_law_due"] ["_law_script"] (defScope s_law) := ⟨rfl, rfl, rfl, by decide +kernel, rfl, by decide +kernel, by decide +kernel⟩
theorem hInj0 : ∀ a ∈ allW 0, ∀ b ∈ allW 0, TS.hT (kW a) = TS.hT (kW b) → a = b := by decide +kernel
theorem hInj1 : ∀ a ∈ allW 1, ∀ b ∈ allW 1, TS.hT (kW a) = TS.hT (kW b) → a = b := by decide +kernel
theorem hInj2 : ∀ a ∈ allW 2, ∀ b ∈ allW 2, TS.hT (kW a) = TS.hT (kW b) → a = b := by decide +kernel
theorem hInj3 : ∀ a ∈ allW 3, ∀ b ∈ allW 3, TS.hT (kW a) = TS.hT (kW b) → a = b := by decide +kernel
theorem hInj4 : ∀ a ∈ allW 4, ∀ b ∈ allW 4, TS.hT (kW a) = TS.hT (kW b) → a = b := by decide +kernel
theorem hInj {q : Nat} (h : q ≤ 4) {a b : Wd} (ha : a.length = q) (hb : b.length = q) (e : TS.hT (kW a) = TS.hT (kW b)) : a = b := by
  have ha := (mem_allW q a).mpr ha
  have hb := (mem_allW q b).mpr hb
  have : q = 0 ∨ q = 1 ∨ q = 2 ∨ q = 3 ∨ q = 4 := by omega
  rcases this with rfl | rfl | rfl | rfl | rfl
  · exact hInj0 a ha b hb e
  · exact hInj1 a ha b hb e
  · exact hInj2 a ha b hb e
  · exact hInj3 a ha b hb e
  · exact hInj4 a ha b hb e
def rowsK (qs : Qs) (g : List Wd) : List (List Int) := g.map fun w => kW (row qs w)
theorem capRows {qs : Qs} {g : List Wd} (h4 : qs.length ≤ 4) : TS.Cap (fun j => (rowsK qs g).getD j []) (rowsK qs g).length := by
  have at_ : ∀ j, j < (rowsK qs g).length → ∃ w, (rowsK qs g).getD j [] = kW (row qs w) := fun j hj => by
    have hj' : j < g.length := by unfold rowsK at hj; rw [List.length_map] at hj; exact hj
    refine ⟨g[j], ?_⟩
    unfold rowsK
    rw [List.getD_eq_getElem?_getD, List.getElem?_map, List.getElem?_eq_getElem hj']
    rfl
  refine ⟨fun i j hi hj e => ?_, fun l hn hl => ?_⟩
  · obtain ⟨w, ew⟩ := at_ i hi
    obtain ⟨v, ev⟩ := at_ j hj
    rw [ew, ev] at e ⊢
    rw [hInj h4 (row_len qs w) (row_len qs v) e]
  · have hU : (allW qs.length).length ≤ 16 := by
      have : qs.length = 0 ∨ qs.length = 1 ∨ qs.length = 2 ∨ qs.length = 3 ∨ qs.length = 4 := by omega
      rcases this with h | h | h | h | h <;> rw [h] <;> decide
    have := nd_le (l := (allW qs.length).map kW) hn fun x hx => by
      obtain ⟨j, hj, rfl⟩ := hl x hx
      obtain ⟨w, ew⟩ := at_ j hj
      rw [ew]
      exact List.mem_map.mpr ⟨_, (mem_allW _ _).mpr (row_len qs w), rfl⟩
    rw [List.length_map] at this
    omega
theorem rows_nd {qs : Qs} {g : List Wd} : (rowsK qs g).Nodup ↔ apart qs g := by
  rw [apart_rows]
  unfold rowsK List.Nodup
  rw [List.pairwise_map, List.pairwise_map]
  constructor
  · exact fun h => h.imp fun a e => a (by rw [e])
  · exact fun h => h.imp fun a e => a (kW_inj e)
theorem cut78 (ns : List Int) {r : Int} (h0 : 0 ≤ r) (h3 : r < 4) : ∃ cs : List Int, cutD (ns.map Dt.int) (some 7) (some (8 + r)) = cs.map Dt.int ∧ cs.length ≤ 4 := by
  obtain ⟨k, rfl⟩ := Int.eq_ofNat_of_zero_le h0
  have e7 : HT.sIx (ns.map Dt.int).length 0 (some 7) = min 7 (ns.map Dt.int).length := HT.sIx_nat _ _ 7
  have e8 : HT.sIx (ns.map Dt.int).length (ns.map Dt.int).length (some (8 + (k : Int))) = min (8 + k) (ns.map Dt.int).length := HT.sIx_nat _ _ (8 + k)
  refine ⟨(ns.drop (min 7 (ns.map Dt.int).length)).take (min (8 + k) (ns.map Dt.int).length - min 7 (ns.map Dt.int).length), ?_, ?_⟩
  · unfold cutD
    rw [e7, e8, List.map_take, List.map_drop]
  · rw [List.length_take]
    omega
def qT (n : Nat) (c : Int) : Nat × Th := ((mixI c 9907 (n : Nat)).toNat, thT (n : Nat) 2 (c * 7 + 3))
theorem lay_due (w : Wd) (k : Int) : lay (.tup [wD w, .int k]) = true := by
  show (lay (wD w) && (true && true)) = true
  rw [lay_wD]
  rfl
theorem dep_due (w : Wd) (k : Int) : (pyD (.tup [wD w, .int k])).depth ≤ 60 := by
  have := dep_wD w
  simp only [pyD, pyDs, PyData.depth, PyData.depthAll] at this ⊢
  omega
def sc_c_law_0 : Scope := { kind := .function, names := [(".0", .local), ("_law_question", .local), ("_law_answer", .globalImplicit), ("_law_world", .free)], isGenerator := false, isCoroutine := false, more := [] }
theorem ndc_law_0 : (["_law_question", "_law_world"] : List Str).Nodup := by decide +kernel
theorem cm_law_0 {f : Addr} {cdv : Value} {A : Around} {outer : List Env} {s : Shared} {H : Hp} {E : XK} : CmpOk (cxOf CX0 P w K mg base ["_law_script", "_law_hall_here", "_law_some", "_law_questions", "_law_cell_here", "_law_rows", "_law_world", "_law_told", "_law_number", "_law_counts", "_law_due"] "law" (defScope s_law) f cdv A outer s H E).nox sc_c_law_0 [("_law_world", s.heap.objs.size + 1)] ["_law_question", "_law_world"] [none, some 6] where
  clos := by rfl
  cell := by decide +kernel
  kind := by rfl
  names := by decide +kernel
  lenN := by rfl
  capN := fun i j x h1 h2 => by
    match i, h1, h2 with
    | 0, h1, _ => cases h1
    | 1, h1, h2 =>
      cases h1
      cases h2
      exact ⟨rfl, Or.inr (Or.inl rfl), cellNe rfl, cellNe rfl, _, rfl, rfl⟩
  cls := fun x c h => by
    have m := PySem.mem_of_lookup h
    simp only [List.mem_cons, List.not_mem_nil, or_false, Prod.mk.injEq] at m
    rcases m with ⟨rfl, rfl⟩ <;> rfl
  has := fun x h => by
    have h' : List.lookup x ([(".0", .local), ("_law_question", .local), ("_law_answer", .globalImplicit), ("_law_world", .cell)] : List (Str × NameKind)) = some .cell ∨ List.lookup x ([(".0", .local), ("_law_question", .local), ("_law_answer", .globalImplicit), ("_law_world", .cell)] : List (Str × NameKind)) = some .free := h
    have m := h'.imp PySem.mem_of_lookup PySem.mem_of_lookup
    have e : x = "_law_world" := by simpa using m
    rcases e with rfl
    · exact ⟨_, rfl⟩
section
variable {P : Program} {w : World} {K : PySem.W.Frag} {mg : Str → Option Value} {base : Heap}
theorem ok_law {fa : Addr} {fd : FuncData} (T : Bl K mg) (f__law_cell : Fnc P w K mg base "_law_cell" 1 ["_law_script", "_law_k"] sp_cell) (f__law_mix : Fnc P w K mg base "_law_mix" 1 ["_law_cell_here", "_law_prime", "_law_many"] sp_mix) (f__law_thing : Fnc P w K mg base "_law_thing" 5 ["_law_cell_here", "_law_many", "_law_deep"] (sp_thing 4)) (f__law_hall : Fnc P w K mg base "_law_hall" 6 ["_law_script"] sp_hall)
    (f__law_whole : Fnc P w K mg base "_law_whole" 1 ["_law_found"] sp_l_whole) (f__law_worlds : Fnc P w K mg base "_law_worlds" 7 ["_law_hall_here"] (sp_l_worlds 4)) (f__law_answer : Fnc P w K mg base "_law_answer" 6 ["_law_world", "_law_question"] (sp_answer 4)) (f__law_walk : Fnc P w K mg base "_law_walk" 7 ["_law_told", "_law_questions", "_law_world"] (sp_l_walk 4)) (f__law_needs : Fnc P w K mg base "_law_needs" 38 ["_law_some", "_law_questions", "_law_most"] (sp_needs 32))
    (f_plan : Fnc P w K mg base "plan" 98 ["hall", "questions"] (sp_plan planD 4)) (f_least : Fnc P w K mg base "least" 98 ["hall", "questions"] (sp_plan leastD 4)) (f_walked : Fnc P w K mg base "walked" 8 ["plan", "questions", "world"] (sp_walked 4))
    (Fn : Fun K "law" "law" s_law fa fd) : FnOk P w K mg base CX0 99 fa fd ["_law_script"] (liSp K 1 sp_law) := by
  have nd := sc_law.nd
  refine okD' Fn sc_law fun cdv A outer s H E hr => ⟨_, fun F => ((dss_cons' (ds_set' (i := 1) nd (de_callF' f__law_hall (hr.mono (by first | decide | omega)) (da_cons' (de_var' 0) da_nil')))
  (dss_cons' (ds_set' (i := 2) nd (de_callF' f__law_worlds (hr.mono (by first | decide | omega)) (da_cons' (de_var' 1) da_nil')))
  (dss_cons' (ds_set' (i := 3) nd (de_lst' da_nil'))
  (dss_cons' (ds_for' (di_seq' (de_sl' (de_var' 0) (do_some' de_int') (do_some' (de_add' de_int' (de_mod' (de_callF' f__law_cell (hr.mono (by first | decide | omega)) (da_cons' (de_var' 0) (da_cons' de_int' da_nil'))) de_int'))))) (fun _ => (dg_name' (i := 4) nd))
  (fun _ => (dss_one' (ds_expr' (de_append' (de_var' 3) (da_cons' (de_tup' (da_cons' (de_callF' f__law_mix (hr.mono (by first | decide | omega)) (da_cons' (de_var' 4) (da_cons' de_int' (da_cons' (de_ix' hr (de_var' 1) de_int') da_nil')))) (da_cons' (de_callF' f__law_thing (hr.mono (by first | decide | omega)) (da_cons' (de_add' (de_mul' (de_var' 4) de_int') de_int') (da_cons' (de_ix' hr (de_var' 1) de_int') (da_cons' de_int' da_nil')))) da_nil'))) da_nil'))))))
  (dss_cons' (ds_if' (dt_not' (dt_tru' (de_var' 2)))
  (dss_one' (ds_ret' de_bl'))
  dss_nil')
  (dss_cons' (ds_set' (i := 5) nd (de_lst' da_nil'))
  (dss_cons' (ds_for' (di_seq' (de_var' 2)) (fun _ => (dg_name' (i := 6) nd))
  (fun _ => (dss_one' (ds_expr' (de_append' (de_var' 5) (da_cons' (de_tupleof' (da_cons' (de_comp' cm_law_0 (di_seq' (de_var' 3)) (fun _ _ _ _ _ _ => (dg_name' (i := 0) ndc_law_0)) (fun _ _ _ _ _ _ => dif_nil') (fun _ _ _ _ _ _ => (de_callF' f__law_answer (hr.mono (by first | decide | omega)) (da_cons' (de_var' 1) (da_cons' (de_var' 0) da_nil'))))) da_nil') T.b_tuple) da_nil'))))))
  (dss_cons' (ds_set' (i := 7) nd (de_callF' f_plan (hr.mono (by first | decide | omega)) (da_cons' (de_var' 1) (da_cons' (de_tupleof' (da_cons' (de_var' 3) da_nil') T.b_tuple) da_nil'))))
  (dss_cons' (ds_set' (i := 8) nd (de_callF' f_least (hr.mono (by first | decide | omega)) (da_cons' (de_var' 1) (da_cons' (de_tupleof' (da_cons' (de_var' 3) da_nil') T.b_tuple) da_nil'))))
  (dss_cons' (ds_if' (dt_lt' (de_lenset' hr (da_cons' (de_var' 5) da_nil') T.b_len T.b_set) (de_len' (da_cons' (de_var' 5) da_nil') T.b_len))
  (dss_one' (ds_ret' (de_and' (de_is' (de_var' 7) de_non') (de_one' (de_is' (de_var' 8) de_non')))))
  dss_nil')
  (dss_cons' (ds_set' (i := 9) nd (de_lst' da_nil'))
  (dss_cons' (ds_for' (di_seq' (de_var' 2)) (fun _ => (dg_name' (i := 6) nd))
  (fun _ => (dss_cons' (ds_set' (i := 10) nd (de_callF' f__law_walk (hr.mono (by first | decide | omega)) (da_cons' (de_var' 7) (da_cons' (de_var' 3) (da_cons' (de_var' 6) da_nil')))))
  (dss_cons' (ds_if' (dt_w' (dw_or' (dt_neP' hr (de_ix' hr (de_var' 10) de_int') (de_var' 6)) (dw_or1' (dt_neP' hr (de_callF' f_walked (hr.mono (by first | decide | omega)) (da_cons' (de_var' 7) (da_cons' (de_tupleof' (da_cons' (de_var' 3) da_nil') T.b_tuple) (da_cons' (de_var' 6) da_nil')))) (de_var' 10)))))
  (dss_one' (ds_ret' de_bl'))
  dss_nil')
  (dss_one' (ds_expr' (de_append' (de_var' 9) (da_cons' (de_ix' hr (de_var' 10) de_int') da_nil'))))))))
  (dss_cons' (ds_if' (dt_w' (dw_or' (dt_not' (dt_tru' (de_callF' f__law_whole (hr.mono (by first | decide | omega)) (da_cons' (de_var' 8) da_nil')))) (dw_or1' (dt_ne' (de_var' 8) (de_max' (da_cons' (de_var' 9) da_nil') T.b_max)))))
  (dss_one' (ds_ret' de_bl'))
  dss_nil')
  (dss_one' (ds_ret' (de_or' (de_eq' (de_var' 8) de_int') (de_one' (de_not' (de_callF' f__law_needs (hr.mono (by first | decide | omega)) (da_cons' (de_var' 2) (da_cons' (de_var' 3) (da_cons' (de_sub' (de_var' 8) de_int') da_nil'))))))))))))))))))))))), fun ds G Q hl hsp hb hG => ?_⟩
  unfold sp_law at hsp
  split at hsp
  · rename_i i
    obtain ⟨ns, hi, hq⟩ := hsp
    obtain ⟨m1, m5⟩ := manyN_le ns
    have hwf := sg_wf ns
    have hdp3 := sg_dep ns
    refine ⟨rfl, ns, hi, ?_⟩
    rw [hall_enc ns]
    generalize sgT ns = ss at hwf hdp3 ⊢
    generalize manyN ns = n at m1 m5 hwf ⊢
    have hdp : ∀ p ∈ ss, p.2.dep < 4 := fun p hp => by have := hdp3 p hp; omega
    have h32 := worlds32 (ss := ss) m5
    refine ⟨rfl, n, ss, rfl, m1, m5, hwf, hdp, fun i2 G2 g2 hi2 => ?_⟩
    refine ⟨szl 0, ?_⟩
    refine ⟨rfl, ns, at_prev (g2.at hi), by decide, ?_⟩
    refine ⟨(show (0 : Int) < 4 by decide), ?_⟩
    refine rdSl_ref (cell_fz (at_prev (g2.at hi))) ?_
    have r0 := Int.emod_nonneg (cellI ns 7) (b := 4) (by decide)
    have r4 := Int.emod_lt_of_pos (cellI ns 7) (b := 4) (by decide)
    obtain ⟨cs, ecs, hcs⟩ := cut78 ns r0 r4
    rw [ecs]
    refine seqR_ref (cell_lst at_last) ?_
    have hsl : sizeLine = 16777216 := sizeLine_eq
    -- the questions
    have hc4 : (G2 ++ [.lst []] ++ [.lst (cs.map Dt.int)] : GD)[(G2 ++ [.lst []] : GD).length]? = some (.lst (cs.map Dt.int)) := at_last
    have hW : ∀ l : List Dt, cellL (G2 ++ [.lst l] ++ [.lst (cs.map Dt.int)]) (G2 ++ [Cl.lst []] : GD).length = some (cs.map Dt.int) := fun l => by
      have e : (G2 ++ [Cl.lst []] : GD).length = (G2 ++ [Cl.lst l] : GD).length := by simp
      rw [e]
      exact cell_lst at_last
    have hput : ∀ l l' : List Dt, (G2 ++ [.lst l] ++ [.lst (cs.map Dt.int)] : GD).set G2.length (.lst l') = G2 ++ [.lst l'] ++ [.lst (cs.map Dt.int)] := fun l l' => set_at
    refine lp_ind (fun ds σ G' => ∃ (a b : List Int) (s4 : Option Dt), cs = a ++ b ∧ ds = b.map Dt.int ∧ G' = G2 ++ [.lst ((a.map (qT n)).map sD)] ++ [.lst (cs.map Dt.int)] ∧
      σ = [some (.ref i), some (hD n ss), some (.ref i2), some (.ref G2.length), s4, none, none, none, none, none, none]) ?_ ?_ _ _ _ ⟨[], cs, none, rfl, rfl, rfl, rfl⟩
    · rintro σ G' ⟨a, b, s4, e, hds, rfl, rfl⟩
      cases b with
      | cons x b => cases hds
      | nil =>
        rw [List.append_nil] at e
        subst e
        refine ⟨hW _, ?_⟩
        have hi3 : (G2 ++ [.lst ((cs.map (qT n)).map sD)] ++ [.lst (cs.map Dt.int)] : GD)[i2]? = some (.lst ((worlds n ss).map wD)) := at_prev (at_prev hi2)
        have hq3 : (G2 ++ [.lst ((cs.map (qT n)).map sD)] ++ [.lst (cs.map Dt.int)] : GD)[G2.length]? = some (.lst ((cs.map (qT n)).map sD)) := get_at
        have qw : Sg.wf n (cs.map (qT n)) := fun p hp => by
          rw [List.mem_map] at hp
          obtain ⟨c, _, rfl⟩ := hp
          obtain ⟨x0, xn⟩ := mix_lt (c := c) (p := 9907) (m := (n : Nat)) (by omega)
          exact ⟨by show (mixI c 9907 (n : Nat)).toNat < n; omega, th_wf (n := (n : Nat)) (by omega) 2 _⟩
        have qd : ∀ p ∈ cs.map (qT n), p.2.dep < 4 := fun p hp => by
          rw [List.mem_map] at hp
          obtain ⟨c, _, rfl⟩ := hp
          have := th_dep (n := (n : Nat)) 2 (c * 7 + 3)
          show (thT (n : Nat) 2 (c * 7 + 3)).dep < 4
          omega
        have q4 : (cs.map (qT n)).length ≤ 4 := by rw [List.length_map]; exact hcs
        generalize cs.map (qT n) = qq at hq3 hi3 qw qd q4 ⊢
        generalize (G2 ++ [.lst (qq.map sD)] ++ [.lst (cs.map Dt.int)] : GD) = G3 at hi3 hq3 ⊢
        generalize G2.length = iq at hq3 ⊢
        have hlt2 : i2 < G3.length := (List.getElem?_eq_some_iff.mp hi3).1
        have hltq : iq < G3.length := (List.getElem?_eq_some_iff.mp hq3).1
        refine truM (tru_lst hi3) ?_
        by_cases hne : worlds n ss = []
        · rw [hne]
          exact RetD.all (hq _)
        have ee : (!((worlds n ss).map wD).isEmpty) = true := by
          cases ew : worlds n ss with
          | nil => exact absurd ew hne
          | cons a b => rfl
        rw [ee]
        refine iteFb rfl ?_
        refine ⟨szl 0, ?_⟩
        refine seqR_ref (cell_lst (at_prev hi3)) ?_
        have mvS : ∀ {G' : GD}, Mv G3.length (G3 ++ [.lst []]) G' → G'[i2]? = some (.lst ((worlds n ss).map wD)) := fun {G'} m => m.at_ _ _ (by omega) (at_prev hi3)
        have mvQ : ∀ {G' : GD}, Mv G3.length (G3 ++ [.lst []]) G' → G'[iq]? = some (.lst (qq.map sD)) := fun {G'} m => m.at_ _ _ (by omega) (at_prev hq3)
        have rowE : ∀ v : Wd, Dt.tup (qq.map fun p => Dt.int (b2 (fit v p))) = DL.encT (kW (row (qfs qq) v)) := fun v => by
          unfold DL.encT kW row qfs
          rw [List.map_map, List.map_map, List.map_map]
          rfl
        have ak : Ask n ss qq 4 := ⟨m1, m5, hwf, hdp, qw, qd, q4, hne⟩
        refine lp_ind (fun ds σ G' => ∃ (a b : List Wd) (s6 : Option Dt), worlds n ss = a ++ b ∧ ds = b.map wD ∧ Mv G3.length (G3 ++ [.lst []]) G' ∧ G'[G3.length]? = some (.lst ((rowsK (qfs qq) a).map DL.encT)) ∧
          σ = [some (.ref i), some (hD n ss), some (.ref i2), some (.ref iq), s4, some (.ref G3.length), s6, none, none, none, none]) ?_ ?_ _ _ _ ⟨[], worlds n ss, none, rfl, rfl, Mv.refl, at_last, rfl⟩
        · rintro σ G4 ⟨a, b, s6, e, hds, mv, hrow, rfl⟩
          cases b with
          | cons x b => cases hds
          | nil =>
            rw [List.append_nil] at e
            subst e
            refine ⟨cell_lst (mvS mv), ?_⟩
            refine rdTuple_ref (cell_lst (mvQ mv)) ?_
            refine ⟨rfl, n, ss, qq, rfl, rfl, ak, ?_⟩
            refine rdTuple_ref (cell_lst (mvQ mv)) ?_
            refine ⟨rfl, n, ss, qq, rfl, rfl, ak, ?_⟩
            refine ⟨⟨G3.length, rowsK (qfs qq) (worlds n ss), rfl, cell_lst hrow, capRows (by rw [qfs_len]; exact q4), fun ks hkn hkm => ?_⟩⟩
            refine rdLen_of (len_lst hrow) ?_
            rw [List.length_map]
            show if decide (((ks.length : Nat) : Int) < (((rowsK (qfs qq) (worlds n ss)).length : Nat) : Int)) = true then _ else _
            have hiff := nd_iff hkn hkm
            rw [rows_nd] at hiff
            by_cases hap : apart (qfs qq) (worlds n ss)
            · obtain ⟨x, ex⟩ := best_some _ _ hne (Nat.le_refl _) hap
              have eb : bst (qfs qq) (worlds n ss) = some x := ex
              rw [eb]
              refine iteFb (decide_eq_false fun h => hiff.mp (by omega) hap) ?_
              obtain ⟨hwk, wm, hwm, ewm⟩ := best_walk _ _ _ ex
              have hok := best_ok _ _ _ ex
              rw [qfs_len] at hok
              have hlt := best_lt _ _ _ ex
              have hl4 : G3.length + 1 ≤ G4.length := by have := mv.len; simpa using this
              refine ⟨szl 0, ?_⟩
              refine seqR_ref (cell_lst (at_prev (mvS mv))) ?_
              have mvS' : ∀ {G' : GD}, Mv G4.length (G4 ++ [.lst []]) G' → G'[i2]? = some (.lst ((worlds n ss).map wD)) := fun {G'} m => m.at_ _ _ (by omega) (at_prev (mvS mv))
              have mvQ' : ∀ {G' : GD}, Mv G4.length (G4 ++ [.lst []]) G' → G'[iq]? = some (.lst (qq.map sD)) := fun {G'} m => m.at_ _ _ (by omega) (at_prev (mvQ mv))
              refine lp_ind (fun ds σ G' => ∃ (a b : List Wd) (s6 s10 : Option Dt), worlds n ss = a ++ b ∧ ds = b.map wD ∧ Mv G4.length (G4 ++ [.lst []]) G' ∧ G'[G4.length]? = some (.lst ((a.map fun v => (((walk (qfs qq) v x.2).2 : Nat) : Int)).map Dt.int)) ∧
                σ = [some (.ref i), some (hD n ss), some (.ref i2), some (.ref iq), s4, some (.ref G3.length), s6, some (pnD x.2), some (.int (x.1 : Nat)), some (.ref G4.length), s10]) ?_ ?_ _ _ _ ⟨[], worlds n ss, s6, none, rfl, rfl, Mv.refl, at_last, rfl⟩
              · rintro σ G6 ⟨a, b, s6, s10, e, hds, mv6, hcnt, rfl⟩
                cases b with
                | cons x b => cases hds
                | nil =>
                  rw [List.append_nil] at e
                  subst e
                  refine ⟨cell_lst (mvS' mv6), ?_⟩
                  refine ⟨rfl, _, rfl, ?_⟩
                  have hcn : (worlds n ss).map (fun v => (((walk (qfs qq) v x.2).2 : Nat) : Int)) ≠ [] := fun e => hne (List.map_eq_nil_iff.mp e)
                  refine rdMM_ref (cell_lst hcnt) (intsD_map _) hcn ?_
                  refine rdEq_int ?_
                  have etop : ((x.1 : Nat) : Int) = topI ((worlds n ss).map fun v => (((walk (qfs qq) v x.2).2 : Nat) : Int)) := top_uniq (List.mem_map.mpr ⟨wm, hwm, by rw [ewm]⟩) fun c hc => by
                    rw [List.mem_map] at hc
                    obtain ⟨v, hv, rfl⟩ := hc
                    have := (hwk v hv).2
                    omega
                  rw [← etop]
                  refine iteFb (by simp) ?_
                  refine rdEq_int ?_
                  show if (false ^^ decide (((x.1 : Nat) : Int) = 0)) = true then _ else _
                  by_cases hx0 : x.1 = 0
                  · refine iteTb (by rw [hx0]; rfl) ?_
                    exact RetD.all (hq _)
                  refine iteFb (by rw [Bool.false_xor]; exact decide_eq_false (by omega)) ?_
                  have ec : (((x.1 : Nat) : Int) - 1) = ((x.1 - 1 : Nat) : Int) := by omega
                  refine ⟨rfl, worlds n ss, qq, i2, iq, x.1 - 1, n, rfl, rfl, by dsimp only; rw [ec], mvS' mv6, mvQ' mv6, by omega, fun v hv => worlds_mem hv, qw, qd, by omega, ?_⟩
                  have en : needs (qfs qq) (x.1 - 1) (worlds n ss) = false := by
                    cases h : needs (qfs qq) (x.1 - 1) (worlds n ss) with
                    | false => rfl
                    | true =>
                      have := best_least _ _ x (x.1 - 1) (Nat.le_refl _) ex h
                      omega
                  rw [en]
                  exact RetD.all (hq _)
              · rintro d r K1 hK1 σ G6 ⟨a, b, s6, s10, e, hds, mv6, hcnt, rfl⟩
                cases b with
                | nil => cases hds
                | cons v b =>
                  cases hds
                  have hv : v ∈ worlds n ss := by rw [e]; simp
                  have hvl := worlds_mem hv
                  have hvw : Sg.wf v.length qq := by rw [hvl]; exact qw
                  refine ⟨cell_lst (mvS' mv6), ?_⟩
                  refine ⟨rfl, x.2, qq, v, iq, rfl, rfl, mvQ' mv6, rfl, hvw, qd, hok, ?_⟩
                  rw [(hwk v hv).1]
                  refine rdIx_of atI_0 ?_
                  refine rdEqP_same (lay_wD v) (Nat.le_trans (dep_wD v) (by decide)) ?_
                  refine rdTuple_ref (cell_lst (mvQ' mv6)) ?_
                  refine ⟨rfl, x.2, qq, v, rfl, rfl, rfl, hvw, qd, hok, ?_⟩
                  rw [(hwk v hv).1]
                  refine rdEqP_same (lay_due v _) (dep_due v _) ?_
                  refine ⟨⟨_, hcnt⟩, ?_⟩
                  refine rdIx_of atI_1 ?_
                  have hal : a.length ≤ 32 := by rw [e, List.length_append] at h32; omega
                  refine rdAppend_of hcnt (by rw [List.length_map, List.length_map]; omega) ?_
                  refine Wk.here (hK1 _ _ ⟨a ++ [v], b, _, _, by rw [e]; simp, rfl, mv6.put, ?_, rfl⟩)
                  have e3 : (a.map fun v => (((walk (qfs qq) v x.2).2 : Nat) : Int)).map Dt.int ++ [Dt.int ((walk (qfs qq) v x.2).2 : Nat)] = ((a ++ [v]).map fun v => (((walk (qfs qq) v x.2).2 : Nat) : Int)).map Dt.int := by
                    rw [List.map_append, List.map_append]
                    rfl
                  rw [e3]
                  exact at_set hcnt
            · have eb : bst (qfs qq) (worlds n ss) = none := (best_none hne (Nat.le_refl _)).mpr hap
              rw [eb]
              refine iteTb (decide_eq_true (by have := hiff.mpr hap; omega)) ?_
              exact RetD.all (hq _)
        · rintro d r K1 hK1 σ G4 ⟨a, b, s6, e, hds, mv, hrow, rfl⟩
          cases b with
          | nil => cases hds
          | cons v b =>
            cases hds
            have hv : v ∈ worlds n ss := by rw [e]; simp
            have hvl := worlds_mem hv
            refine ⟨cell_lst (mvS mv), ?_⟩
            refine ⟨⟨_, hrow⟩, ?_⟩
            refine seqR_ref (cell_lst (mvQ mv)) ?_
            refine lpc_ind (fun ds σ G' => ∃ (a' b' : Sg) (s0 : Option Dt), qq = a' ++ b' ∧ ds = b'.map sD ∧ G' = G4 ++ [.lst (a'.map fun p => Dt.int (b2 (fit v p)))] ∧ σ = [s0, some (wD v)]) ?_ ?_ _ _ _ ⟨[], qq, none, rfl, rfl, rfl, rfl⟩
            · rintro σ G5 ⟨a', b', s0, e', hds', rfl, rfl⟩
              cases b' with
              | cons x b' => cases hds'
              | nil =>
                rw [List.append_nil] at e'
                subst e'
                refine ⟨cell_lst (at_prev (mvQ mv)), ?_⟩
                refine rdTuple_ref (cell_lst at_last) ?_
                have hal : a.length ≤ 32 := by rw [e, List.length_append] at h32; omega
                refine rdAppend_of (at_prev hrow) (by unfold rowsK; rw [List.length_map, List.length_map]; omega) ?_
                refine Wk.here (hK1 _ _ ⟨a ++ [v], b, _, by rw [e]; simp, rfl, mv.push.put, ?_, rfl⟩)
                rw [rowE v]
                have e3 : (rowsK (qfs qq) a).map DL.encT ++ [DL.encT (kW (row (qfs qq) v))] = (rowsK (qfs qq) (a ++ [v])).map DL.encT := by
                  unfold rowsK
                  rw [List.map_append, List.map_append]
                  rfl
                rw [e3]
                exact at_set (at_prev hrow)
            · rintro d r K2 hK2 σ G5 ⟨a', b', s0, e', hds', rfl, rfl⟩
              cases b' with
              | nil => cases hds'
              | cons p b' =>
                cases hds'
                have hp : p ∈ qq := by rw [e']; simp
                refine ⟨cell_lst (at_prev (mvQ mv)), ?_⟩
                refine ⟨rfl, v, p, rfl, rfl, by rw [hvl]; exact qw p hp, qd p hp, ?_⟩
                have hal : a'.length ≤ 4 := by rw [e', List.length_append] at q4; omega
                refine gather_of at_last (by rw [List.length_map]; omega) ?_
                refine Wk.here (hK2 _ _ ⟨a' ++ [p], b', _, by rw [e']; simp, rfl, ?_, rfl⟩)
                rw [show ∀ c d : Cl, (G4 ++ [d]).set G4.length c = G4 ++ [c] from fun c d => by simp, List.map_append]
                rfl
    · rintro d r K1 hK1 σ G' ⟨a, b, s4, e, hds, rfl, rfl⟩
      cases b with
      | nil => cases hds
      | cons c b =>
        cases hds
        refine ⟨hW _, ?_⟩
        have hq3 : (G2 ++ [.lst ((a.map (qT n)).map sD)] ++ [.lst (cs.map Dt.int)] : GD)[G2.length]? = some (.lst ((a.map (qT n)).map sD)) := get_at
        obtain ⟨x0, xn⟩ := mix_lt (c := c) (p := 9907) (m := (n : Nat)) (by omega)
        refine ⟨⟨_, hq3⟩, ?_⟩
        refine rdIx_of atI_0 ?_
        refine ⟨rfl, by decide, show (0 : Int) < (n : Nat) by omega, ?_⟩
        refine ⟨cmul c 7, ?_⟩
        refine rdIx_of atI_0 ?_
        refine ⟨rfl, show (1 : Int) ≤ (n : Nat) by omega, by decide, by decide, ?_⟩
        have e2 : (2 : Int).toNat = 2 := rfl
        rw [e2, th_enc (n := (n : Nat)) (by omega) 2]
        refine ⟨szl 2, ?_⟩
        have hal : a.length ≤ 4 := by rw [e, List.length_append] at hcs; omega
        refine rdAppend_of hq3 (by rw [List.length_map, List.length_map]; omega) ?_
        rw [hput]
        refine Wk.here (hK1 _ _ ⟨a ++ [c], b, _, by rw [e]; simp, rfl, ?_, rfl⟩)
        have e3 : Dt.tup [.int (mixI c 9907 (n : Nat)), enc (thT (n : Nat) 2 (c * 7 + 3))] = sD (qT n c) := by
          unfold sD qT
          rw [Int.toNat_of_nonneg x0]
        rw [e3, List.map_append, List.map_append]
        rfl
  · exact hsp.elim
end
open PySem PySem.Spec L2 DL TH KT KH
section
variable {P : Program} {w : World} {K : PySem.W.Frag} {mg : Str → Option Value} {base : Heap}
structure Tx (K : PySem.W.Frag) (mg : Str → Option Value) : Prop where
  T : Bl K mg
  p0 : Plc K mg "so_of_two" s_so_of_two ["word", "one", "other"]
  p1 : Plc K mg "so" s_so ["thing", "world"]
  p2 : Plc K mg "would_say" s_would_say ["saying"]
  p3 : Plc K mg "fits" s_fits ["hall", "world"]
  p4 : Plc K mg "all_worlds" s_all_worlds ["many"]
  p5 : Plc K mg "worlds" s_worlds ["hall"]
  p6 : Plc K mg "answer" s_answer ["world", "question"]
  p7 : Plc K mg "walked" s_walked ["plan", "questions", "world"]
  p8 : Plc K mg "answers_by_world" s_answers ["question", "group"]
  p9 : Plc K mg "asking_first" s_asking_first ["n", "group", "table", "found"]
  p10 : Plc K mg "shortest_asking" s_shortest_asking ["group", "table", "found"]
  p11 : Plc K mg "shortest" s_shortest ["group", "table", "found"]
  p12 : Plc K mg "shortest_of" s_shortest_of ["hall", "questions"]
  p13 : Plc K mg "plan" s_plan ["hall", "questions"]
  p14 : Plc K mg "least" s_least ["hall", "questions"]
  p15 : Plc K mg "_law_cell" s_cell ["_law_script", "_law_k"]
  p16 : Plc K mg "_law_mix" s_mix ["_law_cell_here", "_law_prime", "_law_many"]
  p17 : Plc K mg "_law_thing" s_thing ["_law_cell_here", "_law_many", "_law_deep"]
  p18 : Plc K mg "_law_hall" s_hall ["_law_script"]
  p19 : Plc K mg "_law_whole" s_l_whole ["_law_found"]
  p20 : Plc K mg "_law_so" s_l_so ["_law_thing_here", "_law_world"]
  p21 : Plc K mg "_law_all" s_l_all ["_law_many"]
  p22 : Plc K mg "_law_fits" s_l_fits ["_law_hall_here", "_law_world"]
  p23 : Plc K mg "_law_worlds" s_l_worlds ["_law_hall_here"]
  p24 : Plc K mg "_law_answer" s_l_answer ["_law_world", "_law_question"]
  p25 : Plc K mg "_law_walk" s_l_walk ["_law_told", "_law_questions", "_law_world"]
  p26 : Plc K mg "_law_needs" s_l_needs ["_law_some", "_law_questions", "_law_most"]
theorem law_fn {fa : Addr} {fd : FuncData} (X : Tx K mg) (F : Fun K "law" "law" s_law fa fd) : FnOk P w K mg base CX0 99 fa fd ["_law_script"] (liSp K 1 sp_law) := by
  have f_so_of_two := ok_so_of_two (P := P) (w := w) (base := base) X.T X.p0
  have f_so := ok_so (P := P) (w := w) (base := base) X.T f_so_of_two X.p1 5
  have f_would_say := ok_would_say (P := P) (w := w) (base := base) X.T X.p2
  have f_fits := ok_fits (P := P) (w := w) (base := base) X.T f_so f_would_say X.p3
  have f_all_worlds := ok_all_worlds (P := P) (w := w) (base := base) X.T X.p4
  have f_worlds := ok_worlds (P := P) (w := w) (base := base) X.T f_all_worlds f_fits X.p5
  have f_answer := ok_answer (P := P) (w := w) (base := base) X.T f_so f_would_say X.p6
  have f_walked := ok_walked (P := P) (w := w) (base := base) X.T f_answer X.p7
  have f_answers_by_world := ok_answers (P := P) (w := w) (base := base) X.T f_answer X.p8
  have f_shortest := ok_shortest (P := P) (w := w) (base := base) X.T X.p9 X.p10 X.p11 32
  have f_shortest_of := ok_shortest_of (P := P) (w := w) (base := base) X.T f_worlds f_answers_by_world f_shortest X.p12
  have f_plan := ok_plan (P := P) (w := w) (base := base) X.T f_shortest_of X.p13
  have f_least := ok_least (P := P) (w := w) (base := base) X.T f_shortest_of X.p14
  have f__law_cell := ok_cell (P := P) (w := w) (base := base) X.T X.p15
  have f__law_mix := ok_mix (P := P) (w := w) (base := base) X.T X.p16
  have f__law_thing := ok_thing (P := P) (w := w) (base := base) X.T f__law_mix X.p17 4
  have f__law_hall := ok_hall (P := P) (w := w) (base := base) X.T f__law_cell f__law_mix f__law_thing X.p18
  have f__law_whole := ok_l_whole (P := P) (w := w) (base := base) X.T X.p19
  have f__law_so := ok_l_so (P := P) (w := w) (base := base) X.T X.p20 4
  have f__law_all := ok_l_all (P := P) (w := w) (base := base) X.T X.p21
  have f__law_fits := ok_l_fits (P := P) (w := w) (base := base) X.T f__law_so X.p22
  have f__law_worlds := ok_l_worlds (P := P) (w := w) (base := base) X.T f__law_all f__law_fits X.p23
  have f__law_answer := ok_l_answer (P := P) (w := w) (base := base) X.T f__law_so X.p24
  have f__law_walk := ok_l_walk (P := P) (w := w) (base := base) X.T f__law_answer X.p25
  have f__law_needs := ok_needs (P := P) (w := w) (base := base) X.T f__law_answer X.p26 32
  exact ok_law X.T f__law_cell f__law_mix f__law_thing f__law_hall f__law_whole f__law_worlds f__law_answer f__law_walk f__law_needs f_plan f_least f_walked F
end
end K08
open PySem PySem.W PyProof.Rows
set_option maxRecDepth 100000 in
set_option maxHeartbeats 0 in
theorem PySem.Challenge.cw_knavehall_k08_whole_plans_holds : PySem.Challenge.rw_knavehall_k08_whole_plans.Holds := by
  w_on; o_law; k_head; (case hw => w_witness2)
  k_fill
  refine KH.walk (m := 99) (by decide) (l := PySem.Challenge.rw_knavehall_k08_whole_plans) rfl rfl (fun w h Y => PySem.W.kIn_of Y) ?F
  case F =>
    intro w mg fa h KX G hmg
    have b_len := PySem.W.mg_none_of (n := "len") KX G (by k_is)
    have b_isinstance := PySem.W.mg_none_of (n := "isinstance") KX G (by k_is)
    have b_int := PySem.W.mg_none_of (n := "int") KX G (by k_is)
    have b_bool := PySem.W.mg_none_of (n := "bool") KX G (by k_is)
    have b_tuple := PySem.W.mg_none_of (n := "tuple") KX G (by k_is)
    have b_range := PySem.W.mg_none_of (n := "range") KX G (by k_is)
    have b_sum := PySem.W.mg_none_of (n := "sum") KX G (by k_is)
    have b_min := PySem.W.mg_none_of (n := "min") KX G (by k_is)
    have b_max := PySem.W.mg_none_of (n := "max") KX G (by k_is)
    have b_set := PySem.W.mg_none_of (n := "set") KX G (by k_is)
    have p0 : DL.Plc (L2.KOf KX) mg "so_of_two" K08.s_so_of_two ["word", "one", "other"] := by
      dsimp only [L2.KOf]
      refine' KH.plc_mk KX G ?a ?l ?c ?k ?b
      (case a => k_is); (case l => k_is); (case c => k_is); (case k => k_is)
      (case b => exact fun us hl => match us, hl with | [_, _, _], _ => rfl)
    have p1 : DL.Plc (L2.KOf KX) mg "so" K08.s_so ["thing", "world"] := by
      dsimp only [L2.KOf]
      refine' KH.plc_mk KX G ?a ?l ?c ?k ?b
      (case a => k_is); (case l => k_is); (case c => k_is); (case k => k_is)
      (case b => exact fun us hl => match us, hl with | [_, _], _ => rfl)
    have p2 : DL.Plc (L2.KOf KX) mg "would_say" K08.s_would_say ["saying"] := by
      dsimp only [L2.KOf]
      refine' KH.plc_mk KX G ?a ?l ?c ?k ?b
      (case a => k_is); (case l => k_is); (case c => k_is); (case k => k_is)
      (case b => exact fun us hl => match us, hl with | [_], _ => rfl)
    have p3 : DL.Plc (L2.KOf KX) mg "fits" K08.s_fits ["hall", "world"] := by
      dsimp only [L2.KOf]
      refine' KH.plc_mk KX G ?a ?l ?c ?k ?b
      (case a => k_is); (case l => k_is); (case c => k_is); (case k => k_is)
      (case b => exact fun us hl => match us, hl with | [_, _], _ => rfl)
    have p4 : DL.Plc (L2.KOf KX) mg "all_worlds" K08.s_all_worlds ["many"] := by
      dsimp only [L2.KOf]
      refine' KH.plc_mk KX G ?a ?l ?c ?k ?b
      (case a => k_is); (case l => k_is); (case c => k_is); (case k => k_is)
      (case b => exact fun us hl => match us, hl with | [_], _ => rfl)
    have p5 : DL.Plc (L2.KOf KX) mg "worlds" K08.s_worlds ["hall"] := by
      dsimp only [L2.KOf]
      refine' KH.plc_mk KX G ?a ?l ?c ?k ?b
      (case a => k_is); (case l => k_is); (case c => k_is); (case k => k_is)
      (case b => exact fun us hl => match us, hl with | [_], _ => rfl)
    have p6 : DL.Plc (L2.KOf KX) mg "answer" K08.s_answer ["world", "question"] := by
      dsimp only [L2.KOf]
      refine' KH.plc_mk KX G ?a ?l ?c ?k ?b
      (case a => k_is); (case l => k_is); (case c => k_is); (case k => k_is)
      (case b => exact fun us hl => match us, hl with | [_, _], _ => rfl)
    have p7 : DL.Plc (L2.KOf KX) mg "walked" K08.s_walked ["plan", "questions", "world"] := by
      dsimp only [L2.KOf]
      refine' KH.plc_mk KX G ?a ?l ?c ?k ?b
      (case a => k_is); (case l => k_is); (case c => k_is); (case k => k_is)
      (case b => exact fun us hl => match us, hl with | [_, _, _], _ => rfl)
    have p8 : DL.Plc (L2.KOf KX) mg "answers_by_world" K08.s_answers ["question", "group"] := by
      dsimp only [L2.KOf]
      refine' KH.plc_mk KX G ?a ?l ?c ?k ?b
      (case a => k_is); (case l => k_is); (case c => k_is); (case k => k_is)
      (case b => exact fun us hl => match us, hl with | [_, _], _ => rfl)
    have p9 : DL.Plc (L2.KOf KX) mg "asking_first" K08.s_asking_first ["n", "group", "table", "found"] := by
      dsimp only [L2.KOf]
      refine' KH.plc_mk KX G ?a ?l ?c ?k ?b
      (case a => k_is); (case l => k_is); (case c => k_is); (case k => k_is)
      (case b => exact fun us hl => match us, hl with | [_, _, _, _], _ => rfl)
    have p10 : DL.Plc (L2.KOf KX) mg "shortest_asking" K08.s_shortest_asking ["group", "table", "found"] := by
      dsimp only [L2.KOf]
      refine' KH.plc_mk KX G ?a ?l ?c ?k ?b
      (case a => k_is); (case l => k_is); (case c => k_is); (case k => k_is)
      (case b => exact fun us hl => match us, hl with | [_, _, _], _ => rfl)
    have p11 : DL.Plc (L2.KOf KX) mg "shortest" K08.s_shortest ["group", "table", "found"] := by
      dsimp only [L2.KOf]
      refine' KH.plc_mk KX G ?a ?l ?c ?k ?b
      (case a => k_is); (case l => k_is); (case c => k_is); (case k => k_is)
      (case b => exact fun us hl => match us, hl with | [_, _, _], _ => rfl)
    have p12 : DL.Plc (L2.KOf KX) mg "shortest_of" K08.s_shortest_of ["hall", "questions"] := by
      dsimp only [L2.KOf]
      refine' KH.plc_mk KX G ?a ?l ?c ?k ?b
      (case a => k_is); (case l => k_is); (case c => k_is); (case k => k_is)
      (case b => exact fun us hl => match us, hl with | [_, _], _ => rfl)
    have p13 : DL.Plc (L2.KOf KX) mg "plan" K08.s_plan ["hall", "questions"] := by
      dsimp only [L2.KOf]
      refine' KH.plc_mk KX G ?a ?l ?c ?k ?b
      (case a => k_is); (case l => k_is); (case c => k_is); (case k => k_is)
      (case b => exact fun us hl => match us, hl with | [_, _], _ => rfl)
    have p14 : DL.Plc (L2.KOf KX) mg "least" K08.s_least ["hall", "questions"] := by
      dsimp only [L2.KOf]
      refine' KH.plc_mk KX G ?a ?l ?c ?k ?b
      (case a => k_is); (case l => k_is); (case c => k_is); (case k => k_is)
      (case b => exact fun us hl => match us, hl with | [_, _], _ => rfl)
    have p15 : DL.Plc (L2.KOf KX) mg "_law_cell" K08.s_cell ["_law_script", "_law_k"] := by
      dsimp only [L2.KOf]
      refine' KH.plc_mk KX G ?a ?l ?c ?k ?b
      (case a => k_is); (case l => k_is); (case c => k_is); (case k => k_is)
      (case b => exact fun us hl => match us, hl with | [_, _], _ => rfl)
    have p16 : DL.Plc (L2.KOf KX) mg "_law_mix" K08.s_mix ["_law_cell_here", "_law_prime", "_law_many"] := by
      dsimp only [L2.KOf]
      refine' KH.plc_mk KX G ?a ?l ?c ?k ?b
      (case a => k_is); (case l => k_is); (case c => k_is); (case k => k_is)
      (case b => exact fun us hl => match us, hl with | [_, _, _], _ => rfl)
    have p17 : DL.Plc (L2.KOf KX) mg "_law_thing" K08.s_thing ["_law_cell_here", "_law_many", "_law_deep"] := by
      dsimp only [L2.KOf]
      refine' KH.plc_mk KX G ?a ?l ?c ?k ?b
      (case a => k_is); (case l => k_is); (case c => k_is); (case k => k_is)
      (case b => exact fun us hl => match us, hl with | [_, _, _], _ => rfl)
    have p18 : DL.Plc (L2.KOf KX) mg "_law_hall" K08.s_hall ["_law_script"] := by
      dsimp only [L2.KOf]
      refine' KH.plc_mk KX G ?a ?l ?c ?k ?b
      (case a => k_is); (case l => k_is); (case c => k_is); (case k => k_is)
      (case b => exact fun us hl => match us, hl with | [_], _ => rfl)
    have p19 : DL.Plc (L2.KOf KX) mg "_law_whole" K08.s_l_whole ["_law_found"] := by
      dsimp only [L2.KOf]
      refine' KH.plc_mk KX G ?a ?l ?c ?k ?b
      (case a => k_is); (case l => k_is); (case c => k_is); (case k => k_is)
      (case b => exact fun us hl => match us, hl with | [_], _ => rfl)
    have p20 : DL.Plc (L2.KOf KX) mg "_law_so" K08.s_l_so ["_law_thing_here", "_law_world"] := by
      dsimp only [L2.KOf]
      refine' KH.plc_mk KX G ?a ?l ?c ?k ?b
      (case a => k_is); (case l => k_is); (case c => k_is); (case k => k_is)
      (case b => exact fun us hl => match us, hl with | [_, _], _ => rfl)
    have p21 : DL.Plc (L2.KOf KX) mg "_law_all" K08.s_l_all ["_law_many"] := by
      dsimp only [L2.KOf]
      refine' KH.plc_mk KX G ?a ?l ?c ?k ?b
      (case a => k_is); (case l => k_is); (case c => k_is); (case k => k_is)
      (case b => exact fun us hl => match us, hl with | [_], _ => rfl)
    have p22 : DL.Plc (L2.KOf KX) mg "_law_fits" K08.s_l_fits ["_law_hall_here", "_law_world"] := by
      dsimp only [L2.KOf]
      refine' KH.plc_mk KX G ?a ?l ?c ?k ?b
      (case a => k_is); (case l => k_is); (case c => k_is); (case k => k_is)
      (case b => exact fun us hl => match us, hl with | [_, _], _ => rfl)
    have p23 : DL.Plc (L2.KOf KX) mg "_law_worlds" K08.s_l_worlds ["_law_hall_here"] := by
      dsimp only [L2.KOf]
      refine' KH.plc_mk KX G ?a ?l ?c ?k ?b
      (case a => k_is); (case l => k_is); (case c => k_is); (case k => k_is)
      (case b => exact fun us hl => match us, hl with | [_], _ => rfl)
    have p24 : DL.Plc (L2.KOf KX) mg "_law_answer" K08.s_l_answer ["_law_world", "_law_question"] := by
      dsimp only [L2.KOf]
      refine' KH.plc_mk KX G ?a ?l ?c ?k ?b
      (case a => k_is); (case l => k_is); (case c => k_is); (case k => k_is)
      (case b => exact fun us hl => match us, hl with | [_, _], _ => rfl)
    have p25 : DL.Plc (L2.KOf KX) mg "_law_walk" K08.s_l_walk ["_law_told", "_law_questions", "_law_world"] := by
      dsimp only [L2.KOf]
      refine' KH.plc_mk KX G ?a ?l ?c ?k ?b
      (case a => k_is); (case l => k_is); (case c => k_is); (case k => k_is)
      (case b => exact fun us hl => match us, hl with | [_, _, _], _ => rfl)
    have p26 : DL.Plc (L2.KOf KX) mg "_law_needs" K08.s_l_needs ["_law_some", "_law_questions", "_law_most"] := by
      dsimp only [L2.KOf]
      refine' KH.plc_mk KX G ?a ?l ?c ?k ?b
      (case a => k_is); (case l => k_is); (case c => k_is); (case k => k_is)
      (case b => exact fun us hl => match us, hl with | [_, _, _], _ => rfl)
    have T : K08.Bl (L2.KOf KX) mg := ⟨b_len, b_isinstance, b_int, b_bool, b_tuple, b_range, b_sum, b_min, b_max, b_set⟩
    have X : K08.Tx (L2.KOf KX) mg := ⟨T, p0, p1, p2, p3, p4, p5, p6, p7, p8, p9, p10, p11, p12, p13, p14, p15, p16, p17, p18, p19, p20, p21, p22, p23, p24, p25, p26⟩
    have L : ∃ fa' : Addr, ∃ fd : FuncData, mg "law" = some (.ref fa') ∧ L2.Fun (L2.KOf KX) "law" "law" K08.s_law fa' fd ∧ ∀ (s : Shared) (u : Value), BindsTo s fd ⟨[u], []⟩ [("_law_script", u)] := by
      dsimp only [L2.KOf]
      refine' ⟨_, _, PySem.W.mg_of KX G ?a, L2.fun_mk ?l ?c ?k, ?b⟩
      (case a => k_is); (case l => k_is); (case c => k_is); (case k => k_is)
      exact fun s u => .of_eq rfl
    obtain ⟨fa', fd, e, F, hb⟩ := L
    have e0 := hmg.symm.trans e
    cases e0
    exact ⟨fd, hb, fun base _ _ => K08.law_fn X F⟩
#print axioms PySem.Challenge.cw_knavehall_k08_whole_plans_holds
