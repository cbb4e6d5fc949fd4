import PyProof.Rows.All
import Wide.All
import OpenK.AllK
import Wide.FinOn
import Lean
import PyProof.EqAt
import PyProof.EqKinds
import PyProof.TupleCall
import KE.KSortTup
import KE.KTryOn
import KE.KIsAll
import PyProof.NsDelKeeps
import KE.KRevIter
import PyProof.StrCalls2
import PyProof.StrLawsTight
import PyProof.ReprStr
import PyProof.StrLawsRepr
import PyProof.StrLawsJoin
import PySem.Challenge.RW_knavehall_k02_whole_texts
set_option Elab.async false
set_option linter.all false
set_option maxRecDepth 100000
set_option maxHeartbeats 8000000
-- CHANGE: your row's module here, as the last of these rows
/-! THE HAND LAYER, for ints, bools, texts, own classes, LISTS and tuples (index, slices, in, append, pop ..), calls, loops. Paste it whole ahead of your own text; what your proof does not reach may be deleted. -/
namespace L2
open PySem PySem.Spec PyProof.Rows

/-- a key: an int or a str -/
abbrev Key := Sum Int Str
def keyIs : Key → Value → Bool
  | .inl k, v => Value.isInt k v
  | .inr x, v => Value.isStrOf x v
def keyH (w : World) : Key → Int
  | .inl k => hashInt k
  | .inr x => hashStr w x
theorem keyIs_shape : ∀ {k : Key} {v : Value}, keyIs k v = true → (∃ i t, k = Sum.inl i ∧ v = Value.int i t) ∨ (∃ x t, k = Sum.inr x ∧ v = Value.str x t)
  | .inl i, v, h => by
    obtain ⟨t, e⟩ := Value.isInt_shape (k := i) (v := v) h
    exact .inl ⟨i, t, rfl, e⟩
  | .inr x, v, h => by
    obtain ⟨t, e⟩ := Value.isStrOf_shape (x := x) (v := v) h
    exact .inr ⟨x, t, rfl, e⟩
theorem keyIs_int (i : Int) (t : Tok) : keyIs (.inl i) (.int i t) = true := by simp [keyIs, Value.isInt]
theorem keyIs_str (x : Str) (t : Tok) : keyIs (.inr x) (.str x t) = true := by simp [keyIs, Value.isStrOf]
theorem key_ll (a b : Int) : decide ((Sum.inl a : Key) = Sum.inl b) = (a == b) := by
  by_cases e : a = b
  · subst e; simp
  · have h : ¬ (Sum.inl a : Key) = Sum.inl b := fun q => e (Sum.inl.inj q)
    rw [decide_eq_false h]
    exact (beq_eq_false_iff_ne.mpr e).symm
theorem key_rr (a b : Str) : decide ((Sum.inr a : Key) = Sum.inr b) = decide (a = b) := by
  by_cases e : a = b
  · subst e; simp
  · have h : ¬ (Sum.inr a : Key) = Sum.inr b := fun q => e (Sum.inr.inj q)
    rw [decide_eq_false h, decide_eq_false e]
theorem key_lr (a : Int) (b : Str) : decide ((Sum.inl a : Key) = Sum.inr b) = false := decide_eq_false (fun q => nomatch q)
theorem key_rl (a : Str) (b : Int) : decide ((Sum.inr a : Key) = Sum.inl b) = false := decide_eq_false (fun q => nomatch q)

def mixKind (prog : Program) (w : World) : PySem.KeyKind prog w Key where
  is := keyIs
  hash := keyH w
  inj := fun v a b ha hb => by
    rcases keyIs_shape ha with ⟨i, t, rfl, rfl⟩ | ⟨x, t, rfl, rfl⟩
    · rcases keyIs_shape hb with ⟨j, u, rfl, e⟩ | ⟨y, u, rfl, e⟩
      · injection e with e1 _; rw [e1]
      · exact nomatch e
    · rcases keyIs_shape hb with ⟨j, u, rfl, e⟩ | ⟨y, u, rfl, e⟩
      · exact nomatch e
      · injection e with e1 _; rw [e1]
  byValue := fun k v h => by
    rcases keyIs_shape h with ⟨i, t, rfl, rfl⟩ | ⟨x, t, rfl, rfl⟩ <;> rfl
  pyHash := fun hv h => by
    rcases keyIs_shape hv with ⟨i, t, rfl, rfl⟩ | ⟨x, t, rfl, rfl⟩
    · exact wpAny_pyHash_int h
    · exact wpAny_pyHash_str h
  eqBool := fun hu hv h => by
    rcases keyIs_shape hu with ⟨i, t, rfl, rfl⟩ | ⟨x, t, rfl, rfl⟩
    · rcases keyIs_shape hv with ⟨j, u, rfl, rfl⟩ | ⟨y, u, rfl, rfl⟩
      · rw [key_ll] at h; exact wpAny_eqBool_int h
      · rw [key_lr] at h; exact SeqAt.EqAt.int_str i t y u _ _ _ _ h
    · rcases keyIs_shape hv with ⟨j, u, rfl, rfl⟩ | ⟨y, u, rfl, rfl⟩
      · rw [key_rl] at h; exact SeqAt.EqAt.str_int x t j u _ _ _ _ h
      · rw [key_rr] at h; exact wpAny_eqBool_str h
  «strs» := fun k x t v h => by
    rcases keyIs_shape h with ⟨i, u, rfl, e⟩ | ⟨y, u, rfl, e⟩
    · exact nomatch e
    · injection e with e1 _
      subst e1
      cases v <;> rfl

theorem mixKind_int (prog : Program) (w : World) (i : Int) (t : Tok) : (mixKind prog w).is (.inl i) (.int i t) = true := keyIs_int i t
theorem mixKind_str (prog : Program) (w : World) (x : Str) (t : Tok) : (mixKind prog w).is (.inr x) (.str x t) = true := keyIs_str x t
end L2

namespace L2
open PySem PySem.Spec PyProof.Rows

/-- a value, without the heap -/
inductive V where
  | non | bl (b : Bool) | int (i : Int) | str (x : Str) | byt (b : Array UInt8) | flt (b : UInt64) | ref (a : Addr) | ty (n : String)
  deriving DecidableEq

def RelV : V → Value → Prop
  | .non, u => u = Value.none
  | .bl b, u => u = Value.bool b
  | .int i, u => ∃ t, u = Value.int i t
  | .str x, u => ∃ t, u = Value.str x t
  | .byt b, u => ∃ t, u = Value.bytes b t
  | .flt b, u => ∃ t, u = Value.float b t
  | .ref a, u => u = Value.ref a
  | .ty n, u => u = Value.type n

abbrev Vals : List V → List Value → Prop := Paired RelV
theorem Vals.length {xs : List V} {us : List Value} (r : Vals xs us) : xs.length = us.length := Paired.length r
theorem Vals.get : ∀ {xs : List V} {us : List Value} {i : Nat} {x : V}, Vals xs us → xs[i]? = some x → ∃ u, us[i]? = some u ∧ RelV x u
  | _, _, _, _, .nil, e => by simp at e
  | _, _, 0, _, .cons r _, e => by simp at e; subst e; exact ⟨_, rfl, r⟩
  | _, _, i + 1, x, .cons _ t, e => by
    obtain ⟨u, h1, h2⟩ := Vals.get (i := i) (x := x) t (by simpa using e)
    exact ⟨u, by simpa using h1, h2⟩
theorem Vals.set {x : V} {u : Value} (r : RelV x u) : ∀ {xs : List V} {us : List Value} (i : Nat), Vals xs us → Vals (xs.set i x) (us.set i u)
  | _, _, _, .nil => .nil
  | _, _, 0, .cons _ t => .cons r t
  | _, _, i + 1, .cons q t => .cons q (Vals.set r i t)
theorem Vals.append : ∀ {xs ys : List V} {us ws : List Value}, Vals xs us → Vals ys ws → Vals (xs ++ ys) (us ++ ws)
  | _, _, _, _, .nil, s => s
  | _, _, _, _, .cons r t, s => .cons r (Vals.append t s)
theorem Vals.take : ∀ {xs : List V} {us : List Value} (n : Nat), Vals xs us → Vals (xs.take n) (us.take n)
  | _, _, 0, _ => .nil
  | _, _, _ + 1, .nil => .nil
  | _, _, n + 1, .cons r t => .cons r (Vals.take n t)
theorem Vals.drop : ∀ {xs : List V} {us : List Value} (n : Nat), Vals xs us → Vals (xs.drop n) (us.drop n)
  | _, _, 0, r => r
  | _, _, _ + 1, .nil => .nil
  | _, _, n + 1, .cons _ t => Vals.drop n t
def RelO : Option V → Option Value → Prop
  | some v, some u => RelV v u
  | none, none => True
  | _, _ => False
def KV {κ : Type} : List (κ × V) → List (κ × Value) → Prop := Paired fun (p : κ × V) (q : κ × Value) => p.1 = q.1 ∧ RelV p.2 q.2

/-- a key of a dict (00_mix): an int or a text -/
def kV : Key → V
  | .inl i => .int i
  | .inr x => .str x

/-- what stands at a tracked address -/
inductive HO where
  /-- a list -/
  | lst (xs : List V)
  /-- a tuple (never changes) -/
  | tup (xs : List V)
  /-- a dict whose keys are ints and texts; one whose keys are tuples of ints and texts (the empty one is both) -/
  | dK (kvs : List (Key × V)) | dT (kvs : List (List Key × V))
  /-- a set of ints: its members, its size -/
  | set (S : Int → Bool) (n : Nat)
  /-- an instance of the class at C, its dict at dx, its attributes -/
  | ins (C dx : Addr) (fs : List (Str × V))
  /-- the dict of the instance at x -/
  | own (x : Addr)
  /-- the dict of an exception -/
  | xd (fs : List (Str × V))
  /-- a bound method, f of x -/
  | met (f x : Addr)
  /-- a range object lo, lo + 1, .. below hi -/
  | rng (lo hi : Int)
  /-- a thing that is known to the object (the script; a dict while a loop walks it): read, never written while it is so -/
  | frz (o : Obj) (u : HO)
  /-- a code object's table -/
  | tbl (ps : Array Value)
  /-- any other thing, by what is true of its one object (a def of one's own: SetO a S n := HO.ext fun h => ..) -/
  | ext (φ : Heap → Prop)

abbrev Hp := Addr → Option HO
def upd (H : Hp) (a : Addr) (o : HO) : Hp := fun b => if b = a then some o else H b
theorem upd_same {H : Hp} {a : Addr} {o : HO} : upd H a o a = some o := by unfold upd; rw [if_pos rfl]
theorem upd_ne {H : Hp} {a b : Addr} {o : HO} (h : b ≠ a) : upd H a o b = H b := by unfold upd; rw [if_neg h]
/-- two objects of different content stand apart -/
theorem ne_of {H : Hp} {a b : Addr} {o u : HO} (h : H a = some o) (h' : H b = some u) (d : o ≠ u) : a ≠ b := by
  intro e; subst e; rw [h] at h'; exact d (Option.some.inj h')
theorem ne_of_none {H : Hp} {a b : Addr} {o : HO} (h : H a = some o) (h' : H b = none) : a ≠ b := by
  intro e; subst e; rw [h] at h'; cases h'

/-- a tuple without attributes of its own -/
def IsTupN (h : Heap) (a : Addr) (items : Array Value) : Prop := ∃ o, h.get? a = some o ∧ o.cls = .type "tuple" ∧ (∃ n, o.data = .seq items n) ∧ o.dict = none
theorem IsTupN.tup {h : Heap} {a : Addr} {items : Array Value} (x : IsTupN h a items) : IsTup h a items := let ⟨o, e, c, d, _⟩ := x; ⟨o, e, c, d⟩
theorem IsTupN.new (h : Heap) (items : Array Value) : IsTupN (h.push { cls := .type "tuple", data := .seq items }) h.objs.size items := ⟨_, Heap.get?_push_size _ rfl, rfl, ⟨_, rfl⟩, rfl⟩
section
variable (P : Program) (w : World)
def ObjOk (H : Hp) (h : Heap) (a : Addr) : HO → Prop
  | .lst xs => xs.length ≤ sizeLine ∧ ∃ (its : List Value) (n : Nat), Vals xs its ∧ h.get? a = some { cls := .type "list", data := .seq its.toArray n }
  | .tup xs => xs.length ≤ sizeLine ∧ ∃ its : List Value, Vals xs its ∧ IsTupN h a its.toArray
  | .dK kvs => kvs.length ≤ sizeLine ∧ (a == sysModules) = false ∧ ∃ vs, KV kvs vs ∧ h.DictOf (mixKind P w) a vs
  | .dT kvs => kvs.length ≤ sizeLine ∧ (a == sysModules) = false ∧ ∃ xs : List (List Key × Addr × Value),
      Paired (fun (p : List Key × V) (q : List Key × Addr × Value) => p.1 = q.1 ∧ H q.2.1 = some (.tup (p.1.map kV)) ∧ RelV p.2 q.2.2) kvs xs ∧
      ∃ o es ep, h.get? a = some o ∧ o.ExactDict ∧ o.data = .dict es ep ∧ es.toList = xs.map (entryOfKey (tupleKind (mixKind P w))) ∧ (xs.map (·.1)).Nodup
  | .set S n => h.SetOf (intKind P w) a S n
  | .ins C dx fs => H dx = some (.own a) ∧ fs.length ≤ 1000 ∧ dx ≠ a ∧ h.get? a = some (PySem.W.instObj C dx) ∧
      ∃ mA, h.Ns1 dx mA ∧ (∀ f, RelO (fs.lookup f) (mA f)) ∧ PySem.Within mA (fs.map (·.1))
  | .own _ => ∃ o, h.get? a = some o
  | .xd fs => ∃ mA, h.Ns1 a mA ∧ ∀ f, RelO (fs.lookup f) (mA f)
  | .rng lo hi => ∃ t u v, h.get? a = some { cls := .type "range", data := .fields #[.int lo t, .int hi u, .int 1 v] }
  | .frz o u => h.get? a = some o ∧ ObjOk H h a u
  | .tbl ps => h.get? a = some { cls := .none, data := .fields ps }
  | .met f x => h.get? a = some (PySem.W.methodObj (.ref f) (.ref x))
  | .ext φ => φ h ∧ (∃ o, h.get? a = some o) ∧ ∀ h1 h2 : Heap, φ h1 → (∀ o, h1.get? a = some o → h2.get? a = some o) → φ h2
/-- the abstract heap is held -/
def HOk (H : Hp) (h : Heap) : Prop := ∀ a o, H a = some o → ObjOk P w H h a o
end

section
variable {P : Program} {w : World} {H H' : Hp} {h h' : Heap} {a : Addr} {o : HO}
theorem ObjOk.lt (x : ObjOk P w H h a o) : a < h.objs.size := by
  cases o with
  | lst xs => obtain ⟨_, _, _, _, e⟩ := x; exact Heap.lt_size e
  | tup xs => obtain ⟨_, _, _, p⟩ := x; exact p.tup.lt
  | dK kvs => obtain ⟨_, _, _, _, o, _, _, e, _⟩ := x; exact Heap.lt_size e
  | dT kvs => obtain ⟨_, _, _, _, o, _, _, e, _⟩ := x; exact Heap.lt_size e
  | set S n => obtain ⟨o, _, _, _, e, _⟩ := x; exact Heap.lt_size e
  | ins C dx fs => obtain ⟨_, _, _, e, _⟩ := x; exact Heap.lt_size e
  | own y => obtain ⟨_, e⟩ := x; exact Heap.lt_size e
  | xd fs => obtain ⟨_, ⟨_, _, _, e, _⟩, _⟩ := x; exact Heap.lt_size e
  | rng lo hi => obtain ⟨_, _, _, e⟩ := x; exact Heap.lt_size e
  | frz ob u => obtain ⟨e, _⟩ := x; exact Heap.lt_size e
  | tbl ps => exact Heap.lt_size (show h.get? a = some _ from x)
  | met f y => exact Heap.lt_size (show h.get? a = some _ from x)
  | ext φ => obtain ⟨_, ⟨_, e⟩, _⟩ := x; exact Heap.lt_size e
theorem Paired.mapP {α β : Type} {F G : α → β → Prop} : ∀ {l₁ : List α} {l₂ : List β}, Paired F l₁ l₂ → (∀ a b, F a b → G a b) → Paired G l₁ l₂
  | _, _, .nil, _ => .nil
  | _, _, .cons r t, f => .cons (f _ _ r) (Paired.mapP t f)
/-- what an object's description leans on: its own object, its own dict, the tuples -/
theorem ObjOk.stay (x : ObjOk P w H h a o) (k : ∀ b u, (b = a ∨ H b = some (.own a)) → h.get? b = some u → h'.get? b = some u)
    (ho : ∀ b, H b = some (.own a) → H' b = some (.own a)) (ht : ∀ b xs, H b = some (.tup xs) → H' b = some (.tup xs)) : ObjOk P w H' h' a o := by
  induction o with
  | lst xs => obtain ⟨z, its, n, r, e⟩ := x; exact ⟨z, its, n, r, k _ _ (.inl rfl) e⟩
  | tup xs => obtain ⟨z, its, r, ob, e, c⟩ := x; exact ⟨z, its, r, ob, k _ _ (.inl rfl) e, c⟩
  | dK kvs => obtain ⟨z, y, vs, r, ob, es, ep, e, c⟩ := x; exact ⟨z, y, vs, r, ob, es, ep, k _ _ (.inl rfl) e, c⟩
  | dT kvs =>
    obtain ⟨z, y, xs, r, ob, es, ep, e, c⟩ := x
    exact ⟨z, y, xs, Paired.mapP r fun p q z => ⟨z.1, ht _ _ z.2.1, z.2.2⟩, ob, es, ep, k _ _ (.inl rfl) e, c⟩
  | set S n => obtain ⟨ob, es, ep, t, e, c⟩ := x; exact ⟨ob, es, ep, t, k _ _ (.inl rfl) e, c⟩
  | ins C dx fs =>
    obtain ⟨d, z, ne, e, mA, ⟨od, es, ep, e2, c⟩, r⟩ := x
    exact ⟨ho _ d, z, ne, k _ _ (.inl rfl) e, mA, ⟨od, es, ep, k _ _ (.inr d) e2, c⟩, r⟩
  | own y => obtain ⟨ob, e⟩ := x; exact ⟨ob, k _ _ (.inl rfl) e⟩
  | xd fs => obtain ⟨mA, ⟨od, es, ep, e, c⟩, r⟩ := x; exact ⟨mA, ⟨od, es, ep, k _ _ (.inl rfl) e, c⟩, r⟩
  | rng lo hi => obtain ⟨t, u, v, e⟩ := x; exact ⟨t, u, v, k _ _ (.inl rfl) e⟩
  | frz ob u ih => obtain ⟨e, q⟩ := x; exact ⟨k _ _ (.inl rfl) e, ih q⟩
  | tbl ps =>
    have e : h.get? a = some { cls := .none, data := .fields ps } := x
    show h'.get? a = some { cls := .none, data := .fields ps }
    exact k a _ (.inl rfl) e
  | met f y =>
    have e : h.get? a = some (PySem.W.methodObj (.ref f) (.ref y)) := x
    show h'.get? a = some (PySem.W.methodObj (.ref f) (.ref y))
    exact k a _ (.inl rfl) e
  | ext φ => obtain ⟨p, ⟨o, e⟩, st⟩ := x; exact ⟨st _ _ p fun o q => k _ _ (.inl rfl) q, ⟨o, k _ _ (.inl rfl) e⟩, st⟩
theorem HOk.lt (x : HOk P w H h) (e : H a = some o) : a < h.objs.size := (x a o e).lt
theorem HOk.fresh (x : HOk P w H h) (e : h.objs.size ≤ a) : H a = none := by
  cases q : H a with
  | none => rfl
  | some u => exact absurd (Nat.lt_of_lt_of_le (x.lt q) e) (Nat.lt_irrefl _)
/-- every object of the heap is kept -/
theorem HOk.kept (x : HOk P w H h) (k : ∀ b u, h.get? b = some u → h'.get? b = some u) : HOk P w H h' := fun a o e =>
  (x a o e).stay (fun b u _ q => k b u q) (fun _ q => q) fun _ _ q => q
/-- a new object is laid and tracked -/
theorem HOk.laid (x : HOk P w H h) (k : ∀ b u, h.get? b = some u → h'.get? b = some u) (hp : h.objs.size ≤ a) (new : ObjOk P w (upd H a o) h' a o) : HOk P w (upd H a o) h' := fun b u e => by
  have hn := x.fresh hp
  by_cases hb : b = a
  · subst hb; rw [upd_same] at e; cases e; exact new
  · rw [upd_ne hb] at e
    exact (x b u e).stay (fun c v _ q => k c v q) (fun c q => by rw [upd_ne (ne_of_none q hn)]; exact q) fun c xs q => by rw [upd_ne (ne_of_none q hn)]; exact q
end

/-- what may be read as u: it is u, or a known u -/
def Rd (H : Hp) (a : Addr) (u : HO) : Prop := H a = some u ∨ ∃ o, H a = some (.frz o u)
theorem Rd.of {H : Hp} {a : Addr} {u : HO} (h : H a = some u) : Rd H a u := .inl h
theorem Rd.ok {P : Program} {w : World} {H : Hp} {h : Heap} {a : Addr} {u : HO} (r : Rd H a u) (x : HOk P w H h) : ObjOk P w H h a u := by
  rcases r with r | ⟨o, r⟩
  · exact x a u r
  · obtain ⟨_, q⟩ := x a _ r
    exact q
/-- what may be written -/
def Mut : Option HO → Prop
  | some (.lst _) => True
  | some (.dK _) => True
  | some (.dT _) => True
  | some (.set _ _) => True
  | some (.ins _ _ _) => True
  | some (.ext _) => True
  | _ => False
section
variable {P : Program} {w : World} {H : Hp} {h h' : Heap} {x e : Addr} {o' : HO}
/-- the object at e is changed: x itself, or the dict of the instance x -/
theorem HOk.write (ok : HOk P w H h) (mu : Mut (H x)) (he : e = x ∨ H e = some (.own x)) (k : ∀ b u, b ≠ e → h.get? b = some u → h'.get? b = some u) (heo : ∃ u, h'.get? e = some u)
    (new : ObjOk P w (upd H x o') h' x o') : HOk P w (upd H x o') h' := fun b u q => by
  have nown : ∀ c y, H c = some (.own y) → c ≠ x := fun c y r z => by subst z; rw [r] at mu; exact mu
  have ntup : ∀ c xs, H c = some (.tup xs) → c ≠ x := fun c xs r z => by subst z; rw [r] at mu; exact mu
  by_cases hb : b = x
  · subst hb; rw [upd_same] at q; cases q; exact new
  · rw [upd_ne hb] at q
    by_cases hbe : b = e
    · have q' : H b = some (.own x) := by
        rcases he with z | z
        · exact absurd (hbe.trans z) hb
        · rw [hbe]; exact z
      rw [q] at q'; cases q'
      obtain ⟨v, hv⟩ := heo
      exact ⟨v, by rw [hbe]; exact hv⟩
    · refine (ok b u q).stay (fun c v hc r => k c v ?_ r) (fun c r => by rw [upd_ne (nown c b r)]; exact r) fun c xs r => by rw [upd_ne (ntup c xs r)]; exact r
      rcases hc with rfl | hc
      · exact hbe
      · rintro rfl
        rcases he with z | z
        · exact nown c b hc z
        · rw [hc] at z; cases z; exact hb rfl
end

/-! ### kept unless tracked; of the frames at fs (the callers') the slots may change (an exception that passes writes there); of the records at ex (iterators) nothing is said -/
structure Un (fs ex : List Addr) (H H' : Hp) (h h' : Heap) : Prop where
  keep : ∀ b o, h.get? b = some o → H b = none → b ∉ fs → b ∉ ex → h'.get? b = some o
  slot : ∀ b o, h.get? b = some o → H b = none → b ∈ fs → b ∉ ex → ∃ sl, h'.get? b = some { o with slots := sl }
  free : ∀ b o, h.get? b = some o → H b = none → b ∉ ex → H' b = none
  there : ∀ b o, h.get? b = some o → b ∉ ex → ∃ o', h'.get? b = some o'
  tups : ∀ b xs, H b = some (.tup xs) → H' b = some (.tup xs)
  frzs : ∀ b o u, H b = some (.frz o u) → H' b = some (.frz o u)
  tbls : ∀ b ps, H b = some (.tbl ps) → ∃ more, H' b = some (.tbl (ps ++ more))
section
variable {fs fs' ex ex' : List Addr} {H H1 H2 : Hp} {h h1 h2 h' : Heap} {a x e : Addr} {o : HO}
theorem Un.any (u : Un fs ex H H1 h h1) {b : Addr} {ob : Obj} (q : h.get? b = some ob) (n : H b = none) (hx : b ∉ ex) : ∃ sl, h1.get? b = some { ob with slots := sl } := by
  by_cases hb : b ∈ fs
  · exact u.slot b ob q n hb hx
  · exact ⟨ob.slots, u.keep b ob q n hb hx⟩
theorem Un.trans (a : Un fs ex H H1 h h1) (b : Un fs ex H1 H2 h1 h2) : Un fs ex H H2 h h2 where
  keep := fun c ob q n hc hx => b.keep c ob (a.keep c ob q n hc hx) (a.free c ob q n hx) hc hx
  slot := fun c ob q n hc hx => by
    obtain ⟨sl, e1⟩ := a.slot c ob q n hc hx
    obtain ⟨sl', e2⟩ := b.slot c _ e1 (a.free c ob q n hx) hc hx
    exact ⟨sl', e2⟩
  free := fun c ob q n hx => by
    obtain ⟨o', e1⟩ := a.there c ob q hx
    exact b.free c o' e1 (a.free c ob q n hx) hx
  there := fun c ob q hx => by
    obtain ⟨o', e1⟩ := a.there c ob q hx
    exact b.there c o' e1 hx
  tups := fun c xs q => b.tups c xs (a.tups c xs q)
  frzs := fun c ob xs q => b.frzs c ob xs (a.frzs c ob xs q)
  tbls := fun c ps q => by
    obtain ⟨m1, e1⟩ := a.tbls c ps q
    obtain ⟨m2, e2⟩ := b.tbls c _ e1
    exact ⟨m1 ++ m2, by rw [e2, Array.append_assoc]⟩
theorem Un.kept (k : ∀ b u, h.get? b = some u → h'.get? b = some u) : Un fs ex H H h h' :=
  ⟨fun b ob q _ _ _ => k b ob q, fun b ob q _ _ _ => ⟨ob.slots, k b ob q⟩, fun _ _ _ n _ => n, fun b ob q _ => ⟨ob, k b ob q⟩, fun _ _ q => q, fun _ _ _ q => q, fun _ ps q => ⟨#[], by rw [q]; simp⟩⟩
theorem Un.refl : Un fs ex H H h h := Un.kept fun _ _ q => q
theorem Un.laid (k : ∀ b u, h.get? b = some u → h'.get? b = some u) (hp : h.objs.size ≤ a) (hn : H a = none) : Un fs ex H (upd H a o) h h' where
  keep := fun b u q _ _ _ => k b u q
  slot := fun b u q _ _ _ => ⟨u.slots, k b u q⟩
  free := fun b u q n _ => by rw [upd_ne (Nat.ne_of_lt (Nat.lt_of_lt_of_le (Heap.lt_size q) hp))]; exact n
  there := fun b u q _ => ⟨u, k b u q⟩
  tups := fun b xs q => by rw [upd_ne (ne_of_none q hn)]; exact q
  frzs := fun b u xs q => by rw [upd_ne (ne_of_none q hn)]; exact q
  tbls := fun b ps q => ⟨#[], by rw [upd_ne (ne_of_none q hn), q]; simp⟩
theorem Un.write (mu : Mut (H x)) (he : e = x ∨ H e = some (.own x)) (k : ∀ b u, b ≠ e → h.get? b = some u → h'.get? b = some u) (heo : ∃ u, h'.get? e = some u) : Un fs ex H (upd H x o) h h' := by
  have hx : ∀ b, H b = none → b ≠ x := fun b n z => by subst z; rw [n] at mu; exact mu
  have hb : ∀ b, H b = none → b ≠ e := fun b n z => by
    subst z
    rcases he with r | r
    · exact hx b n r
    · rw [n] at r; cases r
  have hm : ∀ b u, H b = some u → ¬ Mut (some u) → b ≠ x := fun b u q nm z => by subst z; rw [q] at mu; exact nm mu
  refine ⟨fun b u q n _ _ => k b u (hb b n) q, fun b u q n _ _ => ⟨u.slots, k b u (hb b n) q⟩, fun b u q n _ => by rw [upd_ne (hx b n)]; exact n, fun b u q _ => ?_,
    fun b xs q => by rw [upd_ne (hm b _ q fun z => z)]; exact q, fun b u xs q => by rw [upd_ne (hm b _ q fun z => z)]; exact q, fun b ps q => ⟨#[], by rw [upd_ne (hm b _ q fun z => z), q]; simp⟩⟩
  by_cases hbe : b = e
  · subst hbe; exact heo
  · exact ⟨u, k b u hbe q⟩
theorem Un.mono (u : Un fs ex H H1 h h1) (hs : ∀ b ∈ fs, b ∈ fs') (hx : ∀ b ∈ ex, b ∈ ex') : Un fs' ex' H H1 h h1 :=
  ⟨fun b ob q n hb he => u.keep b ob q n (fun z => hb (hs b z)) fun z => he (hx b z), fun _ _ q n _ he => u.any q n fun z => he (hx _ z), fun b ob q n he => u.free b ob q n fun z => he (hx b z), fun b ob q he => u.there b ob q fun z => he (hx b z), u.tups, u.frzs, u.tbls⟩
end

/-! ### the heap without what is tracked -/
def trk (h : Heap) (H : Hp) : List Addr := (List.range h.objs.size).filter fun a => (H a).isSome
def hidT (h : Heap) (H : Hp) : Heap := PySem.W.hideAll h (trk h H)
theorem hidT_size (h : Heap) (H : Hp) : (hidT h H).objs.size = h.objs.size := PySem.W.hideAll_size _ _
theorem hidT_get {h : Heap} {H : Hp} {b : Addr} {o : Obj} (e : h.get? b = some o) (n : H b = none) : (hidT h H).get? b = some o :=
  PySem.W.hideAll_get _ e fun hm => by
    have q : (H b).isSome = true := (List.mem_filter.mp hm).2
    rw [n] at q; simp at q
theorem of_hidT {h : Heap} {H : Hp} {b : Addr} {o : Obj} (e : (hidT h H).get? b = some o) : h.get? b = some o ∧ H b = none := by
  have e' : h.get? b = some o := PySem.W.of_hideAll (trk h H) e
  refine ⟨e', ?_⟩
  cases q : H b with
  | none => rfl
  | some x =>
    have hm : b ∈ trk h H := List.mem_filter.mpr ⟨List.mem_range.mpr (Heap.lt_size e'), by simp [q]⟩
    have z : (hidT h H).get? b = none := PySem.W.hideAll_none (trk h H) hm
    rw [z] at e; cases e

/-! ### OpenK's ledger, filled with every new object but one -/
def allNews (g h : Heap) (L : Addr) : List (Addr × Obj) := (List.range h.objs.size).filterMap fun a => if a = L ∨ (g.get? a).isSome = true then none else (h.get? a).map fun o => (a, o)
def rest (g h : Heap) (L d : Addr) : List (Addr × Obj) := (allNews g h L).filter fun p => decide (p.1 ≠ d)
end L2

namespace L2
open PySem PySem.Spec PyProof.Rows

/-- the module's facts, over the base: the heap at the law's entry without what is tracked there -/
structure Mod (K : PySem.W.Frag) (mg : Str → Option Value) (base : Heap) : Prop where
  kin : K.In base
  glob : base.Ns mainGlobals mg
  blt : ∃ mb, base.Ns builtinsNs mb ∧ ∀ x : Str, x ≠ "__name__" → mb x = bootBuiltins x
  nolimit : base.NoLimit

/-- the context: a def's body (or a comprehension's block) running. base: fixed through the whole law; s₀, H₀: the entry; outer: the frames whose slots others may change (a def's callers); stack: all frames that run;
   ex: iterators that were made ahead of the entry and are walked here (a comprehension's); fn: the names whose cells were made at the entry (a def: all; a comprehension's block: its own); calm: not within an except suite; pn: pins that every state bears; xe: what is wanted of an exception that leaves the code -/
structure Cx where
  prog : Program
  w : World
  K : PySem.W.Frag
  mg : Str → Option Value
  base : Heap
  A : Around
  N : List Str
  s₀ : Shared
  H₀ : Hp
  env : Env
  outer : List Env
  stack : List Env
  ex : List Addr
  fn : Str → Bool
  calm : Bool
  pn : List (Addr × Obj)
  xe : Value → Shared → Prop
/-- the callers' frames -/
def frs (l : List Env) : List Addr := l.filterMap (·.frame)
abbrev Cx.fs (X : Cx) : List Addr := frs X.outer

def Vis (sc : Scope) (x : Str) : Prop := sc.names.lookup x = some .local ∨ sc.names.lookup x = some .cell ∨ sc.names.lookup x = some .free
def Loc (sc : Scope) (x : Str) : Prop := sc.names.lookup x = some .local ∨ sc.names.lookup x = some .cell
def Look (env : Env) (h : Heap) (m : Str → Option Value) (x : Str) (u : Value) : Prop :=
  (env.kindOf x = some .local ∧ m x = some u) ∨ ((env.kindOf x = some .cell ∨ env.kindOf x = some .free) ∧ ∃ c, env.cells.lookup x = some c ∧ h.IsCell c (some u))

structure Cx.Ok (X : Cx) : Prop where
  mod : Mod X.K X.mg X.base
  kind : X.env.scope.kind = .function
  glob : X.env.globals = mainGlobals
  blt : X.env.builtins = builtinsNs
  above : X.s₀.heap.objs.size ≤ X.env.locals
  inj : ∀ x y c, X.env.cells.lookup x = some c → X.env.cells.lookup y = some c → x = y
  has : ∀ x, (X.env.kindOf x = some .cell ∨ X.env.kindOf x = some .free) → ∃ c, X.env.cells.lookup x = some c
  cab : ∀ x c, X.fn x = true → X.env.cells.lookup x = some c → X.s₀.heap.objs.size ≤ c
  hd : X.calm = true → X.A.handled = none
  frames : X.A.frames = some X.stack
  stk : X.stack = X.outer ∨ (X.stack = X.env :: X.outer ∧ X.env.frame = some X.env.locals)
  exf : ∀ b ∈ X.ex, b ≠ X.env.locals ∧ ∀ x c, X.env.cells.lookup x = some c → c ≠ b
  bs : ∀ b o, X.base.get? b = some o → X.s₀.heap.get? b = some o ∧ X.H₀ b = none
  bsz : X.base.objs.size ≤ X.s₀.heap.objs.size
  noex : ∀ b o, X.base.get? b = some o → b ∉ X.ex
  exfs : ∀ b ∈ X.ex, b ∉ X.fs
  funs : X.s₀.heap.FunFrames X.base X.outer
  frf : ∀ b ∈ X.fs, X.H₀ b = none

structure Inv (X : Cx) (pins : List (Addr × Obj)) (σ : List (Option V)) (H : Hp) (s : Shared) : Prop where
  ok : X.Ok
  os : s.os = X.s₀.os
  bare : AllBare s.gens
  base : Un X.fs X.ex X.H₀ H X.s₀.heap s.heap
  loc : ∃ m, s.heap.Ns X.env.locals m ∧ ∀ (i : Nat) (x : Str) (v : V), X.N[i]? = some x → σ[i]? = some (some v) → Vis X.env.scope x → ∃ u, RelV v u ∧ Look X.env s.heap m x u
  cell : ∀ x c, X.env.cells.lookup x = some c → ∃ v, s.heap.IsCell c v
  free : H X.env.locals = none
  freeC : ∀ x c, X.env.cells.lookup x = some c → H c = none
  pin : ∀ p ∈ X.pn ++ pins, s.heap.get? p.1 = some p.2 ∧ H p.1 = none ∧ p.1 ≠ X.env.locals ∧ p.1 ∉ X.fs ∧ ∀ v, p.2.data ≠ .cell v
  hok : HOk X.prog X.w H s.heap
  len : σ.length = X.N.length

section
variable {X : Cx} {pins : List (Addr × Obj)} {σ : List (Option V)} {H H' : Hp} {s : Shared} {h' : Heap}

theorem Cx.Ok.nofr (ok : X.Ok) {b : Addr} {o : Obj} (e : X.base.get? b = some o) : b ∉ X.fs := fun hb => by
  have := (ok.funs.mem hb).1
  rw [e] at this; cases this
theorem Inv.bs (I : Inv X pins σ H s) : ∀ b o, X.base.get? b = some o → s.heap.get? b = some o ∧ H b = none := fun b o e =>
  ⟨I.base.keep b o (I.ok.bs b o e).1 (I.ok.bs b o e).2 (I.ok.nofr e) (I.ok.noex b o e), I.base.free b o (I.ok.bs b o e).1 (I.ok.bs b o e).2 (I.ok.noex b o e)⟩
theorem Inv.bk (I : Inv X pins σ H s) : ∀ b o, X.base.get? b = some o → s.heap.get? b = some o := fun b o e => (I.bs b o e).1
theorem Inv.mod (I : Inv X pins σ H s) : Mod X.K X.mg X.base := I.ok.mod
theorem Inv.kIn (I : Inv X pins σ H s) : X.K.In s.heap := I.ok.mod.kin.keeps I.bk
theorem Inv.nolimit (I : Inv X pins σ H s) : s.heap.NoLimit := I.ok.mod.nolimit.keeps I.bk
/-- the frame over the base: for OpenK's rules (K.In X.base is I.mod.kin) -/
theorem Inv.fr (I : Inv X pins σ H s) : ∃ m, Fr X.base X.env.locals s.heap m :=
  let ⟨m, hn, _⟩ := I.loc
  ⟨m, hn, I.bk, Nat.le_trans I.ok.bsz I.ok.above⟩
theorem Inv.lt (I : Inv X pins σ H s) : X.env.locals < s.heap.objs.size := let ⟨_, hn, _⟩ := I.loc; hn.lt
theorem Inv.sz (I : Inv X pins σ H s) : X.s₀.heap.objs.size ≤ s.heap.objs.size := Nat.le_trans I.ok.above (Nat.le_of_lt I.lt)
theorem Inv.nofs (I : Inv X pins σ H s) {a : Addr} (h : s.heap.objs.size ≤ a) : a ∉ X.fs := fun hb => by
  obtain ⟨_, o, ho, _⟩ := I.ok.funs.mem hb
  exact absurd (Nat.lt_of_lt_of_le (Heap.lt_size ho) (Nat.le_trans I.sz h)) (Nat.lt_irrefl _)
theorem Inv.cne (I : Inv X pins σ H s) : ∀ x c, X.env.cells.lookup x = some c → c ≠ X.env.locals := fun x c e z => by
  obtain ⟨v, o, ho, hd⟩ := I.cell x c e
  obtain ⟨m, ⟨o', es, ep, ho', hd', _⟩, _⟩ := I.loc
  rw [z, ho'] at ho; cases ho; rw [hd'] at hd; cases hd
theorem Inv.funs (I : Inv X pins σ H s) : s.heap.FunFrames X.base X.outer := by
  have all : ∀ (l : List Env), (∀ b ∈ frs l, b ∈ X.fs) → X.s₀.heap.FunFrames X.base l → s.heap.FunFrames X.base l := by
    intro l
    induction l with
    | nil => intro _ _; trivial
    | cons env r ih =>
      intro hs hl
      obtain ⟨hk, ⟨L, o, hf, hn, ho, hd⟩, hr⟩ := hl
      have hL : L ∈ X.fs := hs L (by unfold frs; rw [List.filterMap_cons, hf]; exact List.mem_cons_self)
      obtain ⟨sl, e⟩ := I.base.slot L o ho (I.ok.frf L hL) hL fun z => I.ok.exfs L z hL
      exact ⟨hk, ⟨L, _, hf, hn, e, hd⟩, ih (fun b hb => hs b (by unfold frs; rw [List.filterMap_cons, hf]; exact List.mem_cons_of_mem _ hb)) hr⟩
  exact all X.outer (fun _ hb => hb) I.ok.funs

/-- the frames that run, for a call -/
theorem Inv.stack (I : Inv X pins σ H s) : s.heap.FunFrames X.base X.stack := by
  rcases I.ok.stk with e | ⟨e, hf⟩
  · rw [e]; exact I.funs
  · rw [e]
    obtain ⟨m, hn, _⟩ := I.loc
    refine .cons (by rw [I.ok.kind]; decide) hf hn ?_ I.funs
    exact Heap.get?_none_of_le (Nat.le_trans I.ok.bsz I.ok.above)
theorem Inv.stkSub (I : Inv X pins σ H s) : ∀ b ∈ frs X.stack, b ∈ X.env.locals :: X.fs := fun b hb => by
  rcases I.ok.stk with e | ⟨e, hf⟩
  · rw [e] at hb; exact List.mem_cons_of_mem _ hb
  · rw [e] at hb
    unfold frs at hb
    rw [List.filterMap_cons, hf] at hb
    exact hb
theorem Inv.stkFree (I : Inv X pins σ H s) : ∀ b ∈ frs X.stack, H b = none := fun b hb => by
  rcases List.mem_cons.mp (I.stkSub b hb) with e | hb
  · rw [e]; exact I.free
  · obtain ⟨_, o, ho, _⟩ := I.ok.funs.mem hb
    exact I.base.free b o ho (I.ok.frf b hb) fun z => I.ok.exfs b z hb

/-- THE STEP: the untracked objects but the frame and the records at ch are kept (the callers' frames up to slots), the frame's map is kept, the new abstract heap is held -/
theorem Inv.step {g' : Array GenState} {t' : Nat} {d' : Drawn} {ch : List Addr} (I : Inv X pins σ H s)
    (hch : ∀ b ∈ ch, (b ∈ X.ex ∨ X.s₀.heap.objs.size ≤ b) ∧ b ≠ X.env.locals ∧ (∀ x c, X.env.cells.lookup x = some c → c ≠ b) ∧ ∀ p ∈ X.pn ++ pins, p.1 ≠ b)
    (keep : ∀ b o, b ≠ X.env.locals → b ∉ X.fs → b ∉ ch → s.heap.get? b = some o → H b = none → h'.get? b = some o)
    (slot : ∀ b o, b ≠ X.env.locals → b ∈ X.fs → b ∉ ch → s.heap.get? b = some o → H b = none → ∃ sl, h'.get? b = some { o with slots := sl }) (free : ∀ b o, b ∉ ch → s.heap.get? b = some o → H b = none → H' b = none)
    (there : ∀ b o, b ∉ ch → s.heap.get? b = some o → ∃ o', h'.get? b = some o')
    (tups : ∀ b xs, H b = some (.tup xs) → H' b = some (.tup xs)) (frzs : ∀ b o u, H b = some (.frz o u) → H' b = some (.frz o u)) (tbls : ∀ b ps, H b = some (.tbl ps) → ∃ more, H' b = some (.tbl (ps ++ more)))
    (ns : ∀ m, s.heap.Ns X.env.locals m → h'.Ns X.env.locals m) (hok : HOk X.prog X.w H' h') (hg : AllBare g') :
    Inv X pins σ H' { s with heap := h', gens := g', drawn := d', toks := t' } := by
  have neL : ∀ b o, X.s₀.heap.get? b = some o → b ≠ X.env.locals := fun b o e => Nat.ne_of_lt (Nat.lt_of_lt_of_le (Heap.lt_size e) I.ok.above)
  have neC : ∀ b o, X.s₀.heap.get? b = some o → b ∉ X.ex → b ∉ ch := fun b o e hx hb => by
    rcases (hch b hb).1 with z | z
    · exact hx z
    · exact absurd (Nat.lt_of_lt_of_le (Heap.lt_size e) z) (Nat.lt_irrefl _)
  have cellK : ∀ x c, X.env.cells.lookup x = some c → ∀ v, s.heap.IsCell c v → h'.IsCell c v := fun x c e v ⟨o, ho, hd⟩ => by
    have nch : c ∉ ch := fun z => (hch c z).2.2.1 x c e rfl
    by_cases hc : c ∈ X.fs
    · obtain ⟨sl, q⟩ := slot c o (I.cne x c e) hc nch ho (I.freeC x c e)
      exact ⟨_, q, hd⟩
    · exact ⟨o, keep c o (I.cne x c e) hc nch ho (I.freeC x c e), hd⟩
  refine ⟨I.ok, I.os, hg, ⟨fun b o e n hb hx => ?_, fun b o e n hb hx => ?_, fun b o e n hx => ?_, fun b o e hx => ?_, fun b xs e => tups b xs (I.base.tups b xs e), fun b o xs e => frzs b o xs (I.base.frzs b o xs e), fun b ps e => ?_⟩, ?_, fun x c e => ?_, ?_, fun x c e => ?_, fun p hp => ?_, hok, I.len⟩
  · exact keep b o (neL b o e) hb (neC b o e hx) (I.base.keep b o e n hb hx) (I.base.free b o e n hx)
  · obtain ⟨sl, e1⟩ := I.base.slot b o e n hb hx
    obtain ⟨sl', e2⟩ := slot b _ (neL b o e) hb (neC b o e hx) e1 (I.base.free b o e n hx)
    exact ⟨sl', e2⟩
  · obtain ⟨o', e1⟩ := I.base.there b o e hx
    exact free b o' (neC b o e hx) e1 (I.base.free b o e n hx)
  · obtain ⟨o', e1⟩ := I.base.there b o e hx
    exact there b o' (neC b o e hx) e1
  · obtain ⟨m1, e1⟩ := I.base.tbls b ps e
    obtain ⟨m2, e2⟩ := tbls b _ e1
    exact ⟨m1 ++ m2, by rw [e2, Array.append_assoc]⟩
  · obtain ⟨m, hn, hl⟩ := I.loc
    refine ⟨m, ns m hn, fun i x v e1 e2 e3 => ?_⟩
    obtain ⟨u, r, l⟩ := hl i x v e1 e2 e3
    refine ⟨u, r, ?_⟩
    rcases l with l | ⟨k, c, e, z⟩
    · exact .inl l
    · exact .inr ⟨k, c, e, cellK x c e _ z⟩
  · obtain ⟨v, z⟩ := I.cell x c e
    exact ⟨v, cellK x c e v z⟩
  · obtain ⟨m, ⟨o, _, _, ho, _⟩, _⟩ := I.loc
    exact free _ o (fun z => (hch _ z).2.1 rfl) ho I.free
  · obtain ⟨v, o, ho, hd⟩ := I.cell x c e
    exact free c o (fun z => (hch c z).2.2.1 x c e rfl) ho (I.freeC x c e)
  · obtain ⟨e, n, ne, nf, d⟩ := I.pin p hp
    have nch : p.1 ∉ ch := fun z => (hch p.1 z).2.2.2 p hp rfl
    exact ⟨keep p.1 p.2 ne nf nch e n, free p.1 p.2 nch e n, ne, nf, d⟩
/-- .. where the frame's own object is kept too -/
theorem Inv.un {t' : Nat} (I : Inv X pins σ H s) (u : Un X.fs [] H H' s.heap h') (hok : HOk X.prog X.w H' h') : Inv X pins σ H' { s with heap := h', toks := t' } := by
  obtain ⟨m, ⟨o, es, ep, ho, r⟩, _⟩ := id I.loc
  obtain ⟨sl, hL⟩ := u.any ho I.free (by simp)
  exact I.step (g' := s.gens) (d' := s.drawn) (ch := []) (fun _ z => nomatch z) (fun b o _ hb _ e n => u.keep b o e n hb (by simp)) (fun b o _ hb _ e n => u.slot b o e n hb (by simp)) (fun b o _ e n => u.free b o e n (by simp)) (fun b o _ e => u.there b o e (by simp)) u.tups u.frzs u.tbls (fun m' hm => by
    obtain ⟨o', es', ep', ho', r'⟩ := hm
    rw [ho] at ho'; cases ho'
    exact ⟨_, es', ep', hL, r'⟩) hok I.bare
/-- behind a call (or a comprehension's block): the slots of this frame may have changed too, the records at ch may have turned -/
theorem Inv.call {g' : Array GenState} {t' : Nat} {d' : Drawn} {ch : List Addr} (I : Inv X pins σ H s) (u : Un (frs X.stack) ch H H' s.heap h') (hok : HOk X.prog X.w H' h') (hg : AllBare g')
    (hch : ∀ b ∈ ch, (b ∈ X.ex ∨ X.s₀.heap.objs.size ≤ b) ∧ b ≠ X.env.locals ∧ (∀ x c, X.env.cells.lookup x = some c → c ≠ b) ∧ ∀ p ∈ X.pn ++ pins, p.1 ≠ b) :
    Inv X pins σ H' { s with heap := h', gens := g', drawn := d', toks := t' } := by
  obtain ⟨m, ⟨o, es, ep, ho, r⟩, _⟩ := id I.loc
  obtain ⟨sl, hL⟩ := u.any ho I.free fun z => (hch _ z).2.1 rfl
  exact I.step (ch := ch) hch (fun b o hL hb hc e n => u.keep b o e n (fun z => (List.mem_cons.mp (I.stkSub b z)).elim hL hb) hc) (fun b o _ _ hc e n => u.any e n hc) (fun b o hc e n => u.free b o e n hc) (fun b o hc e => u.there b o e hc) u.tups u.frzs u.tbls (fun m' hm => by
    obtain ⟨o', es', ep', ho', r'⟩ := hm
    rw [ho] at ho'; cases ho'
    exact ⟨_, es', ep', hL, r'⟩) hok hg
/-- an untracked record of ours (an iterator) has turned -/
theorem Inv.turned {t' : Nat} {it : Addr} (I : Inv X pins σ H s) (k : ∀ b o, b ≠ it → s.heap.get? b = some o → h'.get? b = some o) (hn : H it = none) (hL : it ≠ X.env.locals)
    (h1 : it ∈ X.ex ∨ X.s₀.heap.objs.size ≤ it) (h2 : ∀ x c, X.env.cells.lookup x = some c → c ≠ it) (h3 : ∀ p ∈ X.pn ++ pins, p.1 ≠ it) : Inv X pins σ H { s with heap := h', toks := t' } := by
  have nit : ∀ b u, H b = some u → b ≠ it := fun b u e z => by rw [z, hn] at e; cases e
  refine I.step (g' := s.gens) (d' := s.drawn) (ch := [it]) (fun b hb => ?_) (fun b o _ _ hc e _ => k b o (fun z => hc (by simp [z])) e) (fun b o _ _ hc e _ => ⟨o.slots, k b o (fun z => hc (by simp [z])) e⟩) (fun _ _ _ _ n => n)
    (fun b o hc e => ⟨o, k b o (fun z => hc (by simp [z])) e⟩) (fun _ _ e => e) (fun _ _ _ e => e) (fun b ps e => ⟨#[], by rw [e]; simp⟩) (fun m hm => ?_) (fun b u e => ?_) I.bare
  · have e : b = it := by simpa using hb
    subst e
    exact ⟨h1, hL, h2, h3⟩
  · obtain ⟨o, es, ep, ho, r⟩ := hm
    exact ⟨o, es, ep, k _ o (Ne.symm hL) ho, r⟩
  · refine (I.hok b u e).stay (fun c v hc q => k c v ?_ q) (fun _ q => q) fun _ _ q => q
    rcases hc with z | z
    · rw [z]; exact nit b u e
    · exact nit c _ z
theorem Inv.tok (I : Inv X pins σ H s) (t : Nat) : Inv X pins σ H { s with toks := t } := I.un (h' := s.heap) (t' := t) Un.refl I.hok
/-- all objects kept -/
theorem Inv.kept {t' : Nat} (I : Inv X pins σ H s) (k : ∀ b u, s.heap.get? b = some u → h'.get? b = some u) : Inv X pins σ H { s with heap := h', toks := t' } := I.un (Un.kept k) (I.hok.kept k)
/-- a new object laid and tracked -/
theorem Inv.laid {a : Addr} {o : HO} {t' : Nat} (I : Inv X pins σ H s) (k : ∀ b u, s.heap.get? b = some u → h'.get? b = some u) (hp : s.heap.objs.size ≤ a) (new : ObjOk X.prog X.w (upd H a o) h' a o) :
    Inv X pins σ (upd H a o) { s with heap := h', toks := t' } := I.un (Un.laid k hp (I.hok.fresh hp)) (I.hok.laid k hp new)
/-- an object written -/
theorem Inv.write {x e : Addr} {o : HO} {t' : Nat} (I : Inv X pins σ H s) (mu : Mut (H x)) (he : e = x ∨ H e = some (.own x)) (k : ∀ b u, b ≠ e → s.heap.get? b = some u → h'.get? b = some u) (heo : ∃ u, h'.get? e = some u)
    (new : ObjOk X.prog X.w (upd H x o) h' x o) : Inv X pins σ (upd H x o) { s with heap := h', toks := t' } := I.un (Un.write mu he k heo) (I.hok.write mu he k heo new)
/-- forgetting slots, pins -/
theorem Inv.weak {σ' : List (Option V)} (I : Inv X pins σ H s) (hl : σ'.length = σ.length) (w : ∀ (i : Nat) v, σ'[i]? = some (some v) → σ[i]? = some (some v)) : Inv X pins σ' H s :=
  ⟨I.ok, I.os, I.bare, I.base, let ⟨m, hn, hl'⟩ := I.loc; ⟨m, hn, fun i x v e1 e2 e3 => hl' i x v e1 (w i v e2) e3⟩, I.cell, I.free, I.freeC, I.pin, I.hok, hl.trans I.len⟩
theorem Inv.pins_of {pins' : List (Addr × Obj)} (I : Inv X pins σ H s) (h : ∀ p ∈ pins', s.heap.get? p.1 = some p.2 ∧ H p.1 = none ∧ p.1 ≠ X.env.locals ∧ p.1 ∉ X.fs ∧ ∀ v, p.2.data ≠ .cell v) : Inv X pins' σ H s :=
  ⟨I.ok, I.os, I.bare, I.base, I.loc, I.cell, I.free, I.freeC, fun p hp => (List.mem_append.mp hp).elim (fun z => I.pin p (List.mem_append_left _ z)) (h p), I.hok, I.len⟩

theorem nodup_ix {N : List Str} (hN : N.Nodup) {i j : Nat} {x : Str} (a : N[i]? = some x) (b : N[j]? = some x) : i = j := by
  obtain ⟨h1, e1⟩ := List.getElem?_eq_some_iff.mp a
  obtain ⟨h2, e2⟩ := List.getElem?_eq_some_iff.mp b
  exact (List.getElem_inj hN).mp (e1.trans e2.symm)

/-- a name is stored; what changed -/
theorem store_ok2 {M : Model} {A : Around} {E : Value → Shared → Prop} {i : Nat} {x : Str} {v : V} {u : Value} {Q : Unit → Shared → Prop} (I : Inv X pins σ H s) (hN : X.N.Nodup) (hi : X.N[i]? = some x) (hx : Loc X.env.scope x) (r : RelV v u)
    (h : ∀ s', Inv X pins (σ.set i (some v)) H s' → (∃ a, Heap.SameBut a s.heap s'.heap ∧ (a = X.env.locals ∨ X.env.cells.lookup x = some a)) → Q () s') (hf : X.fn x = true ∨ X.env.scope.names.lookup x = some .local := by first | exact .inl rfl | exact .inr rfl | assumption) : wpAny M A (storeName X.env x u) Q E s := by
  obtain ⟨m, hn, hl⟩ := id I.loc
  have hcls : (X.env.scope.kind == .class || (X.env.scope.kind == .module && X.env.locals != X.env.globals)) = false := by rw [I.ok.kind]; rfl
  have hiσ : i < σ.length := by rw [I.len]; exact (List.getElem?_eq_some_iff.mp hi).1
  have cne := I.cne
  have tracked : ∀ {a : Addr} {h' : Heap}, (∃ o, s.heap.get? a = some o ∧ H a = none) → Heap.SameBut a s.heap h' → HOk X.prog X.w H h' := fun {a h'} ha hs b ob e => by
    obtain ⟨_, _, hfree⟩ := ha
    refine (I.hok b ob e).stay (fun c w' hc q => (hs.2 c ?_).trans q) (fun _ q => q) fun _ _ q => q
    rintro rfl
    rcases hc with rfl | hc
    · rw [hfree] at e; cases e
    · rw [hfree] at hc; cases hc
  rcases hx with hk | hk
  · refine wpAny_storeName_local hk hn (fun h' hn' hs => ?_) hcls
    obtain ⟨oL, _, _, hoL, _⟩ := id hn
    refine h _ ⟨I.ok, I.os, I.bare, ⟨fun b o e n hb hx => ?_, fun b o e n hb hx => ?_, I.base.free, fun b o e hx => ?_, I.base.tups, I.base.frzs, I.base.tbls⟩, ⟨_, hn', fun j y v' e1 e2 e3 => ?_⟩, fun y c e => ?_, I.free, I.freeC, fun p hp => ?_, tracked ⟨oL, hoL, I.free⟩ hs, by simpa using I.len⟩ ⟨_, hs, .inl rfl⟩
    · exact (hs.2 b (Nat.ne_of_lt (Nat.lt_of_lt_of_le (Heap.lt_size e) I.ok.above))).trans (I.base.keep b o e n hb hx)
    · obtain ⟨sl, e1⟩ := I.base.slot b o e n hb hx
      exact ⟨sl, (hs.2 b (Nat.ne_of_lt (Nat.lt_of_lt_of_le (Heap.lt_size e) I.ok.above))).trans e1⟩
    · obtain ⟨o', e1⟩ := I.base.there b o e hx
      exact ⟨o', (hs.2 b (Nat.ne_of_lt (Nat.lt_of_lt_of_le (Heap.lt_size e) I.ok.above))).trans e1⟩
    · by_cases hj : j = i
      · subst hj
        rw [hi] at e1; cases e1
        rw [List.getElem?_set_self hiσ] at e2
        cases e2
        exact ⟨u, r, .inl ⟨hk, by simp⟩⟩
      · rw [List.getElem?_set_ne (Ne.symm hj)] at e2
        obtain ⟨u', r', q⟩ := hl j y v' e1 e2 e3
        refine ⟨u', r', ?_⟩
        rcases q with ⟨k, e⟩ | ⟨k, c, e, z⟩
        · refine .inl ⟨k, ?_⟩
          have : y ≠ x := fun e => hj (nodup_ix hN e1 (e ▸ hi))
          simp [this, e]
        · exact .inr ⟨k, c, e, z.sameBut hs (cne y c e)⟩
    · obtain ⟨w', z⟩ := I.cell y c e
      exact ⟨w', z.sameBut hs (cne y c e)⟩
    · obtain ⟨e, n, ne, nf, d⟩ := I.pin p hp
      exact ⟨(hs.2 p.1 ne).trans e, n, ne, nf, d⟩
  · have hfn : X.fn x = true := by
      rcases hf with z | z
      · exact z
      · rw [z] at hk; cases hk
    obtain ⟨c, hc⟩ := I.ok.has x (.inl hk)
    obtain ⟨w', z⟩ := I.cell x c hc
    refine wpAny_storeName_cell I.ok.kind hk hc z (fun h' hc' hs => ?_)
    obtain ⟨oc, hoc, hocd⟩ := id z
    refine h { s with heap := h' } ⟨I.ok, I.os, I.bare, ⟨fun b o e n hb hx => ?_, fun b o e n hb hx => ?_, I.base.free, fun b o e hx => ?_, I.base.tups, I.base.frzs, I.base.tbls⟩, ⟨m, hn.sameBut hs (Ne.symm (cne x c hc)), fun j y v' e1 e2 e3 => ?_⟩, fun y c' e => ?_, I.free, I.freeC, fun p hp => ?_, tracked ⟨oc, hoc, I.freeC x c hc⟩ hs, by simpa using I.len⟩ ⟨c, hs, .inr hc⟩
    · exact (hs.2 b (Nat.ne_of_lt (Nat.lt_of_lt_of_le (Heap.lt_size e) (I.ok.cab x c hfn hc)))).trans (I.base.keep b o e n hb hx)
    · obtain ⟨sl, e1⟩ := I.base.slot b o e n hb hx
      exact ⟨sl, (hs.2 b (Nat.ne_of_lt (Nat.lt_of_lt_of_le (Heap.lt_size e) (I.ok.cab x c hfn hc)))).trans e1⟩
    · obtain ⟨o', e1⟩ := I.base.there b o e hx
      exact ⟨o', (hs.2 b (Nat.ne_of_lt (Nat.lt_of_lt_of_le (Heap.lt_size e) (I.ok.cab x c hfn hc)))).trans e1⟩
    · by_cases hj : j = i
      · subst hj
        rw [hi] at e1; cases e1
        rw [List.getElem?_set_self hiσ] at e2
        cases e2
        exact ⟨u, r, .inr ⟨.inl hk, c, hc, hc'⟩⟩
      · rw [List.getElem?_set_ne (Ne.symm hj)] at e2
        obtain ⟨u', r', q⟩ := hl j y v' e1 e2 e3
        refine ⟨u', r', ?_⟩
        rcases q with q | ⟨k, c', e, z'⟩
        · exact .inl q
        · refine .inr ⟨k, c', e, z'.sameBut hs ?_⟩
          rintro rfl
          exact hj (nodup_ix hN e1 (I.ok.inj _ _ _ e hc ▸ hi))
    · by_cases hcc : c' = c
      · subst hcc; exact ⟨_, hc'⟩
      · obtain ⟨w2, z2⟩ := I.cell y c' e
        exact ⟨w2, z2.sameBut hs hcc⟩
    · obtain ⟨e, n, ne, nf, d⟩ := I.pin p hp
      refine ⟨(hs.2 p.1 ?_).trans e, n, ne, nf, d⟩
      intro q
      rw [q, hoc] at e
      have q' : oc = p.2 := Option.some.inj e
      exact d w' (by rw [← q']; exact hocd)
theorem store_ok {M : Model} {A : Around} {E : Value → Shared → Prop} {i : Nat} {x : Str} {v : V} {u : Value} {Q : Unit → Shared → Prop} (I : Inv X pins σ H s) (hN : X.N.Nodup) (hi : X.N[i]? = some x) (hx : Loc X.env.scope x) (r : RelV v u)
    (h : ∀ s', Inv X pins (σ.set i (some v)) H s' → Q () s') (hf : X.fn x = true ∨ X.env.scope.names.lookup x = some .local := by first | exact .inl rfl | exact .inr rfl | assumption) : wpAny M A (storeName X.env x u) Q E s :=
  store_ok2 I hN hi hx r (fun s' I' _ => h s' I') hf
/-- behind a call or a block, the state as it is -/
theorem Inv.call' {s' : Shared} {ch : List Addr} (I : Inv X pins σ H s) (ho : s'.os = s.os) (u : Un (frs X.stack) ch H H' s.heap s'.heap) (hok : HOk X.prog X.w H' s'.heap) (hg : AllBare s'.gens)
    (hch : ∀ b ∈ ch, (b ∈ X.ex ∨ X.s₀.heap.objs.size ≤ b) ∧ b ≠ X.env.locals ∧ (∀ x c, X.env.cells.lookup x = some c → c ≠ b) ∧ ∀ p ∈ X.pn ++ pins, p.1 ≠ b) : Inv X pins σ H' s' := by
  obtain ⟨h', g', d', t', o'⟩ := s'
  have e : o' = s.os := ho
  subst e
  exact I.call (g' := g') (t' := t') (d' := d') u hok hg hch
end

/-! ### the judgements -/
/-- an exception: its class, its own dict's address (where it has one), the abstract heap behind it -/
abbrev XK := Value → Option Addr → Hp → Prop
abbrev St := List (Option V)
abbrev VK := V → Hp → Prop
/-- an expression's reading; a test's; an argument list's -/
abbrev TE := St → Hp → VK → Prop
abbrev TT := St → Hp → (Bool → Hp → Prop) → Prop
abbrev TA := St → Hp → (List V → Hp → Prop) → Prop
/-- what is wanted behind a statement -/
structure Ends where
  nx : St → Hp → Prop
  rt : VK
  bk : St → Hp → Prop := fun _ _ => False
  ct : St → Hp → Prop := fun _ _ => False
abbrev TS := Ends → St → Hp → Prop

def EP (X : Cx) (pins : List (Addr × Obj)) (σ : St) (Q : VK) (u : Value) (s' : Shared) : Prop := ∃ v H', Inv X pins σ H' s' ∧ RelV v u ∧ Q v H'
def TP (X : Cx) (pins : List (Addr × Obj)) (σ : St) (Q : Bool → Hp → Prop) (b : Bool) (s' : Shared) : Prop := ∃ H', Inv X pins σ H' s' ∧ Q b H'
def AP (X : Cx) (pins : List (Addr × Obj)) (σ : St) (Q : List V → Hp → Prop) (us : List Value) (s' : Shared) : Prop := ∃ vs H', Inv X pins σ H' s' ∧ Vals vs us ∧ Q vs H'
def SP (X : Cx) (pins : List (Addr × Obj)) (D : Ends) (f : Flow) (s' : Shared) : Prop :=
  match f with
  | .next => ∃ σ' H', Inv X pins σ' H' s' ∧ D.nx σ' H'
  | .brk => ∃ σ' H', Inv X pins σ' H' s' ∧ D.bk σ' H'
  | .cont => ∃ σ' H', Inv X pins σ' H' s' ∧ D.ct σ' H'
  | .ret u => ∃ v σ' H', Inv X pins σ' H' s' ∧ RelV v u ∧ D.rt v H'

def PE (X : Cx) (e : Expr) (t : TE) : Prop :=
  ∀ (pins : List (Addr × Obj)) (s : Shared) (σ : St) (H : Hp) (Q : VK), Inv X pins σ H s → t σ H Q → wpAny (model X.prog X.w) X.A (eval e X.env) (EP X pins σ Q) X.xe s
def PT (X : Cx) (e : Expr) (t : TT) : Prop :=
  ∀ (pins : List (Addr × Obj)) (s : Shared) (σ : St) (H : Hp) (Q : Bool → Hp → Prop), Inv X pins σ H s → t σ H Q → wpAny (model X.prog X.w) X.A (isTrue e X.env (eval e X.env)) (TP X pins σ Q) X.xe s
/-- a test whatever its 'whole' is (and, or) -/
def PW (X : Cx) (e : Expr) (t : TT) : Prop :=
  ∀ (whole : Sem Value) (pins : List (Addr × Obj)) (s : Shared) (σ : St) (H : Hp) (Q : Bool → Hp → Prop), Inv X pins σ H s → t σ H Q → wpAny (model X.prog X.w) X.A (isTrue e X.env whole) (TP X pins σ Q) X.xe s
theorem PW.pt {X : Cx} {e : Expr} {t : TT} (h : PW X e t) : PT X e t := h _
/-- an argument list (no star), from the left -/
def PA (X : Cx) (es : List Expr) (t : TA) : Prop :=
  ∀ (pos : Pos) (pins : List (Addr × Obj)) (s : Shared) (σ : St) (H : Hp) (Q : List V → Hp → Prop), Inv X pins σ H s → t σ H Q → wpAny (model X.prog X.w) X.A (spliced (backTo pos (starEach es X.env))) (AP X pins σ Q) X.xe s
def PS (X : Cx) (st : Stmt) (t : TS) : Prop :=
  ∀ (pins : List (Addr × Obj)) (s : Shared) (σ : St) (H : Hp) (D : Ends), Inv X pins σ H s → t D σ H → wpAny (model X.prog X.w) X.A (exec st X.env) (SP X pins D) X.xe s
def PSs (X : Cx) (st : List Stmt) (t : TS) : Prop :=
  ∀ (pins : List (Addr × Obj)) (s : Shared) (σ : St) (H : Hp) (D : Ends), Inv X pins σ H s → t D σ H → wpAny (model X.prog X.w) X.A (execs st X.env) (SP X pins D) X.xe s
/-- weaken the end -/
theorem thn {α : Type} {t : Sem α} {Q Q' : α → Shared → Prop} {M : Model} {A : Around} {E : Value → Shared → Prop} {s : Shared} (h : wpAny M A t Q E s) (hQ : ∀ a s, Q a s → Q' a s) : wpAny M A t Q' E s := wpAny_mono h hQ fun _ _ x => x
end L2

namespace L2
open PySem PySem.Spec PyProof.Rows
section
variable {X : Cx}

/-! ### names and constants -/
def tVar (i : Nat) : TE := fun σ H Q => ∃ v, σ[i]? = some (some v) ∧ Q v H
def tC (v : V) : TE := fun _ H Q => Q v H
theorem pe_var {i : Nat} {x : Str} {pos : Pos} (hN : X.N[i]? = some x) (hv : Vis X.env.scope x) (hd : (x == ("__debug__" : Str)) = false := by decide) (hcd : (x == ("__classdict__" : Str)) = false := by decide) : PE X (.Name x pos) (tVar i) := by
  intro pins s σ H Q I h
  obtain ⟨v, e, h⟩ := h
  obtain ⟨m, hn, hl⟩ := I.loc
  obtain ⟨u, r, l⟩ := hl i x v hN e hv
  have fin : EP X pins σ Q u s := ⟨v, H, I, r, h⟩
  rcases l with ⟨hk, hm⟩ | ⟨hk, c, hc, hcell⟩
  · exact wpAny_Name (wpAny_loadName_local I.ok.kind hk hn hm fin) hd
  · rcases hk with hk | hk
    · exact wpAny_Name (wpAny_loadName_cell I.ok.kind hk hc hcell fin) hd
    · exact wpAny_Name (wpAny_loadName_free I.ok.kind hk hc hcell fin hcd) hd
theorem pe_int {i j pos} : PE X (.Constant (.int i) j pos) (tC (.int i)) := fun _ _ _ H _ I h => wpAny_Constant_int ⟨.int i, H, I.tok _, ⟨_, rfl⟩, h⟩
theorem pe_bl {b j pos} : PE X (.Constant (.bool b) j pos) (tC (.bl b)) := fun _ _ _ H _ I h => Constant_bool ⟨.bl b, H, I, rfl, h⟩
theorem pe_non {j pos} : PE X (.Constant .none j pos) (tC .non) := fun _ _ _ H _ I h => Constant_none ⟨.non, H, I, rfl, h⟩
theorem pe_str {x j pos} : PE X (.Constant (.str x) j pos) (tC (.str x)) := fun _ _ _ H _ I h => Calls.Constant_str ⟨.str x, H, I.tok _, ⟨_, rfl⟩, h⟩

/-- a global name of the def -/
def Gl (X : Cx) (x : Str) : Prop := X.env.kindOf x = some .globalImplicit
theorem ld_glob {E : Value → Shared → Prop} {pins : List (Addr × Obj)} {s : Shared} {σ : St} {H : Hp} {x : Str} {u : Value} {pos : Pos} {Q : Value → Shared → Prop} (I : Inv X pins σ H s) (hg : Gl X x) (hm : X.mg x = some u) (h : Q u s)
    (hd : (x == ("__debug__" : Str)) = false := by decide) : wpAny (model X.prog X.w) X.A (eval (.Name x pos) X.env) Q E s :=
  Calls.Name_function_global I.ok.kind hg (Calls.loadGlobal_global (by rw [I.ok.glob]; exact I.mod.glob.keeps I.bk) hm h) hd
theorem ld_blt {E : Value → Shared → Prop} {pins : List (Addr × Obj)} {s : Shared} {σ : St} {H : Hp} {x : Str} {u : Value} {pos : Pos} {Q : Value → Shared → Prop} (I : Inv X pins σ H s) (hg : Gl X x) (hm : X.mg x = none) (hv : bootBuiltins x = some u) (h : Q u s)
    (hn : x ≠ "__name__" := by decide) (hd : (x == ("__debug__" : Str)) = false := by decide) : wpAny (model X.prog X.w) X.A (eval (.Name x pos) X.env) Q E s := by
  obtain ⟨mb, h1, h2⟩ := I.mod.blt
  exact Calls.Name_function_global I.ok.kind hg (Calls.loadGlobal_builtin (by rw [I.ok.glob]; exact I.mod.glob.keeps I.bk) hm (by rw [I.ok.blt]; exact h1.keeps I.bk) ((h2 x hn).trans hv) h) hd
/-- a module's constant, a class, a function, as a value -/
theorem pe_glob {x : Str} {v : V} {u : Value} {pos : Pos} (hg : Gl X x) (hm : X.mg x = some u) (r : RelV v u) (hd : (x == ("__debug__" : Str)) = false := by decide) : PE X (.Name x pos) (tC v) :=
  fun _ _ _ H _ I h => ld_glob I hg hm ⟨v, H, I, r, h⟩ hd
theorem pe_bltn {x : Str} {v : V} {u : Value} {pos : Pos} (hg : Gl X x) (hm : X.mg x = none) (hv : bootBuiltins x = some u) (r : RelV v u) (hn : x ≠ "__name__" := by decide) (hd : (x == ("__debug__" : Str)) = false := by decide) : PE X (.Name x pos) (tC v) :=
  fun _ _ _ H _ I h => ld_blt I hg hm hv ⟨v, H, I, r, h⟩ hn hd

/-! ### arithmetic -/
variable {a b : Expr} {ta tb : TE} {pos : Pos}
/-! ### comparisons -/
def PC (X : Cx) (op : CmpOp) (a b : Expr) (t : TE) : Prop :=
  ∀ (pins : List (Addr × Obj)) (s : Shared) (σ : St) (H : Hp) (Q : VK), Inv X pins σ H s → t σ H Q →
    wpAny (model X.prog X.w) X.A (eval a X.env) (fun v s₁ => wpAny (model X.prog X.w) X.A (eval b X.env) (fun u s₂ => wpAny (model X.prog X.w) X.A (compareOp op v u) (EP X pins σ Q) X.xe s₂) X.xe s₁) X.xe s
theorem nobehind (b : Expr) {op : CmpOp} (h : op ≠ .In) (h2 : op ≠ .NotIn) : behindInMarks op b = false := by
  have e1 : (op == CmpOp.In) = false := by cases op <;> first | rfl | exact absurd rfl h
  have e2 : (op == CmpOp.NotIn) = false := by cases op <;> first | rfl | exact absurd rfl h2
  cases b <;> simp [behindInMarks, e1, e2]
/-- a comparison as a value, as a test -/
def tB (t : TE) : TT := fun σ H Q => t σ H fun x H1 => ∃ c, x = .bl c ∧ Q c H1
theorem pt_cmp {op : CmpOp} {t : TE} (h : PC X op a b t) (h1 : behindInMarks op b = false := by first | exact nobehind _ (by decide) (by decide) | rfl) : PT X (.Compare a [op] [b] pos) (tB t) := by
  intro pins s σ H Q I hw
  refine wpAny_isTrue_Compare1 (thn (h pins s σ H _ I hw) fun v s1 h1 => thn h1 fun u s2 h2 => thn h2 fun c s3 ⟨x, H1, I1, r1, q1⟩ => ?_) h1
  obtain ⟨d, rfl, q⟩ := q1
  cases r1
  exact wpAny_truthy_bool ⟨H1, I1, q⟩
/-- an expression whose value is a bool, as a test -/
theorem pt_val {e : Expr} {t : TE} (h : PE X e t) (he : ∀ whole, isTrue e X.env whole = (do let v ← whole; standAt e.pos; holding [v] (truthy v)) := by intro _; rfl) : PT X e (tB t) := by
  intro pins s σ H Q I hw
  refine isTrue_plain (thn (h pins s σ H _ I hw) fun v s1 ⟨x, H1, I1, r1, q1⟩ => ?_) (he _)
  obtain ⟨d, rfl, q⟩ := q1
  cases r1
  exact wpAny_truthy_bool ⟨H1, I1, q⟩

/-! ### and, or, not -/
variable {tA tB' : TT} {rest : List Expr}
def tAnd (t u : TT) : TT := fun σ H Q => t σ H fun c H1 => if c = true then u σ H1 Q else Q false H1
def tOr (t u : TT) : TT := fun σ H Q => t σ H fun c H1 => if c = true then Q true H1 else u σ H1 Q
def tNot (t : TT) : TT := fun σ H Q => t σ H fun c H1 => Q (!c) H1
theorem pw_and1 (ha : PT X a tA) : PW X (.BoolOp .And [a] pos) tA := by
  intro wh pins s σ H Q I h
  refine isTrue_and (thn (ha pins s σ H Q I h) fun c s1 e => ?_)
  cases c with
  | true => exact isTrue_and_nil e
  | false => exact e
theorem pw_or1 (ha : PT X a tA) : PW X (.BoolOp .Or [a] pos) tA := by
  intro wh pins s σ H Q I h
  refine isTrue_or (thn (ha pins s σ H Q I h) fun c s1 e => ?_)
  cases c with
  | false => exact isTrue_or_nil e
  | true => exact e
theorem pw_and (ha : PT X a tA) (hb : PW X (.BoolOp .And (b :: rest) pos) tB') : PW X (.BoolOp .And (a :: b :: rest) pos) (tAnd tA tB') := by
  intro wh pins s σ H Q I h
  refine isTrue_and (thn (ha pins s σ H _ I h) fun c s1 ⟨H1, I1, q1⟩ => ?_)
  cases c with
  | true => exact hb wh pins s1 σ H1 Q I1 q1
  | false => exact ⟨H1, I1, q1⟩
theorem pw_or (ha : PT X a tA) (hb : PW X (.BoolOp .Or (b :: rest) pos) tB') : PW X (.BoolOp .Or (a :: b :: rest) pos) (tOr tA tB') := by
  intro wh pins s σ H Q I h
  refine isTrue_or (thn (ha pins s σ H _ I h) fun c s1 ⟨H1, I1, q1⟩ => ?_)
  cases c with
  | true => exact ⟨H1, I1, q1⟩
  | false => exact hb wh pins s1 σ H1 Q I1 q1
theorem pt_not (ha : PT X a tA) : PT X (.UnaryOp .Not a pos) (tNot tA) := by
  intro pins s σ H Q I h
  exact isTrue_not (ha pins s σ H (fun c H1 => Q (!c) H1) I h)
/-- .. as values (bools) -/
def tAndV (ta tb : TE) : TE := fun σ H Q => ta σ H fun x H1 => ∃ c, x = .bl c ∧ if c = true then tb σ H1 Q else Q (.bl false) H1
theorem pe_one {op} {t : TE} (h : PE X a t) : PE X (.BoolOp op [a] pos) t := fun pins s σ H Q I hw => BoolOp_one (h pins s σ H Q I hw)
theorem pe_and (ha : PE X a ta) (hb : PE X (.BoolOp .And (b :: rest) pos) tb) : PE X (.BoolOp .And (a :: b :: rest) pos) (tAndV ta tb) := by
  intro pins s σ H Q I h
  refine BoolOp_and (thn (ha pins s σ H _ I h) fun v s1 ⟨x, H1, I1, r1, q1⟩ => ?_)
  obtain ⟨c, rfl, q1⟩ := q1
  cases r1
  refine wpAny_truthy_bool ?_
  cases c with
  | true => exact hb pins s1 σ H1 Q I1 q1
  | false => exact ⟨.bl false, H1, I1, rfl, q1⟩
end
end L2

namespace L2
open PySem PySem.Spec PyProof.Rows

/-! ### a list, a tuple that is read: tracked, frozen, or an object of the module -/
def SqL (K : PySem.W.Frag) (H : Hp) (a : Addr) (xs : List V) : Prop :=
  Rd H a (.lst xs) ∨
    ∃ (o : Obj) (its : Array Value) (n : Nat), K.lookup a = some o ∧ o.cls = .type "list" ∧ o.dict = none ∧ o.data = .seq its n ∧ its.size ≤ sizeLine ∧ Vals xs its.toList
def SqT (K : PySem.W.Frag) (H : Hp) (a : Addr) (xs : List V) : Prop :=
  Rd H a (.tup xs) ∨
    ∃ (o : Obj) (its : Array Value) (n : Nat), K.lookup a = some o ∧ o.cls = .type "tuple" ∧ o.dict = none ∧ o.data = .seq its n ∧ its.size ≤ sizeLine ∧ Vals xs its.toList
def absV : Value → Option V
  | .none => some .non
  | .bool b => some (.bl b)
  | .int i _ => some (.int i)
  | .str x _ => some (.str x)
  | .bytes b _ => some (.byt b)
  | .float b _ => some (.flt b)
  | .ref a => some (.ref a)
  | .type n => some (.ty n)
  | _ => none
theorem RelV.abs {x : V} {u : Value} (r : RelV x u) : absV u = some x := by
  cases x with
  | non => cases r; rfl
  | bl _ => cases r; rfl
  | int _ => obtain ⟨t, rfl⟩ := r; rfl
  | str _ => obtain ⟨t, rfl⟩ := r; rfl
  | byt _ => obtain ⟨t, rfl⟩ := r; rfl
  | flt _ => obtain ⟨t, rfl⟩ := r; rfl
  | ref _ => cases r; rfl
  | ty _ => cases r; rfl
theorem RelV.inj {x y : V} {u : Value} (r : RelV x u) (q : RelV y u) : x = y := Option.some.inj (r.abs.symm.trans q.abs)
theorem Vals.inj : ∀ {xs ys : List V} {us : List Value}, Vals xs us → Vals ys us → xs = ys
  | _, _, _, .nil, .nil => rfl
  | _, _, _, .cons r t, .cons r' t' => by rw [r.inj r', Vals.inj t t']
section
variable {X : Cx} {pins : List (Addr × Obj)} {σ : St} {H : Hp} {s : Shared} {a : Addr} {xs ys : List V}
theorem SqL.of {K : PySem.W.Frag} (h : H a = some (.lst xs)) : SqL K H a xs := .inl (.inl h)
theorem SqT.of {K : PySem.W.Frag} (h : H a = some (.tup xs)) : SqT K H a xs := .inl (.inl h)
theorem Inv.list (I : Inv X pins σ H s) (h : SqL X.K H a xs) : ∃ its : List Value, Vals xs its ∧ PlainL s.heap a its.toArray ∧ xs.length ≤ sizeLine := by
  rcases h with h | ⟨o, its, n, hk, hc, hd, hs, hz, r⟩
  · obtain ⟨z, its, n, r, e⟩ := h.ok I.hok
    exact ⟨its, r, ⟨_, n, e, rfl, rfl, rfl⟩, z⟩
  · refine ⟨its.toList, r, ⟨o, n, I.kIn a o hk, hc, hd, by simpa using hs⟩, ?_⟩
    have e := r.length
    simp only [Array.length_toList] at e
    omega
theorem Inv.tupleN (I : Inv X pins σ H s) (h : SqT X.K H a xs) : ∃ its : List Value, Vals xs its ∧ IsTupN s.heap a its.toArray ∧ xs.length ≤ sizeLine := by
  rcases h with h | ⟨o, its, n, hk, hc, hn, hs, hz, r⟩
  · obtain ⟨z, its, r, p⟩ := h.ok I.hok
    exact ⟨its, r, p, z⟩
  · refine ⟨its.toList, r, ⟨o, I.kIn a o hk, hc, ⟨n, by simpa using hs⟩, hn⟩, ?_⟩
    have e := r.length
    simp only [Array.length_toList] at e
    omega
theorem Inv.tuple (I : Inv X pins σ H s) (h : SqT X.K H a xs) : ∃ its : List Value, Vals xs its ∧ IsTup s.heap a its.toArray ∧ xs.length ≤ sizeLine := by
  obtain ⟨its, r, p, z⟩ := I.tupleN h
  exact ⟨its, r, p.tup, z⟩
theorem Inv.list_inj (I : Inv X pins σ H s) (h : SqL X.K H a xs) (h' : SqL X.K H a ys) : xs = ys := by
  obtain ⟨its, r, ⟨o, n, e, _, _, d⟩, _⟩ := I.list h
  obtain ⟨its', r', ⟨o', n', e', _, _, d'⟩, _⟩ := I.list h'
  rw [e] at e'; cases e'
  rw [d] at d'
  injection d' with d1 _
  have : its = its' := by simpa using congrArg Array.toList d1
  subst this
  exact r.inj r'
theorem Inv.tuple_inj (I : Inv X pins σ H s) (h : SqT X.K H a xs) (h' : SqT X.K H a ys) : xs = ys := by
  obtain ⟨its, r, ⟨o, e, _, n, d⟩, _⟩ := I.tuple h
  obtain ⟨its', r', ⟨o', e', _, n', d'⟩, _⟩ := I.tuple h'
  rw [e] at e'; cases e'
  rw [d] at d'
  injection d' with d1 _
  have : its = its' := by simpa using congrArg Array.toList d1
  subst this
  exact r.inj r'
end

/-! ### another wish about exceptions -/
abbrev Cx.wish (X : Cx) (E : Value → Shared → Prop) : Cx := { X with xe := E }
/-- no exception leaves -/
abbrev Cx.nox (X : Cx) : Cx := X.wish fun _ _ => False
theorem Cx.Ok.wish {X : Cx} (ok : X.Ok) (E : Value → Shared → Prop) : (X.wish E).Ok :=
  ⟨ok.mod, ok.kind, ok.glob, ok.blt, ok.above, ok.inj, ok.has, ok.cab, ok.hd, ok.frames, ok.stk, ok.exf, ok.bs, ok.bsz, ok.noex, ok.exfs, ok.funs, ok.frf⟩
theorem Cx.Ok.unwish {X : Cx} {E : Value → Shared → Prop} (ok : (X.wish E).Ok) : X.Ok :=
  ⟨ok.mod, ok.kind, ok.glob, ok.blt, ok.above, ok.inj, ok.has, ok.cab, ok.hd, ok.frames, ok.stk, ok.exf, ok.bs, ok.bsz, ok.noex, ok.exfs, ok.funs, ok.frf⟩
section
variable {X : Cx} {pins : List (Addr × Obj)} {σ : St} {H : Hp} {s : Shared} {E : Value → Shared → Prop}
theorem Inv.wish (I : Inv X pins σ H s) (E : Value → Shared → Prop) : Inv (X.wish E) pins σ H s := ⟨I.ok.wish E, I.os, I.bare, I.base, I.loc, I.cell, I.free, I.freeC, I.pin, I.hok, I.len⟩
theorem Inv.unwish (I : Inv (X.wish E) pins σ H s) : Inv X pins σ H s := ⟨I.ok.unwish, I.os, I.bare, I.base, I.loc, I.cell, I.free, I.freeC, I.pin, I.hok, I.len⟩
theorem SP.unwish {D : Ends} {f : Flow} {s' : Shared} (h : SP (X.wish E) pins D f s') : SP X pins D f s' := by
  cases f with
  | next => obtain ⟨σ', H', I, q⟩ := h; exact ⟨σ', H', I.unwish, q⟩
  | brk => obtain ⟨σ', H', I, q⟩ := h; exact ⟨σ', H', I.unwish, q⟩
  | cont => obtain ⟨σ', H', I, q⟩ := h; exact ⟨σ', H', I.unwish, q⟩
  | ret u => obtain ⟨v, σ', H', I, r, q⟩ := h; exact ⟨v, σ', H', I.unwish, r, q⟩
theorem PE.nox {e : Expr} {t : TE} (h : PE X.nox e t) : PE X e t := fun pins s σ H Q I hw =>
  wpAny_mono (h pins s σ H Q (I.wish _) hw) (fun _ _ ⟨v, H', I', r, q⟩ => ⟨v, H', I'.unwish, r, q⟩) fun _ _ z => False.elim z
theorem PT.nox {e : Expr} {t : TT} (h : PT X.nox e t) : PT X e t := fun pins s σ H Q I hw =>
  wpAny_mono (h pins s σ H Q (I.wish _) hw) (fun _ _ ⟨H', I', q⟩ => ⟨H', I'.unwish, q⟩) fun _ _ z => False.elim z
theorem PSs.nox {st : List Stmt} {t : TS} (h : PSs X.nox st t) : PSs X st t := fun pins s σ H D I hw =>
  wpAny_mono (h pins s σ H D (I.wish _) hw) (fun _ _ q => q.unwish) fun _ _ z => False.elim z
end

/-! ### blocks and small statements -/
section
variable {X : Cx} {st : Stmt} {rest : List Stmt} {t u : TS} {e : Expr} {te : TE} {pos : Pos}
def tNext : TS := fun D σ H => D.nx σ H
def tSeq (t u : TS) : TS := fun D σ H => t { D with nx := u D } σ H
theorem pss_nil : PSs X [] tNext := fun _ _ σ H _ I h => wpAny_execs_nil ⟨σ, H, I, h⟩
theorem pss_cons (h1 : PS X st t) (h2 : PSs X rest u) : PSs X (st :: rest) (tSeq t u) := by
  intro pins s σ H D I h
  refine wpAny_execs_cons (thn (h1 pins s σ H { D with nx := u D } I h) fun f s1 q => ?_)
  cases f with
  | next =>
    obtain ⟨σ', H', I', q⟩ := q
    exact h2 pins s1 σ' H' D I' q
  | ret v => exact q
  | brk => exact q
  | cont => exact q
theorem pss_one (h1 : PS X st t) : PSs X [st] t := by
  intro pins s σ H D I h
  refine wpAny_execs_cons (thn (h1 pins s σ H D I h) fun f s1 q => ?_)
  cases f with
  | next => exact wpAny_execs_nil q
  | ret v => exact q
  | brk => exact q
  | cont => exact q
/-- in a def's body nothing is shown -/
theorem Inv.quiet {pins : List (Addr × Obj)} {σ : St} {H : Hp} {s : Shared} (I : Inv X pins σ H s) : interactive X.env = false := by simp [interactive, I.ok.kind]
/-- an expression whose value is dropped -/
def tDrop (te : TE) : TS := fun D σ H => te σ H fun _ H1 => D.nx σ H1
theorem ps_expr (he : PE X e te) (hs : swapsWith e none pos.line X.env = pure false := by rfl) : PS X (.Expr e pos) (tDrop te) := by
  intro pins s σ H D I h
  exact wpAny_Expr_any (thn (he pins s σ H _ I h) fun v s1 ⟨x, H1, I1, r1, q1⟩ => ⟨σ, H1, I1, q1⟩) I.quiet hs
def tRet (te : TE) : TS := fun D σ H => te σ H D.rt
theorem ps_ret (he : PE X e te) : PS X (.Return (some e) pos) (tRet te) := by
  intro pins s σ H D I h
  exact wpAny_Return_some (thn (he pins s σ H _ I h) fun v s1 ⟨x, H1, I1, r1, q1⟩ => ⟨x, σ, H1, I1, r1, q1⟩)
def tIfS (c : TT) (t u : TS) : TS := fun D σ H => c σ H fun b H1 => if b = true then t D σ H1 else u D σ H1
theorem ps_if {c : Expr} {a b : List Stmt} {tc : TT} (hc : PT X c tc) (ha : PSs X a t) (hb : PSs X b u) : PS X (.If c a b pos) (tIfS tc t u) := by
  intro pins s σ H D I h
  refine wpAny_If (thn (hc pins s σ H _ I h) fun d s1 ⟨H1, I1, q1⟩ => ?_)
  cases d with
  | true => exact ha pins s1 σ H1 D I1 q1
  | false => exact hb pins s1 σ H1 D I1 q1
end

/-! ### targets -/
abbrev TG := V → St → Hp → (St → Hp → Prop) → Prop
abbrev TGs := List V → St → Hp → (St → Hp → Prop) → Prop
def PG (X : Cx) (target : Expr) (t : TG) : Prop :=
  ∀ (pins : List (Addr × Obj)) (s : Shared) (σ : St) (H : Hp) (v : V) (u : Value) (Q : St → Hp → Prop), Inv X pins σ H s → RelV v u → t v σ H Q →
    wpAny (model X.prog X.w) X.A (assign target X.env u) (fun _ s' => ∃ σ' H', Inv X pins σ' H' s' ∧ Q σ' H') X.xe s
/-- several targets, one after another -/
def PGs (X : Cx) (ts : List Expr) (t : TGs) : Prop :=
  ∀ (pins : List (Addr × Obj)) (s : Shared) (σ : St) (H : Hp) (vs : List V) (us : List Value) (Q : St → Hp → Prop), Inv X pins σ H s → Vals vs us → t vs σ H Q →
    wpAny (model X.prog X.w) X.A (assignInOrder ((assignEach ts X.env).map (·.2)) us) (fun _ s' => ∃ σ' H', Inv X pins σ' H' s' ∧ Q σ' H') X.xe s
/-- o[i] = v, by values -/
abbrev TSet := V → V → V → Hp → (Hp → Prop) → Prop
def PSet (X : Cx) (t : TSet) : Prop :=
  ∀ (pins : List (Addr × Obj)) (s : Shared) (σ : St) (H : Hp) (o i v : V) (ov iv u : Value) (Q : Hp → Prop), Inv X pins σ H s → RelV o ov → RelV i iv → RelV v u → t o i v H Q →
    wpAny (model X.prog X.w) X.A (setItem ov iv u) (fun _ s' => ∃ H', Inv X pins σ H' s' ∧ Q H') X.xe s
section
variable {X : Cx} {pos : Pos}
def gName (i : Nat) : TG := fun v σ H Q => Q (σ.set i (some v)) H
theorem pg_name {i : Nat} {x : Str} (hN : X.N.Nodup) (hi : X.N[i]? = some x) (hx : Loc X.env.scope x) (hf : X.fn x = true ∨ X.env.scope.names.lookup x = some .local := by first | exact .inl rfl | exact .inr rfl | assumption) : PG X (.Name x pos) (gName i) := by
  intro pins s σ H v u Q I r h
  exact wpAny_assign_Name (store_ok I hN hi hx r (fun s' I' => ⟨_, H, I', h⟩) hf)
def gNil : TGs := fun vs σ H Q => vs = [] ∧ Q σ H
def gCons (t : TG) (u : TGs) : TGs := fun vs σ H Q => ∃ v r, vs = v :: r ∧ t v σ H fun σ' H' => u r σ' H' Q
theorem pgs_nil : PGs X [] gNil := by
  intro pins s σ H vs us Q I r h
  obtain ⟨e, h⟩ := h
  subst e
  cases r
  exact assignInOrder_nil ⟨σ, H, I, h⟩
theorem pgs_cons {e : Expr} {es : List Expr} {t : TG} {u : TGs} (h1 : PG X e t) (h2 : PGs X es u)
    (hs : (assignEach (e :: es) X.env).map (·.2) = assign e X.env :: (assignEach es X.env).map (·.2) := by rfl) : PGs X (e :: es) (gCons t u) := by
  intro pins s σ H vs us Q I r h
  obtain ⟨v, vr, e1, h⟩ := h
  subst e1
  cases r with
  | cons r rr =>
    rw [hs]
    refine assignInOrder_cons (thn (h1 pins s σ H _ _ _ I r h) fun _ s1 ⟨σ1, H1, I1, q1⟩ => ?_)
    exact h2 pins s1 σ1 H1 _ _ Q I1 rr q1
/-- (a, b, ..) = a tuple of that length -/
def gTup (K : PySem.W.Frag) (n : Nat) (t : TGs) : TG := fun v σ H Q => ∃ a xs, v = .ref a ∧ SqT K H a xs ∧ xs.length = n ∧ t xs σ H Q
theorem pg_tup {es : List Expr} {k : Nat} {t : TGs} {n : Nat} (hc : X.calm = true) (h : PGs X es t)
    (hn : (assignEach es X.env).length = n := by rfl) (hst : (assignEach es X.env).findIdx? (·.1) = none := by rfl) : PG X (.Tuple es k pos) (gTup X.K n t) := by
  intro pins s σ H v u Q I r hw
  obtain ⟨a, xs, e1, hq, hl, hw⟩ := hw
  subst e1
  cases r
  obtain ⟨its, rv, ht, hz⟩ := I.tuple hq
  refine assign_Tuple_tuple (I.ok.hd hc) ht (by simp [hn, ← hl, rv.length]) hst fun h' hx => ?_
  have I1 : Inv X pins σ H { s with heap := h' } := I.kept (t' := s.toks) fun b o e => hx b o (Nat.ne_of_lt (Heap.lt_size e)) e
  exact h pins _ σ H xs _ Q I1 (by simpa using rv) hw
/-- o[i] = .. -/
def gSub (to ti : TE) (t : TSet) : TG := fun v σ H Q => to σ H fun o H1 => ti σ H1 fun i H2 => t o i v H2 fun H3 => Q σ H3
theorem pg_sub {o i : Expr} {to ti : TE} {t : TSet} (ho : PE X o to) (hi : PE X i ti) (hs : PSet X t)
    (ha : ∀ v, assign (.Subscript o i pos) X.env v = (do
      let ov ← holding [v] (eval o X.env)
      let iv ← holding [v, ov] (eval i X.env)
      standAt pos
      holding [v, ov, iv] (setItem ov iv v)
      release [v, ov, iv] []) := by intro _; rfl) : PG X (.Subscript o i pos) (gSub to ti t) := by
  intro pins s σ H v u Q I r h
  rw [ha]
  refine wpAny_bind (wpAny_holding (thn (ho pins s σ H _ I h) fun ov s1 ⟨x, H1, I1, r1, q1⟩ => ?_))
  refine wpAny_bind (wpAny_holding (thn (hi pins s1 σ H1 _ I1 q1) fun iv s2 ⟨y, H2, I2, r2, q2⟩ => ?_))
  refine wpAny_bind (wpAny_standAt (wpAny_bind (wpAny_holding (thn (hs pins s2 σ H2 x y v ov iv u _ I2 r1 r2 r q2) fun _ s3 ⟨H3, I3, q3⟩ => ?_))))
  exact wpAny_release ⟨σ, H3, I3, q3⟩
/-- target = value -/
def tAsg (te : TE) (g : TG) : TS := fun D σ H => te σ H fun x H1 => g x σ H1 D.nx
theorem ps_asg {tg e : Expr} {te : TE} {g : TG} (he : PE X e te) (hg : PG X tg g) (hs : swapsWithSole [tg] e pos.line X.env = pure false := by rfl) (hw : swappedStores [tg] e X.env = pure none := by rfl)
    (h1 : (assignEach [tg] X.env).map (·.2) = [assign tg X.env] := by rfl) : PS X (.Assign [tg] e pos) (tAsg te g) := by
  intro pins s σ H D I h
  refine wpAny_Assign_stores (thn (he pins s σ H _ I h) fun v s1 ⟨x, H1, I1, r1, q1⟩ => ?_) hs hw
  rw [h1]
  exact thn (hg pins s1 σ H1 x v _ I1 r1 q1) fun _ s2 q => q
/-- name = value -/
theorem ps_set {i : Nat} {x : Str} {e : Expr} {te : TE} {pos' : Pos} (hN : X.N.Nodup) (hi : X.N[i]? = some x) (hx : Loc X.env.scope x) (he : PE X e te) (hs : swapsWith e (some (.Name x pos')) pos.line X.env = pure false := by rfl) (hf : X.fn x = true ∨ X.env.scope.names.lookup x = some .local := by first | exact .inl rfl | exact .inr rfl | assumption) :
    PS X (.Assign [.Name x pos'] e pos) (tAsg te (gName i)) := by
  intro pins s σ H D I h
  refine wpAny_Assign_Name (thn (he pins s σ H _ I h) fun v s1 ⟨y, H1, I1, r1, q1⟩ => ?_) hs
  exact store_ok I1 hN hi hx r1 (fun s2 I2 => ⟨_, H1, I2, q1⟩) hf
end

/-! ### while -/
section
variable {X : Cx} {pos : Pos}
/-- the invariant W with its measure -/
def tWhile (c : TT) (tb : TS) : TS := fun D σ H => ∃ W : Nat → St → Hp → Prop, (∃ m, W m σ H) ∧ ∀ m σ H, W m σ H →
  c σ H fun b H1 => if b = true then ∃ N : St → Hp → Prop, (∀ σ' H', N σ' H' → ∃ m', m' < m ∧ W m' σ' H') ∧ tb { D with nx := N, ct := N, bk := D.nx } σ H1 else D.nx σ H1
theorem ps_while {c : Expr} {body : List Stmt} {tc : TT} {tb : TS} (hp : PassesOwn (model X.prog X.w) X.A X.env X.xe) (hc : PT X c tc) (hb : PSs X body tb) : PS X (.While c body [] pos) (tWhile tc tb) := by
  intro pins s σ H D I h
  obtain ⟨W, ⟨m0, w0⟩, turn⟩ := h
  refine wpAny_While (codeAny_whileLoop (fun n s' => ∃ σ' H', Inv X pins σ' H' s' ∧ W n σ' H') ?_ m0 ⟨σ, H, I, w0⟩)
  rintro n s1 ⟨σ1, H1, I1, w1⟩
  refine wpAny_passesOwn hp (thn (hc pins s1 σ1 H1 _ I1 (turn n σ1 H1 w1)) fun b s2 ⟨H2, I2, q2⟩ => ?_)
  cases b with
  | true =>
    obtain ⟨N, hN, q2⟩ := q2
    rw [if_pos rfl]
    refine wpAny_passesOwn hp (thn (hb pins s2 σ1 H2 _ I2 q2) fun f s3 q3 => ?_)
    cases f with
    | next =>
      obtain ⟨σ3, H3, I3, n3⟩ := q3
      obtain ⟨m', hm, w3⟩ := hN σ3 H3 n3
      exact ⟨m', hm, σ3, H3, I3, w3⟩
    | cont =>
      obtain ⟨σ3, H3, I3, n3⟩ := q3
      obtain ⟨m', hm, w3⟩ := hN σ3 H3 n3
      exact ⟨m', hm, σ3, H3, I3, w3⟩
    | brk => exact q3
    | ret v => exact q3
  | false =>
    rw [if_neg Bool.false_ne_true]
    exact wpAny_execs_nil ⟨σ1, H2, I2, q2⟩
end

/-! ### what a loop or a comprehension walks -/
/-- at turn i: it yields x (the heap may grow), or it stops -/
structure It where
  go : Nat → Hp → Prop
  yld : Nat → Hp → V → Hp → Prop
  stop : Nat → Hp → Prop
/-- the iterator's own objects may turn: they are not the frame's, not pinned, younger than the entry (or a comprehension's own) -/
def FpOk (X : Cx) (pins : List (Addr × Obj)) (H : Hp) (b : Addr) : Prop :=
  H b = none ∧ b ≠ X.env.locals ∧ b ∉ X.fs ∧ (b ∈ X.ex ∨ X.s₀.heap.objs.size ≤ b) ∧ (∀ x c, X.env.cells.lookup x = some c → c ≠ b) ∧ ∀ p ∈ X.pn ++ pins, p.1 ≠ b
theorem Inv.fpOk {X : Cx} {pins : List (Addr × Obj)} {σ : St} {H H' : Hp} {s : Shared} {b : Addr} (I : Inv X pins σ H s) (hb : s.heap.objs.size ≤ b) (hn : H' b = none) : FpOk X pins H' b := by
  refine ⟨hn, Nat.ne_of_gt (Nat.lt_of_lt_of_le I.lt hb), I.nofs hb, .inr (Nat.le_trans I.sz hb), fun x c e z => ?_, fun p hp z => ?_⟩
  · obtain ⟨v, q⟩ := I.cell x c e
    exact absurd (Nat.lt_of_lt_of_le q.lt (by rw [z]; exact hb)) (Nat.lt_irrefl _)
  · exact absurd (Nat.lt_of_lt_of_le (Heap.lt_size (I.pin p hp).1) (by rw [z]; exact hb)) (Nat.lt_irrefl _)
structure Turn (P : Program) (w : World) (K : PySem.W.Frag) (tg : Expr) (J : It) (fp : List Addr) (it : Addr) (tn : Nat → Heap → Prop) : Prop where
  mem : it ∈ fp
  obj : ∀ i h, tn i h → ∀ b ∈ fp, ∃ o, h.get? b = some o ∧ ∀ v, o.data ≠ .cell v
  keep : ∀ i h h', tn i h → (∀ b ∈ fp, ∀ o, h.get? b = some o → h'.get? b = some o) → tn i h'
  item : ∀ (X : Cx), X.prog = P → X.w = w → X.K = K → X.calm = true → ∀ (i : Nat) (pins : List (Addr × Obj)) (s : Shared) (σ : St) (H : Hp) (E : Value → Shared → Prop), Inv X pins σ H s → (∀ b ∈ fp, FpOk X pins H b) → tn i s.heap → J.go i H →
    wpAny (model P w) X.A (pyNext (.ref it)) (fun r s1 => ∃ u, r = some u ∧
      wpAny (model P w) X.A (letOwnedTupleGo tg (.ref it) u) (fun _ s2 => ∃ x H', Inv X pins σ H' s2 ∧ RelV x u ∧ J.yld i H x H' ∧ tn (i + 1) s2.heap ∧ ∀ b ∈ fp, H' b = none) E s1) E s
  done : ∀ (X : Cx), X.prog = P → X.w = w → X.K = K → X.calm = true → ∀ (i : Nat) (pins : List (Addr × Obj)) (s : Shared) (σ : St) (H : Hp) (E : Value → Shared → Prop), Inv X pins σ H s → (∀ b ∈ fp, FpOk X pins H b) → tn i s.heap → J.stop i H →
    wpAny (model P w) X.A (pyNext (.ref it)) (fun r s1 => r = none ∧ Inv X pins σ H s1) E s
  self : ∀ (A : Around) (i : Nat) (s : Shared) (Q : Value → Shared → Prop) (E : Value → Shared → Prop), tn i s.heap → Q (.ref it) s → wpAny (model P w) A (pyIter (.ref it)) Q E s
abbrev TI := St → Hp → (It → Hp → Prop) → Prop
/-- an iterator has come -/
def PIE (X : Cx) (pins : List (Addr × Obj)) (σ : St) (tg : Expr) (R : It → Hp → Prop) (itv : Value) (s2 : Shared) : Prop :=
  ∃ (it : Addr) (fp : List Addr) (tn : Nat → Heap → Prop) (J : It) (H' : Hp), itv = .ref it ∧ Inv X pins σ H' s2 ∧ Turn X.prog X.w X.K tg J fp it tn ∧ tn 0 s2.heap ∧ (∀ b ∈ fp, FpOk X pins H' b) ∧ R J H'
def PI (X : Cx) (tg iter : Expr) (wi : TI) : Prop :=
  ∀ (pins : List (Addr × Obj)) (s : Shared) (σ : St) (H : Hp) (R : It → Hp → Prop), Inv X pins σ H s → wi σ H R →
    wpAny (model X.prog X.w) X.A (eval iter X.env) (fun v s1 => wpAny (model X.prog X.w) X.A (pyIter v) (PIE X pins σ tg R) X.xe s1) X.xe s

/-- the step ahead of the store is nothing for an iterator that keeps no tuple -/
theorem go_of {M : Model} {A : Around} {E : Value → Shared → Prop} {s : Shared} {tg : Expr} {it : Addr} {u : Value} {o : Obj} {n : String} {vs : Array Value} {Q : Unit → Shared → Prop} (ho : s.heap.get? it = some o) (hc : o.cls = .type n) (hd : o.data = .fields vs)
    (hn : ["enumerate", "zip", "dict_itemiterator", "dict_reverseitemiterator", "odict_iterator", "itertools.zip_longest", "itertools.pairwise"].contains n = false) (hQ : Q () s) : wpAny M A (letOwnedTupleGo tg (.ref it) u) Q E s := by
  unfold letOwnedTupleGo
  cases tg <;> first
    | exact wpAny_pure hQ
    | (cases u <;> first
        | exact wpAny_pure hQ
        | (refine wpAny_bind (wpAny_load ho ?_)
           rw [hc, hd]
           show wpAny M A (if (["enumerate", "zip", "dict_itemiterator", "dict_reverseitemiterator", "odict_iterator", "itertools.zip_longest", "itertools.pairwise"].contains n && vs[0]? == some (rawInt _)) = true then _ else _) Q E s
           rw [if_neg (by intro h; rw [hn, Bool.false_and] at h; cases h)]
           exact wpAny_pure hQ))

/-- the list at a, as it stands at each turn (a loop may append to it) -/
def Itl (K : PySem.W.Frag) (a : Addr) : It :=
  ⟨fun i H => ∃ xs x, SqL K H a xs ∧ xs[i]? = some x, fun i H x H' => H' = H ∧ ∀ xs, SqL K H a xs → xs[i]? = some x, fun i H => ∃ xs, SqL K H a xs ∧ xs.length ≤ i⟩
def Itt (K : PySem.W.Frag) (a : Addr) : It :=
  ⟨fun i H => ∃ xs x, SqT K H a xs ∧ xs[i]? = some x, fun i H x H' => H' = H ∧ ∀ xs, SqT K H a xs → xs[i]? = some x, fun i H => ∃ xs, SqT K H a xs ∧ xs.length ≤ i⟩
/-- lo, lo + 1, .. (n of them) -/
def Itr (lo : Int) (n : Nat) : It := ⟨fun i _ => i < n, fun i H x H' => H' = H ∧ x = .int (lo + i), fun i _ => n ≤ i⟩
theorem turn_list {P : Program} {w : World} {K : PySem.W.Frag} {tg : Expr} (a it : Addr) : Turn P w K tg (Itl K a) [it] it (fun i h => h.IsListIter it a i) where
  mem := by simp
  obj := fun i h st b hb => by
    have e : b = it := by simpa using hb
    subst e
    obtain ⟨o, e, c, d⟩ := st
    exact ⟨o, e, fun v z => by rw [d] at z; cases z⟩
  keep := fun i h h' st k => st.at fun o e => k it (by simp) o e
  item := by
    intro X hP hw hK hc i pins s σ H E I hf st hg
    subst hP hw hK
    obtain ⟨xs, x, hq, hx⟩ := hg
    obtain ⟨its, rv, p, hz⟩ := I.list hq
    obtain ⟨u, hu, ru⟩ := rv.get hx
    obtain ⟨f0, f1, f2, f3, f4, f5⟩ := hf it (by simp)
    refine wpAny_pyNext_list_item st p.isList (x := u) (by simpa using hu) fun h' st' sb => ?_
    have I1 : Inv X pins σ H { s with heap := h' } := I.turned (t' := s.toks) (fun b o hb e => (sb.2 b hb).trans e) f0 f1 f3 f4 f5
    obtain ⟨o, e, c, d⟩ := id st'
    exact ⟨u, rfl, go_of (s := { s with heap := h' }) e c d (by decide) ⟨x, H, I1, ru, ⟨rfl, fun ys hy => by rw [I.list_inj hy hq]; exact hx⟩, st', fun b hb => (hf b hb).1⟩⟩
  done := by
    intro X hP hw hK hc i pins s σ H E I hf st hg
    subst hP hw hK
    obtain ⟨xs, hq, hx⟩ := hg
    obtain ⟨its, rv, p, hz⟩ := I.list hq
    obtain ⟨f0, f1, f2, f3, f4, f5⟩ := hf it (by simp)
    have hl := rv.length
    exact wpAny_pyNext_list_end (I.ok.hd hc) st p.isList (by simp; omega) fun h' eb => ⟨rfl, I.turned (t' := s.toks) (fun b o hb e => eb b o hb e) f0 f1 f3 f4 f5⟩
  self := fun _ _ _ _ _ st h => wpAny_pyIter_listiter st h
theorem turn_tuple {P : Program} {w : World} {K : PySem.W.Frag} {tg : Expr} (a it : Addr) : Turn P w K tg (Itt K a) [it] it (fun i h => h.IsTupleIter it a i) where
  mem := by simp
  obj := fun i h st b hb => by
    have e : b = it := by simpa using hb
    subst e
    obtain ⟨o, e, c, d⟩ := st
    exact ⟨o, e, fun v z => by rw [d] at z; cases z⟩
  keep := fun i h h' st k => st.at fun o e => k it (by simp) o e
  item := by
    intro X hP hw hK hc i pins s σ H E I hf st hg
    subst hP hw hK
    obtain ⟨xs, x, hq, hx⟩ := hg
    obtain ⟨its, rv, p, hz⟩ := I.tuple hq
    obtain ⟨u, hu, ru⟩ := rv.get hx
    obtain ⟨f0, f1, f2, f3, f4, f5⟩ := hf it (by simp)
    refine wpAny_pyNext_tuple_item st (show s.heap.IsTuple a its.toArray from p) (x := u) (by simpa using hu) fun h' st' sb => ?_
    have I1 : Inv X pins σ H { s with heap := h' } := I.turned (t' := s.toks) (fun b o hb e => (sb.2 b hb).trans e) f0 f1 f3 f4 f5
    obtain ⟨o, e, c, d⟩ := id st'
    exact ⟨u, rfl, go_of (s := { s with heap := h' }) e c d (by decide) ⟨x, H, I1, ru, ⟨rfl, fun ys hy => by rw [I.tuple_inj hy hq]; exact hx⟩, st', fun b hb => (hf b hb).1⟩⟩
  done := by
    intro X hP hw hK hc i pins s σ H E I hf st hg
    subst hP hw hK
    obtain ⟨xs, hq, hx⟩ := hg
    obtain ⟨its, rv, p, hz⟩ := I.tuple hq
    obtain ⟨f0, f1, f2, f3, f4, f5⟩ := hf it (by simp)
    have hl := rv.length
    exact wpAny_pyNext_tuple_end (I.ok.hd hc) st (show s.heap.IsTuple a its.toArray from p) (by simp; omega) fun h' eb => ⟨rfl, I.turned (t' := s.toks) (fun b o hb e => eb b o hb e) f0 f1 f3 f4 f5⟩
  self := fun _ _ _ _ _ st h => wpAny_pyIter_tupleiter st h
theorem turn_range {P : Program} {w : World} {K : PySem.W.Frag} {tg : Expr} (it : Addr) (lo : Int) (n : Nat) : Turn P w K tg (Itr lo n) [it] it (fun i h => IsRangeIter h it (lo + (i : Nat) * 1) ((n : Int) - (i : Nat)) 1) where
  mem := by simp
  obj := fun i h st b hb => by
    have e : b = it := by simpa using hb
    subst e
    exact ⟨_, st, fun v z => by
      have z' : Data.fields _ = Data.cell v := z
      cases z'⟩
  keep := fun i h h' st k => k it (by simp) _ st
  item := by
    intro X hP hw hK hc i pins s σ H E I hf st hg
    subst hP hw hK
    obtain ⟨f0, f1, f2, f3, f4, f5⟩ := hf it (by simp)
    have W := Walks.range (prog := X.prog) (w := X.w) (I.ok.hd hc) it lo 1 n
    refine W.item i s _ _ hg st fun v h' tk hv st' kk => ?_
    obtain ⟨t, rfl⟩ := hv
    have I1 : Inv X pins σ H { s with heap := h', toks := tk } := I.turned (fun b o hb e => kk b o (by simpa using hb) e) f0 f1 f3 f4 f5
    refine ⟨_, rfl, go_of (s := { s with heap := h', toks := tk }) (n := "range_iterator") st' rfl rfl (by decide) ⟨.int (lo + i), H, I1, ⟨t, ?_⟩, ⟨rfl, rfl⟩, st', fun b hb => (hf b hb).1⟩⟩
    rw [Int.mul_one]
  done := by
    intro X hP hw hK hc i pins s σ H E I hf st hg
    subst hP hw hK
    obtain ⟨f0, f1, f2, f3, f4, f5⟩ := hf it (by simp)
    exact wpAny_pyNext_range_end (I.ok.hd hc) st (by have : n ≤ i := hg; omega) fun h' eb => ⟨rfl, I.turned (t' := s.toks) (fun b o hb e => eb b o hb e) f0 f1 f3 f4 f5⟩
  self := fun _ _ _ _ _ st h => wpAny_pyIter_rangeiter st h
end L2

namespace L2
open PySem PySem.Spec PyProof.Rows
section
variable {X : Cx} {tg : Expr}
/-- a range object just made, walked -/
theorem range_it {pins : List (Addr × Obj)} {σ : St} {H : Hp} {s : Shared} {R : It → Hp → Prop} {E : Value → Shared → Prop} {lo hi : Int} {t u v : Tok} {tk : Nat} (I : Inv X pins σ H s) (h1 : -(2 ^ 62) ≤ lo) (h2 : lo < 2 ^ 62) (h3 : -(2 ^ 62) ≤ hi) (h4 : hi < 2 ^ 62)
    (q : R (Itr lo (hi - lo).toNat) H) : wpAny (model X.prog X.w) X.A (pyIter (.ref s.heap.objs.size)) (PIE X pins σ tg R) E { s with heap := s.heap.push { cls := .type "range", data := .fields #[.int lo t, .int hi u, .int 1 v] }, toks := tk } := by
  refine wpAny_pyIter_range (IsRange.new ..) (small_one h1 h2 h3 h4) ?_
  have I1 : Inv X pins σ H { s with heap := s.heap.push { cls := .type "range", data := .fields #[.int lo t, .int hi u, .int 1 v] }, toks := tk } := I.kept fun b o e => Heap.get?_push_of_some _ e
  refine ⟨(s.heap.push { cls := .type "range", data := .fields #[.int lo t, .int hi u, .int 1 v] }).objs.size, [(s.heap.push { cls := .type "range", data := .fields #[.int lo t, .int hi u, .int 1 v] }).objs.size], _, _, H, rfl,
    I1.kept (t' := tk) fun b o e => Heap.get?_push_of_some _ e, turn_range _ lo (hi - lo).toNat, ?_, fun b hb => ?_, q⟩
  · have e1 : lo + ((0 : Nat) : Int) * 1 = lo := by simp
    have e2 : (((hi - lo).toNat : Nat) : Int) - ((0 : Nat) : Int) = Builtin.Range.rangeSize lo hi 1 := by rw [rangeSize_one]; split <;> omega
    show IsRangeIter _ _ (lo + ((0 : Nat) : Int) * 1) ((((hi - lo).toNat : Nat) : Int) - ((0 : Nat) : Int)) 1
    rw [e1, e2]
    exact Heap.get?_push_size _ rfl
  · have e : b = (s.heap.push { cls := .type "range", data := .fields #[.int lo t, .int hi u, .int 1 v] }).objs.size := by simpa using hb
    subst e
    exact I1.fpOk (Nat.le_refl _) (I1.hok.fresh (Nat.le_refl _))
def iRng1 (ta : TA) : TI := fun σ H R => ta σ H fun vs H1 => ∃ j : Int, vs = [.int j] ∧ -(2 ^ 62) ≤ j ∧ j < 2 ^ 62 ∧ R (Itr 0 j.toNat) H1
theorem pi_range1 {a : Expr} {ta : TA} {p pos : Pos} (hg : Gl X "range") (hm : X.mg "range" = none) (ha : PA X [a] ta) (hs : starEach [a] X.env = [(false, eval a X.env)] := by rfl) : PI X tg (.Call (.Name "range" p) [a] [] pos) (iRng1 ta) := by
  intro pins s σ H R I h
  refine Call_ (ld_blt I hg hm boot_range (PyProof.Rows.callWith_type1 (thn (ha pos pins s σ H _ I h) fun us s1 ⟨vs, H1, I1, r1, q1⟩ => ?_) hs rfl))
  obtain ⟨j, e, q1, q2, q⟩ := q1
  subst e
  cases r1 with
  | cons r rr =>
    cases rr
    obtain ⟨t, rfl⟩ := r
    exact call_range_1 (range_it I1 (by omega) (by omega) q1 q2 (by simpa using q))
/-! ### for -/
/-- W: the invariant by the turn and a measure; N: what the body is to reach -/
def tFor (wi : TI) (g : TG) (tb : TS) : TS := fun D σ H => wi σ H fun J H1 => ∃ W : Nat → Nat → St → Hp → Prop, (∃ m, W 0 m σ H1) ∧ ∀ i m σ H, W i m σ H →
  (J.stop i H ∧ D.nx σ H) ∨ (J.go i H ∧ ∃ N : St → Hp → Prop, (∀ σ' H', N σ' H' → ∃ m', m' < m ∧ W (i + 1) m' σ' H') ∧ ∀ x H', J.yld i H x H' → g x σ H' fun σ2 H2 => tb { D with nx := N, ct := N, bk := D.nx } σ2 H2)
/-- the records at fp as they stand -/
def pinsAt (fp : List Addr) (h : Heap) : List (Addr × Obj) := fp.filterMap fun b => (h.get? b).map fun o => (b, o)
theorem mem_pinsAt {fp : List Addr} {h : Heap} {b : Addr} {o : Obj} (hb : b ∈ fp) (e : h.get? b = some o) : (b, o) ∈ pinsAt fp h := List.mem_filterMap.mpr ⟨b, hb, by rw [e]; rfl⟩
theorem of_pinsAt {fp : List Addr} {h : Heap} {p : Addr × Obj} (hp : p ∈ pinsAt fp h) : p.1 ∈ fp ∧ h.get? p.1 = some p.2 := by
  obtain ⟨b, hb, e⟩ := List.mem_filterMap.mp hp
  cases q : h.get? b with
  | none => rw [q] at e; cases e
  | some o =>
    rw [q] at e
    have e' : (b, o) = p := Option.some.inj e
    subst e'
    exact ⟨hb, q⟩
theorem Inv.pinned {pins : List (Addr × Obj)} {σ : St} {H : Hp} {s : Shared} {fp : List Addr} (I : Inv X pins σ H s) (hf : ∀ b ∈ fp, FpOk X pins H b) (ho : ∀ b ∈ fp, ∃ o, s.heap.get? b = some o ∧ ∀ v, o.data ≠ .cell v) : Inv X (pins ++ pinsAt fp s.heap) σ H s :=
  I.pins_of fun p hp => (List.mem_append.mp hp).elim (fun z => I.pin p (List.mem_append_right _ z)) fun z => by
    obtain ⟨hb, e⟩ := of_pinsAt z
    obtain ⟨f0, f1, f2, _⟩ := hf p.1 hb
    obtain ⟨o, e', d⟩ := ho p.1 hb
    rw [e] at e'; cases e'
    exact ⟨e, f0, f1, f2, d⟩
theorem Inv.unpinned {pins pl : List (Addr × Obj)} {σ : St} {H : Hp} {s : Shared} (I : Inv X (pins ++ pl) σ H s) : Inv X pins σ H s := I.pins_of fun p hp => I.pin p (List.mem_append_right _ (List.mem_append_left _ hp))
theorem ps_for {iter : Expr} {body : List Stmt} {wi : TI} {g : TG} {tb : TS} {pos : Pos} (hp : PassesOwn (model X.prog X.w) X.A X.env X.xe) (hc : X.calm = true) (hi : PI X tg iter wi) (hg : PG X tg g) (hb : PSs X body tb)
    (hs : ∀ x, foldedSetIterable iter X.env x = pure x := by intro _; rfl) : PS X (.For tg iter body [] pos) (tFor wi g tb) := by
  intro pins s σ H D I h
  refine wpAny_For (thn (hi pins s σ H _ I h) fun v s1 h1 => thn h1 fun itv s2 h2 => ?_) hs
  obtain ⟨it, fp, tn, J, H2, e, I2, T, st2, f2, W, ⟨m0, w0⟩, turn⟩ := h2
  subst e
  -- what stays true of the iterator's objects through the loop
  have stat : ∀ {H' : Hp}, (∀ b ∈ fp, H' b = none) → ∀ b ∈ fp, FpOk X pins H' b := fun hn b hb => ⟨hn b hb, (f2 b hb).2⟩
  refine codeAny_forLoop_any (fun n s' => ∃ i σ' H', Inv X pins σ' H' s' ∧ tn i s'.heap ∧ (∀ b ∈ fp, H' b = none) ∧ W i n σ' H') ?_ m0 ⟨0, σ, H2, I2, st2, fun b hb => (f2 b hb).1, w0⟩
  rintro n s3 ⟨i, σ3, H3, I3, st3, fr3, w3⟩
  rcases turn i n σ3 H3 w3 with ⟨stop, qn⟩ | ⟨go, N, hN, step⟩
  · refine wpAny_passesOwn hp (thn (T.done X rfl rfl rfl hc i pins s3 σ3 H3 X.xe I3 (stat fr3) st3 stop) fun r s4 ⟨hr, I4⟩ => ?_)
    subst hr
    exact wpAny_execs_nil ⟨σ3, H3, I4, qn⟩
  · refine wpAny_passesOwn hp (thn (T.item X rfl rfl rfl hc i pins s3 σ3 H3 X.xe I3 (stat fr3) st3 go) fun r s4 ⟨u, hr, h4⟩ => ?_)
    subst hr
    refine wpAny_passesOwn hp (thn h4 fun _ s5 ⟨x, H5, I5, r5, y5, st5, fr5⟩ => ?_)
    have I5' := I5.pinned (stat fr5) (T.obj _ _ st5)
    refine wpAny_passesOwn hp (thn (hg _ s5 σ3 H5 x u _ I5' r5 (step x H5 y5)) fun _ s6 ⟨σ6, H6, I6, q6⟩ => ?_)
    refine wpAny_passesOwn hp (thn (hb _ s6 σ6 H6 _ I6 q6) fun f s7 q7 => ?_)
    have again : ∀ {σ7 : St} {H7 : Hp}, Inv X (pins ++ pinsAt fp s5.heap) σ7 H7 s7 → N σ7 H7 → ∃ m, m < n ∧ ∃ i σ' H', Inv X pins σ' H' s7 ∧ tn i s7.heap ∧ (∀ b ∈ fp, H' b = none) ∧ W i m σ' H' := fun {σ7 H7} I7 n7 => by
      obtain ⟨m', hm, w7⟩ := hN σ7 H7 n7
      refine ⟨m', hm, i + 1, σ7, H7, I7.unpinned, T.keep _ _ _ st5 fun b hb o e => (I7.pin (b, o) (List.mem_append_right _ (List.mem_append_right _ (mem_pinsAt hb e)))).1, fun b hb => ?_, w7⟩
      obtain ⟨o, e, d⟩ := T.obj _ _ st5 b hb
      exact (I7.pin (b, o) (List.mem_append_right _ (List.mem_append_right _ (mem_pinsAt hb e)))).2.1
    cases f with
    | next => obtain ⟨σ7, H7, I7, n7⟩ := q7; exact again I7 n7
    | cont => obtain ⟨σ7, H7, I7, n7⟩ := q7; exact again I7 n7
    | brk => obtain ⟨σ7, H7, I7, q7⟩ := q7; exact ⟨σ7, H7, I7.unpinned, q7⟩
    | ret v => obtain ⟨x7, σ7, H7, I7, r7, q7⟩ := q7; exact ⟨x7, σ7, H7, I7.unpinned, r7, q7⟩
end

/-! ### the forms one uses -/
end L2

namespace L2
open PySem PySem.Spec PyProof.Rows

abbrev R2 := V → V → Hp → VK → Prop
/-- a two-place operation on values: f is binaryOp op, inplaceOp op or compareOp op -/
def OpR (X : Cx) (f : Value → Value → Sem Value) (r : R2) : Prop :=
  ∀ (pins : List (Addr × Obj)) (s : Shared) (σ : St) (H : Hp) (x y : V) (v u : Value) (Q : VK), Inv X pins σ H s → RelV x v → RelV y u → r x y H Q →
    wpAny (model X.prog X.w) X.A (f v u) (EP X pins σ Q) X.xe s
/-- a call of a value that is known (a builtin, a type) with values -/
def CallR (X : Cx) (f : Value) (r : List V → Hp → VK → Prop) : Prop :=
  ∀ (pins : List (Addr × Obj)) (s : Shared) (σ : St) (H : Hp) (xs : List V) (us : List Value) (Q : VK), Inv X pins σ H s → Vals xs us → r xs H Q →
    wpAny (model X.prog X.w) X.A (call f us) (EP X pins σ Q) X.xe s
/-- a value's truth -/
def TruR (X : Cx) (r : V → Hp → (Bool → Hp → Prop) → Prop) : Prop :=
  ∀ (pins : List (Addr × Obj)) (s : Shared) (σ : St) (H : Hp) (x : V) (v : Value) (Q : Bool → Hp → Prop), Inv X pins σ H s → RelV x v → r x H Q →
    wpAny (model X.prog X.w) X.A (truthy v) (TP X pins σ Q) X.xe s

def tOp (r : R2) (ta tb : TE) : TE := fun σ H Q => ta σ H fun x H1 => tb σ H1 fun y H2 => r x y H2 Q
/-- ints in, under C, and a value out -/
def rI (C : Int → Int → Prop) (g : Int → Int → V) : R2 := fun x y H Q => ∃ i j, x = .int i ∧ y = .int j ∧ C i j ∧ Q (g i j) H
def rI0 (g : Int → Int → V) : R2 := fun x y H Q => ∃ i j, x = .int i ∧ y = .int j ∧ Q (g i j) H
section
variable {X : Cx} {a b c : Expr} {ta tb tc : TE} {pos : Pos}

theorem binT (ha : PE X a ta) (hb : PE X b tb) {pins : List (Addr × Obj)} {s : Shared} {σ : St} {H : Hp} {R : V → V → Hp → Prop} (I : Inv X pins σ H s)
    (h : ta σ H fun x H1 => tb σ H1 fun y H2 => R x y H2) {Q : Value → Shared → Prop} {f : Value → Value → Sem Value}
    (hf : ∀ v u s2 x y H2, Inv X pins σ H2 s2 → RelV x v → RelV y u → R x y H2 → wpAny (model X.prog X.w) X.A (f v u) Q X.xe s2) :
    wpAny (model X.prog X.w) X.A (eval a X.env) (fun v s₁ => wpAny (model X.prog X.w) X.A (eval b X.env) (fun u s₂ => wpAny (model X.prog X.w) X.A (f v u) Q X.xe s₂) X.xe s₁) X.xe s := by
  refine thn (ha pins s σ H _ I h) fun v s1 ⟨x, H1, I1, r1, q1⟩ => ?_
  refine thn (hb pins s1 σ H1 _ I1 q1) fun u s2 ⟨y, H2, I2, r2, q2⟩ => ?_
  exact hf v u s2 x y H2 I2 r1 r2 q2

theorem pe_op {op : Operator} {r : R2} (ho : OpR X (binaryOp op) r) (ha : PE X a ta) (hb : PE X b tb) : PE X (.BinOp a op b pos) (tOp r ta tb) := by
  intro pins s σ H Q I h
  exact wpAny_BinOp (binT ha hb I h fun v u s2 x y H2 I2 rx ry q => ho pins s2 σ H2 x y v u Q I2 rx ry q)
/-! ### ints -/
theorem opI {f : Value → Value → Sem Value} {C : Int → Int → Prop} {g : Int → Int → Int}
    (rule : ∀ (i j : Int) (t u : Tok) (s : Shared) (Q : Value → Shared → Prop) (E : Value → Shared → Prop), C i j → Q (.int (g i j) s.toks) { s with toks := s.toks + 1 } → wpAny (model X.prog X.w) X.A (f (.int i t) (.int j u)) Q E s) :
    OpR X f (rI C fun i j => .int (g i j)) := by
  intro pins s σ H x y v u Q I rx ry h
  obtain ⟨i, j, rfl, rfl, hc, q⟩ := h
  obtain ⟨t, rfl⟩ := rx
  obtain ⟨t', rfl⟩ := ry
  exact rule i j t t' s _ _ hc ⟨.int (g i j), H, I.tok _, ⟨_, rfl⟩, q⟩
theorem opI0 {f : Value → Value → Sem Value} {g : Int → Int → Int}
    (rule : ∀ (i j : Int) (t u : Tok) (s : Shared) (Q : Value → Shared → Prop) (E : Value → Shared → Prop), Q (.int (g i j) s.toks) { s with toks := s.toks + 1 } → wpAny (model X.prog X.w) X.A (f (.int i t) (.int j u)) Q E s) :
    OpR X f (rI0 fun i j => .int (g i j)) := by
  intro pins s σ H x y v u Q I rx ry h
  obtain ⟨i, j, rfl, rfl, q⟩ := h
  obtain ⟨t, rfl⟩ := rx
  obtain ⟨t', rfl⟩ := ry
  exact rule i j t t' s _ _ ⟨.int (g i j), H, I.tok _, ⟨_, rfl⟩, q⟩
theorem opB0 {f : Value → Value → Sem Value} {g : Int → Int → Bool}
    (rule : ∀ (i j : Int) (t u : Tok) (s : Shared) (Q : Value → Shared → Prop) (E : Value → Shared → Prop), Q (.bool (g i j)) s → wpAny (model X.prog X.w) X.A (f (.int i t) (.int j u)) Q E s) :
    OpR X f (rI0 fun i j => .bl (g i j)) := by
  intro pins s σ H x y v u Q I rx ry h
  obtain ⟨i, j, rfl, rfl, q⟩ := h
  obtain ⟨t, rfl⟩ := rx
  obtain ⟨t', rfl⟩ := ry
  exact rule i j t t' s _ _ ⟨.bl (g i j), H, I, rfl, q⟩

def CDiv (i j : Int) : Prop := 0 < j ∧ j < 1073741824
def CMul (i j : Int) : Prop := (-(2 ^ 64) < i ∧ i < 2 ^ 64) ∨ (-(2 ^ 64) < j ∧ j < 2 ^ 64)
theorem CMul.ok {i j : Int} (h : CMul i j) : IntMulOk i j := by
  rcases h with ⟨h1, h2⟩ | ⟨h1, h2⟩
  · exact .of_left (intBits_le_64 h1 h2)
  · exact .of_right (intBits_le_64 h1 h2)
theorem op_add : OpR X (binaryOp .Add) (rI0 fun i j => .int (i + j)) := opI0 fun _ _ _ _ _ _ _ q => add_int q
theorem op_sub : OpR X (binaryOp .Sub) (rI0 fun i j => .int (i - j)) := opI0 fun _ _ _ _ _ _ _ q => sub_int q
theorem op_mul : OpR X (binaryOp .Mult) (rI CMul fun i j => .int (i * j)) := opI fun _ _ _ _ _ _ _ hc q => mul_int q hc.ok
/-- // by a positive divisor -/
theorem op_fdiv : OpR X (binaryOp .FloorDiv) (rI CDiv fun i j => .int (i / j)) := opI fun i j _ _ _ _ _ hc q => by
  have h1 : (0 : Int) < j := hc.1
  have h2 : j < 1073741824 := hc.2
  exact floordiv_int (by omega) (by rw [Int.fdiv_eq_ediv_of_nonneg i (by omega)]; exact q) (.inl (PyProof.noPylong_small (by omega)))
/-- % by a positive divisor of any size -/
theorem op_mod : OpR X (binaryOp .Mod) (rI (fun _ j => 0 < j) fun i j => .int (i % j)) := opI fun i j _ _ _ _ _ hc q => by
  have h1 : (0 : Int) < j := hc
  exact mod_int' (by omega) (by rw [Int.fmod_eq_emod_of_nonneg i (by omega)]; exact q)
/-! ### bools among ints: n += (a < b) -/
end

/-! ### comparisons -/
/-- the scalars that == tells apart as data does -/
def scal : V → V → Bool
  | .non, .non => true | .non, .int _ => true | .int _, .non => true | .non, .bl _ => true | .bl _, .non => true | .non, .str _ => true | .str _, .non => true
  | .int _, .int _ => true | .bl _, .bl _ => true | .str _, .str _ => true | .byt _, .byt _ => true
  | .int _, .str _ => true | .str _, .int _ => true | .bl _, .str _ => true | .str _, .bl _ => true
  | _, _ => false
def rEq : R2 := fun x y H Q => scal x y = true ∧ Q (.bl (decide (x = y))) H
def rNe : R2 := fun x y H Q => scal x y = true ∧ Q (.bl (!decide (x = y))) H

theorem dec_int {i j : Int} : decide (V.int i = V.int j) = (i == j) := by
  rw [Bool.eq_iff_iff]
  simp
theorem dec_bl {i j : Bool} : decide (V.bl i = V.bl j) = (i == j) := by
  rw [Bool.eq_iff_iff]
  simp
theorem dec_str {i j : Str} : decide (V.str i = V.str j) = (i == j) := by
  rw [Bool.eq_iff_iff]
  simp
theorem dec_byt {i j : Array UInt8} : decide (V.byt i = V.byt j) = (i.toList == j.toList) := by
  rw [Bool.eq_iff_iff]
  cases i
  cases j
  simp

section
variable {X : Cx} {a b c : Expr} {ta tb tc : TE} {pos : Pos}
theorem fin_bl {pins : List (Addr × Obj)} {σ : St} {H : Hp} {s : Shared} {Q : VK} {k k' : Bool} (I : Inv X pins σ H s) (q : Q (.bl k) H) (e : k = k') : EP X pins σ Q (.bool k') s := by
  subst e
  exact ⟨.bl k, H, I, rfl, q⟩
theorem op_eq : OpR X (compareOp .Eq) rEq := by
  intro pins s σ H x y v u Q I rx ry h
  obtain ⟨hs, q⟩ := h
  cases x with
  | non =>
    cases rx
    cases y with
    | non => cases ry; exact PySem.EqNone.eq_none_none (fin_bl I q (by simp))
    | bl j => cases ry; exact PySem.EqNone.eq_none_bool (fin_bl I q (by simp))
    | int j => obtain ⟨t', rfl⟩ := ry; exact PySem.EqNone.eq_none_int (fin_bl I q (by simp))
    | str j => obtain ⟨t', rfl⟩ := ry; exact PySem.EqNone.eq_none_str (fin_bl I q (by simp))
    | _ => exact absurd (show false = true from hs) Bool.false_ne_true
  | bl i =>
    cases rx
    cases y with
    | non => cases ry; exact PySem.EqNone.eq_bool_none (fin_bl I q (by simp))
    | bl j => cases ry; exact eq_bool (fin_bl I q dec_bl)
    | str j => obtain ⟨t', rfl⟩ := ry; exact PySem.EqMixed.eq_bool_str (fin_bl I q (by simp))
    | _ => exact absurd (show false = true from hs) Bool.false_ne_true
  | int i =>
    obtain ⟨t, rfl⟩ := rx
    cases y with
    | non => cases ry; exact PySem.EqNone.eq_int_none (fin_bl I q (by simp))
    | int j => obtain ⟨t', rfl⟩ := ry; exact eq_int (fin_bl I q dec_int)
    | str j => obtain ⟨t', rfl⟩ := ry; exact PySem.EqMixed.eq_int_str (fin_bl I q (by simp))
    | _ => exact absurd (show false = true from hs) Bool.false_ne_true
  | str i =>
    obtain ⟨t, rfl⟩ := rx
    cases y with
    | non => cases ry; exact PySem.EqNone.eq_str_none (fin_bl I q (by simp))
    | bl j => cases ry; exact PySem.EqMixed.eq_str_bool (fin_bl I q (by simp))
    | int j => obtain ⟨t', rfl⟩ := ry; exact PySem.EqMixed.eq_str_int (fin_bl I q (by simp))
    | str j => obtain ⟨t', rfl⟩ := ry; exact eq_str (fin_bl I q dec_str)
    | _ => exact absurd (show false = true from hs) Bool.false_ne_true
  | byt i =>
    obtain ⟨t, rfl⟩ := rx
    cases y with
    | byt j => obtain ⟨t', rfl⟩ := ry; exact PySem.W.eq_bytes (fin_bl I q dec_byt)
    | _ => exact absurd (show false = true from hs) Bool.false_ne_true
  | _ => cases y <;> exact absurd (show false = true from hs) Bool.false_ne_true
theorem op_ne : OpR X (compareOp .NotEq) rNe := by
  intro pins s σ H x y v u Q I rx ry h
  obtain ⟨hs, q⟩ := h
  cases x with
  | non =>
    cases rx
    cases y with
    | non => cases ry; exact PySem.EqNone.ne_none_none (fin_bl I q (by simp))
    | bl j => cases ry; exact PySem.EqNone.ne_none_bool (fin_bl I q (by simp))
    | int j => obtain ⟨t', rfl⟩ := ry; exact PySem.EqNone.ne_none_int (fin_bl I q (by simp))
    | str j => obtain ⟨t', rfl⟩ := ry; exact PySem.EqNone.ne_none_str (fin_bl I q (by simp))
    | _ => exact absurd (show false = true from hs) Bool.false_ne_true
  | bl i =>
    cases rx
    cases y with
    | non => cases ry; exact PySem.EqNone.ne_bool_none (fin_bl I q (by simp))
    | bl j => cases ry; exact ne_bool (fin_bl I q (congrArg not dec_bl))
    | str j => obtain ⟨t', rfl⟩ := ry; exact PySem.EqMixed.ne_bool_str (fin_bl I q (by simp))
    | _ => exact absurd (show false = true from hs) Bool.false_ne_true
  | int i =>
    obtain ⟨t, rfl⟩ := rx
    cases y with
    | non => cases ry; exact PySem.EqNone.ne_int_none (fin_bl I q (by simp))
    | int j => obtain ⟨t', rfl⟩ := ry; exact ne_int (fin_bl I q (congrArg not dec_int))
    | str j => obtain ⟨t', rfl⟩ := ry; exact PySem.EqMixed.ne_int_str (fin_bl I q (by simp))
    | _ => exact absurd (show false = true from hs) Bool.false_ne_true
  | str i =>
    obtain ⟨t, rfl⟩ := rx
    cases y with
    | non => cases ry; exact PySem.EqNone.ne_str_none (fin_bl I q (by simp))
    | bl j => cases ry; exact PySem.EqMixed.ne_str_bool (fin_bl I q (by simp))
    | int j => obtain ⟨t', rfl⟩ := ry; exact PySem.EqMixed.ne_str_int (fin_bl I q (by simp))
    | str j => obtain ⟨t', rfl⟩ := ry; exact ne_str (fin_bl I q (congrArg not dec_str))
    | _ => exact absurd (show false = true from hs) Bool.false_ne_true
  | byt i =>
    obtain ⟨t, rfl⟩ := rx
    cases y with
    | byt j => obtain ⟨t', rfl⟩ := ry; exact PySem.W.ne_bytes (fin_bl I q (congrArg not dec_byt))
    | _ => exact absurd (show false = true from hs) Bool.false_ne_true
  | _ => cases y <;> exact absurd (show false = true from hs) Bool.false_ne_true

theorem op_lt : OpR X (compareOp .Lt) (rI0 fun i j => .bl (decide (i < j))) := opB0 fun _ _ _ _ _ _ _ q => lt_int q
theorem op_le : OpR X (compareOp .LtE) (rI0 fun i j => .bl (decide (i ≤ j))) := opB0 fun _ _ _ _ _ _ _ q => le_int q
theorem op_gt : OpR X (compareOp .Gt) (rI0 fun i j => .bl (decide (j < i))) := opB0 fun _ _ _ _ _ _ _ q => gt_int q
/-- two rules for one operation: by cases -/
theorem OpR.or {f : Value → Value → Sem Value} {r r' : R2} (h : OpR X f r) (h' : OpR X f r') : OpR X f (fun x y H Q => r x y H Q ∨ r' x y H Q) := by
  intro pins s σ H x y v u Q I rx ry q
  rcases q with q | q
  · exact h pins s σ H x y v u Q I rx ry q
  · exact h' pins s σ H x y v u Q I rx ry q

theorem nomark (b : Expr) {op : CmpOp} (h : op ≠ .In := by decide) (h2 : op ≠ .NotIn := by decide) : behindInMarks op b = false := by
  have e1 : (op == CmpOp.In) = false := by cases op <;> first | rfl | exact absurd rfl h
  have e2 : (op == CmpOp.NotIn) = false := by cases op <;> first | rfl | exact absurd rfl h2
  cases b <;> simp [behindInMarks, e1, e2]
/-- a comparison as a value; hm: nomark b, or (for in, not in) by with_unfolding_all rfl -/
theorem pe_cmpR {op : CmpOp} {r : R2} (ho : OpR X (compareOp op) r) (ha : PE X a ta) (hb : PE X b tb) (hm : behindInMarks op b = false) : PE X (.Compare a [op] [b] pos) (tOp r ta tb) := by
  intro pins s σ H Q I h
  exact wpAny_Compare1 (binT ha hb I h fun v u s2 x y H2 I2 rx ry q => ho pins s2 σ H2 x y v u Q I2 rx ry q) hm
/-- a reading of a value as a test -/
def tTest (t : TE) : TT := fun σ H Q => t σ H fun x H' => ∃ k, x = .bl k ∧ Q k H'
theorem pt_cmpR {op : CmpOp} {r : R2} (ho : OpR X (compareOp op) r) (ha : PE X a ta) (hb : PE X b tb) (hm : behindInMarks op b = false) : PT X (.Compare a [op] [b] pos) (tTest (tOp r ta tb)) := by
  intro pins s σ H Q I h
  refine wpAny_isTrue_Compare1 (thn (ha pins s σ H _ I h) fun v s1 ⟨x, H1, I1, r1, q1⟩ => thn (hb pins s1 σ H1 _ I1 q1) fun u s2 ⟨y, H2, I2, r2, q2⟩ =>
    thn (ho pins s2 σ H2 x y v u _ I2 r1 r2 q2) fun c s3 ⟨z, H3, I3, r3, k, e, q3⟩ => ?_) hm
  subst e
  cases r3
  exact wpAny_truthy_bool ⟨H3, I3, q3⟩
/-- a op1 b op2 c -/
def tChain (r r' : R2) (ta tb tc : TE) : TE := fun σ H Q => ta σ H fun x H1 => tb σ H1 fun y H2 => r x y H2 fun z H3 => ∃ k, z = .bl k ∧
  (if k = true then tc σ H3 fun w' H4 => r' y w' H4 Q else Q (.bl false) H3)
theorem pe_chain {op op' : CmpOp} {r r' : R2} (ho : OpR X (compareOp op) r) (ho' : OpR X (compareOp op') r') (ha : PE X a ta) (hb : PE X b tb) (hc : PE X c tc)
    (hm : lastMarks [op, op'] [b, c] = false := by with_unfolding_all rfl) : PE X (.Compare a [op, op'] [b, c] pos) (tChain r r' ta tb tc) := by
  intro pins s σ H Q I h
  refine Compare_chain (thn (ha pins s σ H _ I h) fun v s1 ⟨x, H1, I1, r1, q1⟩ => chain_link (thn (hb pins s1 σ H1 _ I1 q1) fun u s2 ⟨y, H2, I2, r2, q2⟩ =>
    thn (ho pins s2 σ H2 x y v u _ I2 r1 r2 q2) fun d s3 ⟨z, H3, I3, r3, k, e, q3⟩ => ?_)) hm
  subst e
  cases r3
  refine wpAny_truthy_bool ?_
  cases k with
  | false => exact ite_ff ⟨.bl false, H3, I3, rfl, q3⟩
  | true => exact ite_tt (chain_last (thn (hc pins s3 σ H3 _ I3 q3) fun w' s4 ⟨z', H4, I4, r4, q4⟩ => ho' pins s4 σ H4 y z' u w' Q I4 r2 r4 q4))
/-! ### truth -/
/-- a value's truth by the abstract heap -/
def TruV (K : PySem.W.Frag) (x : V) (H : Hp) (k : Bool) : Prop :=
  match x with
  | .non => k = false
  | .bl b => k = b
  | .int i => k = (i != 0)
  | .str y => y.length ≤ sizeLine ∧ k = ((y.length : Int) != 0)
  | .byt y => y.size ≤ sizeLine ∧ k = ((y.size : Int) != 0)
  | .ref p => (∃ xs, SqL K H p xs ∧ k = !xs.isEmpty) ∨ (∃ xs, SqT K H p xs ∧ k = !xs.isEmpty) ∨ ∃ kvs, H p = some (.dK kvs) ∧ k = !kvs.isEmpty
  | _ => False
theorem isEmpty_kv {κ : Type} {kvs : List (κ × V)} {vs : List (κ × Value)} (r : KV kvs vs) : (!vs.isEmpty) = !kvs.isEmpty := by
  cases r <;> rfl
theorem isEmpty_of {xs : List V} {its : List Value} (r : Vals xs its) : (!its.toArray.isEmpty) = !xs.isEmpty := by
  cases r <;> simp
theorem line63 : (sizeLine : Nat) < 2 ^ 63 := by rw [sizeLine_eq]; decide
theorem tru_ok : TruR X (fun x H Q => ∃ k, TruV X.K x H k ∧ Q k H) := by
  intro pins s σ H x v Q I rx h
  obtain ⟨k, e, q⟩ := h
  have hl := line63
  have hs : sizeLine = 16777216 := sizeLine_eq
  cases x with
  | non =>
    cases rx
    have e' : k = false := e
    subst e'
    exact truthy_none ⟨H, I, q⟩
  | bl b =>
    cases rx
    have e' : k = b := e
    subst e'
    exact wpAny_truthy_bool ⟨H, I, q⟩
  | int i =>
    obtain ⟨t, rfl⟩ := rx
    have e' : k = (i != 0) := e
    subst e'
    exact PySem.P.truthy_int ⟨H, I, q⟩
  | str y =>
    obtain ⟨t, rfl⟩ := rx
    obtain ⟨hy, e'⟩ : y.length ≤ sizeLine ∧ k = ((y.length : Int) != 0) := e
    subst e'
    exact PySem.P.truthy_str (by omega) ⟨H, I.tok _, q⟩
  | byt y =>
    obtain ⟨t, rfl⟩ := rx
    obtain ⟨hy, e'⟩ : y.size ≤ sizeLine ∧ k = ((y.size : Int) != 0) := e
    subst e'
    exact PySem.W.truthy_bytes (by omega) ⟨H, I.tok _, q⟩
  | ref p =>
    cases rx
    have e' : (∃ xs, SqL X.K H p xs ∧ k = !xs.isEmpty) ∨ (∃ xs, SqT X.K H p xs ∧ k = !xs.isEmpty) ∨ ∃ kvs, H p = some (.dK kvs) ∧ k = !kvs.isEmpty := e
    rcases e' with ⟨xs, hx, e'⟩ | ⟨xs, hx, e'⟩ | ⟨kvs, hx, e'⟩
    · subst e'
      obtain ⟨its, r, pl, hz⟩ := I.list hx
      have hlen := r.length
      exact wpAny_truthy_list pl.isList (by simp only [List.size_toArray]; omega) ⟨H, I.tok _, by rw [isEmpty_of r]; exact q⟩
    · subst e'
      obtain ⟨its, r, pl, hz⟩ := I.tuple hx
      have hlen := r.length
      exact truthy_tuple pl (by simp only [List.size_toArray]; omega) ⟨H, I.tok _, by rw [isEmpty_of r]; exact q⟩
    · subst e'
      obtain ⟨hz, hS, vs, r, m⟩ : kvs.length ≤ sizeLine ∧ (p == sysModules) = false ∧ ∃ vs, KV kvs vs ∧ s.heap.DictOf (mixKind X.prog X.w) p vs := I.hok p _ hx
      have hlen : kvs.length = vs.length := Paired.length r
      exact wpAny_truthy_dict hS m (by omega) ⟨H, I.tok _, by rw [isEmpty_kv r]; exact q⟩
  | _ => exact (show False from e).elim
/-- any expression whose test is its value's truth (a name, a call, a subscript, a field ..: he by fun _ => rfl) -/
theorem pt_truth (ha : PE X a ta) (he : ∀ whole, isTrue a X.env whole = (do let v ← whole; standAt a.pos; holding [v] (truthy v))) :
    PT X a (fun σ H Q => ta σ H fun x H' => ∃ k, TruV X.K x H' k ∧ Q k H') := by
  intro pins s σ H Q I h
  exact isTrue_plain (thn (ha pins s σ H _ I h) fun v s1 ⟨x, H1, I1, r1, q1⟩ => tru_ok pins s1 σ H1 x v Q I1 r1 q1) (he _)

/-! ### strs and bytes -/
theorem op_add_str : OpR X (binaryOp .Add) (fun x y H Q => ∃ i j, x = .str i ∧ y = .str j ∧ i.length + j.length ≤ sizeLine ∧ Q (.str (i ++ j)) H) := by
  intro pins s σ H x y v u Q I rx ry h
  obtain ⟨i, j, rfl, rfl, hz, q⟩ := h
  obtain ⟨t, rfl⟩ := rx
  obtain ⟨t', rfl⟩ := ry
  exact add_str (fun t' tk => ⟨.str (i ++ j), H, I.tok _, ⟨_, rfl⟩, q⟩) hz
/-! ### scalar builtins, by CallR -/
theorem vals1 {x : V} {us : List Value} (r : Vals [x] us) : ∃ u, us = [u] ∧ RelV x u := by
  cases r with
  | cons r1 r2 => cases r2; exact ⟨_, rfl, r1⟩
theorem vals2 {x y : V} {us : List Value} (r : Vals [x, y] us) : ∃ u w', us = [u, w'] ∧ RelV x u ∧ RelV y w' := by
  cases r with
  | cons r1 r2 =>
    cases r2 with
    | cons r3 r4 => cases r4; exact ⟨_, _, rfl, r1, r3⟩
theorem call_max2 (hc : X.calm = true) : CallR X (.builtin "max") (fun xs H Q => ∃ i j, xs = [.int i, .int j] ∧ Q (.int (if j > i then j else i)) H) := by
  intro pins s σ H xs us Q I r h
  obtain ⟨i, j, rfl, q⟩ := h
  obtain ⟨u, w', rfl, ⟨t, rfl⟩, ⟨t', rfl⟩⟩ := vals2 r
  refine max_two_ints (I.ok.hd hc) fun h' tk k => ⟨_, H, I.kept k, ?_, q⟩
  by_cases hj : j > i
  · rw [if_pos hj, if_pos hj]; exact ⟨_, rfl⟩
  · rw [if_neg hj, if_neg hj]; exact ⟨_, rfl⟩
end
end L2

namespace L2
open PySem PySem.Spec PyProof.Rows

/-! ### an instance, its attributes a map -/
section
variable {prog : Program} {w : World} {A : Around} {E : Value → Shared → Prop} {s : Shared} {K : PySem.W.Frag} {x dx C f : Addr} {mA : Str → Option Value} {name : Str} {v : Value}

end

/-! ### the attributes as a list of pairs -/
theorem RelO.some_of {v : V} {o : Option Value} (r : RelO (some v) o) : ∃ u, o = some u ∧ RelV v u := by
  cases o with
  | none => exact (show False from r).elim
  | some u => exact ⟨u, rfl, r⟩

/-! ### what of the text a class must have -/
structure Cls (K : PySem.W.Frag) (C : Addr) : Prop where
  pg : PySem.W.plainGet K C Str.empty = true
  hd : PySem.W.hasDictIn K C = true
  po : PySem.W.plainOver K C = true
  sa : PySem.W.findIn K (.ref C) "__setattr__" = some (some (.builtin "object.__setattr__"))
theorem Cls.get {K : PySem.W.Frag} {C : Addr} (c : Cls K C) (f : Str) : PySem.W.plainGet K C f = true := c.pg
section
variable {X : Cx} {pins : List (Addr × Obj)} {σ : St} {H : Hp} {s : Shared} {a C dx : Addr} {fs : List (Str × V)} {f : Str} {v : V} {A : Around} {E : Value → Shared → Prop}

/-- a new instance, tracked, without attributes -/
theorem Inv.made (I : Inv X pins σ H s) : Inv X pins σ (upd (upd H s.heap.objs.size (.own (s.heap.objs.size + 1))) (s.heap.objs.size + 1) (.ins C s.heap.objs.size []))
    { s with heap := (s.heap.push PySem.W.emptyDict).push (PySem.W.instObj C s.heap.objs.size) } := by
  have e1 : (s.heap.push PySem.W.emptyDict).get? s.heap.objs.size = some PySem.W.emptyDict := Heap.get?_push_size s.heap rfl
  have e2 : ((s.heap.push PySem.W.emptyDict).push (PySem.W.instObj C s.heap.objs.size)).get? (s.heap.objs.size + 1) = some (PySem.W.instObj C s.heap.objs.size) := by
    have := Heap.get?_push_size (s.heap.push PySem.W.emptyDict) (o := PySem.W.instObj C s.heap.objs.size) rfl
    rwa [Heap.size_push] at this
  have e3 : (s.heap.push PySem.W.emptyDict).Ns s.heap.objs.size (fun _ => none) := ⟨PySem.W.emptyDict, #[], _, e1, rfl, (fun e he => absurd he (by simp)), fun _ => rfl⟩
  have I1 := I.laid (a := s.heap.objs.size) (o := .own (s.heap.objs.size + 1)) (h' := s.heap.push PySem.W.emptyDict) (t' := s.toks) (fun b u q => Heap.get?_push_of_some _ q) (Nat.le_refl _) ⟨_, e1⟩
  refine I1.laid (a := s.heap.objs.size + 1) (o := .ins C s.heap.objs.size []) (t' := s.toks) (fun b u q => Heap.get?_push_of_some _ q) (Nat.le_of_eq (Heap.size_push _ _)) ?_
  have ne : s.heap.objs.size ≠ s.heap.objs.size + 1 := Nat.ne_of_lt (Nat.lt_succ_self _)
  refine ⟨by rw [upd_ne ne, upd_same], Nat.zero_le _, ne, e2, fun _ => none, (Heap.Ns1.of_empty e3).at fun o q => Heap.get?_push_of_some _ q, fun _ => True.intro, fun y hy => absurd rfl hy⟩

end

/-! ### readings and rules -/

/-! ### isinstance -/
end L2

namespace L2
open PySem PySem.Spec PyProof.Rows

/-! ### room -/
structure Room (k : Nat) (A : Around) : Prop where
  hd : A.handled = none
  dp : A.depth + 3 * k + 5 < recursionLimit
  un : A.units + 16 * k + 200 < cLine
theorem Room.mono {j k : Nat} {A : Around} (r : Room k A) (h : j ≤ k) : Room j A := ⟨r.hd, by have := r.dp; omega, by have := r.un; omega⟩
theorem Room.deeper {k : Nat} {A : Around} (r : Room (k + 1) A) (env : Env) : Room k (A.deeper env) :=
  ⟨r.hd, by have := r.dp; show A.depth + 1 + 3 * k + 5 < _; omega, by have := r.un; show A.units + 3 + 16 * k + 200 < _; omega⟩
theorem Room.in1 {k : Nat} {A : Around} (r : Room (k + 1) A) : Room k A.in1 :=
  ⟨r.hd, by have := r.dp; show A.depth + 3 * k + 5 < _; omega, by have := r.un; show A.units + 1 + 16 * k + 200 < _; omega⟩
theorem Room.depth {k : Nat} {A : Around} (r : Room k A) : A.depth < recursionLimit := by have := r.dp; omega
theorem Room.units {k : Nat} {A : Around} (r : Room k A) : A.units + 64 < cLine := by have := r.un; omega
/-! ### argument lists and displays -/
def tNil : TA := fun _ H Q => Q [] H
def tCons (ta : TE) (tr : TA) : TA := fun σ H Q => ta σ H fun x H1 => tr σ H1 fun xs H2 => Q (x :: xs) H2
section
variable {X : Cx} {e : Expr} {es : List Expr} {te : TE} {t : TA} {pos : Pos}
theorem pa_nil : PA X [] tNil := fun _ _ _ _ H Q I h => Calls.spliced_nil ⟨[], H, I, .nil, h⟩
theorem pa_cons (ha : PE X e te) (hr : PA X es t) (hs : starEach (e :: es) X.env = (false, eval e X.env) :: starEach es X.env := by rfl) : PA X (e :: es) (tCons te t) := by
  intro pos pins s σ H Q I h
  rw [hs]
  show wpAny _ _ (spliced ((false, eval e X.env) :: backTo pos (starEach es X.env))) _ _ s
  refine Calls.spliced_cons (thn (ha pins s σ H _ I h) fun u s1 ⟨x, H1, I1, r1, q1⟩ => ?_)
  exact thn (hr pos pins s1 σ H1 _ I1 q1) fun us s2 ⟨xs, H2, I2, r2, q2⟩ => ⟨x :: xs, H2, I2, .cons r1 r2, q2⟩

/-- a tuple, a list of written items -/
def tTup (t : TA) : TE := fun σ H Q => t σ H fun xs H1 => xs.length ≤ sizeLine ∧ ∀ p, H1 p = none → Q (.ref p) (upd H1 p (.tup xs))
def tLst (t : TA) : TE := fun σ H Q => t σ H fun xs H1 => xs.length ≤ sizeLine ∧ ∀ p, H1 p = none → Q (.ref p) (upd H1 p (.lst xs))
theorem pe_tup {x1} (h : PA X es t) : PE X (.Tuple es x1 pos) (tTup t) := by
  intro pins s σ H Q I hq
  refine wpAny_Tuple_spliced (thn (h pos pins s σ H _ I hq) fun us s1 ⟨xs, H1, I1, r, z, q⟩ => ⟨by rw [← r.length]; exact z, ?_⟩)
  have hf : H1 s1.heap.objs.size = none := I1.hok.fresh (Nat.le_refl _)
  refine ⟨.ref s1.heap.objs.size, upd H1 s1.heap.objs.size (.tup xs), I1.laid (t' := s1.toks) (fun b u e => Heap.get?_push_of_some _ e) (Nat.le_refl _) ?_, rfl, q _ hf⟩
  exact ⟨z, us, r, ⟨_, Heap.get?_push_size _ rfl, rfl, ⟨_, rfl⟩, rfl⟩⟩
theorem pe_lst (h : PA X es t) : PE X (.List es pos) (tLst t) := by
  intro pins s σ H Q I hq
  refine wpAny_List_spliced (thn (h pos pins s σ H _ I hq) fun us s1 ⟨xs, H1, I1, r, z, q⟩ => ⟨by rw [← r.length]; exact z, ?_⟩)
  have hf : H1 s1.heap.objs.size = none := I1.hok.fresh (Nat.le_refl _)
  refine ⟨.ref s1.heap.objs.size, upd H1 s1.heap.objs.size (.lst xs), I1.laid (t' := s1.toks) (fun b u e => Heap.get?_push_of_some _ e) (Nat.le_refl _) ?_, rfl, q _ hf⟩
  exact ⟨z, us, 0, r, Heap.get?_push_size _ rfl⟩
end

/-! ### what a def promises -/
/-- a def's promise: the bound arguments in the parameters' order, the heap, the wanted end, the wanted exception -/
abbrev Sp := List V → Hp → VK → XK → Prop
/-- how an exception lies behind a call (file 08 gives it): the callers' frames, abstract heap and state ahead of the call, the wish, the exception, the state -/
abbrev CXT := List Env → Hp → Shared → XK → Value → Shared → Prop

/-- the state at a call -/
structure Env0 (P : Program) (w : World) (K : PySem.W.Frag) (mg : Str → Option Value) (base : Heap) (A : Around) (outer : List Env) (s : Shared) (H : Hp) : Prop where
  frames : A.frames = some outer
  mod : Mod K mg base
  bs : ∀ b o, base.get? b = some o → s.heap.get? b = some o ∧ H b = none
  bsz : base.objs.size ≤ s.heap.objs.size
  funs : s.heap.FunFrames base outer
  frf : ∀ b ∈ frs outer, H b = none
  hok : HOk P w H s.heap
  bare : AllBare s.gens
/-- a call's end -/
def CE (outer : List Env) (P : Program) (w : World) (H : Hp) (s : Shared) (Q : VK) (u : Value) (s' : Shared) : Prop :=
  ∃ v H', s'.os = s.os ∧ AllBare s'.gens ∧ Un (frs outer) [] H H' s.heap s'.heap ∧ HOk P w H' s'.heap ∧ RelV v u ∧ Q v H'
def CR (CX : CXT) (outer : List Env) (P : Program) (w : World) (H : Hp) (s : Shared) (Q : VK) (E : XK) (r : Result) (s' : Shared) : Prop :=
  match r with
  | .ok (.ret u) => CE outer P w H s Q u s'
  | .ok _ => False
  | .error e => CX outer H s E e s'
structure FnOk (P : Program) (w : World) (K : PySem.W.Frag) (mg : Str → Option Value) (base : Heap) (CX : CXT) (k : Nat) (f : Addr) (fd : FuncData) (ps : List Str) (sp : Sp) : Prop where
  len : ∀ vs H Q E, sp vs H Q E → vs.length = ps.length
  run : ∀ (A : Around) (outer : List Env) (s : Shared) (H : Hp) (args : Args) (us : List Value) (vs : List V) (Q : VK) (E : XK), Room k A → Env0 P w K mg base A outer s H → BindsTo s fd args (ps.zip us) → Vals vs us → sp vs H Q E →
    codeAny (model P w) A (.call (.ref f) args) (CR CX outer P w H s Q E) s
theorem FnOk.mono {P : Program} {w : World} {K : PySem.W.Frag} {mg : Str → Option Value} {base : Heap} {CX : CXT} {j k : Nat} {f : Addr} {fd : FuncData} {ps : List Str} {sp : Sp} (F : FnOk P w K mg base CX j f fd ps sp) (h : j ≤ k) :
    FnOk P w K mg base CX k f fd ps sp := ⟨F.len, fun A outer s H args us vs Q E hr => F.run A outer s H args us vs Q E (hr.mono h)⟩
/-- a weaker promise -/
theorem FnOk.imp {P : Program} {w : World} {K : PySem.W.Frag} {mg : Str → Option Value} {base : Heap} {CX : CXT} {k : Nat} {f : Addr} {fd : FuncData} {ps : List Str} {sp sp' : Sp} (F : FnOk P w K mg base CX k f fd ps sp)
    (h : ∀ vs H Q E, sp' vs H Q E → sp vs H Q E) : FnOk P w K mg base CX k f fd ps sp' :=
  ⟨fun vs H Q E q => F.len vs H Q E (h _ _ _ _ q), fun A outer s H args us vs Q E hr he hb hv hs => F.run A outer s H args us vs Q E hr he hb hv (h _ _ _ _ hs)⟩

theorem Env0.in1 {P : Program} {w : World} {K : PySem.W.Frag} {mg : Str → Option Value} {base : Heap} {A : Around} {outer : List Env} {s : Shared} {H : Hp} (e : Env0 P w K mg base A outer s H) :
    Env0 P w K mg base A.in1 outer s H := ⟨e.frames, e.mod, e.bs, e.bsz, e.funs, e.frf, e.hok, e.bare⟩

section
variable {X : Cx} {pins : List (Addr × Obj)} {σ : St} {H : Hp} {s s' : Shared}
/-- from a body: what a callee wants -/
theorem Inv.env0 (I : Inv X pins σ H s) : Env0 X.prog X.w X.K X.mg X.base X.A X.stack s H :=
  ⟨I.ok.frames, I.ok.mod, I.bs, Nat.le_trans I.ok.bsz I.sz, I.stack, I.stkFree, I.hok, I.bare⟩
/-- behind a call -/
theorem Inv.after {Q : VK} {u : Value} (I : Inv X pins σ H s) (h : CE X.stack X.prog X.w H s Q u s') : EP X pins σ Q u s' := by
  obtain ⟨v, H', os, bare, un, hok, r, q⟩ := h
  obtain ⟨hh, g, d, t, os'⟩ := s'
  obtain rfl : os' = s.os := os
  exact ⟨v, H', I.call (h' := hh) (g' := g) (d' := d) (t' := t) (ch := []) un hok bare (fun b z => absurd z (by simp)), r, q⟩
end

/-! ### calls -/
/-- f(..): the written arguments, then the defaults dvs; E: what is wanted of an exception -/
def tCall (sp : Sp) (dvs : List V) (E : XK) (t : TA) : TE := fun σ H Q => t σ H fun vs H1 => sp (vs ++ dvs) H1 Q E
/-- how the parameters are bound: us the positional arguments, kw the keywords' values by name, ds the defaults that fill up -/
def Binds (K : PySem.W.Frag) (fd : FuncData) (ps : List Str) (ds : List Value) : Prop :=
  ∀ (s : Shared) (us : List Value), K.In s.heap → (us ++ ds).length = ps.length → BindsTo s fd ⟨us, []⟩ (ps.zip (us ++ ds))
/-- every parameter is given -/
theorem Binds.all {K : PySem.W.Frag} {fd : FuncData} {ps : List Str} (h : ∀ us : List Value, us.length = ps.length → bindArgs fd ⟨us, []⟩ = pure (ps.zip us)) : Binds K fd ps [] := fun s us _ hl => by
  rw [List.append_nil] at hl ⊢
  exact .of_eq (h us hl)

/-- an exception of a callee reaches what this body wants of exceptions -/
def Passes (CX : CXT) (X : Cx) (E : XK) : Prop := ∀ (pins : List (Addr × Obj)) (σ : St) (H : Hp) (s : Shared) (e : Value) (s' : Shared), Inv X pins σ H s → CX X.stack H s E e s' → X.xe e s'

section
variable {X : Cx} {CX : CXT} {k : Nat} {f C : Addr} {fd : FuncData} {ps : List Str} {sp : Sp} {dvs : List V} {ds : List Value} {E : XK} {x m : Str} {p pos apos : Pos} {e o : Expr} {es : List Expr} {ta : TE} {t : TA}

/-- the callee runs -/
theorem run_fn {pins : List (Addr × Obj)} {σ : St} {H : Hp} {s : Shared} {Q : VK} {us : List Value} {vs : List V} (F : FnOk X.prog X.w X.K X.mg X.base CX k f fd ps sp) (hr : Room k X.A) (hb : Binds X.K fd ps ds) (hd : Vals dvs ds) (hx : Passes CX X E)
    (I : Inv X pins σ H s) (r : Vals vs us) (h : sp (vs ++ dvs) H Q E) : wpAny (model X.prog X.w) X.A (call (.ref f) us) (EP X pins σ Q) X.xe s := by
  have r2 : Vals (vs ++ dvs) (us ++ ds) := r.append hd
  have hl : (us ++ ds).length = ps.length := by rw [← r2.length]; exact F.len _ _ _ _ h
  refine wpAny_call (codeAny_mono (F.run X.A X.stack s H ⟨us, []⟩ (us ++ ds) (vs ++ dvs) Q E hr I.env0 (hb s us I.kIn hl) r2 h) fun r s' hq => ?_)
  cases r with
  | error e => exact hx pins σ H s e s' I hq
  | ok fl =>
    cases fl with
    | ret u => exact I.after hq
    | next => exact False.elim hq
    | brk => exact False.elim hq
    | cont => exact False.elim hq

theorem pe_call (F : FnOk X.prog X.w X.K X.mg X.base CX k f fd ps sp) (hr : Room k X.A) (hg : Gl X x) (hm : X.mg x = some (.ref f)) (hk : PySem.W.keepIn X.K (.ref f) = true) (hb : Binds X.K fd ps ds) (hd : Vals dvs ds) (hx : Passes CX X E)
    (ha : PA X (e :: es) t) (hdb : (x == ("__debug__" : Str)) = false := by decide) (he : starEach (e :: es) X.env = (false, eval e X.env) :: starEach es X.env := by rfl) (hpl : (backTo pos (starEach es X.env)).any (·.1) = false := by rfl) :
    PE X (.Call (.Name x p) (e :: es) [] pos) (tCall sp dvs E t) := by
  intro pins s σ H Q I h
  refine wpAny_Call_Name_kw (ld_glob I hg hm ?_ hdb)
  refine PySem.W.callWith_K (h₀ := X.base) I.ok.mod.kin hk (thn (ha pos pins s σ H _ I h) fun us s1 ⟨vs, H1, I1, r, q⟩ => ⟨I1.kIn, ?_⟩) he hpl
  exact run_fn F hr hb hd hx I1 r q
end

/-! ### keywords -/

/-! ### a def's body keeps its promise -/
/-- names: the parameters first -/
structure FnScope (N P : List Str) (sc : Scope) : Prop where
  kind : sc.kind = .function
  co : sc.isCoroutine = false
  gen : sc.isGenerator = false
  nd : N.Nodup
  pre : N.take P.length = P
  par : ∀ x ∈ P, sc.names.lookup x = some .local ∨ sc.names.lookup x = some .cell
  nofree : ∀ y ∈ sc.names, y.2 ≠ .free

theorem bindL_out {kindOf : Str → Option NameKind} {x : Str} : ∀ {binds : List (Str × Value)} {m : Str → Option Value}, (∀ v, (x, v) ∉ binds) → bindL kindOf binds m x = m x
  | [], _, _ => rfl
  | (n, v) :: r, m, h => by
    unfold bindL
    rw [bindL_out fun w hw => h w (List.mem_cons_of_mem _ hw)]
    split
    · have : x ≠ n := by rintro rfl; exact h v List.mem_cons_self
      simp [this]
    · rfl
theorem bindC_out {kindOf : Str → Option NameKind} {x : Str} : ∀ {binds : List (Str × Value)} {m : Str → Option Value}, (∀ v, (x, v) ∉ binds) → bindC kindOf binds m x = m x
  | [], _, _ => rfl
  | (n, v) :: r, m, h => by
    unfold bindC
    rw [bindC_out fun w hw => h w (List.mem_cons_of_mem _ hw)]
    split
    · rfl
    · have : x ≠ n := by rintro rfl; exact h v List.mem_cons_self
      simp [this]
theorem bindL_get {kindOf : Str → Option NameKind} {x : Str} {v : Value} : ∀ {P : List Str} {vs : List Value} {i : Nat} {m : Str → Option Value}, P.Nodup → P[i]? = some x → vs[i]? = some v → kindOf x = some .local →
    bindL kindOf (P.zip vs) m x = some v
  | [], _, _, _, _, h, _, _ => by simp at h
  | _ :: _, [], _, _, _, _, h, _ => by simp at h
  | p :: P, w :: vs, 0, m, nd, h1, h2, hk => by
    simp at h1 h2; subst h1; subst h2
    show bindL kindOf ((p, w) :: P.zip vs) m p = _
    unfold bindL
    rw [bindL_out fun v hv => (List.nodup_cons.mp nd).1 (List.of_mem_zip hv).1, if_pos hk]
    simp
  | p :: P, w :: vs, i + 1, m, nd, h1, h2, hk => by
    show bindL kindOf ((p, w) :: P.zip vs) m x = _
    unfold bindL
    exact bindL_get (i := i) (List.nodup_cons.mp nd).2 (by simpa using h1) (by simpa using h2) hk
theorem bindC_get {kindOf : Str → Option NameKind} {x : Str} {v : Value} : ∀ {P : List Str} {vs : List Value} {i : Nat} {m : Str → Option Value}, P.Nodup → P[i]? = some x → vs[i]? = some v → kindOf x ≠ some .local →
    bindC kindOf (P.zip vs) m x = some v
  | [], _, _, _, _, h, _, _ => by simp at h
  | _ :: _, [], _, _, _, _, h, _ => by simp at h
  | p :: P, w :: vs, 0, m, nd, h1, h2, hk => by
    simp at h1 h2; subst h1; subst h2
    show bindC kindOf ((p, w) :: P.zip vs) m p = _
    unfold bindC
    rw [bindC_out fun v hv => (List.nodup_cons.mp nd).1 (List.of_mem_zip hv).1, if_neg hk]
    simp
  | p :: P, w :: vs, i + 1, m, nd, h1, h2, hk => by
    show bindC kindOf ((p, w) :: P.zip vs) m x = _
    unfold bindC
    exact bindC_get (i := i) (List.nodup_cons.mp nd).2 (by simpa using h1) (by simpa using h2) hk

/-- the names' values at the entry -/
def start (N : List Str) (vs : List V) : St := vs.map some ++ List.replicate (N.length - vs.length) none

/-- the context of a def's body, at its entry; an exception leaves the frame, then lies as CX says -/
def cxOf (CX : CXT) (P : Program) (w : World) (K : PySem.W.Frag) (mg : Str → Option Value) (base : Heap) (N : List Str) (qual : Str) (scope : Scope) (f : Addr) (cd : Value) (A : Around) (outer : List Env) (s : Shared) (H : Hp) (E : XK) : Cx where
  prog := P
  w := w
  K := K
  mg := mg
  base := base
  A := A.deeper (envOfC qual scope s.heap.objs.size f cd)
  N := N
  s₀ := s
  H₀ := H
  env := envOfC qual scope s.heap.objs.size f cd
  outer := outer
  stack := envOfC qual scope s.heap.objs.size f cd :: outer
  ex := []
  calm := true
  fn := fun _ => true
  pn := []
  xe := fun e s' => wpAny (model P w) (A.deeper (envOfC qual scope s.heap.objs.size f cd)) (leaving (envOfC qual scope s.heap.objs.size f cd) e) (fun _ s'' => CX outer H s E e s'') (fun e' s'' => CX outer H s E e' s'') s'

theorem cell_has {sc : Scope} {n : Nat} {x : Str} (h : sc.names.lookup x = some .cell) : ∃ c, (cellsFrom n sc.names []).lookup x = some c := by
  have q := PySem.W.cellsFrom_some sc.names n [] (.inl h)
  exact Option.isSome_iff_exists.mp q

theorem inv_start {CX : CXT} {P : Program} {w : World} {K : PySem.W.Frag} {mg : Str → Option Value} {base : Heap} {N ps : List Str} {qual : Str} {scope : Scope} {f : Addr} {cd : Value} {A : Around} {outer : List Env} {s s1 : Shared} {H : Hp} {E : XK} {us : List Value} {vs : List V}
    (S : FnScope N ps scope) (hd : A.handled = none) (e0 : Env0 P w K mg base A outer s H) (hl : vs.length = ps.length) (r : Vals vs us)
    (x : InCallC s s.heap.objs.size (bindL (envOfC qual scope s.heap.objs.size f cd).kindOf (ps.zip us) fun _ => none) (cellsFrom (s.heap.objs.size + 1) scope.names []) (bindC (envOfC qual scope s.heap.objs.size f cd).kindOf (ps.zip us) fun _ => none) s1) :
    Inv (cxOf CX P w K mg base N qual scope f cd A outer s H E) [] (start N vs) H s1 := by
  have hpl : ps.length ≤ N.length := by have := congrArg List.length S.pre; rw [List.length_take] at this; omega
  obtain ⟨h1, tk, rfl, hk⟩ := x.done
  have noA : ∀ b : Addr, b ∉ (cxOf CX P w K mg base N qual scope f cd A outer s H E).ex := fun b z => absurd (show b ∈ ([] : List Addr) from z) (by simp)
  refine ⟨⟨e0.mod, S.kind, rfl, rfl, Nat.le_refl _, fun y z c h1 h2 => ?_, fun y hy => ?_, fun y c _ h => ?_, fun _ => hd, Around.frames_deeper e0.frames, .inr ⟨rfl, rfl⟩, fun b z => absurd z (noA b), e0.bs, e0.bsz, fun b _ _ => noA b, fun b z => absurd z (noA b), e0.funs, e0.frf⟩,
    rfl, e0.bare, Un.kept hk, ⟨_, x.toInCall.ns, fun i y v h1 h2 h3 => ?_⟩, fun y c h => ⟨_, x.cell y c h⟩, e0.hok.fresh (Nat.le_refl _), fun y c h => ?_, fun p hp => absurd (show p ∈ ([] : List (Addr × Obj)) from hp) (by simp), e0.hok.kept hk, ?_⟩
  · exact name_of_addr x.apart (PySem.mem_of_lookup h1) (PySem.mem_of_lookup h2)
  · have hy : scope.names.lookup y = some .cell ∨ scope.names.lookup y = some .free := hy
    rcases hy with hy | hy
    · exact cell_has hy
    · exact absurd rfl (S.nofree _ (PySem.mem_of_lookup hy))
  · exact Nat.le_of_lt (x.above y c (PySem.mem_of_lookup h))
  · have hi : i < vs.length := by
      unfold start at h2
      by_cases hi : i < vs.length
      · exact hi
      · rw [List.getElem?_append_right (by simpa using hi)] at h2
        rw [List.getElem?_replicate] at h2
        split at h2 <;> cases h2
    have ha : vs[i]? = some v := by
      unfold start at h2
      rw [List.getElem?_append_left (by simpa using hi), List.getElem?_map] at h2
      cases e : vs[i]? with
      | none => rw [e] at h2; cases h2
      | some a => rw [e] at h2; cases h2; rfl
    obtain ⟨u, hu, rv⟩ := r.get ha
    have hp : ps[i]? = some y := by
      rw [← S.pre, List.getElem?_take_of_lt (by omega)]; exact h1
    have ndP : ps.Nodup := by rw [← S.pre]; exact S.nd.sublist (List.take_sublist _ _)
    refine ⟨u, rv, ?_⟩
    rcases S.par y (List.mem_of_getElem? hp) with k | k
    · exact .inl ⟨k, bindL_get ndP hp hu k⟩
    · obtain ⟨c, e⟩ := cell_has (n := s.heap.objs.size + 1) k
      refine .inr ⟨.inl k, c, e, ?_⟩
      have q := x.cell y c e
      rw [bindC_get ndP hp hu (by show scope.names.lookup y ≠ _; rw [k]; decide)] at q
      exact q
  · exact e0.hok.fresh (Nat.le_of_lt (x.above y c (PySem.mem_of_lookup h)))
  · unfold start
    show _ = N.length
    rw [List.length_append, List.length_map, List.length_replicate]
    omega

/-- THE RULE: a def (or a method) of the text, by its body. The body's reading t is chosen for each entry; it is run at the parameters' values -/
theorem fn_of {CX : CXT} {P : Program} {w : World} {K : PySem.W.Frag} {mg : Str → Option Value} {base : Heap} {k : Nat} {f : Addr} {name qual : Str} {params : Arguments} {body : List Stmt} {scope : Scope} {dV kV doc pm cdv ct oc : Value} {an od : Option Addr}
    {osl : Array (Option Value)} {N ps : List Str} {sp : Sp} (lk : K.lookup f = some ⟨oc, od, .func (PySem.W.fnOf name qual params body scope dV kV doc pm an cdv ct), osl⟩) (hcd : PySem.W.codeIn K cdv qual = true) (S : FnScope N ps scope)
    (len : ∀ vs H Q E, sp vs H Q E → vs.length = ps.length)
    (hbody : ∀ (A : Around) (outer : List Env) (s : Shared) (H : Hp) (vs : List V) (Q : VK) (E : XK), Room k (A.deeper (envOfC qual scope s.heap.objs.size f cdv)) → sp vs H Q E →
      ∃ t, PSs (cxOf CX P w K mg base N qual scope f cdv A outer s H E) body t ∧ t { nx := fun _ H' => Q .non H', rt := Q } (start N vs) H) :
    FnOk P w K mg base CX (k + 1) f (PySem.W.fnOf name qual params body scope dV kV doc pm an cdv ct) ps sp := by
  refine ⟨len, fun A outer s H args us vs Q E hr e0 hb r hsp => ?_⟩
  have hl := len _ _ _ _ hsp
  have KX : K.In s.heap := e0.mod.kin.keeps fun b o e => (e0.bs b o e).1
  have lim : s.heap.NoLimit := e0.mod.nolimit.keeps fun b o e => (e0.bs b o e).1
  have hkind : ∀ y ∈ ps.zip us, scope.names.lookup y.1 = some .local ∨ (scope.names.lookup y.1 = some .cell ∧ ((cellsFrom (s.heap.objs.size + 1) scope.names []).lookup y.1).isSome = true) := fun ⟨n, v⟩ hy => by
    rcases S.par n (List.of_mem_zip hy).1 with q | q
    · exact .inl q
    · exact .inr ⟨q, PySem.W.cellsFrom_some _ _ _ (.inl q)⟩
  refine codeAny_call_function hr.depth (KX _ _ lk) rfl S.co S.gen rfl (PySem.W.codeRec_of KX hcd) (hb _ _ _ _ ?_)
  refine wpAny_newFunctionEnv_cells S.kind hkind fun env he s1 x => ?_
  subst he
  refine ⟨lim.keeps x.toInCall.keep, codeAny_func ?_⟩
  obtain ⟨t, ht, hq⟩ := hbody A outer s H vs Q E (hr.deeper _) hsp
  have I : Inv (cxOf CX P w K mg base N qual scope f cdv A outer s H E) [] (start N vs) H s1 := inv_start S hr.hd e0 hl r x
  refine wpAny_mono (ht [] s1 (start N vs) H _ I hq) (fun fl s' hs => ?_) fun e s' hs => hs
  have fin : ∀ {σ' : St} {H' : Hp} {v : V} {u : Value}, Inv (cxOf CX P w K mg base N qual scope f cdv A outer s H E) [] σ' H' s' → RelV v u → Q v H' → CE outer P w H s Q u s' :=
    fun {σ' H' v u} J rv q => ⟨v, H', J.os, J.bare, J.base, J.hok, rv, q⟩
  cases fl with
  | ret u =>
    obtain ⟨v, σ', H', J, rv, q⟩ := hs
    exact fin J rv q
  | next =>
    obtain ⟨σ', H', J, q⟩ := hs
    exact fin (v := V.non) (u := Value.none) J rfl q
  | brk =>
    obtain ⟨_, _, _, q⟩ := hs
    exact False.elim q
  | cont =>
    obtain ⟨_, _, _, q⟩ := hs
    exact False.elim q
end L2

namespace L2
open PySem PySem.Spec PyProof.Rows
section
variable {X : Cx} {x : Str} {p pos : Pos} {e : Expr} {es : List Expr} {t : TA} {id T : String} {r : List V → Hp → VK → Prop}

def tCB (r : List V → Hp → VK → Prop) (t : TA) : TE := fun σ H Q => t σ H fun vs H1 => r vs H1 Q
/-- f(e, ..), f a built-in function -/
theorem pe_callB (hc : CallR X (.builtin id) r) (hg : Gl X x) (hm : X.mg x = none) (hv : bootBuiltins x = some (.builtin id)) (ha : PA X (e :: es) t) (hn : x ≠ "__name__" := by decide) (hdb : (x == ("__debug__" : Str)) = false := by decide)
    (he : starEach (e :: es) X.env = (false, eval e X.env) :: starEach es X.env := by rfl) (hpl : (backTo pos (starEach es X.env)).any (·.1) = false := by rfl) : PE X (.Call (.Name x p) (e :: es) [] pos) (tCB r t) := by
  intro pins s σ H Q I h
  refine wpAny_Call_Name_kw (ld_blt I hg hm hv ?_ hn hdb)
  exact PyProof.Rows.callWith_builtin1 (thn (ha pos pins s σ H _ I h) fun us s1 ⟨vs, H1, I1, r1, q1⟩ => hc pins s1 σ H1 vs us Q I1 r1 q1) he hpl
/-- T(e, ..), T a built-in type -/
theorem pe_callTy (hc : CallR X (.type T) r) (hg : Gl X x) (hm : X.mg x = none) (hv : bootBuiltins x = some (.type T)) (ha : PA X (e :: es) t) (hn : x ≠ "__name__" := by decide) (hdb : (x == ("__debug__" : Str)) = false := by decide)
    (he : starEach (e :: es) X.env = (false, eval e X.env) :: starEach es X.env := by rfl) (hpl : (backTo pos (starEach es X.env)).any (·.1) = false := by rfl) : PE X (.Call (.Name x p) (e :: es) [] pos) (tCB r t) := by
  intro pins s σ H Q I h
  refine wpAny_Call_Name_kw (ld_blt I hg hm hv ?_ hn hdb)
  exact PyProof.Rows.callWith_type1 (thn (ha pos pins s σ H _ I h) fun us s1 ⟨vs, H1, I1, r1, q1⟩ => hc pins s1 σ H1 vs us Q I1 r1 q1) he hpl
end
end L2

namespace HT
open PySem PyProof.Rows

section
open PySem.SeqAt
open PySem.AutoSeq1 (wpAny_loadPart')
open PySem.MeetsSeq PySem.MeetsSeq2 PySem.MeetsSeq3

end

section
variable {prog : Program} {w : World} {A : Around} {E : Value → Shared → Prop} {s : Shared}

/-- t + u, t not empty -/
theorem cat_tup {t b : Addr} {vs ws : List Value} {Q : Value → Shared → Prop} (ht : IsTup s.heap t vs.toArray) (hb : IsTup s.heap b ws.toArray) (hv : vs ≠ [])
    (h1 : ws = [] → Q (.ref t) s) (h2 : ws ≠ [] → Q (.ref s.heap.objs.size) { s with heap := s.heap.push { cls := .type "tuple", data := .seq (vs ++ ws).toArray } })
    (hsz : vs.length + ws.length ≤ sizeLine) : wpAny (model prog w) A (binaryOp .Add (.ref t) (.ref b)) Q E s := by
  obtain ⟨⟨cls, dd, data, sl⟩, ho, hc, n, hd⟩ := id ht
  obtain ⟨⟨cls2, dd2, data2, sl2⟩, ho2, hc2, n2, hd2⟩ := id hb
  simp only at hc hd hc2 hd2
  subst hc hd hc2 hd2
  have e : vs.toArray ++ ws.toArray = (vs ++ ws).toArray := by simp
  by_cases hw : ws = []
  · exact concat_meets ⟨_, ho, rfl⟩ ⟨_, ho2, rfl⟩ noFill_tuple_add seq_tuple_add PySem.F.slot_tuple_add PySem.F.entry_tuple_add (PySem.F.args_tuple_add_2 _ _)
      (tuple_addW1 t b vs.toArray ws.toArray n n2 dd dd2 sl sl2 (by simpa using hv) (by simp [hw])) ⟨ho, ho2, h1 hw⟩
  · refine concat_meets ⟨_, ho, rfl⟩ ⟨_, ho2, rfl⟩ noFill_tuple_add seq_tuple_add PySem.F.slot_tuple_add PySem.F.entry_tuple_add (PySem.F.args_tuple_add_2 _ _)
      (tuple_addW2 t b vs.toArray ws.toArray n n2 dd dd2 sl sl2 (by simpa using hv) (by simpa using hw) (by rw [List.size_toArray, List.size_toArray]; exact hsz)) ⟨ho, ho2, ?_⟩
    rw [e]
    exact h2 hw

/-! ### t[a:b], not the whole -/
/-- a slice's bound as a place among n (d where it is left out) -/
def sIx (n d : Nat) : Option Int → Nat
  | none => d
  | some v => if v < 0 then (v + (n : Int)).toNat else min v.toNat n
theorem sIx_none (n d : Nat) : sIx n d none = d := rfl
theorem sIx_nat (n d k : Nat) : sIx n d (some (k : Int)) = min k n := by
  show (if (k : Int) < 0 then ((k : Int) + (n : Int)).toNat else min (k : Int).toNat n) = min k n
  rw [if_neg (by omega), Int.toNat_natCast]
theorem sIx_le (n d : Nat) (hd : d ≤ n) (o : Option Int) : sIx n d o ≤ n := by
  cases o with
  | none => exact hd
  | some v =>
    show (if v < 0 then (v + (n : Int)).toNat else min v.toNat n) ≤ n
    by_cases hv : v < 0
    · rw [if_pos hv]; omega
    · rw [if_neg hv]; exact Nat.min_le_right _ _
theorem clip_eq (v : Int) (n d : Nat) : (if v < 0 then max (v + (n : Int)) 0 else min v (n : Int)) = ((sIx n d (some v) : Nat) : Int) := by
  show (if v < 0 then max (v + (n : Int)) 0 else min v (n : Int)) = (((if v < 0 then (v + (n : Int)).toNat else min v.toNat n) : Nat) : Int)
  by_cases hv : v < 0
  · simp only [if_pos hv]; omega
  · simp only [if_neg hv]; omega
theorem adjust_gen (lo hi : Option Int) (n : Nat) : Builtin.Slice.sliceAdjust lo hi 1 (n : Int) = (((sIx n 0 lo : Nat) : Int), ((sIx n n hi : Nat) : Int)) := by
  have h1 : ¬ ((1 : Int) < 0) := by omega
  unfold Builtin.Slice.sliceAdjust
  simp only [h1, if_false]
  refine Prod.ext ?_ ?_
  · cases lo with
    | none => rfl
    | some v => exact clip_eq v n 0
  · cases hi with
    | none => rfl
    | some v => exact clip_eq v n n
theorem places_gen (i j : Nat) : Builtin.Slice.slicePlaces (i : Int) (j : Int) 1 = j - i := by
  unfold Builtin.Slice.slicePlaces
  have h1 : (1 : Int) > 0 := by omega
  simp only [h1, if_true, Int.ediv_one]
  split <;> omega
theorem slicePart_ {v : Value} {o : Option Int} {Q : Option Int → Shared → Prop} (p : IsPart v o) (h : Q o s) : wpAny (model prog w) A (Builtin.Slice.slicePartIndex v) Q E s := by
  cases p with
  | none => exact slicePart_none h
  | int i t => exact slicePart_int h
theorem sliceApplied_gen {sl : Addr} {vl vu : Value} {lo hi : Option Int} {n : Nat} {Q : Int × Int × Nat → Shared → Prop} (hs : s.heap.IsSliceOf sl vl vu .none) (pl : IsPart vl lo) (pu : IsPart vu hi)
    (h : Q (((sIx n 0 lo : Nat) : Int), 1, sIx n n hi - sIx n 0 lo) s) : wpAny (model prog w) A (Builtin.Slice.sliceApplied (.ref sl) (pure (n : Int))) Q E s := by
  obtain ⟨os, hos, hcs, hds⟩ := id hs
  unfold Builtin.Slice.sliceApplied Builtin.Slice.sliceFields
  refine wpAny_bind (wpAny_bind (wpAny_field hos hds (x := vl) rfl (wpAny_bind (wpAny_field hos hds (x := vu) rfl (wpAny_bind (wpAny_field hos hds (x := .none) rfl (wpAny_pure ?_)))))))
  refine wpAny_bind (slicePart_none ?_)
  show wpAny _ _ (if ((1 : Int) == 0) = true then _ else _) _ _ s
  rw [if_neg (by decide)]
  refine wpAny_bind (slicePart_ pl (wpAny_bind (slicePart_ pu (wpAny_bind (wpAny_pure ?_)))))
  show wpAny _ _ (match Builtin.Slice.sliceAdjust lo hi 1 (n : Int) with | (lo, hi) => pure (lo, (1 : Int), Builtin.Slice.slicePlaces lo hi 1)) _ _ s
  rw [adjust_gen lo hi n]
  show wpAny _ _ (pure (((sIx n 0 lo : Nat) : Int), (1 : Int), Builtin.Slice.slicePlaces ((sIx n 0 lo : Nat) : Int) ((sIx n n hi : Nat) : Int) 1)) _ _ s
  rw [places_gen]
  exact wpAny_pure h
theorem pick_gen (xs : Array Value) (i k : Nat) : ((List.range k).filterMap fun (m : Nat) => xs[((i : Int) + (m : Int) * 1).toNat]?).toArray = ((xs.toList.drop i).take k).toArray := by
  have e : (fun (m : Nat) => xs[((i : Int) + (m : Int) * 1).toNat]?) = fun m => xs[i + m]? := by
    funext m
    have : ((i : Int) + (m : Int) * 1).toNat = i + m := by omega
    rw [this]
  rw [e]
  have := pick_run xs i k
  rw [List.filterMap_map] at this
  have e2 : ((fun x => xs[x]?) ∘ fun x => i + x) = fun m => xs[i + m]? := rfl
  rw [e2] at this
  rw [this]

theorem getItem_tuple_cut {t sl : Addr} {items : Array Value} {vl vu : Value} {lo hi : Option Int} {Q : Value → Shared → Prop} (ht : IsTup s.heap t items) (hs : s.heap.IsSliceOf sl vl vu .none) (pl : IsPart vl lo) (pu : IsPart vu hi)
    (hw : ¬ (sIx items.size 0 lo = 0 ∧ sIx items.size items.size hi = items.size))
    (h : Q (.ref s.heap.objs.size) { s with heap := s.heap.push { cls := .type "tuple", data := .seq ((items.toList.drop (sIx items.size 0 lo)).take (sIx items.size items.size hi - sIx items.size 0 lo)).toArray } })
    (hsz : items.size ≤ sizeLine) : wpAny (model prog w) A (getItem (.ref t) (.ref sl)) Q E s := by
  have htake : sizeOk (.seq ((items.toList.drop (sIx items.size 0 lo)).take (sIx items.size items.size hi - sIx items.size 0 lo)).toArray) := by
    show ((items.toList.drop (sIx items.size 0 lo)).take (sIx items.size items.size hi - sIx items.size 0 lo)).toArray.size ≤ sizeLine
    rw [List.size_toArray, List.length_take, List.length_drop, Array.length_toList]
    omega
  have hj : sIx items.size items.size hi ≤ items.size := sIx_le _ _ (Nat.le_refl _) hi
  obtain ⟨os, hos, hcs, hds⟩ := id hs
  have hTs : s.TypeIs (.ref sl) "slice" := ⟨os, hos, hcs⟩
  unfold getItem
  try with_reducible refine wpAny_holding ?_
  first | refine wpAny_bind (wpAny_pure ?_) | skip
  refine wpAny_bind (wpAny_sequenceKey ht.typeIs (by decide) ?_)
  refine wpAny_bind (wpAny_callSpecial?_slot (name := Str.ofString "__getitem__") ht.typeIs PyProof.Rows.slot_tuple_getitem
    (wpAny_call_entry PyProof.Rows.slot_tuple_getitem ht.typeIs entry_tuple_getitem ?_ (args_tuple_getitem _ _)))
  show wpAny _ _ (Builtin.Tuple.tupleItemsOf (.ref t) >>= _) _ _ s
  refine wpAny_bind (tupleItemsOf_ ht ?_)
  refine wpAny_bind (wpAny_typeOf hTs ?_)
  rw [if_pos (by decide)]
  refine wpAny_bind (sliceApplied_gen hs pl pu ?_)
  have hno : ¬ ((((sIx items.size 0 lo : Nat) : Int) == 0 && (1 : Int) == 1 && (sIx items.size items.size hi - sIx items.size 0 lo) == items.size) = true) := by
    intro q
    rw [Bool.and_eq_true, Bool.and_eq_true] at q
    have q1 : ((sIx items.size 0 lo : Nat) : Int) = 0 := eq_of_beq q.1.1
    have q2 : sIx items.size items.size hi - sIx items.size 0 lo = items.size := eq_of_beq q.2
    exact hw ⟨by omega, by omega⟩
  show wpAny _ _ (if (((sIx items.size 0 lo : Nat) : Int) == 0 && (1 : Int) == 1 && (sIx items.size items.size hi - sIx items.size 0 lo) == items.size) = true then _ else _) _ _ s
  rw [if_neg hno, pick_gen]
  first
    | exact wpAny_bind (m := Builtin.Tuple.tupleExact _) (wpAny_newObj_type (wpAny_pure ⟨_, rfl, wpAny_pure h⟩) htake)
    | exact wpAny_bind (m := Builtin.Tuple.tupleExact _) (wpAny_newObj_type (wpAny_bind (wpAny_pure (wpAny_pure ⟨_, rfl, wpAny_pure h⟩))) htake)
    | exact wpAny_bind (wpAny_bind (m := Builtin.Tuple.tupleExact _) (wpAny_newObj_type (wpAny_pure (wpAny_pure ⟨_, rfl, wpAny_pure h⟩)) htake))
    | exact wpAny_bind (wpAny_bind (m := Builtin.Tuple.tupleExact _) (wpAny_newObj_type (wpAny_pure ⟨_, rfl, wpAny_pure h⟩) htake))
end
end HT

namespace L2
open PySem PySem.Spec PyProof.Rows

/-! ### the parts of a slice -/
abbrev TO := St → Hp → (Option Int → Hp → Prop) → Prop
/-- a slice's part (left out, or an int) -/
def PO (X : Cx) (e : Option Expr) (t : TO) : Prop :=
  ∀ (pins : List (Addr × Obj)) (s : Shared) (σ : St) (H : Hp) (Q : Option Int → Hp → Prop), Inv X pins σ H s → t σ H Q →
    wpAny (model X.prog X.w) X.A (evalPart e X.env) (fun u s' => ∃ o H', Inv X pins σ H' s' ∧ IsPart u o ∧ Q o H') X.xe s
def tNoPart : TO := fun _ H Q => Q none H
def tPart (t : TE) : TO := fun σ H Q => t σ H fun x H1 => ∃ i, x = .int i ∧ Q (some i) H1

theorem intsAre_of {ns : List Int} : ∀ {us : List Value}, Vals (ns.map V.int) us → IntsAre us ns := by
  induction ns with
  | nil => intro us r; rw [List.map_nil] at r; cases r; exact .nil
  | cons n ns ih =>
    intro us r
    rw [List.map_cons] at r
    cases r with
    | cons r1 r2 =>
      obtain ⟨t, e⟩ := r1
      subst e
      exact .cons n t (ih r2)

section
variable {X : Cx} {e : Expr} {te : TE} {lo hi : Option Expr} {tl th : TO} {pos p2 : Pos}

theorem po_none : PO X none tNoPart := by
  intro pins s σ H Q I h
  rw [evalPart_none]
  exact wpAny_pure ⟨none, H, I, .none, h⟩
theorem po_some (h : PE X e te) : PO X (some e) (tPart te) := by
  intro pins s σ H Q I hw
  rw [evalPart_some]
  refine thn (h pins s σ H _ I hw) fun u s1 ⟨x, H1, I1, r1, q1⟩ => ?_
  obtain ⟨i, rfl, q⟩ := q1
  obtain ⟨t, rfl⟩ := r1
  exact ⟨some i, H1, I1, .int i t, q⟩

/-- what a slice of a value is, by values: the slice object stands at sl -/
def SlR (X : Cx) (r : V → Option Int → Option Int → Hp → VK → Prop) : Prop :=
  ∀ (pins : List (Addr × Obj)) (s : Shared) (σ : St) (H : Hp) (x : V) (v vl vu : Value) (lo hi : Option Int) (sl : Addr) (Q : VK), Inv X pins σ H s → RelV x v → s.heap.IsSliceOf sl vl vu .none → IsPart vl lo → IsPart vu hi → r x lo hi H Q →
    ∃ T id, typeLookup (.type T) "__getitem__" = pure (some (.builtin id)) ∧ s.TypeIs v T ∧ wpAny (model X.prog X.w) X.A (getItem v (.ref sl)) (EP X pins σ Q) X.xe s
theorem SlR.or {r r' : V → Option Int → Option Int → Hp → VK → Prop} (h : SlR X r) (h' : SlR X r') : SlR X (fun x lo hi H Q => r x lo hi H Q ∨ r' x lo hi H Q) := by
  intro pins s σ H x v vl vu lo hi sl Q I rx hs pl pu q
  rcases q with q | q
  · exact h pins s σ H x v vl vu lo hi sl Q I rx hs pl pu q
  · exact h' pins s σ H x v vl vu lo hi sl Q I rx hs pl pu q
def tSl (r : V → Option Int → Option Int → Hp → VK → Prop) (te : TE) (tl th : TO) : TE := fun σ H Q => te σ H fun x H1 => tl σ H1 fun l H2 => th σ H2 fun u H3 => r x l u H3 Q
/-- a[lo:hi], any a -/
theorem pe_slice {r : V → Option Int → Option Int → Hp → VK → Prop} (hr : SlR X r) (he : PE X e te) (hl : PO X lo tl) (hu : PO X hi th) : PE X (.Subscript e (.Slice lo hi none p2) pos) (tSl r te tl th) := by
  intro pins s σ H Q I h
  refine Subscript_ (thn (he pins s σ H _ I h) fun v s1 ⟨x, H1, I1, r1, q1⟩ => ?_)
  refine wpAny_Slice (thn (hl pins s1 σ H1 _ I1 q1) fun vl s2 ⟨l, H2, I2, pl, q2⟩ => thn (hu pins s2 σ H2 _ I2 q2) fun vu s3 ⟨u, H3, I3, pu, q3⟩ => ?_)
  rw [evalPart_none]
  refine wpAny_pure ?_
  have I4 : Inv X pins σ H3 { s3 with heap := s3.heap.push { cls := .type "slice", data := .fields #[vl, vu, .none] } } := I3.kept (t' := s3.toks) fun b ob q => Heap.get?_push_of_some _ q
  obtain ⟨T, id, hT, ht, hg⟩ := hr pins { s3 with heap := s3.heap.push { cls := .type "slice", data := .fields #[vl, vu, .none] } } σ H3 x v vl vu l u s3.heap.objs.size Q I4 r1 (Heap.IsSliceOf.new ..) pl pu q3
  show wpAny (model X.prog X.w) X.A (subscriptTail e (.Slice lo hi none p2) v (.ref s3.heap.objs.size)) (EP X pins σ Q) X.xe { s3 with heap := s3.heap.push { cls := .type "slice", data := .fields #[vl, vu, .none] } }
  exact tail_any (ops := [.ref s3.heap.objs.size, v]) ht hT hg (by with_unfolding_all rfl)

/-- the items of xs[lo:hi] -/
def cutV (xs : List V) (lo hi : Option Int) : List V := (xs.drop (HT.sIx xs.length 0 lo)).take (HT.sIx xs.length xs.length hi - HT.sIx xs.length 0 lo)
theorem cutV_length (xs : List V) (lo hi : Option Int) : (cutV xs lo hi).length ≤ xs.length := by
  unfold cutV
  rw [List.length_take, List.length_drop]
  omega
/-- t[lo:hi], not the whole of it (the whole would be t itself) -/
def rSlT (K : PySem.W.Frag) : V → Option Int → Option Int → Hp → VK → Prop := fun x lo hi H Q => ∃ a xs, x = .ref a ∧ SqT K H a xs ∧
  ¬ (HT.sIx xs.length 0 lo = 0 ∧ HT.sIx xs.length xs.length hi = xs.length) ∧ ∀ p, H p = none → Q (.ref p) (upd H p (.tup (cutV xs lo hi)))
theorem sl_tup : SlR X (rSlT X.K) := by
  intro pins s σ H x v vl vu lo hi sl Q I rx hs pl pu h
  obtain ⟨a, xs, rfl, hx, hw, q⟩ := h
  cases rx
  obtain ⟨its, r, ht, hz⟩ := I.tuple hx
  have hlen : its.toArray.size = xs.length := by rw [List.size_toArray]; exact r.length.symm
  refine ⟨"tuple", _, PyProof.Rows.slot_tuple_getitem.lookup, ht.typeIs, ?_⟩
  refine HT.getItem_tuple_cut ht hs pl pu (by rw [hlen]; exact hw) ?_ (by rw [hlen]; exact hz)
  rw [hlen]
  refine ⟨.ref s.heap.objs.size, _, I.laid (t' := s.toks) (o := .tup (cutV xs lo hi)) (fun b ob q => Heap.get?_push_of_some _ q) (Nat.le_refl _) ?_, rfl, q _ (I.hok.fresh (Nat.le_refl _))⟩
  exact ⟨Nat.le_trans (cutV_length xs lo hi) hz, _, (r.drop (HT.sIx xs.length 0 lo)).take (HT.sIx xs.length xs.length hi - HT.sIx xs.length 0 lo), IsTupN.new _ _⟩

/-! ### t < u, t + u -/
/-- t + u, t not empty: u empty gives t itself -/
def rCatT (K : PySem.W.Frag) : R2 := fun x y H Q => ∃ a b xs ys, x = .ref a ∧ y = .ref b ∧ SqT K H a xs ∧ SqT K H b ys ∧ xs ≠ [] ∧ xs.length + ys.length ≤ sizeLine ∧
  (ys = [] → Q (.ref a) H) ∧ (ys ≠ [] → ∀ p, H p = none → Q (.ref p) (upd H p (.tup (xs ++ ys))))
theorem Vals.nil_iff {xs : List V} {us : List Value} (r : Vals xs us) : us = [] ↔ xs = [] := by
  cases r with
  | nil => simp
  | cons _ _ => simp
theorem op_catT : OpR X (binaryOp .Add) (rCatT X.K) := by
  intro pins s σ H x y v u Q I rx ry h
  obtain ⟨a, b, xs, ys, rfl, rfl, ha, hb, hx, hz, q1, q2⟩ := h
  cases rx
  cases ry
  obtain ⟨its, r1, p1, _⟩ := I.tuple ha
  obtain ⟨its2, r2, p2, _⟩ := I.tuple hb
  refine HT.cat_tup p1 p2 (fun z => hx (r1.nil_iff.mp z)) (fun z => ⟨.ref a, H, I, rfl, q1 (r2.nil_iff.mp z)⟩) (fun z => ?_) (by rw [← r1.length, ← r2.length]; exact hz)
  refine ⟨.ref s.heap.objs.size, _, I.laid (t' := s.toks) (o := .tup (xs ++ ys)) (fun b ob q => Heap.get?_push_of_some _ q) (Nat.le_refl _) ?_, rfl, q2 (fun w => z (r2.nil_iff.mpr w)) _ (I.hok.fresh (Nat.le_refl _))⟩
  exact ⟨by rw [List.length_append]; exact hz, _, r1.append r2, IsTupN.new _ _⟩
end
end L2

namespace L2
open PySem PySem.Spec PyProof.Rows

/-! ### places -/
/-- the place that an index of any sign means -/
def ixN (n : Nat) (i : Int) : Option Nat := if 0 ≤ i then (if i < n then some i.toNat else none) else if -(n : Int) ≤ i then some (i + n).toNat else none
def atI {α : Type} (xs : List α) (i : Int) : Option α := (ixN xs.length i).bind fun j => xs[j]?
theorem ixN_seq {n : Nat} {i : Int} {j : Nat} (h : ixN n i = some j) : seqIndex? i n = some j ∧ j < n ∧ -(n : Int) ≤ i ∧ i < n := by
  unfold ixN at h
  by_cases h0 : 0 ≤ i
  · rw [if_pos h0] at h
    by_cases h1 : i < n
    · rw [if_pos h1] at h
      have e : i.toNat = j := Option.some.inj h
      exact ⟨by rw [seqIndex_of h0 h1, e], by omega, by omega, h1⟩
    · rw [if_neg h1] at h; cases h
  · rw [if_neg h0] at h
    by_cases h1 : -(n : Int) ≤ i
    · rw [if_pos h1] at h
      have e : (i + n).toNat = j := Option.some.inj h
      exact ⟨by rw [seqIndex_neg (by omega) h1, e], by omega, h1, by omega⟩
    · rw [if_neg h1] at h; cases h
theorem atI_get {α : Type} {xs : List α} {i : Int} {v : α} (h : atI xs i = some v) : ∃ j, seqIndex? i xs.length = some j ∧ xs[j]? = some v ∧ j < xs.length ∧ -(xs.length : Int) ≤ i ∧ i < xs.length := by
  unfold atI at h
  cases e : ixN xs.length i with
  | none => rw [e] at h; cases h
  | some j =>
    rw [e] at h
    obtain ⟨h1, h2, h3, h4⟩ := ixN_seq e
    exact ⟨j, h1, h, h2, h3, h4⟩
theorem atI_nat {α : Type} {xs : List α} {j : Nat} {v : α} (h : xs[j]? = some v) : atI xs (j : Int) = some v := by
  have hj : j < xs.length := (List.getElem?_eq_some_iff.mp h).1
  have e : ixN xs.length (j : Int) = some j := by
    unfold ixN
    rw [if_pos (by omega), if_pos (by omega)]; simp
  unfold atI; rw [e]; exact h
/-! ### what may be subscripted -/
/-- what stands as an index of a plain subscript -/
def PlainIx (b : Expr) : Prop := ∀ o i, subscripted b false o i = operate [o, i] (getItem o i)
/-- a subscript by values -/
def IxR (X : Cx) (r : R2) : Prop :=
  ∀ (value slice : Expr) (pins : List (Addr × Obj)) (s : Shared) (σ : St) (H : Hp) (x y : V) (v u : Value) (Q : VK), Inv X pins σ H s → RelV x v → RelV y u → r x y H Q →
    subscripted slice false v u = operate [v, u] (getItem v u) → wpAny (model X.prog X.w) X.A (subscriptTail value slice v u) (EP X pins σ Q) X.xe s
/-- a call of a builtin's method by values: the receiver, the arguments -/
def MtR (X : Cx) (id : String) (r : V → List V → Hp → VK → Prop) : Prop :=
  ∀ (pins : List (Addr × Obj)) (s : Shared) (σ : St) (H : Hp) (x : V) (xs : List V) (v : Value) (us : List Value) (Q : VK), Inv X pins σ H s → RelV x v → Vals xs us → r x xs H Q →
    wpAny (model X.prog X.w) X.A (call (.builtin id) (v :: us)) (EP X pins σ Q) X.xe s
section
variable {X : Cx} {a b : Expr} {ta tb : TE} {pos : Pos}
theorem IxR.or {r r' : R2} (h : IxR X r) (h' : IxR X r') : IxR X (fun x y H Q => r x y H Q ∨ r' x y H Q) := by
  intro value slice pins s σ H x y v u Q I rx ry q hs
  rcases q with q | q
  · exact h value slice pins s σ H x y v u Q I rx ry q hs
  · exact h' value slice pins s σ H x y v u Q I rx ry q hs
theorem MtR.or {id : String} {r r' : V → List V → Hp → VK → Prop} (h : MtR X id r) (h' : MtR X id r') : MtR X id (fun x xs H Q => r x xs H Q ∨ r' x xs H Q) := by
  intro pins s σ H x xs v us Q I rx rs q
  rcases q with q | q
  · exact h pins s σ H x xs v us Q I rx rs q
  · exact h' pins s σ H x xs v us Q I rx rs q
/-- a[b] -/
theorem pe_ix {r : R2} (hr : IxR X r) (ha : PE X a ta) (hb : PE X b tb) (hs : PlainIx b) : PE X (.Subscript a b pos) (tOp r ta tb) := by
  intro pins s σ H Q I h
  exact Subscript_ (binT ha hb I h fun v u s2 x y H2 I2 rx ry q => hr a b pins s2 σ H2 x y v u Q I2 rx ry q (hs _ _))

def rIxL (K : PySem.W.Frag) : R2 := fun x y H Q => ∃ p xs i v, x = .ref p ∧ y = .int i ∧ SqL K H p xs ∧ atI xs i = some v ∧ Q v H
def rIxT (K : PySem.W.Frag) : R2 := fun x y H Q => ∃ p xs i v, x = .ref p ∧ y = .int i ∧ SqT K H p xs ∧ atI xs i = some v ∧ Q v H
def rIxS : R2 := fun x y H Q => ∃ z i c, x = .str z ∧ y = .int i ∧ z.length ≤ sizeLine ∧ atI z.cps.toList i = some c ∧ Q (.str ⟨#[c]⟩) H
theorem ix_list : IxR X (rIxL X.K) := by
  intro value slice pins s σ H x y v u Q I rx ry h hs
  obtain ⟨p, xs, i, z, rfl, rfl, hq, he, q⟩ := h
  cases rx
  obtain ⟨t, rfl⟩ := ry
  obtain ⟨its, r, pl, hz⟩ := I.list hq
  obtain ⟨j, h1, h2, h3, h4, h5⟩ := atI_get he
  obtain ⟨w, ew, rw'⟩ := r.get h2
  have hl := r.length
  have hn := line63
  have fin : EP X pins σ Q w s := ⟨z, H, I, rw', q⟩
  by_cases h0 : 0 ≤ i
  · have hj : i.toNat = j := by
      rw [seqIndex_of h0 h5] at h1
      exact Option.some.inj h1
    exact item_listR pl.isList h0 (by omega) (by rw [hj]; simpa using ew) fin hs
  · have hj : (i + (its.toArray.size : Int)).toNat = j := by
      rw [seqIndex_neg (by omega) h4] at h1
      rw [List.size_toArray, ← hl]
      exact Option.some.inj h1
    exact subscriptTail_builtinR (x := w) pl.isList.typeIs slot_list_getitem.lookup
      (wpAny_getItem_list_neg (Q := fun r s' => r = w ∧ EP X pins σ Q r s') pl.isList (by omega) (by rw [List.size_toArray] <;> omega) (by omega) (by rw [hj]; simpa using ew) ⟨rfl, fin⟩) hs
theorem ix_tup : IxR X (rIxT X.K) := by
  intro value slice pins s σ H x y v u Q I rx ry h hs
  obtain ⟨p, xs, i, z, rfl, rfl, hq, he, q⟩ := h
  cases rx
  obtain ⟨t, rfl⟩ := ry
  obtain ⟨its, r, pl, hz⟩ := I.tuple hq
  obtain ⟨j, h1, h2, h3, h4, h5⟩ := atI_get he
  obtain ⟨w, ew, rw'⟩ := r.get h2
  have hl := r.length
  have hn := line63
  have fin : EP X pins σ Q w s := ⟨z, H, I, rw', q⟩
  exact subscriptTail_builtinR (x := w) pl.typeIs slot_tuple_getitem.lookup
    (getItem_tuple (j := j) (Q := fun r s' => r = w ∧ EP X pins σ Q r s') pl (by omega) (by omega) (by rw [List.size_toArray, ← hl]; exact h1) (by simpa using ew) ⟨rfl, fin⟩) hs
theorem ix_str : IxR X rIxS := by
  intro value slice pins s σ H x y v u Q I rx ry h hs
  obtain ⟨z, i, c, rfl, rfl, hz, he, q⟩ := h
  obtain ⟨t, rfl⟩ := rx
  obtain ⟨t', rfl⟩ := ry
  obtain ⟨j, h1, h2, h3, h4, h5⟩ := atI_get he
  have hl : z.cps.toList.length = z.length := by simp [Str.length]
  rw [hl] at h1 h4 h5
  have hn := line63
  exact tail_any (typeIs_str s z t) slot_str_getitem.lookup (getItem_str (c := c) (by
    have e1 : decide (i < -(2 ^ 63 : Int)) = false := decide_eq_false (by omega)
    have e2 : decide (i ≥ 2 ^ 63) = false := decide_eq_false (by omega)
    rw [e1, e2, Bool.or_false]) (by rw [h1]; simpa using h2) ⟨.str ⟨#[c]⟩, H, I.tok _, ⟨_, rfl⟩, q⟩) hs
/-- list, tuple or str -/
def rIx (K : PySem.W.Frag) : R2 := fun x y H Q => rIxL K x y H Q ∨ rIxT K x y H Q ∨ rIxS x y H Q
theorem ix_seq : IxR X (rIx X.K) := ix_list.or (ix_tup.or ix_str)

/-! ### xs[i] = v, any sign -/
/-- the list's object behind a store -/
theorem mapSeq_set (its : List Value) (n j : Nat) (u : Value) : Obj.mapSeq (·.setIfInBounds j u) { cls := .type "list", data := .seq its.toArray n } = { cls := .type "list", data := .seq (its.set j u).toArray n } := by
  simp [Obj.mapSeq]
theorem Inv.lst {pins : List (Addr × Obj)} {σ : St} {H : Hp} {s : Shared} {p : Addr} {xs : List V} (I : Inv X pins σ H s) (h : H p = some (.lst xs)) :
    ∃ (its : List Value) (n : Nat), Vals xs its ∧ s.heap.get? p = some { cls := .type "list", data := .seq its.toArray n } ∧ xs.length ≤ sizeLine := by
  obtain ⟨z, its, n, r, e⟩ := I.hok p _ h
  exact ⟨its, n, r, e, z⟩
/-- the list at p is written by an update of its object -/
theorem Inv.lstUpd {pins : List (Addr × Obj)} {σ : St} {H : Hp} {s : Shared} {p : Addr} {xs ys : List V} {its its' : List Value} {n n' : Nat} {f : Obj → Obj} (I : Inv X pins σ H s) (h : H p = some (.lst xs))
    (ho : s.heap.get? p = some { cls := .type "list", data := .seq its.toArray n }) (hf : f { cls := .type "list", data := .seq its.toArray n } = { cls := .type "list", data := .seq its'.toArray n' }) (r : Vals ys its') (hz : ys.length ≤ sizeLine) (t : Nat) :
    Inv X pins σ (upd H p (.lst ys)) { s with heap := s.heap.update p f, toks := t } := by
  have e : (s.heap.update p f).get? p = some { cls := .type "list", data := .seq its'.toArray n' } := by
    rw [Heap.get?_update_self f ho (by rw [hf] <;> rfl), hf]
  refine I.write (x := p) (e := p) (by rw [h]; trivial) (.inl rfl) (fun b u hb q => (Heap.get?_update_other _ _ (Ne.symm hb)).trans q) ⟨_, e⟩ ?_
  exact ⟨hz, its', n', r, e⟩
def rSetL : V → V → V → Hp → (Hp → Prop) → Prop := fun o i v H Q => ∃ p xs k j, o = .ref p ∧ i = .int k ∧ H p = some (.lst xs) ∧ ixN xs.length k = some j ∧ Q (upd H p (.lst (xs.set j v)))
theorem set_list : PSet X rSetL := by
  intro pins s σ H o i v ov iv u Q I ro ri rv h
  obtain ⟨p, xs, k, j, rfl, rfl, hp, hj, q⟩ := h
  cases ro
  obtain ⟨t, rfl⟩ := ri
  obtain ⟨its, n, r, ho, hz⟩ := I.lst hp
  obtain ⟨h1, h2, h3, h4⟩ := ixN_seq hj
  have hl := r.length
  have hn := line63
  have I' : Inv X pins σ (upd H p (.lst (xs.set j v))) { s with heap := s.heap.update p (Obj.mapSeq (·.setIfInBounds j u)) } :=
    I.lstUpd hp ho (mapSeq_set its n j u) (r.set rv j) (by rw [List.length_set]; exact hz) s.toks
  by_cases h0 : 0 ≤ k
  · have hk : k.toNat = j := by
      rw [seqIndex_of h0 h4] at h1
      exact Option.some.inj h1
    exact PySem.W.ki_setAt ho h0 (by omega) (by rw [List.size_toArray, ← hl]; exact h4) (by rw [hk]; exact ⟨_, I', q⟩)
  · have hk : (k + (its.toArray.size : Int)).toNat = j := by
      rw [seqIndex_neg (by omega) h3] at h1
      rw [List.size_toArray, ← hl]
      exact Option.some.inj h1
    exact PySem.W.ki_setBack ho (by omega) (by rw [List.size_toArray, ← hl]; exact h3) (by omega) (by rw [hk]; exact ⟨_, I', q⟩)

/-! ### slices -/
theorem slice_bounds (lo hi : Option Int) (n : Nat) : (sliceBounds lo hi none n).1 = ((HT.sIx n 0 lo : Nat) : Int) ∧ (sliceBounds lo hi none n).2.1 = ((HT.sIx n n hi : Nat) : Int) ∧ (sliceBounds lo hi none n).2.2 = 1 := by
  refine ⟨?_, ?_, rfl⟩
  · cases lo with
    | none => simp [sliceBounds, HT.sIx]
    | some i =>
      simp only [sliceBounds, HT.sIx, Option.getD_none, show (1 : Int) > 0 by decide, if_true]
      by_cases h : i < 0
      · simp only [h, if_true] <;> omega
      · simp only [h, if_false] <;> omega
  · cases hi with
    | none => simp [sliceBounds, HT.sIx]
    | some i =>
      simp only [sliceBounds, HT.sIx, Option.getD_none, show (1 : Int) > 0 by decide, if_true]
      by_cases h : i < 0
      · simp only [h, if_true] <;> omega
      · simp only [h, if_false] <;> omega
theorem slicePick_cut (its : List Value) (lo hi : Option Int) : slicePick its.toArray lo hi none = ((its.drop (HT.sIx its.length 0 lo)).take (HT.sIx its.length its.length hi - HT.sIx its.length 0 lo)).toArray := by
  obtain ⟨h1, h2, h3⟩ := slice_bounds lo hi its.toArray.size
  unfold slicePick
  rw [h1, h2, h3]
  simp only [sliceRange_one, pick_run, List.size_toArray] <;> rfl
/-- xs[lo:hi] of a list: a new list -/
def rSlL (K : PySem.W.Frag) : V → Option Int → Option Int → Hp → VK → Prop := fun x lo hi H Q => ∃ a xs, x = .ref a ∧ SqL K H a xs ∧ ∀ p, H p = none → Q (.ref p) (upd H p (.lst (cutV xs lo hi)))
theorem sl_list : SlR X (rSlL X.K) := by
  intro pins s σ H x v vl vu lo hi sl Q I rx hs pl pu h
  obtain ⟨a, xs, rfl, hx, q⟩ := h
  cases rx
  obtain ⟨its, r, ht, hz⟩ := I.list hx
  have hlen := r.length
  refine ⟨"list", _, slot_list_getitem.lookup, ht.isList.typeIs, ?_⟩
  refine wpAny_getItem_list_slice ht.isList hs pl pu .none (by simp) ?_ (by rw [List.size_toArray] <;> omega)
  rw [slicePick_cut, ← hlen]
  refine ⟨.ref s.heap.objs.size, _, I.laid (t' := s.toks) (o := .lst (cutV xs lo hi)) (fun b ob q => Heap.get?_push_of_some _ q) (Nat.le_refl _) ?_, rfl, q _ (I.hok.fresh (Nat.le_refl _))⟩
  exact ⟨Nat.le_trans (cutV_length xs lo hi) hz, _, 0, (r.drop (HT.sIx xs.length 0 lo)).take (HT.sIx xs.length xs.length hi - HT.sIx xs.length 0 lo), Heap.get?_push_size _ rfl⟩

/-! ### in, not in: flat items -/
/-! ### len, list(x), tuple(x) of any list or tuple that is read -/
theorem call_len_seq : CallR X (.builtin "len") (fun xs H Q => ∃ p ys, xs = [.ref p] ∧ (SqL X.K H p ys ∨ SqT X.K H p ys) ∧ Q (.int ys.length) H) := by
  intro pins s σ H xs us Q I r h
  obtain ⟨p, ys, rfl, hq, q⟩ := h
  obtain ⟨u, rfl, rx⟩ := vals1 r
  cases rx
  have hn := line63
  rcases hq with hq | hq
  · obtain ⟨its, r', pl, hz⟩ := I.list hq
    have hlen := r'.length
    exact Calls.call_len_list pl.isList (by simp only [List.size_toArray] <;> omega) ⟨.int ys.length, H, I.tok _, ⟨s.toks + 1, by rw [List.size_toArray, hlen]⟩, q⟩
  · obtain ⟨its, r', pl, hz⟩ := I.tuple hq
    have hlen := r'.length
    exact len_tuple pl (by simp only [List.size_toArray] <;> omega) ⟨.int ys.length, H, I.tok _, ⟨s.toks + 1, by rw [List.size_toArray, hlen]⟩, q⟩
theorem CallR.or {f : Value} {r r' : List V → Hp → VK → Prop} (h : CallR X f r) (h' : CallR X f r') : CallR X f (fun xs H Q => r xs H Q ∨ r' xs H Q) := by
  intro pins s σ H xs us Q I rs q
  rcases q with q | q
  · exact h pins s σ H xs us Q I rs q
  · exact h' pins s σ H xs us Q I rs q
theorem call_tuple_of : CallR X (.type "tuple") (fun xs H Q => ∃ p ys, xs = [.ref p] ∧ ((SqL X.K H p ys ∧ ∀ l, H l = none → Q (.ref l) (upd H l (.tup ys))) ∨ (SqT X.K H p ys ∧ Q (.ref p) H))) := by
  intro pins s σ H xs us Q I r h
  obtain ⟨p, ys, rfl, h⟩ := h
  obtain ⟨u, rfl, rx⟩ := vals1 r
  cases rx
  rcases h with ⟨hq, q⟩ | ⟨hq, q⟩
  · obtain ⟨its, r', pl, hz⟩ := I.list hq
    have hlen := r'.length
    refine call_tuple_list pl.isList (fun h' kp => ?_) (by simp only [List.size_toArray] <;> omega)
    have I1 : Inv X pins σ H { s with heap := h' } := I.kept (t' := s.toks) kp
    have I2 : Inv X pins σ (upd H h'.objs.size (.tup ys)) { s with heap := h'.push { cls := .type "tuple", data := .seq its.toArray } } :=
      I1.laid (t' := s.toks) (fun b o e => Heap.get?_push_of_some _ e) (Nat.le_refl _) (show ObjOk X.prog X.w _ _ _ (.tup ys) from ⟨hz, its, r', IsTupN.new _ _⟩)
    exact ⟨.ref h'.objs.size, _, I2, rfl, q _ (I1.hok.fresh (Nat.le_refl _))⟩
  · obtain ⟨its, r', pl, hz⟩ := I.tuple hq
    exact call_tuple_same pl ⟨.ref p, H, I, rfl, q⟩

/-! ### the call of a builtin's method: o.m(..) -/
/-- the value is of that builtin type -/
def tyV (K : PySem.W.Frag) (T : String) (x : V) (H : Hp) : Prop := match x with
  | .str _ => T = "str"
  | .int _ => T = "int"
  | .ref p => (T = "list" ∧ ∃ xs, SqL K H p xs) ∨ (T = "tuple" ∧ ∃ xs, SqT K H p xs) ∨
      (T = "dict" ∧ ((∃ kvs, H p = some (.dK kvs)) ∨ ∃ kvs, H p = some (.dT kvs))) ∨ (T = "set" ∧ ∃ S n, H p = some (.set S n))
  | _ => False
theorem tyV_is {pins : List (Addr × Obj)} {σ : St} {H : Hp} {s : Shared} {T : String} {x : V} {v : Value} (I : Inv X pins σ H s) (r : RelV x v) (ty : tyV X.K T x H) :
    s.TypeIs v T ∧ ∀ a, v = .ref a → ∃ ob, s.heap.get? a = some ob ∧ ob.dict = none := by
  cases x with
  | str z =>
    obtain ⟨t, rfl⟩ := r
    cases (show T = "str" from ty)
    exact ⟨typeIs_str s z t, fun _ e => nomatch e⟩
  | int i =>
    obtain ⟨t, rfl⟩ := r
    cases (show T = "int" from ty)
    exact ⟨typeIs_int s i t, fun _ e => nomatch e⟩
  | ref p =>
    cases r
    rcases ty with ⟨rfl, xs, hq⟩ | ⟨rfl, xs, hq⟩ | ⟨rfl, hk⟩ | ⟨rfl, S, n, hk⟩
    · obtain ⟨its, _, pl, _⟩ := I.list hq
      refine ⟨pl.isList.typeIs, fun a e => ?_⟩
      cases e
      obtain ⟨o, n, e, c, hd, _⟩ := pl
      exact ⟨o, e, hd⟩
    · obtain ⟨its, _, ⟨o, e, c, _, hd⟩, _⟩ := I.tupleN hq
      refine ⟨⟨o, e, c⟩, fun a z => ?_⟩
      cases z
      exact ⟨o, e, hd⟩
    · have z : ∃ o, s.heap.get? p = some o ∧ o.ExactDict := by
        rcases hk with ⟨kvs, hk⟩ | ⟨kvs, hk⟩
        · obtain ⟨_, _, _, _, o, _, _, e, ex, _⟩ := I.hok p _ hk
          exact ⟨o, e, ex⟩
        · obtain ⟨_, _, _, _, o, _, _, e, ex, _⟩ := I.hok p _ hk
          exact ⟨o, e, ex⟩
      obtain ⟨o, e, ex⟩ := z
      refine ⟨⟨o, e, ex.1⟩, fun a e2 => ?_⟩
      cases e2
      exact ⟨o, e, ex.2.1⟩
    · obtain ⟨o, _, _, _, e, ex, _⟩ := I.hok p _ hk
      refine ⟨⟨o, e, ex.1⟩, fun a e2 => ?_⟩
      cases e2
      exact ⟨o, e, ex.2.1⟩
  | _ => exact False.elim ty
def tBM0 (K : PySem.W.Frag) (T : String) (r : V → List V → Hp → VK → Prop) (to : TE) : TE := fun σ H Q => to σ H fun x H1 => tyV K T x H1 ∧ r x [] H1 Q
def tBM (K : PySem.W.Frag) (T : String) (r : V → List V → Hp → VK → Prop) (to : TE) (t : TA) : TE := fun σ H Q => to σ H fun x H1 => tyV K T x H1 ∧ t σ H1 fun xs H2 => r x xs H2 Q
variable {o e : Expr} {es : List Expr} {to : TE} {t : TA} {name : Str} {apos cpos : Pos} {T id : String} {r : V → List V → Hp → VK → Prop}
theorem pe_bm0 (pa : PlainAttrs T) (slot : Slot T name id) (hty : typeOf (.builtin id) = pure (.type "method_descriptor")) (hm : MtR X id r) (ho : PE X o to)
    (hbase : attributeBase o name X.env (eval o X.env) = eval o X.env := by rfl) (hline : (apos.endLine == cpos.line) = true := by rfl) : PE X (.Call (.Attribute o name apos) [] [] cpos) (tBM0 X.K T r to) := by
  intro pins s σ H Q I h
  refine wpAny_Call_method0_late hbase hline (thn (ho pins s σ H _ I h) fun v s1 ⟨x, H1, I1, r1, ty, q1⟩ => ?_)
  obtain ⟨h1, h2⟩ := tyV_is I1 r1 ty
  exact ⟨T, id, pa, slot, hty, h1, h2, Calls.callWith_builtin rfl (PySem.evalArgs_none (hm pins s1 σ H1 x [] v [] Q I1 r1 .nil q1))⟩
theorem pe_bm (pa : PlainAttrs T) (slot : Slot T name id) (hty : typeOf (.builtin id) = pure (.type "method_descriptor")) (hm : MtR X id r) (ho : PE X o to) (ha : PA X (e :: es) t)
    (hbase : attributeBase o name X.env (eval o X.env) = eval o X.env := by rfl)
    (hfew : ((backTo cpos (starEach (e :: es) X.env)).all (fun x => !x.1) && (backToKw cpos (keywordEach [] X.env)).all (fun x => x.1.isSome)
      && decide ((e :: es).length + ([] : List Keyword).length + (if ([] : List Keyword).isEmpty then 0 else 1) < 30)) = true := by rfl)
    (hline : (apos.endLine == cpos.line) = true := by rfl) (hs : starEach (e :: es) X.env = (false, eval e X.env) :: starEach es X.env := by rfl) (hplain : (backTo cpos (starEach es X.env)).any (·.1) = false := by rfl) :
    PE X (.Call (.Attribute o name apos) (e :: es) [] cpos) (tBM X.K T r to t) := by
  intro pins s σ H Q I h
  refine wpAny_Call_method_late hbase hfew hline rfl (thn (ho pins s σ H _ I h) fun v s1 ⟨x, H1, I1, r1, ty, q1⟩ => ?_)
  obtain ⟨h1, h2⟩ := tyV_is I1 r1 ty
  refine ⟨T, id, pa, slot, hty, h1, h2, ?_⟩
  have hA := ha cpos pins s1 σ H1 _ I1 q1
  rw [hs] at hA ⊢
  refine Calls.callWith_builtin (by show (false || (backTo cpos (starEach es X.env)).any (·.1)) = false; rw [hplain] <;> rfl) (Calls.evalArgs_plain ?_)
  exact thn hA fun us s2 ⟨vs, H2, I2, r2, q2⟩ => hm pins s2 σ H2 x vs v us Q I2 r1 r2 q2
/- xs.append(e), list.index on a module's tuple .. are MtR facts of 06m -/
end
end L2

namespace L2
open PySem PySem.Spec PyProof.Rows

def MtM (X : Cx) (id : String) (r : V → List V → Hp → VK → Prop) : Prop :=
  ∀ (pins : List (Addr × Obj)) (s : Shared) (σ : St) (H : Hp) (x : V) (xs : List V) (v : Value) (us : List Value) (Q : VK), Inv X pins σ H s → RelV x v → Vals xs us → r x xs H Q →
    wpAny (model X.prog X.w) X.A (call (.builtin id) (v :: us)) (EP X pins σ Q) X.xe s

/-! ### lists of values -/
theorem Vals.one : ∀ {x : V} {us : List Value}, Vals [x] us → ∃ u, us = [u] ∧ RelV x u
  | _, _, .cons r .nil => ⟨_, rfl, r⟩
theorem Vals.zero : ∀ {us : List Value}, Vals [] us → us = []
  | _, .nil => rfl
theorem Vals.dropLast {xs : List V} {us : List Value} (h : Vals xs us) : Vals xs.dropLast us.dropLast := by
  induction h with
  | nil => exact .nil
  | cons r t ih =>
    cases t with
    | nil => exact .nil
    | cons q t' => exact .cons r ih
theorem Vals.eraseIdx : ∀ {xs : List V} {us : List Value} (i : Nat), Vals xs us → Vals (xs.eraseIdx i) (us.eraseIdx i)
  | _, _, _, .nil => .nil
  | _, _, 0, .cons _ t => t
  | _, _, i + 1, .cons r t => .cons r (Vals.eraseIdx i t)
theorem Vals.reverse {xs : List V} {us : List Value} (h : Vals xs us) : Vals xs.reverse us.reverse := by
  induction h with
  | nil => exact .nil
  | cons r t ih => rw [List.reverse_cons, List.reverse_cons]; exact Vals.append ih (.cons r .nil)
theorem Vals.rep {xs : List V} {us : List Value} (h : Vals xs us) : ∀ k : Nat, Vals (List.replicate k xs).flatten (List.replicate k us).flatten
  | 0 => .nil
  | k + 1 => by
    rw [List.replicate_succ, List.replicate_succ, List.flatten_cons, List.flatten_cons]
    exact Vals.append h (Vals.rep h k)
theorem erase_last {α : Type} (l : List α) : l.eraseIdx (l.length - 1) = l.dropLast := by
  induction l with
  | nil => rfl
  | cons a r ih =>
    cases r with
    | nil => rfl
    | cons b r =>
      have e : (a :: b :: r).length - 1 = ((b :: r).length - 1) + 1 := by
        have h1 : (a :: b :: r).length = r.length + 2 := rfl
        have h2 : (b :: r).length = r.length + 1 := rfl
        omega
      rw [e, List.eraseIdx_cons_succ, ih]
      all_goals rfl
theorem foldl_rep (its : List Value) : ∀ (k : Nat) (acc : List Value),
    List.foldl (fun x1 x2 => x1 ++ x2) acc.toArray (List.replicate k its.toArray) = (acc ++ (List.replicate k its).flatten).toArray
  | 0, acc => by simp
  | k + 1, acc => by
    have e : acc.toArray ++ its.toArray = (acc ++ its).toArray := by simp
    have e2 : (acc ++ its) ++ (List.replicate k its).flatten = acc ++ (List.replicate (k + 1) its).flatten := by
      rw [List.replicate_succ, List.flatten_cons, List.append_assoc]
    rw [← e2, ← foldl_rep its k (acc ++ its), ← e, List.replicate_succ, List.foldl_cons]

section
variable {X : Cx} {pins : List (Addr × Obj)} {σ : St} {H : Hp} {s : Shared} {l b : Addr} {xs ys zs : List V}

/-! ### the two steps: a tracked list is rewritten, a new list is laid -/
theorem Inv.lset {its its' : List Value} {n : Nat} {f : Array Value → Array Value} {t' : Nat} (I : Inv X pins σ H s) (hH : H l = some (.lst xs))
    (e : s.heap.get? l = some { cls := .type "list", data := .seq its.toArray n }) (hf : f its.toArray = its'.toArray) (hv : Vals ys its') (hz : ys.length ≤ sizeLine) :
    Inv X pins σ (upd H l (.lst ys)) { s with heap := s.heap.update l (Obj.mapSeq f), toks := t' } := by
  have q := PySem.IsL.update e f
  rw [hf] at q
  refine I.write (x := l) (e := l) (by rw [hH]; exact trivial) (.inl rfl) (fun b' u hb hu => (Heap.get?_update_other s.heap (Obj.mapSeq f) (Ne.symm hb)).trans hu) ⟨_, q⟩ ?_
  exact ⟨hz, its', _, hv, q⟩
theorem Inv.lnew {its : List Value} {t' : Nat} (I : Inv X pins σ H s) (hv : Vals ys its) (hz : ys.length ≤ sizeLine) :
    Inv X pins σ (upd H s.heap.objs.size (.lst ys)) { s with heap := s.heap.push { cls := .type "list", data := .seq its.toArray }, toks := t' } :=
  I.laid (fun _ _ q => Heap.get?_push_of_some _ q) (Nat.le_refl _) ⟨hz, its, 0, hv, Heap.get?_push_size _ rfl⟩
theorem Inv.fresh (I : Inv X pins σ H s) : H s.heap.objs.size = none := I.hok.fresh (Nat.le_refl _)
theorem Inv.lstM (I : Inv X pins σ H s) (hH : H l = some (.lst xs)) : xs.length ≤ sizeLine ∧ ∃ (its : List Value) (n : Nat), Vals xs its ∧ xs.length = its.length ∧ s.heap.get? l = some { cls := .type "list", data := .seq its.toArray n } := by
  obtain ⟨z, its, n, r, e⟩ := I.hok l _ hH
  exact ⟨z, its, n, r, r.length, e⟩

theorem notLongL {n : Nat} (h : n ≤ sizeLine) : Builtin.List.listTooLong n = false := by
  unfold Builtin.List.listTooLong
  exact decide_eq_false (by omega)
end

section
variable {X : Cx}

/-! ### methods -/
def rAppend : V → List V → Hp → VK → Prop := fun x vs H Q => ∃ l xs y, x = .ref l ∧ vs = [y] ∧ H l = some (.lst xs) ∧ xs.length < sizeLine ∧ Q .non (upd H l (.lst (xs ++ [y])))
theorem mt_append : MtM X "list.append" rAppend := by
  intro pins s σ H x vs v us Q I rx rv h
  obtain ⟨l, xs, y, rfl, rfl, hH, hz, q⟩ := h
  cases rx
  obtain ⟨u, rfl, ru⟩ := rv.one
  obtain ⟨z, its, n, r, hl, e⟩ := I.lstM hH
  refine call_meets F.slot_list_append ⟨_, e, rfl⟩ F.entry_list_append (F.args_list_append_2 _ _) (PySem.list_append l its.toArray n u (by rw [List.size_toArray]; omega)) ⟨e, ?_⟩
  refine ⟨.non, _, I.lset (its' := its ++ [u]) hH e (by simp) (r.append (.cons ru .nil)) ?_, rfl, q⟩
  rw [List.length_append, List.length_singleton]
  omega

def rExtend : V → List V → Hp → VK → Prop := fun x vs H Q => ∃ l b xs zs, x = .ref l ∧ vs = [.ref b] ∧ H l = some (.lst xs) ∧ H b = some (.lst zs) ∧ xs.length + zs.length ≤ sizeLine ∧ Q .non (upd H l (.lst (xs ++ zs)))
theorem mt_extend : MtM X "list.extend" rExtend := by
  intro pins s σ H x vs v us Q I rx rv h
  obtain ⟨l, b, xs, zs, rfl, rfl, hH, hB, hz, q⟩ := h
  cases rx
  obtain ⟨u, rfl, ru⟩ := rv.one
  cases ru
  obtain ⟨z, its, n, r, hl, e⟩ := I.lstM hH
  obtain ⟨z2, its2, n2, r2, hl2, e2⟩ := I.lstM hB
  have hsz : its.toArray.size + its2.toArray.size ≤ sizeLine := by rw [List.size_toArray, List.size_toArray]; omega
  have hlong : ¬ (!its.toArray.isEmpty && Builtin.List.listTooLong (its.toArray.size + its2.toArray.size)) = true := by
    rw [notLongL hsz, Bool.and_false]
    exact Bool.false_ne_true
  refine call_meets F.slot_list_extend ⟨_, e, rfl⟩ F.entry_list_extend (F.args_list_extend_2 _ _)
    (AutoSeq1.list_extend_list_list_0 l its.toArray n b its2.toArray n2 hlong (by rw [List.size_toArray]; omega) (by omega)) ⟨e, e2, ?_⟩
  refine ⟨.non, _, I.lset (its' := its ++ its2) hH e (by simp) (r.append r2) ?_, rfl, q⟩
  rw [List.length_append]
  omega

def rPop : V → List V → Hp → VK → Prop := fun x vs H Q => ∃ l xs y, x = .ref l ∧ vs = [] ∧ H l = some (.lst xs) ∧ xs[xs.length - 1]? = some y ∧ Q y (upd H l (.lst xs.dropLast))
theorem mt_pop : MtM X "list.pop" rPop := by
  intro pins s σ H x vs v us Q I rx rv h
  obtain ⟨l, xs, y, rfl, rfl, hH, hy, q⟩ := h
  cases rx
  have hus := rv.zero
  subst hus
  obtain ⟨z, its, n, r, hl, e⟩ := I.lstM hH
  obtain ⟨u, hu, ru⟩ := r.get hy
  have hy' : its.toArray[its.toArray.size - 1]? = some u := by
    show its.toArray[its.length - 1]? = some u
    rw [← Array.getElem?_toList, ← hl]
    exact hu
  refine call_meets F.slot_list_pop ⟨_, e, rfl⟩ F.entry_list_pop (F.args_list_pop_1 _) (MeetsSeq.list_pop_last l its.toArray n u hy' (by rw [List.size_toArray]; omega)) ⟨e, ?_⟩
  refine ⟨y, _, I.lset (its' := its.dropLast) hH e ?_ r.dropLast ?_, ru, q⟩
  · show its.toArray.eraseIdxIfInBounds (its.toArray.size - 1) = its.dropLast.toArray
    rw [List.size_toArray, List.eraseIdxIfInBounds_toArray, erase_last]
  · rw [List.length_dropLast]
    omega

/-! ### list + list, list += list, list * int -/
def rCat : R2 := fun x y H Q => ∃ l b xs zs, x = .ref l ∧ y = .ref b ∧ H l = some (.lst xs) ∧ H b = some (.lst zs) ∧ xs.length + zs.length ≤ sizeLine ∧ ∀ p, H p = none → Q (.ref p) (upd H p (.lst (xs ++ zs)))
theorem op_cat : OpR X (binaryOp .Add) rCat := by
  intro pins s σ H x y v u Q I rx ry h
  obtain ⟨l, b, xs, zs, rfl, rfl, hH, hB, hz, q⟩ := h
  cases rx
  cases ry
  obtain ⟨z, its, n, r, hl, e⟩ := I.lstM hH
  obtain ⟨z2, its2, n2, r2, hl2, e2⟩ := I.lstM hB
  refine PySem.P.add_list e e2 ?_ (by rw [List.size_toArray, List.size_toArray]; omega)
  have ea : its.toArray ++ its2.toArray = (its ++ its2).toArray := by simp
  rw [ea]
  exact ⟨.ref _, _, I.lnew (t' := s.toks) (r.append r2) (by rw [List.length_append]; omega), rfl, q _ I.fresh⟩
theorem len_rep {α : Type} (xs : List α) (k : Nat) : (List.replicate k xs).flatten.length = k * xs.length := by
  induction k with
  | zero => simp
  | succ k ih => rw [List.replicate_succ, List.flatten_cons, List.length_append, ih, Nat.succ_mul, Nat.add_comm]
/-! ### del xs[i] -/
end

/-! ### xs[a:b] = ys -/

end L2

namespace Att
open PySem PySem.W PySem.Calls PyProof.Rows

/-! ### the script -/
theorem ints_of_wellAll {P : Params} {h : Heap} : ∀ (ns : List Int) (vs : List Value), WellAll P h vs (ns.map WData.int) → IntsAre vs ns := by
  intro ns
  induction ns with
  | nil =>
    intro vs w
    rw [List.map_nil] at w
    cases w
    exact .nil
  | cons n ns ih =>
    intro vs w
    rw [List.map_cons] at w
    cases w with
    | cons a b =>
      cases a
      exact .cons _ _ (ih _ b)

theorem script_of {l : OpenLaw} {n : Nat} (hn : l.most = some n) {P : Params} {h : Heap} {args : List WData} {vals : List Value}
    (hpre : l.row.toRowW.claim.pre args = true) (hwl : WellAll P h vals args) :
    ∃ a vs ns, vals = [Value.ref a] ∧ args = [WData.list (ns.map WData.int)] ∧ h.get? a = some { cls := .type "list", data := .seq vs.toArray } ∧ IntsAre vs ns ∧ ns.length ≤ n := by
  have hsh : WShape.hasAll [] args [.list .int] = true := (pre_splitW hpre).1
  have hc : l.pre.holds [] { args := args } = true := (pre_splitW hpre).2
  obtain ⟨d, r, rfl, h1, h2⟩ := hasAllW_cons hsh
  obtain rfl := hasAllW_nil h2
  obtain ⟨xs, rfl, h3⟩ := hasW_list h1
  obtain ⟨ns, rfl⟩ := items_int h3
  have hlen : ns.length ≤ n := by
    unfold OpenLaw.pre at hc
    have h4 : (WTm.not (.lt (.lit (.int (n : Int))) (.len (.arg 0)))).holds [] { args := [.list (ns.map .int)] } = true := by
      have h4 := (holds_andW hc).1
      rw [hn] at h4
      exact h4
    have h5 := condW_of h4 (w_not (w_lt w_lit (w_len_list (w_arg rfl))))
    rw [List.length_map] at h5
    refine Nat.le_of_not_lt fun q => ?_
    have q' : (n : Int) < ((ns.length : Nat) : Int) := by omega
    first
      | (rw [decide_eq_true q'] at h5; exact absurd h5 (by decide))
      | (simp at h5; omega)
  cases hwl with
  | cons w1 w2 =>
    cases w2
    cases w1 with
    | list ho hall => exact ⟨_, _, ns, rfl, rfl, ho, ints_of_wellAll ns _ hall, hlen⟩

theorem post_true (l : OpenLaw) (args : List WData) : l.row.toRowW.claim.post args (.bool true) args = true :=
  postW_of (r := l.row.toRowW) (X := (true == true))
    (show WShape.has [] (.bool true) .bool = true by first | rfl | decide | simp [WShape.has, WShape.arms, WShape.armsAll])
    (show (WTm.eq .res (.lit (.bool true))).value [] { args := args, res := some (.bool true), after := args } = some (.bool (true == true)) from w_eq_bool (w_res rfl) w_lit) rfl

/-! ### the attachment: holds_open's last premise (the goal 'hc' behind k_head) from a wpAny of the law's body -/
/-- the same from a codeAny of the CALL (for a layer whose function contracts speak of calls) -/
theorem attach_call {l : OpenLaw} {n : Nat} {q : Program} {loose : List Str} {XP : (Str → Option Value) → Heap → Prop} {YP : World → Heap → Prop} {d : DefRec}
    (hn : l.most = some n) (hdf : d.params.defaults = [])
    (call : ∀ (w : World) (s₀ s₁ : Shared) (mg mb : Str → Option Value) (fa : Addr) (o : Obj) (pm cd doc : Value) (a : Addr) (vs : List Value) (ns : List Int),
      Ground q loose [] XP w s₀ mg mb s₁.heap → YP w s₁.heap →
      s₁.heap.get? fa = some o → o.data = .func (docDef d.name d.params d.body d.scope pm cd doc) → s₁.heap.CodeRec cd d.name → mg d.name = some (.ref fa) →
      s₁.heap.get? a = some { cls := .type "list", data := .seq vs.toArray } → IntsAre vs ns → ns.length ≤ n → s₁.gens = #[] →
      codeAny (model l.prog w) callerA (.call (.ref fa) ⟨[.ref a], []⟩) (fun r s' => r = .ok (.ret (.bool true)) ∧ OldK s₁.heap s'.heap ∧ s'.os = s₁.os ∧ AllBare s'.gens) s₁) :
    WalkO q loose XP YP l.row.toRowW d [] (fun f vs => PySem.call f vs) := by
  intro w s₀ s₁ mg mb G Y fa o pm cd doc dV kV ho hd hcd hD hmg hg args vals as hpre hlay hrd hwl hlo
  obtain rfl : dV = .none := Dflts.none hD hdf
  obtain rfl : kV = .none := Dflts.noKw hD
  obtain ⟨a, vs, ns, rfl, rfl, hobj, hints, hlen⟩ := script_of hn hpre hwl
  refine enter_call (codeAny_mono (call w s₀ s₁ mg mb fa o pm cd doc a vs ns G Y ho (fd_plain hd) hcd hmg hobj hints hlen hg) fun r s' hq => ?_)
  obtain ⟨rfl, h2, h3, h4⟩ := hq
  exact ⟨.inl ⟨.bool true, .bool true, [], rfl, fun _ => rfl, .bool true, post_true l _, fun _ => ⟨List.Pairwise.nil, fun _ hm => (nomatch hm)⟩⟩, h2, h3, h4⟩

/-! ### rules over ANY heap (no ledger) from facts about the written part K: the library's own take a ledger (News) for what they write -/
section
variable {prog : Program} {w : World} {A : Around} {E : Value → Shared → Prop} {s : Shared} {K : Frag}

/-! the whole heap as the ledger: makes every rule that writes through a ledger a rule over any heap -/
end
end Att

namespace L2
open PySem PySem.Spec PyProof.Rows

theorem vals_ints : ∀ {vs : List Value} {ns : List Int}, IntsAre vs ns → Vals (ns.map V.int) vs
  | _, _, .nil => .nil
  | _, _, .cons n t h => .cons ⟨t, rfl⟩ (vals_ints h)

/-- nothing is tracked but the script, known to the object (or it is an object of the module) -/
def Only (H : Hp) : Prop := ∀ b, H b = none ∨ ∃ o xs, H b = some (.frz o (.lst xs))

/-- THE HEAD: the law's promise, at the heap behind the top. F, the promise of the law's def, may use that base is part of the heap (so K.In base, base.Ns mainGlobals mg stand in Mod) -/
theorem law_call {P : Program} {w : World} {K : PySem.W.Frag} {mg mb : Str → Option Value} {CX : CXT} {k : Nat} {fa a : Addr} {fd : FuncData} {x : Str} {sp : Sp} {s₁ : Shared} {vs : List Value} {ns : List Int}
    (KX : K.In s₁.heap) (hns : s₁.heap.Ns mainGlobals mg) (hb : s₁.heap.Ns builtinsNs mb) (hbb : ∀ x : Str, x ≠ "__name__" → mb x = bootBuiltins x) (hlim : s₁.heap.NoLimit) (hg : s₁.gens = #[])
    (ha : s₁.heap.get? a = some { cls := .type "list", data := .seq vs.toArray }) (hi : IntsAre vs ns) (hl : ns.length ≤ sizeLine) (hr : Room k callerA)
    (F : ∀ base : Heap, K.In base → base.Ns mainGlobals mg → FnOk P w K mg base CX k fa fd [x] sp) (hbind : ∀ (s : Shared) (u : Value), BindsTo s fd ⟨[u], []⟩ [(x, u)])
    (hsp : ∀ H : Hp, Only H → SqL K H a (ns.map V.int) → sp [.ref a] H (fun v _ => v = .bl true) fun _ _ _ => False)
    (hCX : ∀ H e s', CX [] H s₁ (fun _ _ _ => False) e s' → False) :
    codeAny (model P w) callerA (.call (.ref fa) ⟨[.ref a], []⟩) (fun r s' => r = .ok (.ret (.bool true)) ∧ OldK s₁.heap s'.heap ∧ s'.os = s₁.os ∧ AllBare s'.gens) s₁ := by
  have rv := vals_ints hi
  have lenV := hi.length
  -- from an abstract heap in which nothing but the script may be tracked
  have core : ∀ H : Hp, Only H → SqL K H a (ns.map V.int) → HOk P w H s₁.heap → (∀ b, H b ≠ none → b = a) → (H a ≠ none → K.lookup a = none) →
      codeAny (model P w) callerA (.call (.ref fa) ⟨[.ref a], []⟩) (fun r s' => r = .ok (.ret (.bool true)) ∧ OldK s₁.heap s'.heap ∧ s'.os = s₁.os ∧ AllBare s'.gens) s₁ := by
    intro H hO hS hok hA hK
    have base_of : ∀ {b : Addr} {o : Obj}, s₁.heap.get? b = some o → H b = none → (hidT s₁.heap H).get? b = some o := fun e n => hidT_get e n
    have noA : ∀ {b : Addr} {o : Obj} {es : Array DictEntry} {ep : Nat}, s₁.heap.get? b = some o → o.data = .dict es ep → H b = none := fun {b o es ep} e d => by
      cases q : H b with
      | none => rfl
      | some u =>
        have e' : b = a := hA b (by rw [q]; simp)
        subst e'
        rw [ha] at e; cases e
        have d' : Data.seq vs.toArray _ = Data.dict es ep := d
        cases d'
    have nsK : ∀ {b : Addr} {m : Str → Option Value}, s₁.heap.Ns b m → (hidT s₁.heap H).Ns b m := fun {b m} ⟨o, es, ep, e, d, r⟩ => ⟨o, es, ep, base_of e (noA e d), d, r⟩
    have hKb : K.In (hidT s₁.heap H) := fun b o e => base_of (KX b o e) (by
      cases q : H b with
      | none => rfl
      | some u =>
        have e' : b = a := hA b (by rw [q]; simp)
        subst e'
        rw [hK (by rw [q]; simp)] at e; cases e)
    have hM : Mod K mg (hidT s₁.heap H) := ⟨hKb, nsK hns, ⟨mb, nsK hb, hbb⟩, let ⟨mc, h1, h2⟩ := hlim; ⟨mc, nsK h1, h2⟩⟩
    have e0 : Env0 P w K mg (hidT s₁.heap H) callerA [] s₁ H := ⟨rfl, hM, fun b o e => of_hidT e, Nat.le_of_eq (hidT_size _ _), trivial, fun b hb => absurd (show b ∈ ([] : List Addr) from hb) (by simp), hok, .of_eq hg⟩
    refine codeAny_mono ((F _ hKb (nsK hns)).run callerA [] s₁ H ⟨[.ref a], []⟩ [.ref a] [.ref a] _ _ hr e0 (hbind s₁ (.ref a)) (.cons rfl .nil) (hsp H hO hS)) fun r s' h => ?_
    cases r with
    | error e => exact (hCX H e s' h).elim
    | ok fl =>
      cases fl with
      | next => exact False.elim h
      | brk => exact False.elim h
      | cont => exact False.elim h
      | ret u =>
        obtain ⟨v, H', os, bare, un, hok', r', q⟩ := h
        have q' : v = .bl true := q
        subst q'
        obtain rfl : u = Value.bool true := r'
        refine ⟨rfl, OldK.of_keep fun b o e => ?_, os, bare⟩
        cases q : H b with
        | none => exact un.keep b o e q (by intro z; exact absurd (show b ∈ ([] : List Addr) from z) (by simp)) (by simp)
        | some u =>
          rcases hO b with z | ⟨ob, xs, z⟩
          · rw [q] at z; cases z
          · have z2 := un.frzs b ob _ z
            obtain ⟨e1, _⟩ := hok b _ z
            obtain ⟨e2, _⟩ := hok' b _ z2
            rw [e] at e1; cases e1
            exact e2
  cases hk : K.lookup a with
  | some o =>
    -- the script is one of the module's own objects
    have e := KX a o hk
    rw [ha] at e
    cases e
    refine core (fun _ => none) (fun _ => .inl rfl) (.inr ⟨_, vs.toArray, _, hk, rfl, rfl, rfl, by rw [List.size_toArray, lenV]; exact hl, by simpa using rv⟩) (fun b u z => by have z' : (none : Option HO) = some u := z; cases z') (fun b z => absurd rfl z) fun z => absurd rfl z
  | none =>
    refine core (fun b => if b = a then some (.frz { cls := .type "list", data := .seq vs.toArray } (.lst (ns.map V.int))) else none) (fun b => ?_) (.inl (.inr ⟨{ cls := .type "list", data := .seq vs.toArray }, if_pos rfl⟩)) (fun b u z => ?_) (fun b z => ?_) fun _ => hk
    · by_cases hb : b = a
      · exact .inr ⟨_, _, if_pos hb⟩
      · exact .inl (if_neg hb)
    · by_cases hb : b = a
      · have z' := (if_pos hb).symm.trans z
        cases z'
        subst hb
        exact ⟨ha, by rw [List.length_map]; exact hl, vs, _, rv, ha⟩
      · have z' := (if_neg hb).symm.trans z
        cases z'
    · by_cases hb : b = a
      · exact hb
      · exact absurd (if_neg hb) z
end L2

namespace L2
open PySem PySem.Spec PyProof.Rows

abbrev KOf {K : PySem.W.Frag} {h : Heap} (_ : K.In h) : PySem.W.Frag := K

/-- the goal that k_head leaves (case hc), from the law's promise. F gives the function object fd (K's own) once, then the promise over every base -/
theorem walk_of {l : PySem.W.OpenLaw} {n k : Nat} {q : Program} {loose : List Str} {XP : (Str → Option Value) → Heap → Prop} {YP : World → Heap → Prop} {d : DefRec} {K : Params → PySem.W.Frag} {CX : World → CXT} {sp : World → Sp} {x : Str}
    (hn : l.most = some n) (hn2 : n ≤ sizeLine) (hdf : d.params.defaults = []) (hr : Room k callerA)
    (hY : ∀ (w : World) (h : Heap), YP w h → (K w.params).In h)
    (F : ∀ (w : World) (mg : Str → Option Value) (fa : Addr) (h : Heap), (K w.params).In h → h.Ns mainGlobals mg → mg d.name = some (.ref fa) →
      ∃ fd : FuncData, (∀ (s : Shared) (u : Value), BindsTo s fd ⟨[u], []⟩ [(x, u)]) ∧
        ∀ base : Heap, (K w.params).In base → base.Ns mainGlobals mg → FnOk l.prog w (K w.params) mg base (CX w) k fa fd [x] (sp w))
    (hsp : ∀ (w : World) (H : Hp) (a : Addr) (ns : List Int), ns.length ≤ n → Only H → SqL (K w.params) H a (ns.map V.int) → sp w [.ref a] H (fun v _ => v = .bl true) fun _ _ _ => False)
    (hCX : ∀ (w : World) (H : Hp) (s : Shared) (e : Value) (s' : Shared), CX w [] H s (fun _ _ _ => False) e s' → False) :
    PySem.W.WalkO q loose XP YP l.row.toRowW d [] (fun f vs => PySem.call f vs) := by
  refine Att.attach_call hn hdf fun w s₀ s₁ mg mb fa o pm cd doc a vs ns G Y ho hd hcd hmg hobj hints hlen hg => ?_
  have KX := hY w _ Y
  obtain ⟨fd, hb, hF⟩ := F w mg fa _ KX G.T.g hmg
  exact law_call KX G.T.g G.T.b G.T.builtins G.T.nolimit hg hobj hints (Nat.le_trans hlen hn2) hr hF hb (fun H hO hS => hsp w H a ns hlen hO hS) fun H e s' => hCX w H s₁ e s'
end L2

/- THE LAST THEOREM (shape; LID, My.* are yours):
   My.Adr: a structure of the addresses that your layer names (classes, functions); My.Txt K t: a structure (Prop) of the equations over K;
   My.txt_mk : {K} {implicit addresses ..} (e1 : nsIn K mainGlobals "law" = some (some (.ref f))) (e2 : K.lookup f = some ⟨oc, od, .func (fnOf "law" "law" params body scope dV kV doc pm an cdv ct), sl⟩) (e3 : codeIn K cdv "law" = true) .. : ∃ t, My.Txt K t

set_option maxRecDepth 100000 in
set_option maxHeartbeats 0 in
theorem PySem.Challenge.cw_LID_holds : PySem.Challenge.rw_LID.Holds := by
  w_on; o_law; k_head; (case hw => w_witness2)
  k_fill
  refine L2.walk_of (l := PySem.Challenge.rw_LID) (n := 63) (k := 40) (x := "script") (CX := fun w => ..) (sp := fun _ => My.sp_law) rfl (by decide) rfl ⟨rfl, by decide, by decide⟩ (fun w h Y => PySem.W.kIn_of Y) ?F ?S ?C
  case F =>
    intro w mg fa h KX G hmg
    have T : ∃ t, My.Txt (L2.KOf KX) t := by
      dsimp only [L2.KOf]                          -- K must stand as «<heap const> w.params» for k_is
      refine' My.txt_mk ?e1 ?e2 ?e3 ..
      (case e1 => PySem.W.k_is)                    -- in the order: a name -> its address -> its object -> its parts
      (case e2 => PySem.W.k_is)
      ..
    obtain ⟨t, T⟩ := T
    have e0 := hmg.symm.trans (PySem.W.mg_of KX G T.law)
    cases e0                                       -- fa is the law's own address
    exact ⟨_, fun s u => .of_eq rfl, fun base kb nb => My.law_fn T kb nb⟩     -- if «.of_eq rfl» comes too early: refine' ⟨_, ?b, fun base kb nb => My.law_fn T kb nb⟩; exact fun s u => .of_eq rfl
  case S => exact fun w H a ns hl hO hS => ..
  case C => exact ..
(the tactic k_is has no namespace: write k_is) -/

/-! SHORT WORDS over the layer: a def of the text, its body, what a loop and a test want. -/
namespace L2
open PySem PySem.Spec PyProof.Rows

/-! ### the text by places -/
def defArgs (s : Stmt) : Arguments := match s with
  | .FunctionDef _ a _ _ _ _ _ _ _ _ => a
  | _ => { posonlyargs := [], args := [], vararg := none, kwonlyargs := [], kw_defaults := [], kwarg := none, defaults := [] }
def defBody (s : Stmt) : List Stmt := match s with
  | .FunctionDef _ _ b _ _ _ _ _ _ _ => b
  | _ => []
def defScope (s : Stmt) : Scope := match s with
  | .FunctionDef _ _ _ _ _ _ sc _ _ _ => sc
  | _ => { kind := .function, names := [], isGenerator := false, isCoroutine := false }

/-! ### no exception leaves a def -/
abbrev CX0 : CXT := fun _ _ _ _ _ _ => False
abbrev E0 : XK := fun _ _ _ => False
theorem pass0 {X : Cx} : Passes CX0 X E0 := fun _ _ _ _ _ _ _ h => h.elim

/-! ### a def (or method) of the text as it stands behind the top -/
structure Fun (K : PySem.W.Frag) (x qual : Str) (st : Stmt) (f : Addr) (fd : FuncData) : Prop where
  ex : ∃ (oc : Value) (od : Option Addr) (kV doc pm : Value) (an : Option Addr) (cdv ct : Value) (osl : Array (Option Value)),
    fd = PySem.W.fnOf x qual (defArgs st) (defBody st) (defScope st) .none kV doc pm an cdv ct ∧ K.lookup f = some ⟨oc, od, .func fd, osl⟩ ∧ PySem.W.codeIn K cdv qual = true
  kp : PySem.W.keepIn K (.ref f) = true
section
variable {P : Program} {w : World} {K : PySem.W.Frag} {mg : Str → Option Value} {base : Heap}
/-- THE RULE for a def: its body as a term of rules, and the reading of that term -/
theorem Fun.ok {x qual : Str} {st : Stmt} {f : Addr} {fd : FuncData} {N ps : List Str} {k : Nat} {sp : Sp} (F : Fun K x qual st f fd) (S : FnScope N ps (defScope st)) (len : ∀ vs H Q E, sp vs H Q E → vs.length = ps.length)
    (hbody : ∀ (cdv : Value) (A : Around) (outer : List Env) (s : Shared) (H : Hp) (vs : List V) (Q : VK) (E : XK), Room k (A.deeper (envOfC qual (defScope st) s.heap.objs.size f cdv)) → sp vs H Q E →
      ∃ t, PSs (cxOf CX0 P w K mg base N qual (defScope st) f cdv A outer s H E).nox (defBody st) t ∧ t { nx := fun _ H' => Q .non H', rt := Q } (start N vs) H) : FnOk P w K mg base CX0 (k + 1) f fd ps sp := by
  obtain ⟨oc, od, kV, doc, pm, an, cdv, ct, osl, rfl, lk, hcd⟩ := F.ex
  refine fn_of lk hcd S len fun A outer s H vs Q E hr hsp => ?_
  obtain ⟨t, h, q⟩ := hbody cdv A outer s H vs Q E hr hsp
  exact ⟨t, h.nox, q⟩
/-- how its arguments bind (no defaults): h is «fun _ _ _ _ _ _ us hl => match us, hl with | [_, _], _ => rfl», one _ a parameter -/
theorem Fun.binds {x qual : Str} {st : Stmt} {f : Addr} {fd : FuncData} {ps : List Str} (F : Fun K x qual st f fd)
    (h : ∀ (kV doc pm : Value) (an : Option Addr) (cdv ct : Value) (us : List Value), us.length = ps.length → bindArgs (PySem.W.fnOf x qual (defArgs st) (defBody st) (defScope st) .none kV doc pm an cdv ct) ⟨us, []⟩ = pure (ps.zip us)) : Binds K fd ps [] := by
  obtain ⟨oc, od, kV, doc, pm, an, cdv, ct, osl, rfl, lk, hcd⟩ := F.ex
  exact .all (h kV doc pm an cdv ct)
theorem fun_mk {x qual : Str} {st : Stmt} {f : Addr} {oc : Value} {od an : Option Addr} {osl : Array (Option Value)} {kV doc pm cdv ct : Value} (l : K.lookup f = some ⟨oc, od, .func (PySem.W.fnOf x qual (defArgs st) (defBody st) (defScope st) .none kV doc pm an cdv ct), osl⟩)
    (c : PySem.W.codeIn K cdv qual = true) (k : PySem.W.keepIn K (.ref f) = true) : Fun K x qual st f (PySem.W.fnOf x qual (defArgs st) (defBody st) (defScope st) .none kV doc pm an cdv ct) := ⟨⟨oc, od, kV, doc, pm, an, cdv, ct, osl, rfl, l, c⟩, k⟩
end
theorem hu_of {A : Around} {k : Nat} (hr : Room k A) : A.units + 1 < cLine := Nat.lt_of_le_of_lt (Nat.add_le_add_left (by decide : 1 ≤ 64) _) hr.units
/-! ### expressions in short: the name that stands in the i-th slot -/

/-! ### tests -/
theorem iteF {A B : Prop} (h : B) : if false = true then A else B := by
  rw [if_neg Bool.false_ne_true]
  exact h
theorem iteT {A B : Prop} (h : A) : if true = true then A else B := by
  rw [if_pos rfl]
  exact h
/-! ### heaps -/
/-- all that was tracked is as it was -/
def Same (H H' : Hp) : Prop := ∀ b o, H b = some o → H' b = some o
theorem Same.refl (H : Hp) : Same H H := fun _ _ h => h
theorem Same.trans {H H1 H2 : Hp} (a : Same H H1) (b : Same H1 H2) : Same H H2 := fun c o h => b c o (a c o h)
theorem Same.free {H H' : Hp} (e : Same H H') {l : Addr} (h : H' l = Option.none) : H l = Option.none := by
  cases q : H l with
  | none => rfl
  | some o =>
    rw [e l o q] at h
    cases h
theorem Same.seq {K : PySem.W.Frag} {H H' : Hp} {a : Addr} {xs : List V} (e : Same H H') (h : SqL K H a xs) : SqL K H' a xs := by
  rcases h with (h | ⟨o, h⟩) | h
  · exact .inl (.inl (e _ _ h))
  · exact .inl (.inr ⟨o, e _ _ h⟩)
  · exact .inr h

end L2

namespace L2
open PySem PySem.Spec PyProof.Rows

/-! ### lists of pairs as tables -/
section
variable {κ : Type} [DecidableEq κ]
def valV (kvs : List (κ × V)) (k : κ) : Option V := (kvs.find? fun kv => decide (kv.1 = k)).map (·.2)
/-- in its place, or at the end -/
def putK (kvs : List (κ × V)) (k : κ) (v : V) : List (κ × V) :=
  if (kvs.any fun kv => decide (kv.1 = k)) = true then kvs.map (fun kv => if kv.1 = k then (kv.1, v) else kv) else kvs ++ [(k, v)]
def dropK (kvs : List (κ × V)) (k : κ) : List (κ × V) := kvs.filter fun kv => decide (kv.1 ≠ k)

theorem valV_pos {p : κ × V} {r : List (κ × V)} {k : κ} (e : p.1 = k) : valV (p :: r) k = some p.2 := by simp [valV, List.find?_cons, e]
theorem valV_neg {p : κ × V} {r : List (κ × V)} {k : κ} (e : ¬ p.1 = k) : valV (p :: r) k = valV r k := by simp [valV, List.find?_cons, e]
theorem valV_any (k : κ) : ∀ kvs : List (κ × V), (kvs.any fun kv => decide (kv.1 = k)) = (valV kvs k).isSome
  | [] => rfl
  | p :: r => by
    rw [List.any_cons]
    by_cases e : p.1 = k
    · simp only [valV_pos e, decide_eq_true e, Bool.true_or, Option.isSome_some]
    · rw [valV_neg e, decide_eq_false e, Bool.false_or]; exact valV_any k r
theorem length_putK (kvs : List (κ × V)) (k : κ) (v : V) : (putK kvs k v).length ≤ kvs.length + 1 := by
  unfold putK
  split
  · rw [List.length_map]; omega
  · rw [List.length_append, List.length_cons, List.length_nil]; omega
theorem putK_new {kvs : List (κ × V)} {k : κ} (v : V) (h : valV kvs k = none) : putK kvs k v = kvs ++ [(k, v)] := by
  unfold putK
  rw [valV_any, h]
  exact if_neg (by decide)

theorem RelO.isSome_eq {o : Option V} {u : Option Value} (r : RelO o u) : o.isSome = u.isSome := by
  cases o with
  | none => cases u with
    | none => rfl
    | some _ => exact (show False from r).elim
  | some _ => cases u with
    | none => exact (show False from r).elim
    | some _ => rfl
theorem RelO.getD {o : Option V} {u : Option Value} {d : V} {d' : Value} (r : RelO o u) (rd : RelV d d') : RelV (o.getD d) (u.getD d') := by
  cases o with
  | none => cases u with
    | none => exact rd
    | some _ => exact (show False from r).elim
  | some _ => cases u with
    | none => exact (show False from r).elim
    | some _ => exact r

/-- raw tables of the same keys -/
theorem KV.val {kvs : List (κ × V)} {vs : List (κ × Value)} (r : KV kvs vs) (k : κ) : RelO (valV kvs k) (valueAt vs k) := by
  unfold KV at r
  induction r with
  | nil => exact True.intro
  | @cons p q ps qs h t ih =>
    obtain ⟨h1, h2⟩ := h
    by_cases e : p.1 = k
    · have e' : q.1 = k := h1.symm.trans e
      have b : valueAt (q :: qs) k = some q.2 := by simp [valueAt, List.find?_cons, e']
      rw [valV_pos e, b]; exact h2
    · have e' : ¬ q.1 = k := fun z => e (h1.trans z)
      have b : valueAt (q :: qs) k = valueAt qs k := by simp [valueAt, List.find?_cons, e']
      rw [valV_neg e, b]; exact ih
theorem KV.any {kvs : List (κ × V)} {vs : List (κ × Value)} (r : KV kvs vs) (k : κ) : (kvs.any fun kv => decide (kv.1 = k)) = vs.any fun kv => decide (kv.1 = k) := by
  unfold KV at r
  induction r with
  | nil => rfl
  | cons h t ih => rw [List.any_cons, List.any_cons, ih, h.1]
theorem KV.repl {kvs : List (κ × V)} {vs : List (κ × Value)} (r : KV kvs vs) (k : κ) {y : V} {u : Value} (ry : RelV y u) :
    KV (kvs.map fun kv => if kv.1 = k then (kv.1, y) else kv) (vs.map fun kv => if kv.1 = k then (kv.1, u) else kv) := by
  unfold KV at r ⊢
  induction r with
  | nil => exact .nil
  | @cons p q ps qs h t ih =>
    rw [List.map_cons, List.map_cons]
    refine .cons ?_ ih
    obtain ⟨h1, h2⟩ := h
    by_cases e : p.1 = k
    · rw [if_pos e, if_pos (h1.symm.trans e)]; exact ⟨h1, ry⟩
    · rw [if_neg e, if_neg (fun z => e (h1.trans z))]; exact ⟨h1, h2⟩
theorem KV.put {kvs : List (κ × V)} {vs : List (κ × Value)} (r : KV kvs vs) (k : κ) {y : V} {u : Value} (ry : RelV y u) : KV (putK kvs k y) (stored vs k u) := by
  unfold putK stored
  rw [r.any k]
  by_cases e : (vs.any fun kv => decide (kv.1 = k)) = true
  · rw [if_pos e, if_pos e]; exact r.repl k ry
  · rw [if_neg e, if_neg e]; exact Paired.snoc r ⟨rfl, ry⟩
theorem KV.drop {kvs : List (κ × V)} {vs : List (κ × Value)} (r : KV kvs vs) (k : κ) : KV (dropK kvs k) (without vs k) := by
  unfold KV at r ⊢
  unfold dropK without
  induction r with
  | nil => exact .nil
  | @cons p q ps qs h t ih =>
    obtain ⟨h1, h2⟩ := h
    rw [List.filter_cons, List.filter_cons]
    by_cases e : p.1 = k
    · have a : ¬ decide (p.1 ≠ k) = true := by simp [e]
      have b : ¬ decide (q.1 ≠ k) = true := by simp [h1.symm.trans e]
      rw [if_neg a, if_neg b]; exact ih
    · have e' : ¬ q.1 = k := fun z => e (h1.trans z)
      have a : decide (p.1 ≠ k) = true := by simp [e]
      have b : decide (q.1 ≠ k) = true := by simp [e']
      rw [if_pos a, if_pos b]; exact .cons ⟨h1, h2⟩ ih
theorem KV.keys {kvs : List (κ × V)} {vs : List (κ × Value)} (r : KV kvs vs) : kvs.map (·.1) = vs.map (·.1) := by
  unfold KV at r
  induction r with
  | nil => rfl
  | cons h t ih => rw [List.map_cons, List.map_cons, ih, h.1]
theorem KV.length {kvs : List (κ × V)} {vs : List (κ × Value)} (r : KV kvs vs) : kvs.length = vs.length := Paired.length r
end


/-! ### a tracked dict, its keys ints and texts or tuples of these -/
theorem kV_is {P : Program} {w : World} {k : Key} {u : Value} (r : RelV (kV k) u) : (mixKind P w).is k u = true := by
  cases k with
  | inl i => obtain ⟨t, e⟩ := (show ∃ t, u = Value.int i t from r); subst e; exact mixKind_int P w i t
  | inr x => obtain ⟨t, e⟩ := (show ∃ t, u = Value.str x t from r); subst e; exact mixKind_str P w x t
theorem items_are {P : Program} {w : World} : ∀ {ks : List Key} {us : List Value}, Vals (ks.map kV) us → ItemsAre (mixKind P w) ks us
  | [], _, r => by rw [List.map_nil] at r; cases r; exact .nil
  | k :: ks, _, r => by
    rw [List.map_cons] at r
    cases r with
    | cons h t => exact .cons (kV_is h) (items_are t)

/-- raw entries of a dict with tuple keys -/
abbrev KT (H : Hp) : List (List Key × V) → List (List Key × Addr × Value) → Prop := Paired fun p q => p.1 = q.1 ∧ H q.2.1 = some (.tup (p.1.map kV)) ∧ RelV p.2 q.2.2
theorem KT.val {H : Hp} {kvs : List (List Key × V)} {xs : List (List Key × Addr × Value)} (r : KT H kvs xs) (k : List Key) : RelO (valV kvs k) ((atKey xs k).map (·.2)) := by
  induction r with
  | nil => exact True.intro
  | @cons p q ps qs h t ih =>
    obtain ⟨h1, _, h2⟩ := h
    by_cases e : p.1 = k
    · have e' : q.1 = k := h1.symm.trans e
      have b : atKey (q :: qs) k = some q.2 := by simp [atKey, List.find?_cons, e']
      rw [valV_pos e, b]; exact h2
    · have e' : ¬ q.1 = k := fun z => e (h1.trans z)
      have b : atKey (q :: qs) k = atKey qs k := by simp [atKey, List.find?_cons, e']
      rw [valV_neg e, b]; exact ih
theorem KT.repl {H : Hp} {kvs : List (List Key × V)} {xs : List (List Key × Addr × Value)} (r : KT H kvs xs) (k : List Key) {y : V} {u : Value} (ry : RelV y u) :
    KT H (kvs.map fun kv => if kv.1 = k then (kv.1, y) else kv) (xs.map (putAt k u)) := by
  induction r with
  | nil => exact .nil
  | @cons p q ps qs h t ih =>
    rw [List.map_cons, List.map_cons]
    refine .cons ?_ ih
    obtain ⟨h1, h2, h3⟩ := h
    unfold putAt
    by_cases e : p.1 = k
    · rw [if_pos e, if_pos (h1.symm.trans e)]; exact ⟨h1, h2, ry⟩
    · rw [if_neg e, if_neg (fun z => e (h1.trans z))]; exact ⟨h1, h2, h3⟩
theorem KT.put {H : Hp} {kvs : List (List Key × V)} {xs : List (List Key × Addr × Value)} (r : KT H kvs xs) (k : List Key) {b : Addr} {y : V} {u : Value} (hb : H b = some (.tup (k.map kV))) (ry : RelV y u) :
    KT H (putK kvs k y) (storedH xs k b u) := by
  have e : (kvs.any fun kv => decide (kv.1 = k)) = (atKey xs k).isSome := by
    rw [valV_any, (r.val k).isSome_eq, Option.isSome_map]
  unfold putK storedH
  rw [e]
  by_cases q : (atKey xs k).isSome = true
  · rw [if_pos q, if_pos q]; exact r.repl k ry
  · rw [if_neg q, if_neg q]; exact Paired.snoc r ⟨rfl, hb, ry⟩
theorem KT.keeps {H H' : Hp} {kvs : List (List Key × V)} {xs : List (List Key × Addr × Value)} (r : KT H kvs xs) (ht : ∀ b ys, H b = some (.tup ys) → H' b = some (.tup ys)) : KT H' kvs xs :=
  Paired.mapP r fun _ _ z => ⟨z.1, ht _ _ z.2.1, z.2.2⟩

section
variable {P : Program} {w : World} {H : Hp} {h : Heap} {a : Addr}
theorem rd_of {u : HO} (ok : HOk P w H h) (e : Rd H a u) : ObjOk P w H h a u := e.ok ok
theorem dk_rd {kvs : List (Key × V)} (ok : HOk P w H h) (e : Rd H a (.dK kvs)) : kvs.length ≤ sizeLine ∧ (a == sysModules) = false ∧ ∃ vs, KV kvs vs ∧ h.DictOf (mixKind P w) a vs :=
  show ObjOk P w H h a (.dK kvs) from rd_of ok e
theorem dk_of {kvs : List (Key × V)} (ok : HOk P w H h) (e : H a = some (.dK kvs)) : kvs.length ≤ sizeLine ∧ (a == sysModules) = false ∧ ∃ vs, KV kvs vs ∧ h.DictOf (mixKind P w) a vs := dk_rd ok (.inl e)
/-- a tracked tuple of ints and texts is a key -/
theorem key_of {ks : List Key} (ok : HOk P w H h) (e : H a = some (.tup (ks.map kV))) : (tupleKind (mixKind P w)).is h ks a := by
  obtain ⟨_, its, r, o, h1, h2, ⟨n, h3⟩, _⟩ := (show ObjOk P w H h a (.tup (ks.map kV)) from ok a _ e)
  exact ⟨o, its.toArray, n, h1, h2, h3, by simpa using items_are r⟩
theorem dt_rd {kvs : List (List Key × V)} (ok : HOk P w H h) (e : Rd H a (.dT kvs)) : kvs.length ≤ sizeLine ∧ (a == sysModules) = false ∧
    ∃ xs, KT H kvs xs ∧ h.DictOfH (tupleKind (mixKind P w)) a xs := by
  obtain ⟨z, y, xs, r, o, es, ep, h1, h2, h3, h4, h5⟩ := (show ObjOk P w H h a (.dT kvs) from rd_of ok e)
  refine ⟨z, y, xs, r, o, es, ep, h1, h2, h3, h4, fun x hx => ?_, h5⟩
  have all : ∀ {l : List (List Key × V)} {m : List (List Key × Addr × Value)}, KT H l m → ∀ x ∈ m, (tupleKind (mixKind P w)).is h x.1 x.2.1 := by
    intro l m q
    induction q with
    | nil => intro x hx; exact nomatch hx
    | @cons p q ps qs hq t ih =>
      intro x hx
      rcases List.mem_cons.mp hx with e | hx
      · subst e
        exact key_of ok (by rw [← hq.1]; exact hq.2.1)
      · exact ih x hx
  exact all r x hx
theorem dt_of {kvs : List (List Key × V)} (ok : HOk P w H h) (e : H a = some (.dT kvs)) : kvs.length ≤ sizeLine ∧ (a == sysModules) = false ∧
    ∃ xs, KT H kvs xs ∧ h.DictOfH (tupleKind (mixKind P w)) a xs := dt_rd ok (.inl e)
end

/-- what the dict at a holds at the key y -/
def DGet (H : Hp) (a : Addr) (y : V) (r : Option V) : Prop :=
  (∃ kvs k, Rd H a (.dK kvs) ∧ y = kV k ∧ r = valV kvs k) ∨ ∃ kvs k b, Rd H a (.dT kvs) ∧ y = .ref b ∧ H b = some (.tup (k.map kV)) ∧ r = valV kvs k
/-- the heap behind a[y] = v -/
def DPut (H : Hp) (a : Addr) (y v : V) (H' : Hp) : Prop :=
  (∃ kvs k, H a = some (.dK kvs) ∧ y = kV k ∧ kvs.length < sizeLine ∧ H' = upd H a (.dK (putK kvs k v))) ∨
  ∃ kvs k b, H a = some (.dT kvs) ∧ y = .ref b ∧ H b = some (.tup (k.map kV)) ∧ kvs.length < sizeLine ∧ H' = upd H a (.dT (putK kvs k v))
theorem DGet.k {H : Hp} {a : Addr} {kvs : List (Key × V)} {k : Key} (e : H a = some (.dK kvs)) : DGet H a (kV k) (valV kvs k) := .inl ⟨kvs, k, .inl e, rfl, rfl⟩
theorem DGet.t {H : Hp} {a b : Addr} {kvs : List (List Key × V)} {k : List Key} (e : H a = some (.dT kvs)) (eb : H b = some (.tup (k.map kV))) : DGet H a (.ref b) (valV kvs k) := .inr ⟨kvs, k, b, .inl e, rfl, eb, rfl⟩
theorem DPut.k {H : Hp} {a : Addr} {kvs : List (Key × V)} {k : Key} {v : V} (e : H a = some (.dK kvs)) (hl : kvs.length < sizeLine) : DPut H a (kV k) v (upd H a (.dK (putK kvs k v))) := .inl ⟨kvs, k, e, rfl, hl, rfl⟩
theorem DPut.t {H : Hp} {a b : Addr} {kvs : List (List Key × V)} {k : List Key} {v : V} (e : H a = some (.dT kvs)) (eb : H b = some (.tup (k.map kV))) (hl : kvs.length < sizeLine) :
    DPut H a (.ref b) v (upd H a (.dT (putK kvs k v))) := .inr ⟨kvs, k, b, e, rfl, eb, hl, rfl⟩


section
variable {X : Cx} {pins : List (Addr × Obj)} {σ : St} {H : Hp} {s : Shared} {a : Addr} {y v : V} {u r : Value} {o : Option V} {A : Around} {E : Value → Shared → Prop}

theorem Inv.big (I : Inv X pins σ H s) : sysModules < s.heap.objs.size := by
  have h : mainGlobals < s.heap.objs.size := (I.mod.glob.keeps I.bk).lt
  exact Nat.lt_trans (by decide) h

/-- d[y], there -/
theorem d_getItem {Q : Value → Shared → Prop} (hu : A.units + 1 < cLine) (I : Inv X pins σ H s) (g : DGet H a y (some v)) (ry : RelV y u) (h : ∀ w' s', Inv X pins σ H s' → RelV v w' → Q w' s') :
    wpAny (model X.prog X.w) A (getItem (.ref a) u) Q E s := by
  rcases g with ⟨kvs, k, e, ey, l⟩ | ⟨kvs, k, b, e, ey, eb, l⟩
  · subst ey
    obtain ⟨z, hd, vs, rel, dd⟩ := dk_rd I.hok e
    obtain ⟨w', hw, rw'⟩ := RelO.some_of (v := v) (o := valueAt vs k) (by rw [l]; exact rel.val k)
    exact wpAny_getItem_of (kV_is ry) dd.mapOf hw (h w' _ (I.tok _) rw')
  · subst ey
    cases (show u = Value.ref b from ry)
    obtain ⟨z, hd, xs, rel, dd⟩ := dt_rd I.hok e
    obtain ⟨w', hw, rw'⟩ := RelO.some_of (v := v) (o := (atKey xs k).map (·.2)) (by rw [l]; exact rel.val k)
    obtain ⟨p, hp, hp2⟩ := Option.map_eq_some_iff.mp hw
    refine wpAny_getItem_heap (tupleKind_room_in1 hu) (key_of I.hok eb) dd hp ?_
    rw [hp2]
    exact h w' _ (I.tok _) rw'
/-- y in d -/
theorem d_in {Q : Value → Shared → Prop} (hu : A.units + 1 < cLine) (I : Inv X pins σ H s) (g : DGet H a y o) (ry : RelV y u) (h : ∀ s', Inv X pins σ H s' → Q (.bool o.isSome) s') :
    wpAny (model X.prog X.w) A (compareOp .In u (.ref a)) Q E s := by
  rcases g with ⟨kvs, k, e, ey, l⟩ | ⟨kvs, k, b, e, ey, eb, l⟩
  · subst ey
    obtain ⟨z, hd, vs, rel, dd⟩ := dk_rd I.hok e
    refine wpAny_in_of (kV_is ry) hd dd.mapOf ?_
    rw [← (rel.val k).isSome_eq, ← l]
    exact h _ (I.tok _)
  · subst ey
    cases (show u = Value.ref b from ry)
    obtain ⟨z, hd, xs, rel, dd⟩ := dt_rd I.hok e
    refine wpAny_in_heap (tupleKind_room_in1 hu) (key_of I.hok eb) hd dd ?_
    have q := (rel.val k).isSome_eq
    rw [Option.isSome_map] at q
    rw [← q, ← l]
    exact h _ (I.tok _)
/-- a dict's object is replaced -/
theorem d_write {h' : Heap} {t' : Nat} {ob : HO} (I : Inv X pins σ H s) (mu : Mut (H a)) (hs : Heap.SameBut a s.heap h') (he : ∃ q, h'.get? a = some q) (new : ObjOk X.prog X.w (upd H a ob) h' a ob) :
    Inv X pins σ (upd H a ob) { s with heap := h', toks := t' } :=
  I.write (x := a) (e := a) mu (.inl rfl) (fun b q hb z => (hs.2 b hb).trans z) he new
theorem dk_new {P : Program} {w : World} {H' : Hp} {h' : Heap} {kvs : List (Key × V)} {vs : List (Key × Value)} (z : kvs.length ≤ sizeLine) (hd : (a == sysModules) = false) (rel : KV kvs vs) (dd : h'.DictOf (mixKind P w) a vs) :
    ObjOk P w H' h' a (.dK kvs) := ⟨z, hd, vs, rel, dd⟩
/-- d[y] = v -/
theorem d_setItem {H' : Hp} {Q : Unit → Shared → Prop} (hu : A.units + 1 < cLine) (I : Inv X pins σ H s) (g : DPut H a y v H') (ry : RelV y u) (rv : RelV v r) (h : ∀ s', Inv X pins σ H' s' → Q () s') :
    wpAny (model X.prog X.w) A (setItem (.ref a) u r) Q E s := by
  rcases g with ⟨kvs, k, e, ey, l, eH⟩ | ⟨kvs, k, b, e, ey, eb, l, eH⟩
  · subst ey eH
    obtain ⟨z, hd, vs, rel, dd⟩ := dk_of I.hok e
    have hz : vs.length ≤ sizeLine := by rw [← rel.length]; exact z
    have hl : (putK kvs k v).length ≤ sizeLine := by have := length_putK kvs k v; omega
    refine wpAny_setItem_pairs (hsz := hz) (kV_is ry) dd fun h' dd' hs => h _ ?_
    have he : ∃ q, h'.get? a = some q := let ⟨q, _, _, hq, _⟩ := dd'; ⟨q, hq⟩
    exact d_write I (by rw [e]; exact True.intro) hs he (dk_new hl hd (rel.put k rv) dd')
  · subst ey eH
    cases (show u = Value.ref b from ry)
    obtain ⟨z, hd, xs, rel, dd⟩ := dt_of I.hok e
    have hz : xs.length ≤ sizeLine := by rw [← Paired.length rel]; exact z
    have hl : (putK kvs k v).length ≤ sizeLine := by have := length_putK kvs k v; omega
    refine wpAny_setItem_heap (hsz := hz) (tupleKind_room_in1 hu) (key_of I.hok eb) dd fun h' dd' hs => h _ ?_
    obtain ⟨q, es, ep, hq, h2, h3, h4, _, h5⟩ := dd'
    refine d_write I (by rw [e]; exact True.intro) hs ⟨q, hq⟩ ⟨hl, hd, _, (rel.put k eb rv).keeps fun c ys ec => ?_, q, es, ep, hq, h2, h3, h4, h5⟩
    rw [upd_ne (ne_of ec e (fun z => nomatch z))]
    exact ec
end

section
variable {X : Cx} {pins : List (Addr × Obj)} {σ : St} {H : Hp} {s : Shared} {a : Addr} {kvs : List (Key × V)} {k : Key} {u : Value} {A : Around} {E : Value → Shared → Prop}
/-- len(d) -/
theorem d_len {Q : Value → Shared → Prop} (I : Inv X pins σ H s) (e : Rd H a (.dK kvs)) (h : ∀ t s', Inv X pins σ H s' → Q (.int kvs.length t) s') : wpAny (model X.prog X.w) A (call (.builtin "len") [.ref a]) Q E s := by
  obtain ⟨z, hd, vs, rel, dd⟩ := dk_rd I.hok e
  refine call_len_dict hd dd (by rw [← rel.length]; rw [sizeLine_eq] at z; omega) ?_
  rw [← rel.length]
  exact h _ _ (I.tok _)
end


/-! ### readings and rules -/
theorem dict_typeIs {X : Cx} {pins : List (Addr × Obj)} {σ : St} {H : Hp} {s : Shared} {a : Addr} {y : V} {o : Option V} (I : Inv X pins σ H s) (g : DGet H a y o) : s.TypeIs (.ref a) "dict" := by
  rcases g with ⟨kvs, k, e, _, _⟩ | ⟨kvs, k, b, e, _, _, _⟩
  · obtain ⟨_, _, vs, _, dd⟩ := dk_rd I.hok e
    exact dd.typeIs
  · obtain ⟨_, _, xs, _, dd⟩ := dt_rd I.hok e
    exact dd.typeIs
/-- y in d, y not in d -/
def tDIn (ty td : TE) : TE := fun σ H Q => ty σ H fun y H1 => td σ H1 fun x H2 => ∃ a o, x = .ref a ∧ DGet H2 a y o ∧ Q (.bl o.isSome) H2
/-- d[y] = v -/
def sDPut (td ty tv : TE) : TS := fun D σ H => tv σ H fun v H1 => td σ H1 fun x H2 => ty σ H2 fun y H3 => ∃ a H4, x = .ref a ∧ DPut H3 a y v H4 ∧ D.nx σ H4
section
variable {X : Cx} {o i e value : Expr} {pos pos' tpos : Pos} {td ty tv : TE}
theorem pc_din (hu : X.A.units + 1 < cLine) (hi : PE X i ty) (ho : PE X o td) : PC X .In i o (tDIn ty td) := by
  intro pins s σ H Q I h
  refine thn (hi pins s σ H _ I h) fun iv s1 ⟨y, H1, I1, ry, q1⟩ => thn (ho pins s1 σ H1 _ I1 q1) fun u s2 ⟨x, H2, I2, rx, a, ov, ex, g, q2⟩ => ?_
  subst ex
  obtain rfl : u = Value.ref a := rx
  exact d_in hu I2 g ry fun s3 I3 => ⟨.bl ov.isSome, H2, I3, rfl, q2⟩
theorem ps_dput (hu : X.A.units + 1 < cLine) (ho : PE X o td) (hi : PE X i ty) (hv : PE X value tv) (hs : swapsWith value (some (.Subscript o i pos')) pos.line X.env = pure false) :
    PS X (.Assign [.Subscript o i pos'] value pos) (sDPut td ty tv) := by
  intro pins s σ H D I h
  refine wpAny_Assign_Subscript (thn (hv pins s σ H _ I h) fun r s1 ⟨v, H1, I1, rv, q1⟩ => thn (ho pins s1 σ H1 _ I1 q1) fun u s2 ⟨x, H2, I2, rx, q2⟩ => thn (hi pins s2 σ H2 _ I2 q2) fun iv s3 ⟨y, H3, I3, ry, a, H4, ex, g, q3⟩ => ?_) hs
  subst ex
  obtain rfl : u = Value.ref a := rx
  exact d_setItem hu I3 g ry rv fun s4 I4 => ⟨σ, H4, I4, q3⟩
end


/-! ### displays -/
theorem dk_empty {P : Program} {w : World} {H : Hp} (h : Heap) (hb : sysModules < h.objs.size) : ObjOk P w H (h.push { cls := .type "dict", data := .dict #[] }) h.objs.size (.dK []) :=
  ⟨Nat.zero_le _, beq_eq_false_iff_ne.mpr (Ne.symm (Nat.ne_of_lt hb)), [], .nil, Heap.DictOf.new h⟩
/-- {}, to be a dict of the kind that is wanted -/
def tDNewK : TE := fun _ H Q => ∀ p, H p = none → Q (.ref p) (upd H p (.dK []))
section
variable {X : Cx} {pos : Pos}
theorem pe_dnewK : PE X (.Dict [] [] pos) tDNewK := fun pins s σ H Q I h =>
  wpAny_Dict_empty ⟨.ref s.heap.objs.size, _, I.laid (a := s.heap.objs.size) (o := .dK []) (t' := s.toks) (fun _ _ q => Heap.get?_push_of_some _ q) (Nat.le_refl _) (dk_empty s.heap I.big), rfl, h _ (I.hok.fresh (Nat.le_refl _))⟩
end

/-- the pairs of a display, from the left -/
def tPairs : List (TE × TE) → St → Hp → (List (V × V) → Hp → Prop) → Prop
  | [], _, H, Q => Q [] H
  | (tk, tv) :: r, σ, H, Q => tk σ H fun x H1 => tv σ H1 fun y H2 => tPairs r σ H2 fun ps H3 => Q ((x, y) :: ps) H3
abbrev VV : List (V × V) → List (Value × Value) → Prop := Paired fun p q => RelV p.1 q.1 ∧ RelV p.2 q.2
def PPs (X : Cx) (pos : Pos) (keys : List (Option Expr)) (values : List Expr) (trs : List (TE × TE)) : Prop :=
  ∀ (pins : List (Addr × Obj)) (s : Shared) (σ : St) (H : Hp) (Q : List (V × V) → Hp → Prop), Inv X pins σ H s → tPairs trs σ H Q →
    wpAny (model X.prog X.w) X.A (evalPairs (pairTrees keys values X.env pos)) (fun vs s' => ∃ ps H', Inv X pins σ H' s' ∧ VV ps vs ∧ Q ps H') X.xe s
theorem pps_nil {X : Cx} {pos : Pos} : PPs X pos [] [] [] := fun pins s σ H Q I h => pairTrees_nil_walk ⟨[], H, I, .nil, h⟩
theorem pps_cons {X : Cx} {pos : Pos} {k v : Expr} {ks : List (Option Expr)} {vs : List Expr} {tk tv : TE} {trs : List (TE × TE)} (hk : PE X k tk) (hv : PE X v tv) (hr : PPs X pos ks vs trs) :
    PPs X pos (some k :: ks) (v :: vs) ((tk, tv) :: trs) := fun pins s σ H Q I h =>
  pairTrees_cons_walk (thn (hk pins s σ H _ I h) fun u s1 ⟨x, H1, I1, rx, q1⟩ => thn (hv pins s1 σ H1 _ I1 q1) fun w2 s2 ⟨y, H2, I2, ry, q2⟩ =>
    thn (hr pins s2 σ H2 _ I2 q2) fun ws s3 ⟨ps, H3, I3, rel, q3⟩ => ⟨(x, y) :: ps, H3, I3, .cons ⟨rx, ry⟩ rel, q3⟩)

def mergeK (kvs more : List (Key × V)) : List (Key × V) := more.foldl (fun acc kv => putK acc kv.1 kv.2) kvs
theorem KV.merge : ∀ {more : List (Key × V)} {rs : List (Key × Value)} {kvs : List (Key × V)} {vs : List (Key × Value)}, KV more rs → KV kvs vs → KV (mergeK kvs more) (merged vs rs) := by
  intro more rs kvs vs r
  unfold KV at r
  induction r generalizing kvs vs with
  | nil => intro q; exact q
  | @cons p q ps qs h t ih =>
    intro r0
    have e : KV (putK kvs p.1 p.2) (stored vs q.1 q.2) := by
      have := r0.put p.1 h.2
      rw [← h.1]; exact this
    exact ih e
theorem length_mergeK : ∀ (more kvs : List (Key × V)), (mergeK kvs more).length ≤ kvs.length + more.length
  | [], kvs => by show kvs.length ≤ kvs.length + 0; omega
  | p :: r, kvs => by
    have h1 := length_mergeK r (putK kvs p.1 p.2)
    have h2 := length_putK kvs p.1 p.2
    show (mergeK (putK kvs p.1 p.2) r).length ≤ _
    rw [List.length_cons]; omega
theorem carries_of {P : Program} {w : World} : ∀ {kvs : List (Key × V)} {ws : List (Value × Value)}, VV (kvs.map fun kv => (kV kv.1, kv.2)) ws → ∃ rs, Carries (mixKind P w) ws rs ∧ KV kvs rs
  | [], _, r => by rw [List.map_nil] at r; cases r; exact ⟨[], True.intro, .nil⟩
  | p :: kvs, _, r => by
    rw [List.map_cons] at r
    cases r with
    | @cons a b as bs h t =>
      obtain ⟨rs, c, q⟩ := carries_of (P := P) (w := w) t
      obtain ⟨b1, b2⟩ := b
      exact ⟨(p.1, b2) :: rs, ⟨kV_is h.1, rfl, c⟩, .cons ⟨rfl, h.2⟩ q⟩
/-- {k: v, ..} with keys ints and texts; the new dict stands empty while the pairs are made -/
def tDisp (trs : List (TE × TE)) : TE := fun σ H Q => ∀ p, H p = none → tPairs trs σ (upd H p (.dK [])) fun ps H2 => H2 p = some (.dK []) ∧ ∃ kvs : List (Key × V), ps = kvs.map (fun kv => (kV kv.1, kv.2)) ∧ kvs.length ≤ 15 ∧ Q (.ref p) (upd H2 p (.dK (mergeK [] kvs)))
theorem pe_disp {X : Cx} {pos : Pos} {keys : List (Option Expr)} {values : List Expr} {trs : List (TE × TE)} (h : PPs X pos keys values trs) (hall : keys.all (·.isSome) = true) (hl : keys.length = values.length) (h0 : keys ≠ [])
    (h15 : keys.length ≤ 15) : PE X (.Dict keys values pos) (tDisp trs) := by
  intro pins s σ H Q I q
  have hn := I.hok.fresh (Nat.le_refl s.heap.objs.size)
  have I1 := I.laid (a := s.heap.objs.size) (o := .dK []) (h' := s.heap.push { cls := .type "dict", data := .dict #[] }) (t' := s.toks) (fun _ _ q => Heap.get?_push_of_some _ q) (Nat.le_refl _) (dk_empty s.heap I.big)
  refine wpAny_Dict_walk (knd := mixKind X.prog X.w) hall hl h0 h15 (thn (h pins _ σ _ _ I1 (q _ hn)) fun ws s2 ⟨ps, H2, I2, rel, e, kvs, ep, lk, q2⟩ => ?_)
  subst ep
  obtain ⟨rs, c, rk⟩ := carries_of (P := X.prog) (w := X.w) rel
  obtain ⟨z, hd, vs0, r0, dd⟩ := dk_of I2.hok e
  cases r0
  refine ⟨rs, c, dd, fun h' dd' hs => ⟨.ref s.heap.objs.size, _, ?_, rfl, q2⟩⟩
  have hz : (mergeK [] kvs).length ≤ sizeLine := by
    have h1 := length_mergeK kvs []
    rw [List.length_nil] at h1
    rw [sizeLine_eq]; omega
  have he : ∃ q, h'.get? s.heap.objs.size = some q := let ⟨q, _, _, hq, _⟩ := dd'; ⟨q, hq⟩
  exact d_write I2 (by rw [e]; exact True.intro) hs he (dk_new hz hd (rk.merge .nil) dd')


/-! ### methods -/


/-! ### dict(d): a copy -/


end L2
/-! DATA: values as trees, lists and dicts as numbered cells; a reading over these for each piece of the text. -/
namespace DL
open PySem PySem.Spec L2
open PyProof.Rows hiding St

/-- a value: tuples whole, lists and dicts by the number of their cell -/
inductive Dt where
  | non
  | bl (b : Bool)
  | int (i : Int)
  | str (x : Str)
  | tup (xs : List Dt)
  | ref (i : Nat)
/-- a cell: a list, a list that nobody changes, a dict -/
inductive Cl where
  | lst (xs : List Dt)
  | fz (xs : List Dt)
  | dct (kvs : List (Key × Dt))
def Cl.mu : Cl → Bool
  | .fz _ => false
  | _ => true
abbrev SD := List (Option Dt)
abbrev GD := List Cl
abbrev KD := Dt → GD → Prop

section
variable (K : PySem.W.Frag) (H : Hp) (ι : List Addr)
mutual
def Rp : Dt → V → Prop
  | .non, v => v = V.non
  | .bl b, v => v = V.bl b
  | .int i, v => v = V.int i
  | .str x, v => v = V.str x
  | .tup ds, v => ∃ a vs, v = V.ref a ∧ SqT K H a vs ∧ Rps ds vs
  | .ref i, v => ∃ a, v = V.ref a ∧ ι[i]? = some a
def Rps : List Dt → List V → Prop
  | [], vs => vs = []
  | d :: ds, vs => ∃ v r, vs = v :: r ∧ Rp d v ∧ Rps ds r
end
end

structure Gr (K : PySem.W.Frag) (H : Hp) (ι : List Addr) (H' : Hp) (ι' : List Addr) : Prop where
  pre : ∃ r, ι' = ι ++ r
  tup : ∀ a xs, SqT K H a xs → SqT K H' a xs

section
variable {K : PySem.W.Frag} {H H' H'' : Hp} {ι ι' ι'' : List Addr}
theorem Gr.refl : Gr K H ι H ι := ⟨⟨[], by simp⟩, fun _ _ h => h⟩
theorem Gr.trans (a : Gr K H ι H' ι') (b : Gr K H' ι' H'' ι'') : Gr K H ι H'' ι'' := by
  obtain ⟨r, e⟩ := a.pre
  obtain ⟨r', e'⟩ := b.pre
  exact ⟨⟨r ++ r', by rw [e', e, List.append_assoc]⟩, fun c xs h => b.tup c xs (a.tup c xs h)⟩
theorem Gr.at (g : Gr K H ι H' ι') {i : Nat} {a : Addr} (h : ι[i]? = some a) : ι'[i]? = some a := by
  obtain ⟨r, e⟩ := g.pre
  rw [e, List.getElem?_append_left (by have := (List.getElem?_eq_some_iff.mp h).1; exact this)]
  exact h
mutual
theorem Rp.mono (g : Gr K H ι H' ι') : ∀ (d : Dt) (v : V), Rp K H ι d v → Rp K H' ι' d v
  | .non, _, h => h
  | .bl _, _, h => h
  | .int _, _, h => h
  | .str _, _, h => h
  | .tup ds, v, h => by
    obtain ⟨a, vs, e, s, r⟩ := h
    exact ⟨a, vs, e, g.tup _ _ s, Rps.mono g ds vs r⟩
  | .ref i, v, h => by
    obtain ⟨a, e, q⟩ := h
    exact ⟨a, e, g.at q⟩
theorem Rps.mono (g : Gr K H ι H' ι') : ∀ (ds : List Dt) (vs : List V), Rps K H ι ds vs → Rps K H' ι' ds vs
  | [], _, h => h
  | d :: ds, vs, h => by
    obtain ⟨v, r, e, a, b⟩ := h
    exact ⟨v, r, e, Rp.mono g d v a, Rps.mono g ds r b⟩
end
theorem Rp.up (g : Gr K H ι H' ι') {d : Dt} {v : V} (h : Rp K H ι d v) : Rp K H' ι' d v := Rp.mono g d v h
theorem Rps.up (g : Gr K H ι H' ι') {d : List Dt} {v : List V} (h : Rps K H ι d v) : Rps K H' ι' d v := Rps.mono g d v h

theorem Rps.len : ∀ {ds : List Dt} {vs : List V}, Rps K H ι ds vs → ds.length = vs.length
  | [], vs, h => by have e : vs = [] := h; rw [e]; rfl
  | d :: ds, vs, h => by
    obtain ⟨v, r, e, a, b⟩ := h
    rw [e, List.length_cons, List.length_cons, Rps.len b]
theorem Rps.nil : Rps K H ι [] [] := rfl
theorem Rps.cons {d : Dt} {v : V} {ds : List Dt} {vs : List V} (a : Rp K H ι d v) (b : Rps K H ι ds vs) : Rps K H ι (d :: ds) (v :: vs) := ⟨v, vs, rfl, a, b⟩
theorem Rps.app : ∀ {ds es : List Dt} {vs ws : List V}, Rps K H ι ds vs → Rps K H ι es ws → Rps K H ι (ds ++ es) (vs ++ ws)
  | [], es, vs, ws, h, h2 => by have e : vs = [] := h; rw [e]; exact h2
  | d :: ds, es, vs, ws, h, h2 => by
    obtain ⟨v, r, e, a, b⟩ := h
    rw [e]
    exact ⟨v, r ++ ws, rfl, a, Rps.app b h2⟩
theorem Rps.take : ∀ (n : Nat) {ds : List Dt} {vs : List V}, Rps K H ι ds vs → Rps K H ι (ds.take n) (vs.take n)
  | 0, _, _, _ => rfl
  | n + 1, [], vs, h => by have e : vs = [] := h; rw [e]; rfl
  | n + 1, d :: ds, vs, h => by
    obtain ⟨v, r, e, a, b⟩ := h
    rw [e]
    exact ⟨v, r.take n, rfl, a, Rps.take n b⟩
theorem Rps.drop : ∀ (n : Nat) {ds : List Dt} {vs : List V}, Rps K H ι ds vs → Rps K H ι (ds.drop n) (vs.drop n)
  | 0, _, _, h => h
  | n + 1, [], vs, h => by have e : vs = [] := h; rw [e]; rfl
  | n + 1, d :: ds, vs, h => by
    obtain ⟨v, r, e, a, b⟩ := h
    rw [e]
    exact Rps.drop n b
theorem Rps.get : ∀ {i : Nat} {ds : List Dt} {vs : List V} {d : Dt}, Rps K H ι ds vs → ds[i]? = some d → ∃ v, vs[i]? = some v ∧ Rp K H ι d v
  | i, [], vs, d, h, q => by simp at q
  | 0, d' :: ds, vs, d, h, q => by
    obtain ⟨v, r, e, a, b⟩ := h
    rw [e]
    simp at q
    subst q
    exact ⟨v, rfl, a⟩
  | i + 1, d' :: ds, vs, d, h, q => by
    obtain ⟨v, r, e, a, b⟩ := h
    rw [e]
    obtain ⟨v', e', r'⟩ := Rps.get (i := i) (d := d) b (by simpa using q)
    exact ⟨v', by simpa using e', r'⟩
theorem Rps.getV {i : Nat} {ds : List Dt} {vs : List V} {v : V} (h : Rps K H ι ds vs) (q : vs[i]? = some v) : ∃ d, ds[i]? = some d ∧ Rp K H ι d v := by
  have hl := h.len
  have hi : i < ds.length := by rw [hl]; exact (List.getElem?_eq_some_iff.mp q).1
  obtain ⟨v', e, r⟩ := h.get (i := i) (d := ds[i]) (by simp [hi])
  rw [q] at e
  cases e
  exact ⟨_, by simp [hi], r⟩
theorem Rps.set {d : Dt} {v : V} (a : Rp K H ι d v) : ∀ (i : Nat) {ds : List Dt} {vs : List V}, Rps K H ι ds vs → Rps K H ι (ds.set i d) (vs.set i v)
  | i, [], vs, h => by have e : vs = [] := h; rw [e]; rfl
  | 0, d' :: ds, vs, h => by
    obtain ⟨v', r, e, _, b⟩ := h
    rw [e]
    exact ⟨v, r, rfl, a, b⟩
  | i + 1, d' :: ds, vs, h => by
    obtain ⟨v', r, e, q, b⟩ := h
    rw [e]
    exact ⟨v', r.set i v, rfl, q, Rps.set a i b⟩
theorem Rps.dropLast {ds : List Dt} {vs : List V} (h : Rps K H ι ds vs) : Rps K H ι ds.dropLast vs.dropLast := by
  have e1 : ds.dropLast = ds.take (ds.length - 1) := by simp [List.dropLast_eq_take]
  have e2 : vs.dropLast = vs.take (vs.length - 1) := by simp [List.dropLast_eq_take]
  rw [e1, e2, h.len]
  exact h.take _
theorem Rps.eraseIdx : ∀ (i : Nat) {ds : List Dt} {vs : List V}, Rps K H ι ds vs → Rps K H ι (ds.eraseIdx i) (vs.eraseIdx i)
  | i, [], vs, h => by have e : vs = [] := h; rw [e]; rfl
  | 0, d' :: ds, vs, h => by
    obtain ⟨v', r, e, _, b⟩ := h
    rw [e]
    exact b
  | i + 1, d' :: ds, vs, h => by
    obtain ⟨v', r, e, q, b⟩ := h
    rw [e]
    exact ⟨v', r.eraseIdx i, rfl, q, Rps.eraseIdx i b⟩
theorem Rps.reverse : ∀ {ds : List Dt} {vs : List V}, Rps K H ι ds vs → Rps K H ι ds.reverse vs.reverse
  | [], vs, h => by have e : vs = [] := h; rw [e]; rfl
  | d :: ds, vs, h => by
    obtain ⟨v', r, e, q, b⟩ := h
    rw [e, List.reverse_cons, List.reverse_cons]
    exact (Rps.reverse b).app (Rps.cons q Rps.nil)
theorem Rps.rep {ds : List Dt} {vs : List V} (h : Rps K H ι ds vs) : ∀ k : Nat, Rps K H ι (List.replicate k ds).flatten (List.replicate k vs).flatten
  | 0 => rfl
  | k + 1 => by
    rw [List.replicate_succ, List.replicate_succ, List.flatten_cons, List.flatten_cons]
    exact h.app (Rps.rep h k)
end

/-! ### bounded references -/
mutual
def bnd (n : Nat) : Dt → Prop
  | .tup ds => bnds n ds
  | .ref i => i < n
  | _ => True
def bnds (n : Nat) : List Dt → Prop
  | [] => True
  | d :: ds => bnd n d ∧ bnds n ds
end
def bndC (n : Nat) : Cl → Prop
  | .lst xs => bnds n xs
  | .fz xs => bnds n xs
  | .dct kvs => bnds n (kvs.map (·.2))
def bndG (n : Nat) (G : GD) : Prop := ∀ c ∈ G, bndC n c
section
variable {K : PySem.W.Frag} {H H' H'' : Hp} {ι ι' ι'' : List Addr}
mutual
theorem Rp.bd : ∀ (d : Dt) (v : V), Rp K H ι d v → bnd ι.length d
  | .non, _, _ => trivial
  | .bl _, _, _ => trivial
  | .int _, _, _ => trivial
  | .str _, _, _ => trivial
  | .tup ds, v, h => by
    obtain ⟨a, vs, e, s, r⟩ := h
    exact Rps.bd ds vs r
  | .ref i, v, h => by
    obtain ⟨a, e, q⟩ := h
    exact (List.getElem?_eq_some_iff.mp q).1
theorem Rps.bd : ∀ (ds : List Dt) (vs : List V), Rps K H ι ds vs → bnds ι.length ds
  | [], _, _ => trivial
  | d :: ds, vs, h => by
    obtain ⟨v, r, e, a, b⟩ := h
    exact ⟨Rp.bd d v a, Rps.bd ds r b⟩
end
mutual
theorem Rp.cut (n : Nat) : ∀ (d : Dt) (v : V), Rp K H ι d v → bnd n d → Rp K H (ι.take n) d v
  | .non, _, h, _ => h
  | .bl _, _, h, _ => h
  | .int _, _, h, _ => h
  | .str _, _, h, _ => h
  | .tup ds, v, h, hb => by
    obtain ⟨a, vs, e, s, r⟩ := h
    exact ⟨a, vs, e, s, Rps.cut n ds vs r hb⟩
  | .ref i, v, h, hb => by
    obtain ⟨a, e, q⟩ := h
    have hb' : i < n := hb
    exact ⟨a, e, by rw [List.getElem?_take_of_lt hb']; exact q⟩
theorem Rps.cut (n : Nat) : ∀ (ds : List Dt) (vs : List V), Rps K H ι ds vs → bnds n ds → Rps K H (ι.take n) ds vs
  | [], _, h, _ => h
  | d :: ds, vs, h, hb => by
    obtain ⟨v, r, e, a, b⟩ := h
    exact ⟨v, r, e, Rp.cut n d v a hb.1, Rps.cut n ds r b hb.2⟩
end
mutual
theorem bnd_mono {n m : Nat} (h : n ≤ m) : ∀ (d : Dt), bnd n d → bnd m d
  | .non, _ => trivial
  | .bl _, _ => trivial
  | .int _, _ => trivial
  | .str _, _ => trivial
  | .tup ds, q => bnds_mono h ds q
  | .ref i, q => Nat.lt_of_lt_of_le (show i < n from q) h
theorem bnds_mono {n m : Nat} (h : n ≤ m) : ∀ (ds : List Dt), bnds n ds → bnds m ds
  | [], _ => trivial
  | d :: ds, q => ⟨bnd_mono h d q.1, bnds_mono h ds q.2⟩
end
end

/-! ### the cells -/
/-- a list of the module -/
def KL (K : PySem.W.Frag) (a : Addr) (xs : List V) : Prop :=
  ∃ (o : Obj) (its : Array Value) (n : Nat), K.lookup a = some o ∧ o.cls = .type "list" ∧ o.dict = none ∧ o.data = .seq its n ∧ its.size ≤ sizeLine ∧ Vals xs its.toList
def RpK (K : PySem.W.Frag) (H : Hp) (ι : List Addr) : List (Key × Dt) → List (Key × V) → Prop
  | [], vs => vs = []
  | p :: ds, vs => ∃ v r, vs = (p.1, v) :: r ∧ Rp K H ι p.2 v ∧ RpK K H ι ds r
def CellOk (K : PySem.W.Frag) (H : Hp) (ι : List Addr) : Cl → Addr → Prop
  | .lst ds, a => ∃ vs, H a = some (.lst vs) ∧ Rps K H ι ds vs
  | .fz ds, a => ∃ vs, ((∃ o, H a = some (.frz o (.lst vs))) ∨ KL K a vs) ∧ Rps K H ι ds vs
  | .dct kds, a => ∃ kvs, H a = some (.dK kvs) ∧ RpK K H ι kds kvs
structure HG (K : PySem.W.Frag) (G : GD) (H : Hp) (ι : List Addr) : Prop where
  len : ι.length = G.length
  cel : ∀ (i : Nat) (c : Cl) (a : Addr), G[i]? = some c → ι[i]? = some a → CellOk K H ι c a
  nd : ∀ (i j : Nat) (ci cj : Cl) (a : Addr), G[i]? = some ci → G[j]? = some cj → ci.mu = true → cj.mu = true → ι[i]? = some a → ι[j]? = some a → i = j

section
variable {K : PySem.W.Frag} {H H' H'' : Hp} {ι ι' ι'' : List Addr} {G G' : GD}
theorem RpK.up (g : Gr K H ι H' ι') : ∀ {ds : List (Key × Dt)} {vs : List (Key × V)}, RpK K H ι ds vs → RpK K H' ι' ds vs
  | [], _, h => h
  | p :: ds, vs, h => by
    obtain ⟨v, r, e, a, b⟩ := h
    exact ⟨v, r, e, a.up g, RpK.up g b⟩
theorem RpK.vals : ∀ {ds : List (Key × Dt)} {vs : List (Key × V)}, RpK K H ι ds vs → Rps K H ι (ds.map (·.2)) (vs.map (·.2)) ∧ ds.map (·.1) = vs.map (·.1)
  | [], vs, h => by have e : vs = [] := h; rw [e]; exact ⟨rfl, rfl⟩
  | p :: ds, vs, h => by
    obtain ⟨v, r, e, a, b⟩ := h
    obtain ⟨x, y⟩ := RpK.vals b
    rw [e]
    exact ⟨⟨v, _, rfl, a, x⟩, by simp [y]⟩
theorem RpK.cut (n : Nat) : ∀ {ds : List (Key × Dt)} {vs : List (Key × V)}, RpK K H ι ds vs → bnds n (ds.map (·.2)) → RpK K H (ι.take n) ds vs
  | [], _, h, _ => h
  | p :: ds, vs, h, hb => by
    obtain ⟨v, r, e, a, b⟩ := h
    exact ⟨v, r, e, Rp.cut n _ _ a hb.1, RpK.cut n b hb.2⟩
/-- a cell whose own object is as it was -/
theorem CellOk.up {c : Cl} {a : Addr} (h : CellOk K H ι c a) (g : Gr K H ι H' ι') (e : ∀ o, H a = some o → H' a = some o) : CellOk K H' ι' c a := by
  cases c with
  | lst ds => obtain ⟨vs, q, r⟩ := h; exact ⟨vs, e _ q, r.up g⟩
  | fz ds =>
    obtain ⟨vs, q, r⟩ := h
    refine ⟨vs, ?_, r.up g⟩
    rcases q with ⟨o, q⟩ | q
    · exact .inl ⟨o, e _ q⟩
    · exact .inr q
  | dct kds => obtain ⟨kvs, q, r⟩ := h; exact ⟨kvs, e _ q, r.up g⟩
theorem CellOk.mu {c : Cl} {a : Addr} (h : CellOk K H ι c a) (m : c.mu = true) : (∃ vs, H a = some (.lst vs)) ∨ ∃ kvs, H a = some (.dK kvs) := by
  cases c with
  | lst ds => obtain ⟨vs, q, r⟩ := h; exact .inl ⟨vs, q⟩
  | fz ds => cases m
  | dct kds => obtain ⟨kvs, q, r⟩ := h; exact .inr ⟨kvs, q⟩
theorem CellOk.bd {c : Cl} {a : Addr} (h : CellOk K H ι c a) : bndC ι.length c := by
  cases c with
  | lst ds => obtain ⟨vs, q, r⟩ := h; exact Rps.bd _ _ r
  | fz ds => obtain ⟨vs, q, r⟩ := h; exact Rps.bd _ _ r
  | dct kds => obtain ⟨kvs, q, r⟩ := h; exact Rps.bd _ _ r.vals.1
theorem CellOk.cut (n : Nat) {c : Cl} {a : Addr} (h : CellOk K H ι c a) (b : bndC n c) : CellOk K H (ι.take n) c a := by
  cases c with
  | lst ds => obtain ⟨vs, q, r⟩ := h; exact ⟨vs, q, Rps.cut n _ _ r b⟩
  | fz ds => obtain ⟨vs, q, r⟩ := h; exact ⟨vs, q, Rps.cut n _ _ r b⟩
  | dct kds => obtain ⟨kvs, q, r⟩ := h; exact ⟨kvs, q, r.cut n b⟩
theorem HG.at (h : HG K G H ι) {i : Nat} {c : Cl} (e : G[i]? = some c) : ∃ a, ι[i]? = some a ∧ CellOk K H ι c a := by
  have hi : i < ι.length := by rw [h.len]; exact (List.getElem?_eq_some_iff.mp e).1
  exact ⟨ι[i], by simp [hi], h.cel i c _ e (by simp [hi])⟩
theorem HG.bd (h : HG K G H ι) : bndG G.length G := fun c hc => by
  obtain ⟨i, e⟩ := List.getElem?_of_mem hc
  obtain ⟨a, _, q⟩ := h.at e
  have := q.bd
  rw [h.len] at this
  exact this
/-- an object that is no cell is laid -/
theorem Gr.free {p : Addr} {o : HO} (hp : H p = none) {r : List Addr} : Gr K H ι (upd H p o) (ι ++ r) :=
  ⟨⟨r, rfl⟩, fun a xs h => by
    rcases h with (h | ⟨ob, h⟩) | h
    · exact .inl (.inl (by rw [upd_ne (ne_of_none h hp)]; exact h))
    · exact .inl (.inr ⟨ob, by rw [upd_ne (ne_of_none h hp)]; exact h⟩)
    · exact .inr h⟩
theorem Gr.free0 {p : Addr} {o : HO} (hp : H p = none) : Gr K H ι (upd H p o) ι := by
  have := Gr.free (K := K) (ι := ι) (o := o) hp (r := [])
  rw [List.append_nil] at this
  exact this
theorem HG.free {p : Addr} {o : HO} (h : HG K G H ι) (hp : H p = none) : HG K G (upd H p o) ι :=
  ⟨h.len, fun i c a e q => (h.cel i c a e q).up (Gr.free0 hp) fun ob z => by rw [upd_ne (ne_of_none z hp)]; exact z, h.nd⟩
/-- a new cell -/
theorem HG.new {p : Addr} {o : HO} {c : Cl} (h : HG K G H ι) (hp : H p = none) (hc : CellOk K (upd H p o) (ι ++ [p]) c p) : HG K (G ++ [c]) (upd H p o) (ι ++ [p]) := by
  have gl := h.len
  have at1 : ∀ {i : Nat} {c' : Cl}, (G ++ [c])[i]? = some c' → (i < G.length ∧ G[i]? = some c') ∨ (i = G.length ∧ c' = c) := fun {i c'} e => by
    by_cases hi : i < G.length
    · rw [List.getElem?_append_left hi] at e; exact .inl ⟨hi, e⟩
    · rw [List.getElem?_append_right (by omega)] at e
      by_cases h0 : i = G.length
      · subst h0; simp at e; exact .inr ⟨rfl, e.symm⟩
      · have : i - G.length = (i - G.length - 1) + 1 := by omega
        rw [this] at e; simp at e
  have at2 : ∀ {i : Nat} {a : Addr}, i < G.length → (ι ++ [p])[i]? = some a → ι[i]? = some a := fun {i a} hi e => by
    rw [List.getElem?_append_left (by omega)] at e; exact e
  have at3 : ∀ {a : Addr}, (ι ++ [p])[G.length]? = some a → a = p := fun {a} e => by
    rw [← gl, List.getElem?_append_right (Nat.le_refl _)] at e; simp at e; exact e.symm
  refine ⟨by simp [gl], fun i c' a e q => ?_, fun i j ci cj a e1 e2 m1 m2 q1 q2 => ?_⟩
  · rcases at1 e with ⟨hi, e⟩ | ⟨rfl, rfl⟩
    · exact (h.cel i c' a e (at2 hi q)).up (Gr.free hp) fun ob z => by rw [upd_ne (ne_of_none z hp)]; exact z
    · rw [at3 q]; exact hc
  · rcases at1 e1 with ⟨hi, f1⟩ | ⟨hi, _⟩
    · rcases at1 e2 with ⟨hj, f2⟩ | ⟨hj, _⟩
      · exact h.nd i j ci cj a f1 f2 m1 m2 (at2 hi q1) (at2 hj q2)
      · rw [hj] at q2
        have e3 := at3 q2
        subst e3
        rcases (h.cel i ci a f1 (at2 hi q1)).mu m1 with ⟨x, z⟩ | ⟨x, z⟩ <;> (rw [hp] at z; cases z)
    · rcases at1 e2 with ⟨hj, f2⟩ | ⟨hj, _⟩
      · rw [hi] at q1
        have e3 := at3 q1
        subst e3
        rcases (h.cel j cj a f2 (at2 hj q2)).mu m2 with ⟨x, z⟩ | ⟨x, z⟩ <;> (rw [hp] at z; cases z)
      · rw [hi, hj]
/-- a cell is changed -/
theorem Gr.put {i : Nat} {c : Cl} {a : Addr} {o : HO} (h : HG K G H ι) (e : G[i]? = some c) (m : c.mu = true) (q : ι[i]? = some a) : Gr K H ι (upd H a o) ι := by
  have hm := (h.cel i c a e q).mu m
  refine ⟨⟨[], by simp⟩, fun b xs hb => ?_⟩
  rcases hb with (hb | ⟨ob, hb⟩) | hb
  · refine .inl (.inl ?_)
    rw [upd_ne]
    · exact hb
    · rintro rfl
      rcases hm with ⟨x, z⟩ | ⟨x, z⟩ <;> (rw [hb] at z; cases z)
  · refine .inl (.inr ⟨ob, ?_⟩)
    rw [upd_ne]
    · exact hb
    · rintro rfl
      rcases hm with ⟨x, z⟩ | ⟨x, z⟩ <;> (rw [hb] at z; cases z)
  · exact .inr hb
theorem HG.put {i : Nat} {c c' : Cl} {a : Addr} {o : HO} (h : HG K G H ι) (e : G[i]? = some c) (m : c.mu = true) (q : ι[i]? = some a) (m' : c'.mu = true) (hc : CellOk K (upd H a o) ι c' a) : HG K (G.set i c') (upd H a o) ι := by
  have g : Gr K H ι (upd H a o) ι := Gr.put h e m q
  have hi : i < G.length := (List.getElem?_eq_some_iff.mp e).1
  have hm := (h.cel i c a e q).mu m
  have at1 : ∀ {j : Nat} {d : Cl}, (G.set i c')[j]? = some d → (j ≠ i ∧ G[j]? = some d) ∨ (j = i ∧ d = c') := fun {j d} z => by
    by_cases hj : j = i
    · subst hj; rw [List.getElem?_set_self hi] at z; cases z; exact .inr ⟨rfl, rfl⟩
    · rw [List.getElem?_set_ne (Ne.symm hj)] at z; exact .inl ⟨hj, z⟩
  refine ⟨by simpa using h.len, fun j d b z w => ?_, fun j k cj ck b e1 e2 m1 m2 q1 q2 => ?_⟩
  · rcases at1 z with ⟨hj, z⟩ | ⟨rfl, rfl⟩
    · have hb := h.cel j d b z w
      have far : d.mu = true → b ≠ a := fun hd z' => by
        subst z'
        exact hj (h.nd j i d c b z e hd m w q)
      cases d with
      | lst ds => exact hb.up g fun ob y => by rw [upd_ne (far rfl)]; exact y
      | dct ds => exact hb.up g fun ob y => by rw [upd_ne (far rfl)]; exact y
      | fz ds =>
        obtain ⟨vs, zz, r⟩ := hb
        refine ⟨vs, ?_, r.up g⟩
        rcases zz with ⟨o', zz⟩ | zz
        · refine .inl ⟨o', ?_⟩
          rw [upd_ne]
          · exact zz
          · rintro rfl
            rcases hm with ⟨x, hm⟩ | ⟨x, hm⟩ <;> (rw [zz] at hm; cases hm)
        · exact .inr zz
    · rw [q] at w; cases w; exact hc
  · have back : ∀ {j : Nat} {d : Cl}, (G.set i c')[j]? = some d → d.mu = true → ∃ d', G[j]? = some d' ∧ d'.mu = true := fun {j d} z md => by
      rcases at1 z with ⟨_, z⟩ | ⟨rfl, _⟩
      · exact ⟨d, z, md⟩
      · exact ⟨c, e, m⟩
    obtain ⟨d1, x1, y1⟩ := back e1 m1
    obtain ⟨d2, x2, y2⟩ := back e2 m2
    exact h.nd j k d1 d2 b x1 x2 y1 y2 q1 q2
end
end DL
namespace DL
open PySem PySem.Spec L2
open PyProof.Rows hiding St

/-! ### arguments without a star -/
def plainE : Expr → Bool
  | .Starred _ _ => false
  | _ => true
theorem star_cons {e : Expr} {es : List Expr} {env : Env} (h : plainE e = true) : starEach (e :: es) env = (false, eval e env) :: starEach es env := by
  cases e <;> first | rfl | cases h
theorem star_one {e : Expr} {env : Env} (h : plainE e = true) : starEach [e] env = [(false, eval e env)] := star_cons h
theorem back_any {pos : Pos} {env : Env} : ∀ {es : List Expr}, es.all plainE = true → (backTo pos (starEach es env)).any (·.1) = false
  | [], _ => rfl
  | e :: es, h => by
    simp only [List.all_cons, Bool.and_eq_true] at h
    rw [star_cons h.1]
    show (false || (backTo pos (starEach es env)).any (·.1)) = false
    rw [back_any h.2]; rfl
theorem back_one {e : Expr} {pos : Pos} {env : Env} (h : plainE e = true) : backTo pos (starEach [e] env) = [(false, eval e env)] := by
  rw [star_one h]; rfl
/-! ### the state of a body: slots, cells, what stood at the entry -/
structure Fx where
  H : Hp
  ι : List Addr
structure Ok (K : PySem.W.Frag) (F : Fx) (σd : SD) (G : GD) (σ : St) (H : Hp) (ι : List Addr) : Prop where
  hg : HG K G H ι
  slt : ∀ (i : Nat) (d : Dt), σd[i]? = some (some d) → ∃ v, σ[i]? = some (some v) ∧ Rp K H ι d v
  gr : Gr K F.H F.ι H ι
  ln : σd.length = σ.length
theorem Ok.to {K : PySem.W.Frag} {F : Fx} {σd : SD} {G G' : GD} {σ : St} {H H' : Hp} {ι ι' : List Addr} (ok : Ok K F σd G σ H ι) (h : HG K G' H' ι') (g : Gr K H ι H' ι') : Ok K F σd G' σ H' ι' :=
  ⟨h, fun i d e => let ⟨v, q, r⟩ := ok.slt i d e; ⟨v, q, r.up g⟩, ok.gr.trans g, ok.ln⟩
theorem Ok.set {K : PySem.W.Frag} {F : Fx} {σd : SD} {G : GD} {σ : St} {H : Hp} {ι : List Addr} (ok : Ok K F σd G σ H ι) {i : Nat} {d : Dt} {v : V} (r : Rp K H ι d v) : Ok K F (σd.set i (some d)) G (σ.set i (some v)) H ι := by
  refine ⟨ok.hg, fun j d' e => ?_, ok.gr, by simpa using ok.ln⟩
  by_cases hj : j = i
  · subst hj
    have hl : j < σd.length := by
      have := (List.getElem?_eq_some_iff.mp e).1
      simpa using this
    rw [List.getElem?_set_self hl] at e
    cases e
    exact ⟨v, List.getElem?_set_self (by rw [← ok.ln]; exact hl), r⟩
  · rw [List.getElem?_set_ne (Ne.symm hj)] at e
    obtain ⟨v', q, r'⟩ := ok.slt j d' e
    exact ⟨v', by rw [List.getElem?_set_ne (Ne.symm hj)]; exact q, r'⟩
/-- slots forgotten, cells beyond n let go -/
theorem Ok.weak {K : PySem.W.Frag} {F : Fx} {σd σd' : SD} {G : GD} {σ : St} {H : Hp} {ι : List Addr} (ok : Ok K F σd G σ H ι) (n : Nat) (hn : F.ι.length ≤ n) (hl : σd'.length = σd.length)
    (hs : ∀ (i : Nat) (d : Dt), σd'[i]? = some (some d) → σd[i]? = some (some d) ∧ bnd n d) (hG : bndG n (G.take n)) : Ok K F σd' (G.take n) σ H (ι.take n) := by
  have at1 : ∀ {i : Nat} {c : Cl}, (G.take n)[i]? = some c → i < n ∧ G[i]? = some c := fun {i c} e => by
    have hi : i < n := by
      have := (List.getElem?_eq_some_iff.mp e).1
      rw [List.length_take] at this
      omega
    exact ⟨hi, by rw [List.getElem?_take_of_lt hi] at e; exact e⟩
  refine ⟨⟨by rw [List.length_take, List.length_take, ok.hg.len], fun i c a e q => ?_, fun i j ci cj a e1 e2 m1 m2 q1 q2 => ?_⟩, fun i d e => ?_, ⟨?_, ok.gr.tup⟩, hl.trans ok.ln⟩
  · obtain ⟨hi, e'⟩ := at1 e
    rw [List.getElem?_take_of_lt hi] at q
    exact (ok.hg.cel i c a e' q).cut n (hG c (List.mem_of_getElem? e))
  · obtain ⟨hi, e1'⟩ := at1 e1
    obtain ⟨hj, e2'⟩ := at1 e2
    rw [List.getElem?_take_of_lt hi] at q1
    rw [List.getElem?_take_of_lt hj] at q2
    exact ok.hg.nd i j ci cj a e1' e2' m1 m2 q1 q2
  · obtain ⟨e', b⟩ := hs i d e
    obtain ⟨v, q, r⟩ := ok.slt i d e'
    exact ⟨v, q, Rp.cut n _ _ r b⟩
  · obtain ⟨r, e⟩ := ok.gr.pre
    refine ⟨r.take (n - F.ι.length), ?_⟩
    rw [e, List.take_append, List.take_of_length_le hn]

/-! ### readings over data -/
abbrev TDE := SD → GD → KD → Prop
abbrev TDT := SD → GD → (Bool → GD → Prop) → Prop
abbrev TDA := SD → GD → (List Dt → GD → Prop) → Prop
structure EndsD where
  nx : SD → GD → Prop
  rt : KD
  bk : SD → GD → Prop := fun _ _ => False
  ct : SD → GD → Prop := fun _ _ => False
abbrev TDS := EndsD → SD → GD → Prop

section
variable (K : PySem.W.Frag) (F : Fx)
def liE (t : TDE) : TE := fun σ H Qv => ∃ σd G ι Q, Ok K F σd G σ H ι ∧ t σd G Q ∧
  ∀ v H' d G' ι', HG K G' H' ι' → Gr K H ι H' ι' → Rp K H' ι' d v → Q d G' → Qv v H'
def liT (t : TDT) : TT := fun σ H Qv => ∃ σd G ι Q, Ok K F σd G σ H ι ∧ t σd G Q ∧
  ∀ b H' G' ι', HG K G' H' ι' → Gr K H ι H' ι' → Q b G' → Qv b H'
def liA (t : TDA) : TA := fun σ H Qv => ∃ σd G ι Q, Ok K F σd G σ H ι ∧ t σd G Q ∧
  ∀ vs H' ds G' ι', HG K G' H' ι' → Gr K H ι H' ι' → Rps K H' ι' ds vs → Q ds G' → Qv vs H'
structure LiEnds (Dd : EndsD) (D : Ends) : Prop where
  nx : ∀ σ' H' σd' G' ι', Ok K F σd' G' σ' H' ι' → Dd.nx σd' G' → D.nx σ' H'
  bk : ∀ σ' H' σd' G' ι', Ok K F σd' G' σ' H' ι' → Dd.bk σd' G' → D.bk σ' H'
  ct : ∀ σ' H' σd' G' ι', Ok K F σd' G' σ' H' ι' → Dd.ct σd' G' → D.ct σ' H'
  rt : ∀ v H' d G' ι', HG K G' H' ι' → Gr K F.H F.ι H' ι' → Rp K H' ι' d v → Dd.rt d G' → D.rt v H'
def liS (t : TDS) : TS := fun D σ H => ∃ σd G ι Dd, Ok K F σd G σ H ι ∧ t Dd σd G ∧ LiEnds K F Dd D
end

def DE (X : Cx) (F : Fx) (e : Expr) (t : TDE) : Prop := PE X e (liE X.K F t)
structure DE' (X : Cx) (F : Fx) (e : Expr) (t : TDE) : Prop where
  p : DE X F e t
def DT (X : Cx) (F : Fx) (e : Expr) (t : TDT) : Prop := PT X e (liT X.K F t)
structure DT' (X : Cx) (F : Fx) (e : Expr) (t : TDT) : Prop where
  p : DT X F e t
def DW (X : Cx) (F : Fx) (e : Expr) (t : TDT) : Prop := PW X e (liT X.K F t)
structure DW' (X : Cx) (F : Fx) (e : Expr) (t : TDT) : Prop where
  p : DW X F e t
def DA (X : Cx) (F : Fx) (es : List Expr) (t : TDA) : Prop := PA X es (liA X.K F t)
structure DA' (X : Cx) (F : Fx) (es : List Expr) (t : TDA) : Prop where
  p : DA X F es t
def DS (X : Cx) (F : Fx) (st : Stmt) (t : TDS) : Prop := PS X st (liS X.K F t)
structure DS' (X : Cx) (F : Fx) (st : Stmt) (t : TDS) : Prop where
  p : DS X F st t
def DSs (X : Cx) (F : Fx) (st : List Stmt) (t : TDS) : Prop := PSs X st (liS X.K F t)

structure DSs' (X : Cx) (F : Fx) (st : List Stmt) (t : TDS) : Prop where
  p : DSs X F st t
section
variable {X : Cx} {F : Fx} {e a b c : Expr} {t ta tb tc : TDE} {pos : Pos}
theorem PE.imp {t t' : TE} (h : PE X e t) (i : ∀ σ H Q, t' σ H Q → t σ H Q) : PE X e t' := fun pins s σ H Q I q => h pins s σ H Q I (i σ H Q q)
theorem PT.imp {t t' : TT} (h : PT X e t) (i : ∀ σ H Q, t' σ H Q → t σ H Q) : PT X e t' := fun pins s σ H Q I q => h pins s σ H Q I (i σ H Q q)
theorem PW.imp {t t' : TT} (h : PW X e t) (i : ∀ σ H Q, t' σ H Q → t σ H Q) : PW X e t' := fun wh pins s σ H Q I q => h wh pins s σ H Q I (i σ H Q q)
theorem PA.imp {es : List Expr} {t t' : TA} (h : PA X es t) (i : ∀ σ H Q, t' σ H Q → t σ H Q) : PA X es t' := fun pos pins s σ H Q I q => h pos pins s σ H Q I (i σ H Q q)
theorem PS.imp {st : Stmt} {t t' : TS} (h : PS X st t) (i : ∀ D σ H, t' D σ H → t D σ H) : PS X st t' := fun pins s σ H D I q => h pins s σ H D I (i D σ H q)
theorem PSs.imp {st : List Stmt} {t t' : TS} (h : PSs X st t) (i : ∀ D σ H, t' D σ H → t D σ H) : PSs X st t' := fun pins s σ H D I q => h pins s σ H D I (i D σ H q)

/-! ### names and constants -/
def dVar (i : Nat) : TDE := fun σ G Q => match σ[i]? with
  | some (some d) => Q d G
  | _ => False
def dC (d : Dt) : TDE := fun _ G Q => Q d G
theorem de_var (i : Nat) {x : Str} {pos : Pos} (hN : X.N[i]? = some x := by rfl) (hv : Vis X.env.scope x := by first | exact Or.inl rfl | exact Or.inr (Or.inl rfl) | exact Or.inr (Or.inr rfl)) (hd : (x == ("__debug__" : Str)) = false := by decide)
    (hcd : (x == ("__classdict__" : Str)) = false := by decide) : DE X F (.Name x pos) (dVar i) := by
  refine PE.imp (pe_var hN hv hd hcd) fun σ H Qv ⟨σd, G, ι, Q, ok, ht, hq⟩ => ?_
  unfold dVar at ht
  split at ht
  · rename_i d e
    obtain ⟨v, q, r⟩ := ok.slt i d e
    exact ⟨v, q, hq v H d G ι ok.hg Gr.refl r ht⟩
  · exact ht.elim
theorem de_var' (i : Nat) {x : Str} {pos : Pos} (hN : X.N[i]? = some x := by rfl) (hv : Vis X.env.scope x := by first | exact Or.inl rfl | exact Or.inr (Or.inl rfl) | exact Or.inr (Or.inr rfl)) (hd : (x == ("__debug__" : Str)) = false := by decide)
    (hcd : (x == ("__classdict__" : Str)) = false := by decide) : DE' X F (.Name x pos) (dVar i) :=
  ⟨de_var (i := i) (hN := hN) (hv := hv) (hd := hd) (hcd := hcd)⟩
/-- a value without parts -/
def plainD : Dt → Option V
  | .non => some .non
  | .bl b => some (.bl b)
  | .int i => some (.int i)
  | .str x => some (.str x)
  | _ => none
theorem plainD_rp {K : PySem.W.Frag} {H : Hp} {ι : List Addr} {d : Dt} {v : V} (h : plainD d = some v) : Rp K H ι d v := by
  cases d <;> (first | (cases h; rfl) | cases h)
theorem de_c {d : Dt} {v : V} (h : PE X e (tC v)) (p : plainD d = some v) : DE X F e (dC d) :=
  PE.imp h fun σ H Qv ⟨σd, G, ι, Q, ok, ht, hq⟩ => hq v H d G ι ok.hg Gr.refl (plainD_rp p) ht
theorem de_int {i j pos} : DE X F (.Constant (.int i) j pos) (dC (.int i)) := de_c pe_int rfl
theorem de_int' {i j pos} : DE' X F (.Constant (.int i) j pos) (dC (.int i)) :=
  ⟨de_int ⟩
theorem de_bl {b j pos} : DE X F (.Constant (.bool b) j pos) (dC (.bl b)) := de_c pe_bl rfl
theorem de_bl' {b j pos} : DE' X F (.Constant (.bool b) j pos) (dC (.bl b)) :=
  ⟨de_bl ⟩
theorem de_non {j pos} : DE X F (.Constant .none j pos) (dC .non) := de_c pe_non rfl
theorem de_non' {j pos} : DE' X F (.Constant .none j pos) (dC .non) :=
  ⟨de_non ⟩
theorem de_str {x j pos} : DE X F (.Constant (.str x) j pos) (dC (.str x)) := de_c pe_str rfl
theorem de_str' {x j pos} : DE' X F (.Constant (.str x) j pos) (dC (.str x)) :=
  ⟨de_str ⟩
/-- a number of the module's top -/
theorem de_gint {x : Str} {i : Int} {pos : Pos} (hm : ∃ t, X.mg x = some (.int i t)) (hg : Gl X x := by rfl) (hd : (x == ("__debug__" : Str)) = false := by decide) : DE X F (.Name x pos) (dC (.int i)) := by
  obtain ⟨t, hm⟩ := hm
  exact de_c (pe_glob (v := .int i) hg hm ⟨t, rfl⟩ hd) rfl

theorem de_gint' {x : Str} {i : Int} {pos : Pos} (hm : ∃ t, X.mg x = some (.int i t)) (hg : Gl X x := by rfl) (hd : (x == ("__debug__" : Str)) = false := by decide) : DE' X F (.Name x pos) (dC (.int i)) :=
  ⟨de_gint (hm := hm) (hg := hg) (hd := hd)⟩
/-! ### two operands -/
abbrev RD2 := Dt → Dt → GD → KD → Prop
def dOp (r : RD2) (ta tb : TDE) : TDE := fun σ G Q => ta σ G fun x G1 => tb σ G1 fun y G2 => r x y G2 Q
/-- the V-level wish r follows from the data's -/
def L2R (K : PySem.W.Frag) (r : R2) (rd : RD2) : Prop :=
  ∀ (G : GD) (H : Hp) (ι : List Addr) (d1 d2 : Dt) (v1 v2 : V) (Q : KD) (Qv : VK), HG K G H ι → Rp K H ι d1 v1 → Rp K H ι d2 v2 → rd d1 d2 G Q →
    (∀ v H' d G' ι', HG K G' H' ι' → Gr K H ι H' ι' → Rp K H' ι' d v → Q d G' → Qv v H') → r v1 v2 H Qv
theorem li2 {r : R2} {rd : RD2} (hr : L2R X.K r rd) (h : PE X e (tOp r (liE X.K F ta) (liE X.K F tb))) : DE X F e (dOp rd ta tb) := by
  refine PE.imp h fun σ H Qv ⟨σd, G, ι, Q, ok, ht, hq⟩ => ?_
  refine ⟨σd, G, ι, _, ok, ht, fun v1 H1 d1 G1 ι1 h1 g1 r1 q1 => ⟨σd, G1, ι1, _, ok.to h1 g1, q1, fun v2 H2 d2 G2 ι2 h2 g2 r2 q2 => ?_⟩⟩
  exact hr G2 H2 ι2 d1 d2 v1 v2 Q Qv h2 (r1.up g2) r2 q2 fun v H' d G' ι' h3 g3 r3 q3 => hq v H' d G' ι' h3 (g1.trans (g2.trans g3)) r3 q3
def dTest (t : TDE) : TDT := fun σ G Q => t σ G fun x G' => match x with
  | .bl k => Q k G'
  | _ => False
theorem li2T {r : R2} {rd : RD2} (hr : L2R X.K r rd) (h : PT X e (tTest (tOp r (liE X.K F ta) (liE X.K F tb)))) : DT X F e (dTest (dOp rd ta tb)) := by
  refine PT.imp h fun σ H Qv ⟨σd, G, ι, Q, ok, ht, hq⟩ => ?_
  refine ⟨σd, G, ι, _, ok, ht, fun v1 H1 d1 G1 ι1 h1 g1 r1 q1 => ⟨σd, G1, ι1, _, ok.to h1 g1, q1, fun v2 H2 d2 G2 ι2 h2 g2 r2 q2 => ?_⟩⟩
  refine hr G2 H2 ι2 d1 d2 v1 v2 _ _ h2 (r1.up g2) r2 q2 fun v H' d G' ι' h3 g3 r3 q3 => ?_
  cases d with
  | bl k => exact ⟨k, r3, hq k H' G' ι' h3 (g1.trans (g2.trans g3)) q3⟩
  | _ => exact q3.elim
/-- one operand -/
def dUn (r : Dt → GD → KD → Prop) (ta : TDE) : TDE := fun σ G Q => ta σ G fun x G1 => r x G1 Q

/-! ### ints -/
def rdI (C : Int → Int → Prop) (g : Int → Int → Dt) : RD2 := fun x y G Q => match x, y with
  | .int i, .int j => C i j ∧ Q (g i j) G
  | _, _ => False
def rdI0 (g : Int → Int → Dt) : RD2 := fun x y G Q => match x, y with
  | .int i, .int j => Q (g i j) G
  | _, _ => False
theorem l2_rI {K : PySem.W.Frag} {C : Int → Int → Prop} {g : Int → Int → V} {gd : Int → Int → Dt} (hg : ∀ i j, plainD (gd i j) = some (g i j)) : L2R K (rI C g) (rdI C gd) := by
  intro G H ι d1 d2 v1 v2 Q Qv hG r1 r2 h hq
  unfold rdI at h
  split at h
  · rename_i i j
    exact ⟨i, j, r1, r2, h.1, hq _ _ _ _ _ hG Gr.refl (plainD_rp (hg i j)) h.2⟩
  · exact h.elim
theorem l2_rI0 {K : PySem.W.Frag} {g : Int → Int → V} {gd : Int → Int → Dt} (hg : ∀ i j, plainD (gd i j) = some (g i j)) : L2R K (rI0 g) (rdI0 gd) := by
  intro G H ι d1 d2 v1 v2 Q Qv hG r1 r2 h hq
  unfold rdI0 at h
  split at h
  · rename_i i j
    exact ⟨i, j, r1, r2, hq _ _ _ _ _ hG Gr.refl (plainD_rp (hg i j)) h⟩
  · exact h.elim
theorem de_sub (ha : DE X F a ta) (hb : DE X F b tb) : DE X F (.BinOp a .Sub b pos) (dOp (rdI0 fun i j => .int (i - j)) ta tb) := li2 (l2_rI0 fun _ _ => rfl) (pe_op op_sub ha hb)
theorem de_sub' (ha : DE' X F a ta) (hb : DE' X F b tb) : DE' X F (.BinOp a .Sub b pos) (dOp (rdI0 fun i j => .int (i - j)) ta tb) :=
  ⟨de_sub (ha := ha.p) (hb := hb.p)⟩
theorem de_mod (ha : DE X F a ta) (hb : DE X F b tb) : DE X F (.BinOp a .Mod b pos) (dOp (rdI (fun _ j => 0 < j) fun i j => .int (i % j)) ta tb) := li2 (l2_rI fun _ _ => rfl) (pe_op op_mod ha hb)
theorem de_mod' (ha : DE' X F a ta) (hb : DE' X F b tb) : DE' X F (.BinOp a .Mod b pos) (dOp (rdI (fun _ j => 0 < j) fun i j => .int (i % j)) ta tb) :=
  ⟨de_mod (ha := ha.p) (hb := hb.p)⟩
theorem de_fdiv (ha : DE X F a ta) (hb : DE X F b tb) : DE X F (.BinOp a .FloorDiv b pos) (dOp (rdI CDiv fun i j => .int (i / j)) ta tb) := li2 (l2_rI fun _ _ => rfl) (pe_op op_fdiv ha hb)
theorem de_fdiv' (ha : DE' X F a ta) (hb : DE' X F b tb) : DE' X F (.BinOp a .FloorDiv b pos) (dOp (rdI CDiv fun i j => .int (i / j)) ta tb) :=
  ⟨de_fdiv (ha := ha.p) (hb := hb.p)⟩
theorem dt_lt (ha : DE X F a ta) (hb : DE X F b tb) : DT X F (.Compare a [.Lt] [b] pos) (dTest (dOp (rdI0 fun i j => .bl (decide (i < j))) ta tb)) := li2T (l2_rI0 fun _ _ => rfl) (pt_cmpR op_lt ha hb (nomark _))
theorem dt_lt' (ha : DE' X F a ta) (hb : DE' X F b tb) : DT' X F (.Compare a [.Lt] [b] pos) (dTest (dOp (rdI0 fun i j => .bl (decide (i < j))) ta tb)) :=
  ⟨dt_lt (ha := ha.p) (hb := hb.p)⟩
theorem dt_gt (ha : DE X F a ta) (hb : DE X F b tb) : DT X F (.Compare a [.Gt] [b] pos) (dTest (dOp (rdI0 fun i j => .bl (decide (j < i))) ta tb)) := li2T (l2_rI0 fun _ _ => rfl) (pt_cmpR op_gt ha hb (nomark _))
theorem dt_gt' (ha : DE' X F a ta) (hb : DE' X F b tb) : DT' X F (.Compare a [.Gt] [b] pos) (dTest (dOp (rdI0 fun i j => .bl (decide (j < i))) ta tb)) :=
  ⟨dt_gt (ha := ha.p) (hb := hb.p)⟩
/-! ### is, is not, beside None, True, False -/
def isD : Dt → Dt → Bool
  | .non, .non => true
  | .bl a, .bl b => a == b
  | _, _ => false
/-- the right side: None or a truth -/
def rdIs (neg : Bool) : RD2 := fun x y G Q => match y with
  | .non => Q (.bl (neg ^^ isD x .non)) G
  | .bl b => Q (.bl (neg ^^ isD x (.bl b))) G
  | _ => False
theorem is_val {K : PySem.W.Frag} {H : Hp} {ι : List Addr} {x y : Dt} {v w : V} {u z : Value} (r1 : Rp K H ι x v) (r2 : Rp K H ι y w) (q1 : RelV v u) (q2 : RelV w z) (hy : y = .non ∨ ∃ b, y = .bl b) : plainIs u z = true ∧ (u == z) = isD x y := by
  rcases hy with rfl | ⟨b, rfl⟩
  · have e2 : w = V.non := r2
    subst e2
    cases q2
    cases x with
    | non => have e : v = V.non := r1; subst e; cases q1; exact ⟨rfl, rfl⟩
    | bl a => have e : v = V.bl a := r1; subst e; cases q1; exact ⟨rfl, rfl⟩
    | int a => have e : v = V.int a := r1; subst e; obtain ⟨t, rfl⟩ := q1; exact ⟨rfl, rfl⟩
    | str a => have e : v = V.str a := r1; subst e; obtain ⟨t, rfl⟩ := q1; exact ⟨rfl, rfl⟩
    | tup a => obtain ⟨p, _, e, _⟩ := r1; subst e; cases q1; exact ⟨rfl, rfl⟩
    | ref a => obtain ⟨p, e, _⟩ := r1; subst e; cases q1; exact ⟨rfl, rfl⟩
  · have e2 : w = V.bl b := r2
    subst e2
    cases q2
    cases x with
    | non => have e : v = V.non := r1; subst e; cases q1; exact ⟨rfl, rfl⟩
    | bl a => have e : v = V.bl a := r1; subst e; cases q1; exact ⟨rfl, by cases a <;> cases b <;> rfl⟩
    | int a => have e : v = V.int a := r1; subst e; obtain ⟨t, rfl⟩ := q1; exact ⟨rfl, rfl⟩
    | str a => have e : v = V.str a := r1; subst e; obtain ⟨t, rfl⟩ := q1; exact ⟨rfl, rfl⟩
    | tup a => obtain ⟨p, _, e, _⟩ := r1; subst e; cases q1; exact ⟨rfl, rfl⟩
    | ref a => obtain ⟨p, e, _⟩ := r1; subst e; cases q1; exact ⟨rfl, rfl⟩
/-- the same over V: what is said of the truth value -/
def rIsV (neg : Bool) : R2 := fun x y H Q => ∃ k, (∀ u z, RelV x u → RelV y z → plainIs u z = true ∧ (u == z) = k) ∧ Q (.bl (neg ^^ k)) H
theorem op_isV : OpR X (compareOp .Is) (rIsV false) := by
  intro pins s σ H x y v u Q I rx ry h
  obtain ⟨k, hk, q⟩ := h
  obtain ⟨p, e⟩ := hk v u rx ry
  refine wpAny_is_plain p (fin_bl I q ?_)
  rw [e]; cases k <;> rfl
theorem op_isNotV : OpR X (compareOp .IsNot) (rIsV true) := by
  intro pins s σ H x y v u Q I rx ry h
  obtain ⟨k, hk, q⟩ := h
  obtain ⟨p, e⟩ := hk v u rx ry
  refine wpAny_isNot_plain p (fin_bl I q ?_)
  rw [e]; cases k <;> rfl
theorem l2_is {K : PySem.W.Frag} {neg : Bool} : L2R K (rIsV neg) (rdIs neg) := by
  intro G H ι d1 d2 v1 v2 Q Qv hG r1 r2 h hq
  have go : (d2 = .non ∨ ∃ b, d2 = .bl b) → Q (.bl (neg ^^ isD d1 d2)) G → rIsV neg v1 v2 H Qv := fun hy q =>
    ⟨isD d1 d2, fun u z q1 q2 => is_val r1 r2 q1 q2 hy, hq _ H (.bl (neg ^^ isD d1 d2)) G ι hG Gr.refl rfl q⟩
  cases d2 with
  | non => exact go (.inl rfl) h
  | bl b => exact go (.inr ⟨b, rfl⟩) h
  | _ => exact h.elim
theorem de_isnot (ha : DE X F a ta) (hb : DE X F b tb) : DE X F (.Compare a [.IsNot] [b] pos) (dOp (rdIs true) ta tb) := li2 l2_is (pe_cmpR op_isNotV ha hb (nomark _))
theorem de_isnot' (ha : DE' X F a ta) (hb : DE' X F b tb) : DE' X F (.Compare a [.IsNot] [b] pos) (dOp (rdIs true) ta tb) :=
  ⟨de_isnot (ha := ha.p) (hb := hb.p)⟩
theorem dt_is (ha : DE X F a ta) (hb : DE X F b tb) : DT X F (.Compare a [.Is] [b] pos) (dTest (dOp (rdIs false) ta tb)) := li2T l2_is (pt_cmpR op_isV ha hb (nomark _))
theorem dt_is' (ha : DE' X F a ta) (hb : DE' X F b tb) : DT' X F (.Compare a [.Is] [b] pos) (dTest (dOp (rdIs false) ta tb)) :=
  ⟨dt_is (ha := ha.p) (hb := hb.p)⟩
theorem dt_isnot (ha : DE X F a ta) (hb : DE X F b tb) : DT X F (.Compare a [.IsNot] [b] pos) (dTest (dOp (rdIs true) ta tb)) := li2T l2_is (pt_cmpR op_isNotV ha hb (nomark _))

theorem dt_isnot' (ha : DE' X F a ta) (hb : DE' X F b tb) : DT' X F (.Compare a [.IsNot] [b] pos) (dTest (dOp (rdIs true) ta tb)) :=
  ⟨dt_isnot (ha := ha.p) (hb := hb.p)⟩
/-! ### == of ints, texts, truths, None (the kinds that one meets) -/
def eqS : Dt → Dt → Option Bool
  | .int i, .int j => some (decide (i = j))
  | .str x, .str y => some (decide (x = y))
  | .bl x, .bl y => some (decide (x = y))
  | .non, .non => some true
  | .non, .int _ => some false
  | .int _, .non => some false
  | .non, .str _ => some false
  | .str _, .non => some false
  | .non, .bl _ => some false
  | .bl _, .non => some false
  | .int _, .str _ => some false
  | .str _, .int _ => some false
  | _, _ => none
def rdEq0 (neg : Bool) : RD2 := fun x y G Q => match eqS x y with
  | some k => Q (.bl (neg ^^ k)) G
  | none => False
structure rdEq (neg : Bool) (x y : Dt) (G : GD) (Q : KD) : Prop where
  p : rdEq0 neg x y G Q
theorem rdEq_eq {neg : Bool} {x y : Dt} {G : GD} {Q : KD} : rdEq neg x y G Q = rdEq0 neg x y G Q := propext ⟨fun h => h.p, fun h => ⟨h⟩⟩
theorem rdEq_of {neg k : Bool} {x y : Dt} {G : GD} {Q : KD} (h : eqS x y = some k) (hq : Q (.bl (neg ^^ k)) G) : rdEq neg x y G Q := by
  rw [rdEq_eq]; unfold rdEq0
  rw [h]
  exact hq
theorem rdEq_int {neg : Bool} {i j : Int} {G : GD} {Q : KD} (hq : Q (.bl (neg ^^ decide (i = j))) G) : rdEq neg (.int i) (.int j) G Q := rdEq_of rfl hq
theorem rdEq_str {neg : Bool} {i j : Str} {G : GD} {Q : KD} (hq : Q (.bl (neg ^^ decide (i = j))) G) : rdEq neg (.str i) (.str j) G Q := rdEq_of rfl hq
theorem eqS_val {K : PySem.W.Frag} {H : Hp} {ι : List Addr} {x y : Dt} {v w : V} {k : Bool} (r1 : Rp K H ι x v) (r2 : Rp K H ι y w) (e : eqS x y = some k) : scal v w = true ∧ decide (v = w) = k := by
  cases x <;> cases y <;> (first | (cases e; done) | skip)
  all_goals (try (have e1 := r1; have e2 := r2; simp only [Rp] at e1 e2; subst e1; subst e2; simp only [eqS, Option.some.injEq] at e; subst e; simp [scal]))
theorem l2_eq {K : PySem.W.Frag} : L2R K rEq (rdEq false) := by
  intro G H ι d1 d2 v1 v2 Q Qv hG r1 r2 h hq
  replace h := h.p; unfold rdEq0 at h
  split at h
  · rename_i k e
    obtain ⟨s, q⟩ := eqS_val r1 r2 e
    refine ⟨s, ?_⟩
    rw [q]
    exact hq _ H (.bl k) G ι hG Gr.refl rfl (by simpa using h)
  · exact h.elim
theorem l2_ne {K : PySem.W.Frag} : L2R K rNe (rdEq true) := by
  intro G H ι d1 d2 v1 v2 Q Qv hG r1 r2 h hq
  replace h := h.p; unfold rdEq0 at h
  split at h
  · rename_i k e
    obtain ⟨s, q⟩ := eqS_val r1 r2 e
    refine ⟨s, ?_⟩
    rw [q]
    exact hq _ H (.bl (!k)) G ι hG Gr.refl rfl (by simpa using h)
  · exact h.elim
theorem de_eq (ha : DE X F a ta) (hb : DE X F b tb) : DE X F (.Compare a [.Eq] [b] pos) (dOp (rdEq false) ta tb) := li2 l2_eq (pe_cmpR op_eq ha hb (nomark _))
theorem de_eq' (ha : DE' X F a ta) (hb : DE' X F b tb) : DE' X F (.Compare a [.Eq] [b] pos) (dOp (rdEq false) ta tb) :=
  ⟨de_eq (ha := ha.p) (hb := hb.p)⟩
theorem dt_eq (ha : DE X F a ta) (hb : DE X F b tb) : DT X F (.Compare a [.Eq] [b] pos) (dTest (dOp (rdEq false) ta tb)) := li2T l2_eq (pt_cmpR op_eq ha hb (nomark _))
theorem dt_eq' (ha : DE' X F a ta) (hb : DE' X F b tb) : DT' X F (.Compare a [.Eq] [b] pos) (dTest (dOp (rdEq false) ta tb)) :=
  ⟨dt_eq (ha := ha.p) (hb := hb.p)⟩
theorem dt_ne (ha : DE X F a ta) (hb : DE X F b tb) : DT X F (.Compare a [.NotEq] [b] pos) (dTest (dOp (rdEq true) ta tb)) := li2T l2_ne (pt_cmpR op_ne ha hb (nomark _))

theorem dt_ne' (ha : DE' X F a ta) (hb : DE' X F b tb) : DT' X F (.Compare a [.NotEq] [b] pos) (dTest (dOp (rdEq true) ta tb)) :=
  ⟨dt_ne (ha := ha.p) (hb := hb.p)⟩
/-! ### a op1 b op2 c of ints -/
def dChain (r r' : RD2) (ta tb tc : TDE) : TDE := fun σ G Q => ta σ G fun x G1 => tb σ G1 fun y G2 => r x y G2 fun z G3 => match z with
  | .bl k => if k = true then tc σ G3 fun w' G4 => r' y w' G4 Q else Q (.bl false) G3
  | _ => False
theorem de_chain {op op' : CmpOp} {r r' : R2} {rd rd' : RD2} (ho : OpR X (compareOp op) r) (ho' : OpR X (compareOp op') r') (hr : L2R X.K r rd) (hr' : L2R X.K r' rd') (ha : DE X F a ta) (hb : DE X F b tb) (hc : DE X F c tc)
    (hm : lastMarks [op, op'] [b, c] = false := by with_unfolding_all rfl) : DE X F (.Compare a [op, op'] [b, c] pos) (dChain rd rd' ta tb tc) := by
  refine PE.imp (pe_chain ho ho' ha hb hc hm) fun σ H Qv ⟨σd, G, ι, Q, ok, ht, hq⟩ => ?_
  refine ⟨σd, G, ι, _, ok, ht, fun v1 H1 d1 G1 ι1 h1 g1 r1 q1 => ⟨σd, G1, ι1, _, ok.to h1 g1, q1, fun v2 H2 d2 G2 ι2 h2 g2 r2 q2 => ?_⟩⟩
  refine hr G2 H2 ι2 d1 d2 v1 v2 _ _ h2 (r1.up g2) r2 q2 fun v H3 d G3 ι3 h3 g3 r3 q3 => ?_
  cases d with
  | bl k =>
    refine ⟨k, r3, ?_⟩
    cases k with
    | false => exact iteF (hq _ H3 (.bl false) G3 ι3 h3 (g1.trans (g2.trans g3)) rfl q3)
    | true =>
      refine iteT ⟨σd, G3, ι3, _, ok.to h3 (g1.trans (g2.trans g3)), q3, fun v4 H4 d4 G4 ι4 h4 g4 r4 q4 => ?_⟩
      exact hr' G4 H4 ι4 d2 d4 v2 v4 Q Qv h4 (r2.up (g3.trans g4)) r4 q4 fun v H' d G' ι' h5 g5 r5 q5 => hq v H' d G' ι' h5 (g1.trans (g2.trans (g3.trans (g4.trans g5)))) r5 q5
  | _ => exact q3.elim
theorem de_lele (ha : DE X F a ta) (hb : DE X F b tb) (hc : DE X F c tc) (hm : lastMarks [CmpOp.LtE, CmpOp.LtE] [b, c] = false := by with_unfolding_all rfl) :
    DE X F (.Compare a [.LtE, .LtE] [b, c] pos) (dChain (rdI0 fun i j => .bl (decide (i ≤ j))) (rdI0 fun i j => .bl (decide (i ≤ j))) ta tb tc) :=
  de_chain op_le op_le (l2_rI0 fun _ _ => rfl) (l2_rI0 fun _ _ => rfl) ha hb hc hm

theorem de_lele' (ha : DE' X F a ta) (hb : DE' X F b tb) (hc : DE' X F c tc) (hm : lastMarks [CmpOp.LtE, CmpOp.LtE] [b, c] = false := by with_unfolding_all rfl) : DE' X F (.Compare a [.LtE, .LtE] [b, c] pos) (dChain (rdI0 fun i j => .bl (decide (i ≤ j))) (rdI0 fun i j => .bl (decide (i ≤ j))) ta tb tc) :=
  ⟨de_lele (ha := ha.p) (hb := hb.p) (hc := hc.p) (hm := hm)⟩
/-! ### and, or, not -/
variable {rest : List Expr} {tA tB' : TDT}
def dAnd (t u : TDT) : TDT := fun σ G Q => t σ G fun c G1 => if c = true then u σ G1 Q else Q false G1
def dOr (t u : TDT) : TDT := fun σ G Q => t σ G fun c G1 => if c = true then Q true G1 else u σ G1 Q
def dNot (t : TDT) : TDT := fun σ G Q => t σ G fun c G1 => Q (!c) G1
theorem dw_and1 (ha : DT X F a tA) : DW X F (.BoolOp .And [a] pos) tA := pw_and1 ha
theorem dw_and1' (ha : DT' X F a tA) : DW' X F (.BoolOp .And [a] pos) tA :=
  ⟨dw_and1 (ha := ha.p)⟩
theorem dw_or1 (ha : DT X F a tA) : DW X F (.BoolOp .Or [a] pos) tA := pw_or1 ha
theorem dw_or1' (ha : DT' X F a tA) : DW' X F (.BoolOp .Or [a] pos) tA :=
  ⟨dw_or1 (ha := ha.p)⟩
theorem dw_and (ha : DT X F a tA) (hb : DW X F (.BoolOp .And (b :: rest) pos) tB') : DW X F (.BoolOp .And (a :: b :: rest) pos) (dAnd tA tB') := by
  refine PW.imp (pw_and ha hb) fun σ H Qv ⟨σd, G, ι, Q, ok, ht, hq⟩ => ?_
  refine ⟨σd, G, ι, _, ok, ht, fun k H1 G1 ι1 h1 g1 q1 => ?_⟩
  cases k with
  | true => exact iteT ⟨σd, G1, ι1, Q, ok.to h1 g1, q1, fun k H2 G2 ι2 h2 g2 q2 => hq k H2 G2 ι2 h2 (g1.trans g2) q2⟩
  | false => exact iteF (hq false H1 G1 ι1 h1 g1 q1)
theorem dw_and' (ha : DT' X F a tA) (hb : DW' X F (.BoolOp .And (b :: rest) pos) tB') : DW' X F (.BoolOp .And (a :: b :: rest) pos) (dAnd tA tB') :=
  ⟨dw_and (ha := ha.p) (hb := hb.p)⟩
theorem dw_or (ha : DT X F a tA) (hb : DW X F (.BoolOp .Or (b :: rest) pos) tB') : DW X F (.BoolOp .Or (a :: b :: rest) pos) (dOr tA tB') := by
  refine PW.imp (pw_or ha hb) fun σ H Qv ⟨σd, G, ι, Q, ok, ht, hq⟩ => ?_
  refine ⟨σd, G, ι, _, ok, ht, fun k H1 G1 ι1 h1 g1 q1 => ?_⟩
  cases k with
  | true => exact iteT (hq true H1 G1 ι1 h1 g1 q1)
  | false => exact iteF ⟨σd, G1, ι1, Q, ok.to h1 g1, q1, fun k H2 G2 ι2 h2 g2 q2 => hq k H2 G2 ι2 h2 (g1.trans g2) q2⟩
theorem dw_or' (ha : DT' X F a tA) (hb : DW' X F (.BoolOp .Or (b :: rest) pos) tB') : DW' X F (.BoolOp .Or (a :: b :: rest) pos) (dOr tA tB') :=
  ⟨dw_or (ha := ha.p) (hb := hb.p)⟩
theorem dt_w (h : DW X F e tA) : DT X F e tA := PW.pt h
theorem dt_w' (h : DW' X F e tA) : DT' X F e tA :=
  ⟨dt_w (h := h.p)⟩
theorem dt_not (ha : DT X F a tA) : DT X F (.UnaryOp .Not a pos) (dNot tA) := by
  refine PT.imp (pt_not ha) fun σ H Qv ⟨σd, G, ι, Q, ok, ht, hq⟩ => ?_
  exact ⟨σd, G, ι, _, ok, ht, fun k H1 G1 ι1 h1 g1 q1 => hq _ H1 G1 ι1 h1 g1 q1⟩
theorem dt_not' (ha : DT' X F a tA) : DT' X F (.UnaryOp .Not a pos) (dNot tA) :=
  ⟨dt_not (ha := ha.p)⟩
/-- .. as values (truths) -/
def dAndV (ta tb : TDE) : TDE := fun σ G Q => ta σ G fun x G1 => match x with
  | .bl c => if c = true then tb σ G1 Q else Q (.bl false) G1
  | _ => False
def dOrV (ta tb : TDE) : TDE := fun σ G Q => ta σ G fun x G1 => match x with
  | .bl c => if c = true then Q (.bl true) G1 else tb σ G1 Q
  | _ => False
def dNotV (ta : TDE) : TDE := fun σ G Q => ta σ G fun x G1 => match x with
  | .bl c => Q (.bl (!c)) G1
  | _ => False
theorem de_one {op} (h : DE X F a t) : DE X F (.BoolOp op [a] pos) t := pe_one h
theorem de_one' {op} (h : DE' X F a t) : DE' X F (.BoolOp op [a] pos) t :=
  ⟨de_one (h := h.p)⟩
theorem de_and (ha : DE X F a ta) (hb : DE X F (.BoolOp .And (b :: rest) pos) tb) : DE X F (.BoolOp .And (a :: b :: rest) pos) (dAndV ta tb) := by
  refine PE.imp (pe_and ha hb) fun σ H Qv ⟨σd, G, ι, Q, ok, ht, hq⟩ => ?_
  refine ⟨σd, G, ι, _, ok, ht, fun v H1 d G1 ι1 h1 g1 r1 q1 => ?_⟩
  cases d with
  | bl k =>
    refine ⟨k, r1, ?_⟩
    cases k with
    | true => exact iteT ⟨σd, G1, ι1, Q, ok.to h1 g1, q1, fun v H2 d G2 ι2 h2 g2 r2 q2 => hq v H2 d G2 ι2 h2 (g1.trans g2) r2 q2⟩
    | false => exact iteF (hq _ H1 (.bl false) G1 ι1 h1 g1 rfl q1)
  | _ => exact q1.elim
theorem de_and' (ha : DE' X F a ta) (hb : DE' X F (.BoolOp .And (b :: rest) pos) tb) : DE' X F (.BoolOp .And (a :: b :: rest) pos) (dAndV ta tb) :=
  ⟨de_and (ha := ha.p) (hb := hb.p)⟩
def dIf (t : TDT) (ta tb : TDE) : TDE := fun σ G Q => t σ G fun c G1 => if c = true then ta σ G1 Q else tb σ G1 Q
/-! ### truth -/
def truD (G : GD) : Dt → Option Bool
  | .non => some false
  | .bl b => some b
  | .int i => some (i != 0)
  | .str _ => none
  | .tup xs => some (!xs.isEmpty)
  | .ref i => match G[i]? with
    | some (.lst xs) => some (!xs.isEmpty)
    | some (.fz xs) => some (!xs.isEmpty)
    | some (.dct kvs) => some (!kvs.isEmpty)
    | none => none
def dTru (t : TDE) : TDT := fun σ G Q => t σ G fun x G1 => match truD G1 x with
  | some k => Q k G1
  | none => False
theorem isEmpty_len {α β : Type} {xs : List α} {ys : List β} (h : xs.length = ys.length) : xs.isEmpty = ys.isEmpty := by
  cases xs <;> cases ys <;> simp_all
theorem RpK.len {K : PySem.W.Frag} {H : Hp} {ι : List Addr} {ds : List (Key × Dt)} {vs : List (Key × V)} (h : RpK K H ι ds vs) : ds.length = vs.length := by
  have := congrArg List.length h.vals.2
  simpa using this
theorem tru_val {K : PySem.W.Frag} {H : Hp} {ι : List Addr} {G : GD} {x : Dt} {v : V} {k : Bool} (hG : HG K G H ι) (r : Rp K H ι x v) (e : truD G x = some k) : TruV K v H k := by
  cases x with
  | non => have e1 : v = V.non := r; subst e1; cases e; rfl
  | bl b => have e1 : v = V.bl b := r; subst e1; cases e; rfl
  | int b => have e1 : v = V.int b := r; subst e1; cases e; rfl
  | str b => cases e
  | tup b =>
    obtain ⟨a, vs, e1, s, q⟩ := r
    subst e1
    cases e
    exact .inr (.inl ⟨vs, s, by rw [isEmpty_len q.len]⟩)
  | ref i =>
    obtain ⟨a, e1, q⟩ := r
    subst e1
    simp only [truD] at e
    split at e
    · rename_i xs z
      cases e
      obtain ⟨vs, w, rr⟩ := hG.cel i _ a z q
      exact .inl ⟨vs, .inl (.inl w), by rw [isEmpty_len rr.len]⟩
    · rename_i xs z
      cases e
      obtain ⟨vs, w, rr⟩ := hG.cel i _ a z q
      refine .inl ⟨vs, ?_, by rw [isEmpty_len rr.len]⟩
      rcases w with ⟨o, w⟩ | w
      · exact .inl (.inr ⟨o, w⟩)
      · exact .inr w
    · rename_i kvs z
      cases e
      obtain ⟨vs, w, rr⟩ := hG.cel i _ a z q
      exact .inr (.inr ⟨vs, w, by rw [isEmpty_len rr.len]⟩)
    · cases e
theorem dt_tru (ha : DE X F a ta) (he : ∀ whole, isTrue a X.env whole = (do let v ← whole; standAt a.pos; holding [v] (truthy v)) := by intro _; rfl) : DT X F a (dTru ta) := by
  refine PT.imp (pt_truth ha he) fun σ H Qv ⟨σd, G, ι, Q, ok, ht, hq⟩ => ?_
  refine ⟨σd, G, ι, _, ok, ht, fun v H1 d G1 ι1 h1 g1 r1 q1 => ?_⟩
  revert q1
  cases e : truD G1 d with
  | none => exact fun q1 => q1.elim
  | some k => exact fun q1 => ⟨k, tru_val h1 r1 e, hq k H1 G1 ι1 h1 g1 q1⟩

theorem dt_tru' (ha : DE' X F a ta) (he : ∀ whole, isTrue a X.env whole = (do let v ← whole; standAt a.pos; holding [v] (truthy v)) := by intro _; rfl) : DT' X F a (dTru ta) :=
  ⟨dt_tru (ha := ha.p) (he := he)⟩
/-! ### argument lists -/
def dNil : TDA := fun _ G Q => Q [] G
def dCons (ta : TDE) (tr : TDA) : TDA := fun σ G Q => ta σ G fun x G1 => tr σ G1 fun xs G2 => Q (x :: xs) G2
theorem da_nil : DA X F [] dNil := PA.imp pa_nil fun σ H Qv ⟨σd, G, ι, Q, ok, ht, hq⟩ => hq [] H [] G ι ok.hg Gr.refl rfl ht
theorem da_nil' : DA' X F [] dNil :=
  ⟨da_nil ⟩
theorem da_cons {es : List Expr} {tr : TDA} (ha : DE X F e ta) (hr : DA X F es tr) (hs : starEach (e :: es) X.env = (false, eval e X.env) :: starEach es X.env := by exact star_cons rfl) : DA X F (e :: es) (dCons ta tr) := by
  refine PA.imp (pa_cons ha hr hs) fun σ H Qv ⟨σd, G, ι, Q, ok, ht, hq⟩ => ?_
  refine ⟨σd, G, ι, _, ok, ht, fun v H1 d G1 ι1 h1 g1 r1 q1 => ⟨σd, G1, ι1, _, ok.to h1 g1, q1, fun vs H2 ds G2 ι2 h2 g2 r2 q2 => ?_⟩⟩
  exact hq _ H2 (d :: ds) G2 ι2 h2 (g1.trans g2) (Rps.cons (r1.up g2) r2) q2

theorem da_cons' {es : List Expr} {tr : TDA} (ha : DE' X F e ta) (hr : DA' X F es tr) (hs : starEach (e :: es) X.env = (false, eval e X.env) :: starEach es X.env := by exact star_cons rfl) : DA' X F (e :: es) (dCons ta tr) :=
  ⟨da_cons (ha := ha.p) (hr := hr.p) (hs := hs)⟩
/-! ### displays -/
def dTup (t : TDA) : TDE := fun σ G Q => t σ G fun xs G1 => xs.length ≤ sizeLine ∧ Q (.tup xs) G1
def dLst (t : TDA) : TDE := fun σ G Q => t σ G fun xs G1 => xs.length ≤ sizeLine ∧ Q (.ref G1.length) (G1 ++ [.lst xs])
/-- a new tuple at V's level -/
theorem rp_newTup {K : PySem.W.Frag} {H : Hp} {ι : List Addr} {G : GD} {ds : List Dt} {vs : List V} {p : Addr} (hG : HG K G H ι) (r : Rps K H ι ds vs) (hp : H p = none) :
    HG K G (upd H p (.tup vs)) ι ∧ Gr K H ι (upd H p (.tup vs)) ι ∧ Rp K (upd H p (.tup vs)) ι (.tup ds) (.ref p) :=
  ⟨hG.free hp, Gr.free0 hp, p, vs, rfl, .inl (.inl upd_same), r.up (Gr.free0 hp)⟩
theorem rp_newLst {K : PySem.W.Frag} {H : Hp} {ι : List Addr} {G : GD} {ds : List Dt} {vs : List V} {p : Addr} (hG : HG K G H ι) (r : Rps K H ι ds vs) (hp : H p = none) :
    HG K (G ++ [.lst ds]) (upd H p (.lst vs)) (ι ++ [p]) ∧ Gr K H ι (upd H p (.lst vs)) (ι ++ [p]) ∧ Rp K (upd H p (.lst vs)) (ι ++ [p]) (.ref G.length) (.ref p) :=
  ⟨hG.new hp ⟨vs, upd_same, r.up (Gr.free hp)⟩, Gr.free hp, p, rfl, by rw [← hG.len, List.getElem?_append_right (Nat.le_refl _)]; simp⟩
theorem de_tup {es : List Expr} {x1} {tr : TDA} (h : DA X F es tr) : DE X F (.Tuple es x1 pos) (dTup tr) := by
  refine PE.imp (pe_tup h) fun σ H Qv ⟨σd, G, ι, Q, ok, ht, hq⟩ => ?_
  refine ⟨σd, G, ι, _, ok, ht, fun vs H1 ds G1 ι1 h1 g1 r1 q1 => ⟨by rw [← r1.len]; exact q1.1, fun p hp => ?_⟩⟩
  obtain ⟨x, y, z⟩ := rp_newTup h1 r1 hp
  exact hq _ _ (.tup ds) G1 ι1 x (g1.trans y) z q1.2
theorem de_tup' {es : List Expr} {x1} {tr : TDA} (h : DA' X F es tr) : DE' X F (.Tuple es x1 pos) (dTup tr) :=
  ⟨de_tup (h := h.p)⟩
theorem de_lst {es : List Expr} {tr : TDA} (h : DA X F es tr) : DE X F (.List es pos) (dLst tr) := by
  refine PE.imp (pe_lst h) fun σ H Qv ⟨σd, G, ι, Q, ok, ht, hq⟩ => ?_
  refine ⟨σd, G, ι, _, ok, ht, fun vs H1 ds G1 ι1 h1 g1 r1 q1 => ⟨by rw [← r1.len]; exact q1.1, fun p hp => ?_⟩⟩
  obtain ⟨x, y, z⟩ := rp_newLst h1 r1 hp
  exact hq _ _ _ _ _ x (g1.trans y) z q1.2
theorem de_lst' {es : List Expr} {tr : TDA} (h : DA' X F es tr) : DE' X F (.List es pos) (dLst tr) :=
  ⟨de_lst (h := h.p)⟩
end

/-! ### blocks -/
section
variable {X : Cx} {F : Fx} {st : Stmt} {rest : List Stmt} {t u : TDS} {pos : Pos} {e : Expr} {te : TDE}
def dNext : TDS := fun D σ G => D.nx σ G
def dSeq (t u : TDS) : TDS := fun D σ G => t { D with nx := u D } σ G
theorem dss_nil : DSs X F [] dNext := PSs.imp pss_nil fun D σ H ⟨σd, G, ι, Dd, ok, ht, L⟩ => L.nx σ H σd G ι ok ht
theorem dss_nil' : DSs' X F [] dNext :=
  ⟨dss_nil ⟩
theorem dss_cons (h1 : DS X F st t) (h2 : DSs X F rest u) : DSs X F (st :: rest) (dSeq t u) := by
  refine PSs.imp (pss_cons h1 h2) fun D σ H ⟨σd, G, ι, Dd, ok, ht, L⟩ => ?_
  exact ⟨σd, G, ι, { Dd with nx := u Dd }, ok, ht, ⟨fun σ' H' σd' G' ι' ok' q => ⟨σd', G', ι', Dd, ok', q, L⟩, L.bk, L.ct, L.rt⟩⟩
theorem dss_cons' (h1 : DS' X F st t) (h2 : DSs' X F rest u) : DSs' X F (st :: rest) (dSeq t u) :=
  ⟨dss_cons (h1 := h1.p) (h2 := h2.p)⟩
theorem dss_one (h1 : DS X F st t) : DSs X F [st] t := pss_one h1
theorem dss_one' (h1 : DS' X F st t) : DSs' X F [st] t :=
  ⟨dss_one (h1 := h1.p)⟩
def dDrop (te : TDE) : TDS := fun D σ G => te σ G fun _ G1 => D.nx σ G1
theorem ds_expr (he : DE X F e te) (hs : swapsWith e none pos.line X.env = pure false := by rfl) : DS X F (.Expr e pos) (dDrop te) := by
  refine PS.imp (ps_expr he hs) fun D σ H ⟨σd, G, ι, Dd, ok, ht, L⟩ => ?_
  exact ⟨σd, G, ι, _, ok, ht, fun v H1 d G1 ι1 h1 g1 r1 q1 => L.nx σ H1 σd G1 ι1 (ok.to h1 g1) q1⟩
theorem ds_expr' (he : DE' X F e te) (hs : swapsWith e none pos.line X.env = pure false := by rfl) : DS' X F (.Expr e pos) (dDrop te) :=
  ⟨ds_expr (he := he.p) (hs := hs)⟩
def dRet (te : TDE) : TDS := fun D σ G => te σ G D.rt
theorem ds_ret (he : DE X F e te) : DS X F (.Return (some e) pos) (dRet te) := by
  refine PS.imp (ps_ret he) fun D σ H ⟨σd, G, ι, Dd, ok, ht, L⟩ => ?_
  exact ⟨σd, G, ι, _, ok, ht, fun v H1 d G1 ι1 h1 g1 r1 q1 => L.rt v H1 d G1 ι1 h1 (ok.gr.trans g1) r1 q1⟩
theorem ds_ret' (he : DE' X F e te) : DS' X F (.Return (some e) pos) (dRet te) :=
  ⟨ds_ret (he := he.p)⟩
def dIfS (c : TDT) (t u : TDS) : TDS := fun D σ G => c σ G fun b G1 => if b = true then t D σ G1 else u D σ G1
theorem ds_if {c : Expr} {a b : List Stmt} {tc : TDT} (hc : DT X F c tc) (ha : DSs X F a t) (hb : DSs X F b u) : DS X F (.If c a b pos) (dIfS tc t u) := by
  refine PS.imp (ps_if hc ha hb) fun D σ H ⟨σd, G, ι, Dd, ok, ht, L⟩ => ?_
  refine ⟨σd, G, ι, _, ok, ht, fun k H1 G1 ι1 h1 g1 q1 => ?_⟩
  cases k with
  | true => exact iteT ⟨σd, G1, ι1, Dd, ok.to h1 g1, q1, L⟩
  | false => exact iteF ⟨σd, G1, ι1, Dd, ok.to h1 g1, q1, L⟩
theorem ds_if' {c : Expr} {a b : List Stmt} {tc : TDT} (hc : DT' X F c tc) (ha : DSs' X F a t) (hb : DSs' X F b u) : DS' X F (.If c a b pos) (dIfS tc t u) :=
  ⟨ds_if (hc := hc.p) (ha := ha.p) (hb := hb.p)⟩
def dSet (i : Nat) (te : TDE) : TDS := fun D σ G => te σ G fun x G1 => D.nx (σ.set i (some x)) G1
theorem ds_set {i : Nat} {x : Str} {pos' : Pos} (hN : X.N.Nodup) (he : DE X F e te) (hi : X.N[i]? = some x := by rfl) (hx : Loc X.env.scope x := by first | exact Or.inl rfl | exact Or.inr rfl) (hs : swapsWith e (some (.Name x pos')) pos.line X.env = pure false := by rfl)
    (hf : X.fn x = true ∨ X.env.scope.names.lookup x = some .local := by first | exact .inl rfl | exact .inr rfl | assumption) : DS X F (.Assign [.Name x pos'] e pos) (dSet i te) := by
  refine PS.imp (ps_set hN hi hx he hs hf) fun D σ H ⟨σd, G, ι, Dd, ok, ht, L⟩ => ?_
  exact ⟨σd, G, ι, _, ok, ht, fun v H1 d G1 ι1 h1 g1 r1 q1 => L.nx _ H1 _ G1 ι1 ((ok.to h1 g1).set r1) q1⟩
theorem ds_set' {i : Nat} {x : Str} {pos' : Pos} (hN : X.N.Nodup) (he : DE' X F e te) (hi : X.N[i]? = some x := by rfl) (hx : Loc X.env.scope x := by first | exact Or.inl rfl | exact Or.inr rfl) (hs : swapsWith e (some (.Name x pos')) pos.line X.env = pure false := by rfl)
    (hf : X.fn x = true ∨ X.env.scope.names.lookup x = some .local := by first | exact .inl rfl | exact .inr rfl | assumption) : DS' X F (.Assign [.Name x pos'] e pos) (dSet i te) :=
  ⟨ds_set (hN := hN) (he := he.p) (hi := hi) (hx := hx) (hs := hs) (hf := hf)⟩
/-! ### targets -/
abbrev TDG := Dt → SD → GD → (SD → GD → Prop) → Prop
abbrev TDGs := List Dt → SD → GD → (SD → GD → Prop) → Prop
def liG (K : PySem.W.Frag) (F : Fx) (t : TDG) : TG := fun v σ H Qv => ∃ d σd G ι Q, Ok K F σd G σ H ι ∧ Rp K H ι d v ∧ t d σd G Q ∧ ∀ σ' H' σd' G' ι', Ok K F σd' G' σ' H' ι' → Q σd' G' → Qv σ' H'
def liGs (K : PySem.W.Frag) (F : Fx) (t : TDGs) : TGs := fun v σ H Qv => ∃ d σd G ι Q, Ok K F σd G σ H ι ∧ Rps K H ι d v ∧ t d σd G Q ∧ ∀ σ' H' σd' G' ι', Ok K F σd' G' σ' H' ι' → Gr K H ι H' ι' → Q σd' G' → Qv σ' H'
def DG (X : Cx) (F : Fx) (target : Expr) (t : TDG) : Prop := PG X target (liG X.K F t)
structure DG' (X : Cx) (F : Fx) (target : Expr) (t : TDG) : Prop where
  p : DG X F target t
/-- names alone, in order -/
def DGs (X : Cx) (F : Fx) (ts : List Expr) (t : TDGs) : Prop := PGs X ts (liGs X.K F t)
structure DGs' (X : Cx) (F : Fx) (ts : List Expr) (t : TDGs) : Prop where
  p : DGs X F ts t
theorem PG.imp {tg : Expr} {t t' : TG} (h : PG X tg t) (i : ∀ v σ H Q, t' v σ H Q → t v σ H Q) : PG X tg t' := fun pins s σ H v u Q I r q => h pins s σ H v u Q I r (i v σ H Q q)
theorem PGs.imp {tg : List Expr} {t t' : TGs} (h : PGs X tg t) (i : ∀ v σ H Q, t' v σ H Q → t v σ H Q) : PGs X tg t' := fun pins s σ H v u Q I r q => h pins s σ H v u Q I r (i v σ H Q q)
def dgName (i : Nat) : TDG := fun d σ G Q => Q (σ.set i (some d)) G
theorem dg_name {i : Nat} {x : Str} (hN : X.N.Nodup) (hi : X.N[i]? = some x := by rfl) (hx : Loc X.env.scope x := by first | exact Or.inl rfl | exact Or.inr rfl) (hf : X.fn x = true ∨ X.env.scope.names.lookup x = some .local := by first | exact .inl rfl | exact .inr rfl | assumption) : DG X F (.Name x pos) (dgName i) := by
  refine PG.imp (pg_name hN hi hx hf) fun v σ H Qv ⟨d, σd, G, ι, Q, ok, r, ht, hq⟩ => ?_
  exact hq _ H _ G ι (ok.set r) ht
theorem dg_name' {i : Nat} {x : Str} (hN : X.N.Nodup) (hi : X.N[i]? = some x := by rfl) (hx : Loc X.env.scope x := by first | exact Or.inl rfl | exact Or.inr rfl) (hf : X.fn x = true ∨ X.env.scope.names.lookup x = some .local := by first | exact .inl rfl | exact .inr rfl | assumption) : DG' X F (.Name x pos) (dgName i) :=
  ⟨dg_name (hN := hN) (hi := hi) (hx := hx) (hf := hf)⟩
def dgNil : TDGs := fun vs σ G Q => vs = [] ∧ Q σ G
def dgCons (i : Nat) (u : TDGs) : TDGs := fun vs σ G Q => match vs with
  | d :: r => u r (σ.set i (some d)) G Q
  | [] => False
theorem dgs_nil : DGs X F [] dgNil := by
  refine PGs.imp pgs_nil fun v σ H Qv ⟨d, σd, G, ι, Q, ok, r, ht, hq⟩ => ?_
  obtain ⟨e, ht⟩ := ht
  subst e
  exact ⟨r, hq σ H σd G ι ok Gr.refl ht⟩
theorem dgs_nil' : DGs' X F [] dgNil :=
  ⟨dgs_nil ⟩
theorem dgs_cons {i : Nat} {x : Str} {es : List Expr} {u : TDGs} {pos' : Pos} (hN : X.N.Nodup) (h2 : DGs X F es u) (hi : X.N[i]? = some x := by rfl) (hx : Loc X.env.scope x := by first | exact Or.inl rfl | exact Or.inr rfl) (hf : X.fn x = true ∨ X.env.scope.names.lookup x = some .local := by first | exact .inl rfl | exact .inr rfl | assumption)
    (hs : (assignEach (Expr.Name x pos' :: es) X.env).map (·.2) = assign (Expr.Name x pos') X.env :: (assignEach es X.env).map (·.2) := by rfl) : DGs X F (Expr.Name x pos' :: es) (dgCons i u) := by
  refine PGs.imp (pgs_cons (pg_name hN hi hx hf) h2 hs) fun vs σ H Qv ⟨ds, σd, G, ι, Q, ok, r, ht, hq⟩ => ?_
  cases ds with
  | nil => exact ht.elim
  | cons d dr =>
    obtain ⟨v, vr, e, r1, r2⟩ := r
    exact ⟨v, vr, e, dr, _, G, ι, Q, ok.set r1, r2, ht, hq⟩
theorem dgs_cons' {i : Nat} {x : Str} {es : List Expr} {u : TDGs} {pos' : Pos} (hN : X.N.Nodup) (h2 : DGs' X F es u) (hi : X.N[i]? = some x := by rfl) (hx : Loc X.env.scope x := by first | exact Or.inl rfl | exact Or.inr rfl) (hf : X.fn x = true ∨ X.env.scope.names.lookup x = some .local := by first | exact .inl rfl | exact .inr rfl | assumption)
    (hs : (assignEach (Expr.Name x pos' :: es) X.env).map (·.2) = assign (Expr.Name x pos') X.env :: (assignEach es X.env).map (·.2) := by rfl) : DGs' X F (Expr.Name x pos' :: es) (dgCons i u) :=
  ⟨dgs_cons (hN := hN) (h2 := h2.p) (hi := hi) (hx := hx) (hf := hf) (hs := hs)⟩
def dgTup (n : Nat) (t : TDGs) : TDG := fun d σ G Q => match d with
  | .tup xs => xs.length = n ∧ t xs σ G Q
  | _ => False
theorem dg_tup {es : List Expr} {k : Nat} {t : TDGs} {n : Nat} (h : DGs X F es t) (hc : X.calm = true := by rfl) (hn : (assignEach es X.env).length = n := by rfl) (hst : (assignEach es X.env).findIdx? (·.1) = none := by rfl) : DG X F (.Tuple es k pos) (dgTup n t) := by
  refine PG.imp (pg_tup hc h hn hst) fun v σ H Qv ⟨d, σd, G, ι, Q, ok, r, ht, hq⟩ => ?_
  cases d with
  | tup xs =>
    obtain ⟨a, vs, e, s, rr⟩ := r
    exact ⟨a, vs, e, s, by rw [← rr.len]; exact ht.1, xs, σd, G, ι, Q, ok, rr, ht.2, fun σ' H' σd' G' ι' ok' _ q => hq σ' H' σd' G' ι' ok' q⟩
  | _ => exact ht.elim
theorem dg_tup' {es : List Expr} {k : Nat} {t : TDGs} {n : Nat} (h : DGs' X F es t) (hc : X.calm = true := by rfl) (hn : (assignEach es X.env).length = n := by rfl) (hst : (assignEach es X.env).findIdx? (·.1) = none := by rfl) : DG' X F (.Tuple es k pos) (dgTup n t) :=
  ⟨dg_tup (h := h.p) (hc := hc) (hn := hn) (hst := hst)⟩
def dAsg (te : TDE) (g : TDG) : TDS := fun D σ G => te σ G fun x G1 => g x σ G1 D.nx
end
end DL
namespace DL
open PySem PySem.Spec L2
open PyProof.Rows hiding St

/-! ### loops -/
/-- slots forgotten, cells from n0 on let go -/
def Wk (n0 : Nat) (P : SD → GD → Prop) : SD → GD → Prop := fun σ G => P σ G ∨ ∃ n σ', n0 ≤ n ∧ σ'.length = σ.length ∧ (∀ (i : Nat) (d : Dt), σ'[i]? = some (some d) → σ[i]? = some (some d) ∧ bnd n d) ∧ bndG n (G.take n) ∧ P σ' (G.take n)
theorem Wk.here {n0 : Nat} {P : SD → GD → Prop} {σ : SD} {G : GD} (h : P σ G) : Wk n0 P σ G := .inl h
theorem Ok.wk {K : PySem.W.Frag} {F : Fx} {P : SD → GD → Prop} {σd : SD} {G : GD} {σ : St} {H : Hp} {ι : List Addr} (ok : Ok K F σd G σ H ι) (h : Wk F.ι.length P σd G) : ∃ σd' G' ι', Ok K F σd' G' σ H ι' ∧ P σd' G' := by
  rcases h with h | ⟨n, σ', hn, hl, hs, hb, h⟩
  · exact ⟨σd, G, ι, ok, h⟩
  · exact ⟨σ', G.take n, ι.take n, ok.weak n hn hl hs hb, h⟩
theorem Ok.re {K : PySem.W.Frag} {F F' : Fx} {σd : SD} {G : GD} {σ : St} {H : Hp} {ι : List Addr} (ok : Ok K F' σd G σ H ι) (g : Gr K F.H F.ι F'.H F'.ι) : Ok K F σd G σ H ι := ⟨ok.hg, ok.slt, g.trans ok.gr, ok.ln⟩
theorem Ok.here {K : PySem.W.Frag} {F : Fx} {σd : SD} {G : GD} {σ : St} {H : Hp} {ι : List Addr} (ok : Ok K F σd G σ H ι) : Ok K ⟨H, ι⟩ σd G σ H ι := ⟨ok.hg, ok.slt, Gr.refl, ok.ln⟩
def exS (K : PySem.W.Frag) (t : TDS) : TS := fun D σ H => ∃ F, liS K F t D σ H
def exG (K : PySem.W.Frag) (t : TDG) : TG := fun v σ H Q => ∃ F, liG K F t v σ H Q
def exT (K : PySem.W.Frag) (t : TDT) : TT := fun σ H Q => ∃ F, liT K F t σ H Q
section
variable {X : Cx} {F : Fx} {pos : Pos} {tg : Expr}
theorem exS_of {st : List Stmt} {t : TDS} (h : ∀ F, DSs X F st t) : PSs X st (exS X.K t) := fun pins s σ H D I ⟨F, q⟩ => h F pins s σ H D I q
theorem exG_of {t : TDG} (h : ∀ F, DG X F tg t) : PG X tg (exG X.K t) := fun pins s σ H v u Q I r ⟨F, q⟩ => h F pins s σ H v u Q I r q
theorem exT_of {c : Expr} {t : TDT} (h : ∀ F, DT X F c t) : PT X c (exT X.K t) := fun pins s σ H Q I ⟨F, q⟩ => h F pins s σ H Q I q

/-- so many turns are enough -/
def whl (n0 : Nat) (c : TDT) (tb : TDS) (D : EndsD) : Nat → SD → GD → Prop
  | 0, _, _ => False
  | m + 1, σ, G => c σ G fun b G1 => if b = true then tb { D with nx := Wk n0 (whl n0 c tb D m), ct := Wk n0 (whl n0 c tb D m), bk := D.nx } σ G1 else D.nx σ G1
def dWhile (c : TDT) (tb : TDS) : TDS := fun D σ G => ∃ m, whl G.length c tb D m σ G
theorem ds_while {c : Expr} {body : List Stmt} {tc : TDT} {tb : TDS} (hc : ∀ F, DT X F c tc) (hb : ∀ F, DSs X F body tb) (hp : PassesOwn (model X.prog X.w) X.A X.env X.xe := by exact PassesOwn.never) : DS X F (.While c body [] pos) (dWhile tc tb) := by
  refine PS.imp (ps_while hp (exT_of hc) (exS_of hb)) fun D σ H0 ⟨σd, G0, ι0, Dd, ok, ht, L⟩ => ?_
  obtain ⟨m0, ht⟩ := ht
  have hn : G0.length = (Fx.mk H0 ι0).ι.length := ok.hg.len.symm
  have gF := ok.gr
  rw [hn] at ht
  refine ⟨fun m σ H => ∃ σd G ι, Ok X.K ⟨H0, ι0⟩ σd G σ H ι ∧ whl (Fx.mk H0 ι0).ι.length tc tb Dd m σd G, ⟨m0, σd, G0, ι0, ok.here, ht⟩, ?_⟩
  rintro m σ H ⟨σd, G, ι, ok, ht⟩
  cases m with
  | zero => exact ht.elim
  | succ m =>
    refine ⟨⟨H0, ι0⟩, σd, G, ι, _, ok, ht, fun k H1 G1 ι1 h1 g1 q1 => ?_⟩
    cases k with
    | false => exact iteF (L.nx σ H1 σd G1 ι1 ((ok.to h1 g1).re gF) q1)
    | true =>
      refine iteT ⟨fun σ' H' => ∃ σd G ι, Ok X.K ⟨H0, ι0⟩ σd G σ' H' ι ∧ whl (Fx.mk H0 ι0).ι.length tc tb Dd m σd G, fun σ' H' q => ⟨m, Nat.lt_succ_self m, q⟩, ?_⟩
      have nx : ∀ σ' H' σd' G' ι', Ok X.K ⟨H0, ι0⟩ σd' G' σ' H' ι' → Wk (Fx.mk H0 ι0).ι.length (whl (Fx.mk H0 ι0).ι.length tc tb Dd m) σd' G' → ∃ σd G ι, Ok X.K ⟨H0, ι0⟩ σd G σ' H' ι ∧ whl (Fx.mk H0 ι0).ι.length tc tb Dd m σd G := fun σ' H' σd' G' ι' ok' q => ok'.wk q
      exact ⟨⟨H0, ι0⟩, σd, G1, ι1, _, ok.to h1 g1, q1, ⟨nx, fun σ' H' σd' G' ι' ok' q => L.nx σ' H' σd' G' ι' (ok'.re gF) q, nx, fun v H' d G' ι' h' g' r' q' => L.rt v H' d G' ι' h' (gF.trans g') r' q'⟩⟩

theorem ds_while' {c : Expr} {body : List Stmt} {tc : TDT} {tb : TDS} (hc : ∀ F, DT' X F c tc) (hb : ∀ F, DSs' X F body tb) (hp : PassesOwn (model X.prog X.w) X.A X.env X.xe := by exact PassesOwn.never) : DS' X F (.While c body [] pos) (dWhile tc tb) :=
  ⟨ds_while (hc := fun F => (hc F).p) (hb := fun F => (hb F).p) (hp := hp)⟩
/-- an iterator over known items; W: what must stay of the cells -/
structure ItD (K : PySem.W.Frag) (J : It) (ds : List Dt) (W : GD → Prop) (H0 : Hp) (ι0 : List Addr) : Prop where
  stop : ∀ G H ι, HG K G H ι → Gr K H0 ι0 H ι → W G → J.stop ds.length H
  go : ∀ (i : Nat) (d : Dt) G H ι, ds[i]? = some d → HG K G H ι → Gr K H0 ι0 H ι → W G → J.go i H ∧ ∀ x H2, J.yld i H x H2 → HG K G H2 ι ∧ Gr K H ι H2 ι ∧ Rp K H2 ι d x
abbrev TDI := SD → GD → (List Dt → (GD → Prop) → GD → Prop) → Prop
def liI (K : PySem.W.Frag) (F : Fx) (t : TDI) : TI := fun σ H R => ∃ σd G ι Q, Ok K F σd G σ H ι ∧ t σd G Q ∧
  ∀ J H' ds W G' ι', HG K G' H' ι' → Gr K H ι H' ι' → ItD K J ds W H' ι' → Q ds W G' → R J H'
def DI (X : Cx) (F : Fx) (tg iter : Expr) (t : TDI) : Prop := PI X tg iter (liI X.K F t)
structure DI' (X : Cx) (F : Fx) (tg iter : Expr) (t : TDI) : Prop where
  p : DI X F tg iter t
theorem PI.imp {it : Expr} {t t' : TI} (h : PI X tg it t) (i : ∀ σ H R, t' σ H R → t σ H R) : PI X tg it t' := fun pins s σ H R I q => h pins s σ H R I (i σ H R q)
def lp (n0 : Nat) (g : TDG) (tb : TDS) (D : EndsD) (W : GD → Prop) : List Dt → SD → GD → Prop
  | [], σ, G => W G ∧ D.nx σ G
  | d :: r, σ, G => W G ∧ g d σ G fun σ2 G2 => tb { D with nx := Wk n0 (lp n0 g tb D W r), ct := Wk n0 (lp n0 g tb D W r), bk := D.nx } σ2 G2
def dFor (ti : TDI) (g : TDG) (tb : TDS) : TDS := fun D σ G => ti σ G fun ds W G1 => lp G1.length g tb D W ds σ G1
theorem ds_for {iter : Expr} {body : List Stmt} {ti : TDI} {g : TDG} {tb : TDS} (hi : DI X F tg iter ti) (hg : ∀ F, DG X F tg g) (hb : ∀ F, DSs X F body tb) (hp : PassesOwn (model X.prog X.w) X.A X.env X.xe := by exact PassesOwn.never) (hc : X.calm = true := by rfl)
    (hs : ∀ x, foldedSetIterable iter X.env x = pure x := by intro _; rfl) : DS X F (.For tg iter body [] pos) (dFor ti g tb) := by
  refine PS.imp (ps_for hp hc hi (exG_of hg) (exS_of hb) hs) fun D σ H ⟨σd, G, ι, Dd, ok, ht, L⟩ => ?_
  refine ⟨σd, G, ι, _, ok, ht, fun J H0 ds W G0 ι0 h0 g0 it q0 => ?_⟩
  have ok0 := ok.to h0 g0
  have gF := ok0.gr
  have hn : G0.length = (Fx.mk H0 ι0).ι.length := h0.len.symm
  rw [hn] at q0
  refine ⟨fun i m σ H => ∃ σd G ι, Ok X.K ⟨H0, ι0⟩ σd G σ H ι ∧ i ≤ ds.length ∧ m = ds.length - i ∧ lp (Fx.mk H0 ι0).ι.length g tb Dd W (ds.drop i) σd G, ⟨ds.length, σd, G0, ι0, ok0.here, Nat.zero_le _, rfl, q0⟩, ?_⟩
  rintro i m σ H ⟨σd, G, ι, ok, hi, rfl, q⟩
  by_cases hlt : i < ds.length
  · rw [List.drop_eq_getElem_cons hlt] at q
    obtain ⟨hW, q⟩ := q
    obtain ⟨go, yl⟩ := it.go i ds[i] G H ι (by simp [hlt]) ok.hg ok.gr hW
    refine .inr ⟨go, fun σ' H' => ∃ σd G ι, Ok X.K ⟨H0, ι0⟩ σd G σ' H' ι ∧ lp (Fx.mk H0 ι0).ι.length g tb Dd W (ds.drop (i + 1)) σd G, fun σ' H' ⟨σd', G', ι', ok', q'⟩ => ⟨ds.length - (i + 1), by omega, σd', G', ι', ok', hlt, rfl, q'⟩, fun x H2 y => ?_⟩
    obtain ⟨h2, g2, r2⟩ := yl x H2 y
    refine ⟨⟨H0, ι0⟩, ds[i], σd, G, ι, _, ok.to h2 g2, r2, q, fun σ3 H3 σd3 G3 ι3 ok3 q3 => ?_⟩
    have nx : ∀ σ' H' σd' G' ι', Ok X.K ⟨H0, ι0⟩ σd' G' σ' H' ι' → Wk (Fx.mk H0 ι0).ι.length (lp (Fx.mk H0 ι0).ι.length g tb Dd W (ds.drop (i + 1))) σd' G' → ∃ σd G ι, Ok X.K ⟨H0, ι0⟩ σd G σ' H' ι ∧ lp (Fx.mk H0 ι0).ι.length g tb Dd W (ds.drop (i + 1)) σd G := fun σ' H' σd' G' ι' ok' q => ok'.wk q
    exact ⟨⟨H0, ι0⟩, σd3, G3, ι3, _, ok3, q3, ⟨nx, fun σ' H' σd' G' ι' ok' q => L.nx σ' H' σd' G' ι' (ok'.re gF) q, nx, fun v H' d G' ι' h' g' r' q' => L.rt v H' d G' ι' h' (gF.trans g') r' q'⟩⟩
  · have e : i = ds.length := by omega
    subst e
    rw [List.drop_eq_nil_of_le (Nat.le_refl _)] at q
    exact .inl ⟨it.stop G H ι ok.hg ok.gr q.1, L.nx σ H σd G ι (ok.re gF) q.2⟩

theorem ds_for' {iter : Expr} {body : List Stmt} {ti : TDI} {g : TDG} {tb : TDS} (hi : DI' X F tg iter ti) (hg : ∀ F, DG' X F tg g) (hb : ∀ F, DSs' X F body tb) (hp : PassesOwn (model X.prog X.w) X.A X.env X.xe := by exact PassesOwn.never) (hc : X.calm = true := by rfl)
    (hs : ∀ x, foldedSetIterable iter X.env x = pure x := by intro _; rfl) : DS' X F (.For tg iter body [] pos) (dFor ti g tb) :=
  ⟨ds_for (hi := hi.p) (hg := fun F => (hg F).p) (hb := fun F => (hb F).p) (hp := hp) (hc := hc) (hs := hs)⟩
/-! what is walked: a tuple, a list, a range -/
def cellL (G : GD) (i : Nat) : Option (List Dt) := match G[i]? with
  | some (.lst xs) => some xs
  | some (.fz xs) => some xs
  | _ => none
theorem cellL_sq {K : PySem.W.Frag} {G : GD} {H : Hp} {ι : List Addr} {i : Nat} {xs : List Dt} {a : Addr} (hG : HG K G H ι) (q : ι[i]? = some a) (e : cellL G i = some xs) : ∃ vs, SqL K H a vs ∧ Rps K H ι xs vs := by
  unfold cellL at e
  split at e
  · rename_i ys z
    cases e
    obtain ⟨vs, w, r⟩ := hG.cel i _ a z q
    exact ⟨vs, .inl (.inl w), r⟩
  · rename_i ys z
    cases e
    obtain ⟨vs, w, r⟩ := hG.cel i _ a z q
    refine ⟨vs, ?_, r⟩
    rcases w with ⟨o, w⟩ | w
    · exact .inl (.inr ⟨o, w⟩)
    · exact .inr w
  · cases e
theorem itt_D {K : PySem.W.Frag} {H0 : Hp} {ι0 : List Addr} {a : Addr} {xs : List Dt} {vs : List V} (s : SqT K H0 a vs) (r : Rps K H0 ι0 xs vs) : ItD K (Itt K a) xs (fun _ => True) H0 ι0 where
  stop := fun G H ι hG g _ => ⟨vs, g.tup _ _ s, by rw [r.len]; exact Nat.le_refl _⟩
  go := fun i d G H ι e hG g _ => by
    obtain ⟨v, q, rv⟩ := r.get e
    refine ⟨⟨vs, v, g.tup _ _ s, q⟩, fun x H2 y => ?_⟩
    obtain ⟨rfl, y⟩ := y
    have y2 := y vs (g.tup _ _ s)
    rw [q] at y2
    cases y2
    exact ⟨hG, Gr.refl, rv.up g⟩
theorem itl_D {K : PySem.W.Frag} {H0 : Hp} {ι0 : List Addr} {a : Addr} {i : Nat} {xs : List Dt} (q : ι0[i]? = some a) : ItD K (Itl K a) xs (fun G => cellL G i = some xs) H0 ι0 where
  stop := fun G H ι hG g w => by
    obtain ⟨vs, s, r⟩ := cellL_sq hG (g.at q) w
    exact ⟨vs, s, by rw [r.len]; exact Nat.le_refl _⟩
  go := fun j d G H ι e hG g w => by
    obtain ⟨vs, s, r⟩ := cellL_sq hG (g.at q) w
    obtain ⟨v, z, rv⟩ := r.get e
    refine ⟨⟨vs, v, s, z⟩, fun x H2 y => ?_⟩
    obtain ⟨rfl, y⟩ := y
    have y2 := y vs s
    rw [z] at y2
    cases y2
    exact ⟨hG, Gr.refl, rv⟩
def rngD (lo : Int) (n : Nat) : List Dt := (List.range n).map fun (i : Nat) => Dt.int (lo + i)
def diRng1 (ta : TDA) : TDI := fun σ G R => ta σ G fun ds G1 => match ds with
  | [.int j] => (-(2 ^ 62) ≤ j ∧ j < 2 ^ 62) ∧ R (rngD 0 j.toNat) (fun _ => True) G1
  | _ => False
theorem itr_D {K : PySem.W.Frag} {H0 : Hp} {ι0 : List Addr} {lo : Int} {n : Nat} : ItD K (Itr lo n) (rngD lo n) (fun _ => True) H0 ι0 where
  stop := fun G H ι hG g _ => by show n ≤ (rngD lo n).length; simp [rngD]
  go := fun i d G H ι e hG g _ => by
    have hi : i < n := by
      have := (List.getElem?_eq_some_iff.mp e).1
      simpa [rngD] using this
    refine ⟨hi, fun x H2 y => ?_⟩
    obtain ⟨rfl, rfl⟩ := y
    have e2 : d = Dt.int (lo + i) := by
      simp [rngD, hi] at e
      exact e.symm
    subst e2
    exact ⟨hG, Gr.refl, rfl⟩
theorem di_rng1 {a : Expr} {ta : TDA} {p pos : Pos} (ha : DA X F [a] ta) (hm : X.mg "range" = none) (hg : Gl X "range" := by rfl) (hs : starEach [a] X.env = [(false, eval a X.env)] := by exact star_one rfl) : DI X F tg (.Call (.Name "range" p) [a] [] pos) (diRng1 ta) := by
  refine PI.imp (pi_range1 hg hm ha hs) fun σ H R ⟨σd, G, ι, Q, ok, ht, hq⟩ => ⟨σd, G, ι, _, ok, ht, fun vs H1 ds G1 ι1 h1 g1 r1 q1 => ?_⟩
  unfold diRng1 at ht
  split at q1
  · rename_i j
    obtain ⟨v, r, e, a1, b1⟩ := r1
    have b2 : r = [] := b1
    subst b2
    have a2 : v = V.int j := a1
    subst a2
    exact ⟨j, e, q1.1.1, q1.1.2, hq _ H1 _ _ G1 ι1 h1 g1 itr_D q1.2⟩
  · exact q1.elim
theorem di_rng1' {a : Expr} {ta : TDA} {p pos : Pos} (ha : DA' X F [a] ta) (hm : X.mg "range" = none) (hg : Gl X "range" := by rfl) (hs : starEach [a] X.env = [(false, eval a X.env)] := by exact star_one rfl) : DI' X F tg (.Call (.Name "range" p) [a] [] pos) (diRng1 ta) :=
  ⟨di_rng1 (ha := ha.p) (hm := hm) (hg := hg) (hs := hs)⟩
end

/-! ### calls of the text's defs -/
abbrev SpD := List Dt → GD → KD → Prop
def liSp (K : PySem.W.Frag) (n : Nat) (sp : SpD) : Sp := fun vs H Q E => ∃ ds G ι Qd, ds.length = n ∧ HG K G H ι ∧ Rps K H ι ds vs ∧ sp ds G Qd ∧
  ∀ v H' d G' ι', HG K G' H' ι' → Gr K H ι H' ι' → Rp K H' ι' d v → Qd d G' → Q v H'
def dCall (n : Nat) (sp : SpD) (t : TDA) : TDE := fun σ G Q => t σ G fun ds G1 => ds.length = n ∧ sp ds G1 Q
/-- what a def's body is to reach: cells beyond n are let go -/
def RetD (G : GD) (Q : KD) : KD := fun d G' => Q d G' ∨ ∃ n, G.length ≤ n ∧ bnd n d ∧ bndG n (G'.take n) ∧ Q d (G'.take n)
def endsD (G : GD) (Q : KD) : EndsD := { nx := fun _ G' => RetD G Q .non G', rt := RetD G Q }
def startD (N : List Str) (ds : List Dt) : SD := ds.map some ++ List.replicate (N.length - ds.length) none
theorem RetD.pure {G J : GD} {Q : KD} {d : Dt} (hG : bndG G.length G) (hb : bnd G.length d) (h : Q d G) : RetD G Q d (G ++ J) :=
  .inr ⟨G.length, Nat.le_refl _, hb, by simpa using hG, by simpa using h⟩
theorem RetD.all {G G' : GD} {Q : KD} {d : Dt} (h : Q d G') : RetD G Q d G' := .inl h
section
variable {X : Cx} {F : Fx} {k : Nat} {f : Addr} {fd : FuncData} {ps : List Str} {sp : SpD} {x : Str} {p pos : Pos} {e : Expr} {es : List Expr} {t : TDA}
theorem de_call (Fk : FnOk X.prog X.w X.K X.mg X.base CX0 k f fd ps (liSp X.K ps.length sp)) (hr : Room k X.A) (hm : X.mg x = some (.ref f)) (hk : PySem.W.keepIn X.K (.ref f) = true) (hb : Binds X.K fd ps []) (ha : DA X F (e :: es) t) (hg : Gl X x := by rfl)
    (hdb : (x == ("__debug__" : Str)) = false := by decide) (he : starEach (e :: es) X.env = (false, eval e X.env) :: starEach es X.env := by exact star_cons rfl) (hpl : (backTo pos (starEach es X.env)).any (·.1) = false := by exact back_any rfl) : DE X F (.Call (.Name x p) (e :: es) [] pos) (dCall ps.length sp t) := by
  refine PE.imp (pe_call (E := E0) Fk hr hg hm hk hb .nil pass0 ha hdb he hpl) fun σ H Qv ⟨σd, G, ι, Q, ok, ht, hq⟩ => ⟨σd, G, ι, _, ok, ht, fun vs H1 ds G1 ι1 h1 g1 r1 q1 => ?_⟩
  exact ⟨ds, G1, ι1, Q, q1.1, h1, by rw [List.append_nil]; exact r1, q1.2, fun v H' d G' ι' h' g' r' q' => hq v H' d G' ι' h' (g1.trans g') r' q'⟩
end
theorem startD_at {N : List Str} {ds : List Dt} {i : Nat} {d : Dt} (h : (startD N ds)[i]? = some (some d)) : ds[i]? = some d := by
  unfold startD at h
  by_cases hi : i < ds.length
  · rw [List.getElem?_append_left (by simpa using hi), List.getElem?_map] at h
    cases e : ds[i]? with
    | none => rw [e] at h; cases h
    | some a => rw [e] at h; cases h; rfl
  · rw [List.getElem?_append_right (by simpa using hi), List.getElem?_replicate] at h
    split at h <;> cases h
theorem start_ok {K : PySem.W.Frag} {N : List Str} {ds : List Dt} {vs : List V} {G : GD} {H : Hp} {ι : List Addr} (hG : HG K G H ι) (r : Rps K H ι ds vs) : Ok K ⟨H, ι⟩ (startD N ds) G (L2.start N vs) H ι := by
  refine ⟨hG, fun i d e => ?_, Gr.refl, ?_⟩
  · obtain ⟨v, q, rv⟩ := r.get (startD_at e)
    refine ⟨v, ?_, rv⟩
    unfold L2.start
    rw [List.getElem?_append_left (by simpa using (List.getElem?_eq_some_iff.mp q).1), List.getElem?_map, q]
    rfl
  · unfold startD L2.start
    simp [r.len]
section
variable {P : Program} {w : World} {K : PySem.W.Frag} {mg : Str → Option Value} {base : Heap}
/-- THE RULE for a def over data -/
theorem okD {x qual : Str} {st : Stmt} {f : Addr} {fd : FuncData} {N ps : List Str} {k : Nat} {sp : SpD} (Fn : Fun K x qual st f fd) (S : FnScope N ps (defScope st))
    (hbody : ∀ (cdv : Value) (A : Around) (outer : List Env) (s : Shared) (H : Hp) (E : XK), Room k (A.deeper (envOfC qual (defScope st) s.heap.objs.size f cdv)) →
      ∃ td, (∀ F, DSs (cxOf CX0 P w K mg base N qual (defScope st) f cdv A outer s H E).nox F (defBody st) td) ∧ ∀ (ds : List Dt) (G : GD) (Q : KD), ds.length = ps.length → sp ds G Q → bnds G.length ds → bndG G.length G → td (endsD G Q) (startD N ds) G) :
    FnOk P w K mg base CX0 (k + 1) f fd ps (liSp K ps.length sp) := by
  refine Fn.ok S (fun vs H Q E ⟨ds, G, ι, Qd, hl, hG, r, _⟩ => by rw [← r.len]; exact hl) fun cdv A outer s H vs Q E hr ⟨ds, G, ι, Qd, hl, hG, r, hsp, hq⟩ => ?_
  obtain ⟨td, ht, hd⟩ := hbody cdv A outer s H E hr
  refine ⟨_, ht ⟨H, ι⟩, startD N ds, G, ι, endsD G Qd, start_ok hG r, hd ds G Qd hl hsp (by rw [← hG.len]; exact Rps.bd _ _ r) hG.bd, ?_⟩
  have fin : ∀ v H' d G' ι', HG K G' H' ι' → Gr K H ι H' ι' → Rp K H' ι' d v → RetD G Qd d G' → Q v H' := fun v H' d G' ι' h' g' r' z => by
    rcases z with q | ⟨n, hn, hb, hbG, q⟩
    · exact hq v H' d G' ι' h' g' r' q
    have ok : Ok K ⟨H, ι⟩ [] G' [] H' ι' := ⟨h', fun i d e => by simp at e, g', rfl⟩
    have ok2 := ok.weak (σd' := []) n (by rw [← hG.len] at hn; exact hn) rfl (fun i d e => by simp at e) hbG
    exact hq v H' d (G'.take n) (ι'.take n) ok2.hg ok2.gr (Rp.cut n _ _ r' hb) q
  exact ⟨fun σ' H' σd' G' ι' ok' q => fin .non H' .non G' ι' ok'.hg ok'.gr rfl q, fun _ _ _ _ _ _ q => q.elim, fun _ _ _ _ _ _ q => q.elim, fun v H' d G' ι' h' g' r' q' => fin v H' d G' ι' h' g' r' q'⟩
end
end DL
namespace DL
open PySem PySem.Spec L2
open PyProof.Rows hiding St

theorem bt_int : bootBuiltins "int" = some (.type "int") := by decide +kernel
theorem bt_bool : bootBuiltins "bool" = some (.type "bool") := by decide +kernel
theorem bt_str : bootBuiltins "str" = some (.type "str") := by decide +kernel
theorem bt_list : bootBuiltins "list" = some (.type "list") := by decide +kernel
theorem bt_tuple : bootBuiltins "tuple" = some (.type "tuple") := by decide +kernel
theorem bt_isinstance : bootBuiltins "isinstance" = some (.builtin "isinstance") := by decide +kernel
/-! ### built-in functions and types by values -/
abbrev RDA := List Dt → GD → KD → Prop
def LCR (K : PySem.W.Frag) (r : List V → Hp → VK → Prop) (rd : RDA) : Prop :=
  ∀ (G : GD) (H : Hp) (ι : List Addr) (ds : List Dt) (vs : List V) (Q : KD) (Qv : VK), HG K G H ι → Rps K H ι ds vs → rd ds G Q →
    (∀ v H' d G' ι', HG K G' H' ι' → Gr K H ι H' ι' → Rp K H' ι' d v → Q d G' → Qv v H') → r vs H Qv
def dCB (rd : RDA) (t : TDA) : TDE := fun σ G Q => t σ G fun ds G1 => rd ds G1 Q
section
variable {X : Cx} {F : Fx} {e o a b : Expr} {es : List Expr} {t : TDA} {pos p : Pos} {x : Str} {id T : String} {r : List V → Hp → VK → Prop} {rd : RDA} {ta tb to : TDE}
theorem liCB (hr : LCR X.K r rd) (h : PE X e (tCB r (liA X.K F t))) : DE X F e (dCB rd t) := by
  refine PE.imp h fun σ H Qv ⟨σd, G, ι, Q, ok, ht, hq⟩ => ⟨σd, G, ι, _, ok, ht, fun vs H1 ds G1 ι1 h1 g1 r1 q1 => ?_⟩
  exact hr G1 H1 ι1 ds vs Q Qv h1 r1 q1 fun v H' d G' ι' h' g' r' q' => hq v H' d G' ι' h' (g1.trans g') r' q'
theorem de_callB (hc : CallR X (.builtin id) r) (hl : LCR X.K r rd) (hv : bootBuiltins x = some (.builtin id)) (ha : DA X F (e :: es) t) (hm : X.mg x = none) (hg : Gl X x := by rfl) (hn : x ≠ "__name__" := by decide) (hdb : (x == ("__debug__" : Str)) = false := by decide)
    (he : starEach (e :: es) X.env = (false, eval e X.env) :: starEach es X.env := by exact star_cons rfl) (hpl : (backTo pos (starEach es X.env)).any (·.1) = false := by exact back_any rfl) : DE X F (.Call (.Name x p) (e :: es) [] pos) (dCB rd t) :=
  liCB hl (pe_callB hc hg hm hv ha hn hdb he hpl)
theorem de_callTy (hc : CallR X (.type T) r) (hl : LCR X.K r rd) (hv : bootBuiltins x = some (.type T)) (ha : DA X F (e :: es) t) (hm : X.mg x = none) (hg : Gl X x := by rfl) (hn : x ≠ "__name__" := by decide) (hdb : (x == ("__debug__" : Str)) = false := by decide)
    (he : starEach (e :: es) X.env = (false, eval e X.env) :: starEach es X.env := by exact star_cons rfl) (hpl : (backTo pos (starEach es X.env)).any (·.1) = false := by exact back_any rfl) : DE X F (.Call (.Name x p) (e :: es) [] pos) (dCB rd t) :=
  liCB hl (pe_callTy hc hg hm hv ha hn hdb he hpl)
theorem de_callTy' (hc : CallR X (.type T) r) (hl : LCR X.K r rd) (hv : bootBuiltins x = some (.type T)) (ha : DA' X F (e :: es) t) (hm : X.mg x = none) (hg : Gl X x := by rfl) (hn : x ≠ "__name__" := by decide) (hdb : (x == ("__debug__" : Str)) = false := by decide)
    (he : starEach (e :: es) X.env = (false, eval e X.env) :: starEach es X.env := by exact star_cons rfl) (hpl : (backTo pos (starEach es X.env)).any (·.1) = false := by exact back_any rfl) : DE' X F (.Call (.Name x p) (e :: es) [] pos) (dCB rd t) :=
  ⟨de_callTy (hc := hc) (hl := hl) (hv := hv) (ha := ha.p) (hm := hm) (hg := hg) (hn := hn) (hdb := hdb) (he := he) (hpl := hpl)⟩
/-! ### len -/
def lenD (G : GD) : Dt → Option Nat
  | .tup xs => some xs.length
  | .ref i => match G[i]? with
    | some (.lst xs) => some xs.length
    | some (.fz xs) => some xs.length
    | some (.dct kvs) => some kvs.length
    | none => none
  | _ => none
def rdLen0 : RDA := fun ds G Q => match ds with
  | [d] => match lenD G d with
    | some n => Q (.int n) G
    | none => False
  | _ => False
structure rdLen (ds : List Dt) (G : GD) (Q : KD) : Prop where
  p : rdLen0 ds G Q
theorem rdLen_eq {ds : List Dt} {G : GD} {Q : KD} : rdLen ds G Q = rdLen0 ds G Q := propext ⟨fun h => h.p, fun h => ⟨h⟩⟩
def rLenV (K : PySem.W.Frag) : List V → Hp → VK → Prop := fun xs H Q => (∃ p ys, xs = [V.ref p] ∧ (SqL K H p ys ∨ SqT K H p ys) ∧ Q (.int ys.length) H) ∨ ∃ a kvs, xs = [V.ref a] ∧ H a = some (.dK kvs) ∧ Q (.int kvs.length) H
theorem call_lenD : CallR X (.builtin "len") (fun xs H Q => ∃ a kvs, xs = [V.ref a] ∧ H a = some (.dK kvs) ∧ Q (.int kvs.length) H) := by
  intro pins s σ H xs us Q I r h
  obtain ⟨a, kvs, rfl, e, q⟩ := h
  obtain ⟨u, rfl, ru⟩ := vals1 r
  cases ru
  exact d_len I (.inl e) fun t s' I' => ⟨.int kvs.length, H, I', ⟨t, rfl⟩, q⟩
theorem call_lenV : CallR X (.builtin "len") (rLenV X.K) := CallR.or call_len_seq call_lenD
theorem rps1 {K : PySem.W.Frag} {H : Hp} {ι : List Addr} {d : Dt} {vs : List V} (h : Rps K H ι [d] vs) : ∃ v, vs = [v] ∧ Rp K H ι d v := by
  obtain ⟨v, r, e, a, b⟩ := h
  have b2 : r = [] := b
  subst b2
  exact ⟨v, e, a⟩
theorem rps2 {K : PySem.W.Frag} {H : Hp} {ι : List Addr} {d d' : Dt} {vs : List V} (h : Rps K H ι [d, d'] vs) : ∃ v v', vs = [v, v'] ∧ Rp K H ι d v ∧ Rp K H ι d' v' := by
  obtain ⟨v, r, e, a, b⟩ := h
  obtain ⟨v', e', a'⟩ := rps1 b
  subst e'
  exact ⟨v, v', e, a, a'⟩
theorem l_len {K : PySem.W.Frag} : LCR K (rLenV K) rdLen := by
  intro G H ι ds vs Q Qv hG r h hq
  replace h := h.p; unfold rdLen0 at h
  split at h
  · rename_i d
    obtain ⟨v, e, rv⟩ := rps1 r
    subst e
    split at h
    · rename_i n en
      have fin : Qv (.int n) H := hq _ H (.int n) G ι hG Gr.refl rfl h
      cases d with
      | tup xs =>
        obtain ⟨a, ws, e, s, rr⟩ := rv
        subst e
        cases en
        exact .inl ⟨a, ws, rfl, .inr s, by rw [← rr.len]; exact fin⟩
      | ref i =>
        obtain ⟨a, e, q⟩ := rv
        subst e
        simp only [lenD] at en
        split at en
        · rename_i xs z
          cases en
          obtain ⟨ws, w, rr⟩ := hG.cel i _ a z q
          exact .inl ⟨a, ws, rfl, .inl (.inl (.inl w)), by rw [← rr.len]; exact fin⟩
        · rename_i xs z
          cases en
          obtain ⟨ws, w, rr⟩ := hG.cel i _ a z q
          refine .inl ⟨a, ws, rfl, .inl ?_, by rw [← rr.len]; exact fin⟩
          rcases w with ⟨o, w⟩ | w
          · exact .inl (.inr ⟨o, w⟩)
          · exact .inr w
        · rename_i kvs z
          cases en
          obtain ⟨ws, w, rr⟩ := hG.cel i _ a z q
          exact .inr ⟨a, ws, rfl, w, by rw [← rr.len]; exact fin⟩
        · cases en
      | _ => cases en
    · exact h.elim
  · exact h.elim
theorem de_len (ha : DA X F [e] t) (hm : X.mg "len" = none) (hg : Gl X "len" := by rfl) (he : starEach [e] X.env = (false, eval e X.env) :: starEach [] X.env := by exact star_cons rfl) (hpl : (backTo pos (starEach [] X.env)).any (·.1) = false := by exact back_any rfl) : DE X F (.Call (.Name "len" p) [e] [] pos) (dCB rdLen t) :=
  de_callB call_lenV l_len PySem.boot_len ha hm hg (by decide) (by decide) he hpl

theorem de_len' (ha : DA' X F [e] t) (hm : X.mg "len" = none) (hg : Gl X "len" := by rfl) (he : starEach [e] X.env = (false, eval e X.env) :: starEach [] X.env := by exact star_cons rfl) (hpl : (backTo pos (starEach [] X.env)).any (·.1) = false := by exact back_any rfl) : DE' X F (.Call (.Name "len" p) [e] [] pos) (dCB rdLen t) :=
  ⟨de_len (ha := ha.p) (hm := hm) (hg := hg) (he := he) (hpl := hpl)⟩
/-! ### isinstance(x, T), T a built-in type -/
/-- of the kinds that are asked: int, bool, str, tuple, list, dict -/
def subN (t c : String) : Bool := t == c || (t == "bool" && c == "int")
theorem kit_of {K : PySem.W.Frag} {t c : String} (ht : t = "NoneType" ∨ t = "bool" ∨ t = "int" ∨ t = "str" ∨ t = "tuple" ∨ t = "list" ∨ t = "dict") (hc : c = "int" ∨ c = "bool" ∨ c = "str" ∨ c = "tuple" ∨ c = "list" ∨ c = "dict") :
    PySem.W.kitOne K (.type t) (.type c) = some (subN t c) := by
  rcases ht with rfl | rfl | rfl | rfl | rfl | rfl | rfl <;> rcases hc with rfl | rfl | rfl | rfl | rfl | rfl <;> first | rfl | kernel_rfl

def isiD (c : String) : Dt → Bool
  | .bl _ => c == "bool" || c == "int"
  | .int _ => c == "int"
  | .str _ => c == "str"
  | .tup _ => c == "tuple"
  | _ => false
def rIsiV (K : PySem.W.Frag) : List V → Hp → VK → Prop := fun xs H Q => ∃ x c t b, xs = [x, V.ty c] ∧
  ((x = .non ∧ t = "NoneType") ∨ (∃ b, x = .bl b ∧ t = "bool") ∨ (∃ i, x = .int i ∧ t = "int") ∨ (∃ z, x = .str z ∧ t = "str") ∨ (∃ a ys, x = .ref a ∧ SqT K H a ys ∧ t = "tuple") ∨ (∃ a ys, x = .ref a ∧ SqL K H a ys ∧ t = "list") ∨ (∃ a kvs, x = .ref a ∧ H a = some (.dK kvs) ∧ t = "dict")) ∧
  PySem.W.kitOne K (.type t) (.type c) = some b ∧ Q (.bl b) H
theorem call_isi : CallR X (.builtin "isinstance") (rIsiV X.K) := by
  intro pins s σ H xs us Q I r h
  obtain ⟨x, c, t, b, rfl, ty, e, q⟩ := h
  obtain ⟨u, w', rfl, rx, rc⟩ := vals2 r
  cases (show w' = Value.type c from rc)
  have fin : ∀ tk, EP X pins σ Q (.bool b) { s with toks := tk } := fun tk => ⟨.bl b, H, I.tok tk, rfl, q⟩
  rcases ty with ⟨rfl, rfl⟩ | ⟨y, rfl, rfl⟩ | ⟨y, rfl, rfl⟩ | ⟨y, rfl, rfl⟩ | ⟨a, ys, rfl, hs, rfl⟩ | ⟨a, ys, rfl, hs, rfl⟩ | ⟨a, kvs, rfl, hs, rfl⟩
  · cases (show u = Value.none from rx); exact PySem.W.kia_one PySem.W.kitx_none I.kIn True.intro e (fun z => nomatch z) fin
  · cases (show u = Value.bool y from rx); exact PySem.W.kia_one PySem.W.kitx_bool I.kIn True.intro e (fun z => nomatch z) fin
  · obtain ⟨t, q⟩ := (show ∃ t, u = Value.int y t from rx); cases q; exact PySem.W.kia_one PySem.W.kitx_int I.kIn True.intro e (fun z => nomatch z) fin
  · obtain ⟨t, q⟩ := (show ∃ t, u = Value.str y t from rx); cases q; exact PySem.W.kia_one PySem.W.kitx_str I.kIn True.intro e (fun z => nomatch z) fin
  · cases (show u = Value.ref a from rx)
    obtain ⟨its, _, ⟨o, h1, h2, _⟩, _⟩ := I.tuple hs
    exact PySem.W.kia_one PySem.W.kitx_tuple I.kIn ⟨o, h1, h2⟩ e (fun z => nomatch z) fin
  · cases (show u = Value.ref a from rx)
    obtain ⟨its, _, ⟨o, n, h1, h2, _⟩, _⟩ := I.list hs
    exact PySem.W.kia_one PySem.W.kitx_list I.kIn ⟨o, h1, h2⟩ e (fun z => nomatch z) fin
  · cases (show u = Value.ref a from rx)
    obtain ⟨_, _, vs, _, p⟩ := (show ObjOk X.prog X.w H s.heap a (.dK kvs) from I.hok a _ hs)
    obtain ⟨o, es, ep, h1, h2, _⟩ := p
    exact PySem.W.kia_one PySem.W.kitx_dict I.kIn ⟨o, h1, h2.1⟩ e (fun z => nomatch z) fin
/-- isinstance(e, T) for int, bool, str, tuple (a cell is none of these) -/
def dIsi (c : String) (te : TDE) : TDE := fun σ G Q => te σ G fun d G1 => Q (.bl (isiD c d)) G1
theorem isi_val {K : PySem.W.Frag} {G : GD} {H : Hp} {ι : List Addr} {d : Dt} {v : V} {c : String} {Qv : VK} (hc : c = "int" ∨ c = "bool" ∨ c = "str" ∨ c = "tuple") (hG : HG K G H ι) (rv : Rp K H ι d v) (h : Qv (.bl (isiD c d)) H) : rIsiV K [v, V.ty c] H Qv := by
  have hc' : c = "int" ∨ c = "bool" ∨ c = "str" ∨ c = "tuple" ∨ c = "list" ∨ c = "dict" := by
    rcases hc with h | h | h | h <;> simp [h]
  have fin : ∀ b, b = isiD c d → Qv (.bl b) H := fun b e => by subst e; exact h
  cases d with
  | non => exact ⟨v, c, "NoneType", _, rfl, .inl ⟨rv, rfl⟩, kit_of (by simp) hc', fin _ (by rcases hc with rfl | rfl | rfl | rfl <;> rfl)⟩
  | bl b => exact ⟨v, c, "bool", _, rfl, .inr (.inl ⟨b, rv, rfl⟩), kit_of (by simp) hc', fin _ (by rcases hc with rfl | rfl | rfl | rfl <;> rfl)⟩
  | int b => exact ⟨v, c, "int", _, rfl, .inr (.inr (.inl ⟨b, rv, rfl⟩)), kit_of (by simp) hc', fin _ (by rcases hc with rfl | rfl | rfl | rfl <;> rfl)⟩
  | str b => exact ⟨v, c, "str", _, rfl, .inr (.inr (.inr (.inl ⟨b, rv, rfl⟩))), kit_of (by simp) hc', fin _ (by rcases hc with rfl | rfl | rfl | rfl <;> rfl)⟩
  | tup b =>
    obtain ⟨a, ws, e, s, rr⟩ := rv
    exact ⟨v, c, "tuple", _, rfl, .inr (.inr (.inr (.inr (.inl ⟨a, ws, e, s, rfl⟩)))), kit_of (by simp) hc', fin _ (by rcases hc with rfl | rfl | rfl | rfl <;> rfl)⟩
  | ref i =>
    obtain ⟨a, e, q⟩ := rv
    have hi : i < G.length := by rw [← hG.len]; exact (List.getElem?_eq_some_iff.mp q).1
    have z : G[i]? = some G[i] := by simp [hi]
    have cell := hG.cel i _ a z q
    revert cell
    cases G[i] with
    | lst xs =>
      intro cell
      obtain ⟨ws, w, rr⟩ := cell
      exact ⟨v, c, "list", _, rfl, .inr (.inr (.inr (.inr (.inr (.inl ⟨a, ws, e, .inl (.inl w), rfl⟩))))), kit_of (by simp) hc', fin _ (by rcases hc with rfl | rfl | rfl | rfl <;> rfl)⟩
    | fz xs =>
      intro cell
      obtain ⟨ws, w, rr⟩ := cell
      refine ⟨v, c, "list", _, rfl, .inr (.inr (.inr (.inr (.inr (.inl ⟨a, ws, e, ?_, rfl⟩))))), kit_of (by simp) hc', fin _ (by rcases hc with rfl | rfl | rfl | rfl <;> rfl)⟩
      rcases w with ⟨o, w⟩ | w
      · exact .inl (.inr ⟨o, w⟩)
      · exact .inr w
    | dct xs =>
      intro cell
      obtain ⟨ws, w, rr⟩ := cell
      exact ⟨v, c, "dict", _, rfl, .inr (.inr (.inr (.inr (.inr (.inr ⟨a, ws, e, w, rfl⟩))))), kit_of (by simp) hc', fin _ (by rcases hc with rfl | rfl | rfl | rfl <;> rfl)⟩
theorem de_isi {c : String} {y : Str} {p2 : Pos} (hv : bootBuiltins y = some (.type c)) (hc : c = "int" ∨ c = "bool" ∨ c = "str" ∨ c = "tuple") (ha : DE X F a ta) (hm : X.mg "isinstance" = none) (hmy : X.mg y = none) (hg : Gl X "isinstance" := by rfl) (hgy : Gl X y := by rfl)
    (hn : y ≠ "__name__" := by decide) (hd : (y == ("__debug__" : Str)) = false := by decide) (he : starEach [a, .Name y p2] X.env = (false, eval a X.env) :: starEach [.Name y p2] X.env := by exact star_cons rfl)
    (he2 : starEach [Expr.Name y p2] X.env = (false, eval (.Name y p2) X.env) :: starEach [] X.env := by rfl) (hpl : (backTo pos (starEach [Expr.Name y p2] X.env)).any (·.1) = false := by exact back_any rfl) : DE X F (.Call (.Name "isinstance" p) [a, .Name y p2] [] pos) (dIsi c ta) := by
  have hA : PA X [a, .Name y p2] (tCons (liE X.K F ta) (tCons (tC (.ty c)) tNil)) := pa_cons ha (pa_cons (pe_bltn (v := .ty c) hgy hmy hv rfl hn hd) pa_nil he2) he
  refine PE.imp (pe_callB call_isi hg hm bt_isinstance hA (by decide) (by decide) he hpl) fun σ H Qv ⟨σd, G, ι, Q, ok, ht, hq⟩ => ?_
  refine ⟨σd, G, ι, _, ok, ht, fun v H1 d G1 ι1 h1 g1 r1 q1 => ?_⟩
  exact isi_val hc h1 r1 (hq _ H1 (.bl (isiD c d)) G1 ι1 h1 g1 rfl q1)

theorem de_isi' {c : String} {y : Str} {p2 : Pos} (hv : bootBuiltins y = some (.type c)) (hc : c = "int" ∨ c = "bool" ∨ c = "str" ∨ c = "tuple") (ha : DE' X F a ta) (hm : X.mg "isinstance" = none) (hmy : X.mg y = none) (hg : Gl X "isinstance" := by rfl) (hgy : Gl X y := by rfl)
    (hn : y ≠ "__name__" := by decide) (hd : (y == ("__debug__" : Str)) = false := by decide) (he : starEach [a, .Name y p2] X.env = (false, eval a X.env) :: starEach [.Name y p2] X.env := by exact star_cons rfl)
    (he2 : starEach [Expr.Name y p2] X.env = (false, eval (.Name y p2) X.env) :: starEach [] X.env := by rfl) (hpl : (backTo pos (starEach [Expr.Name y p2] X.env)).any (·.1) = false := by exact back_any rfl) : DE' X F (.Call (.Name "isinstance" p) [a, .Name y p2] [] pos) (dIsi c ta) :=
  ⟨de_isi (hv := hv) (hc := hc) (ha := ha.p) (hm := hm) (hmy := hmy) (hg := hg) (hgy := hgy) (hn := hn) (hd := hd) (he := he) (he2 := he2) (hpl := hpl)⟩
/-! ### subscripts -/
def valD (kvs : List (Key × Dt)) (k : Key) : Option Dt := (kvs.find? fun kv => decide (kv.1 = k)).map (·.2)
theorem RpK.val {K : PySem.W.Frag} {H : Hp} {ι : List Addr} {k : Key} : ∀ {ds : List (Key × Dt)} {vs : List (Key × V)}, RpK K H ι ds vs → (∀ d, valD ds k = some d → ∃ v, valV vs k = some v ∧ Rp K H ι d v) ∧ (valD ds k = none → valV vs k = none)
  | [], vs, h => by
    have e : vs = [] := h
    subst e
    exact ⟨fun d z => by simp [valD] at z, fun _ => rfl⟩
  | p :: ds, vs, h => by
    obtain ⟨v, r, e, a, b⟩ := h
    subst e
    obtain ⟨x, y⟩ := RpK.val (k := k) b
    by_cases hk : p.1 = k
    · have e1 : valD (p :: ds) k = some p.2 := by simp [valD, List.find?_cons, hk]
      refine ⟨fun d z => ?_, fun z => by rw [e1] at z; cases z⟩
      rw [e1] at z
      cases z
      exact ⟨v, valV_pos hk, a⟩
    · have e1 : valD (p :: ds) k = valD ds k := by simp [valD, List.find?_cons, hk]
      rw [e1, valV_neg (p := (p.1, v)) hk]
      exact ⟨x, y⟩
def atD (G : GD) : Dt → Dt → Option Dt
  | .tup xs, .int i => atI xs i
  | .ref k, .int i => match G[k]? with
    | some (.lst xs) => atI xs i
    | some (.fz xs) => atI xs i
    | some (.dct kvs) => valD kvs (.inl i)
    | none => none
  | .ref k, .str x => match G[k]? with
    | some (.dct kvs) => valD kvs (.inr x)
    | _ => none
  | _, _ => none
def rdIx0 : RD2 := fun x y G Q => match atD G x y with
  | some d => Q d G
  | none => False
structure rdIx (x y : Dt) (G : GD) (Q : KD) : Prop where
  p : rdIx0 x y G Q
theorem rdIx_eq {x y : Dt} {G : GD} {Q : KD} : rdIx x y G Q = rdIx0 x y G Q := propext ⟨fun h => h.p, fun h => ⟨h⟩⟩
def rIxD : R2 := fun x y H Q => ∃ a v, x = .ref a ∧ DGet H a y (some v) ∧ Q v H
theorem ix_dct (hu : X.A.units + 1 < cLine) : IxR X rIxD := by
  intro value slice pins s σ H x y v u Q I rx ry h hs
  obtain ⟨a, w', rfl, g, q⟩ := h
  cases rx
  refine tail_any (dict_typeIs I g) PySem.slot_dict_getitem.lookup (d_getItem hu I g ry fun z s' I' rz => ⟨w', H, I', rz, q⟩) hs
theorem ix_all (hu : X.A.units + 1 < cLine) : IxR X (fun x y H Q => rIx X.K x y H Q ∨ rIxD x y H Q) := IxR.or ix_seq (ix_dct hu)
theorem atI_rps {K : PySem.W.Frag} {H : Hp} {ι : List Addr} {xs : List Dt} {vs : List V} {i : Int} {d : Dt} (r : Rps K H ι xs vs) (h : atI xs i = some d) : ∃ v, atI vs i = some v ∧ Rp K H ι d v := by
  unfold atI at h ⊢
  rw [← r.len]
  cases e : ixN xs.length i with
  | none => rw [e] at h; cases h
  | some j =>
    rw [e] at h
    obtain ⟨v, q, rv⟩ := r.get (i := j) (d := d) h
    exact ⟨v, q, rv⟩
theorem l2_ix {K : PySem.W.Frag} : L2R K (fun x y H Q => rIx K x y H Q ∨ rIxD x y H Q) rdIx := by
  intro G H ι d1 d2 v1 v2 Q Qv hG r1 r2 h hq
  replace h := h.p; unfold rdIx0 at h
  split at h
  · rename_i d e
    have fin : ∀ v, Rp K H ι d v → Qv v H := fun v rv => hq v H d G ι hG Gr.refl rv h
    cases d1 with
    | tup xs =>
      cases d2 with
      | int i =>
        obtain ⟨a, vs, e1, s, rr⟩ := r1
        obtain ⟨v, q, rv⟩ := atI_rps rr e
        exact .inl (.inr (.inl ⟨a, vs, i, v, e1, r2, s, q, fin v rv⟩))
      | _ => cases e
    | ref k =>
      obtain ⟨a, e1, q⟩ := r1
      cases d2 with
      | int i =>
        simp only [atD] at e
        split at e
        · rename_i xs z
          obtain ⟨vs, w, rr⟩ := hG.cel k _ a z q
          obtain ⟨v, q, rv⟩ := atI_rps rr e
          exact .inl (.inl ⟨a, vs, i, v, e1, r2, .inl (.inl w), q, fin v rv⟩)
        · rename_i xs z
          obtain ⟨vs, w, rr⟩ := hG.cel k _ a z q
          obtain ⟨v, q, rv⟩ := atI_rps rr e
          refine .inl (.inl ⟨a, vs, i, v, e1, r2, ?_, q, fin v rv⟩)
          rcases w with ⟨o, w⟩ | w
          · exact .inl (.inr ⟨o, w⟩)
          · exact .inr w
        · rename_i kvs z
          obtain ⟨vs, w, rr⟩ := hG.cel k _ a z q
          obtain ⟨v, q, rv⟩ := (rr.val (k := .inl i)).1 d e
          have r2' : v2 = V.int i := r2
          subst r2'
          exact .inr ⟨a, v, e1, q ▸ DGet.k (k := .inl i) w, fin v rv⟩
        · cases e
      | str x =>
        simp only [atD] at e
        split at e
        · rename_i kvs z
          obtain ⟨vs, w, rr⟩ := hG.cel k _ a z q
          obtain ⟨v, q, rv⟩ := (rr.val (k := .inr x)).1 d e
          have r2' : v2 = V.str x := r2
          subst r2'
          exact .inr ⟨a, v, e1, q ▸ DGet.k (k := .inr x) w, fin v rv⟩
        · cases e
      | _ => cases e
    | _ => cases e
  · exact h.elim
theorem de_ix {k : Nat} (hr : Room k X.A) (ha : DE X F a ta) (hb : DE X F b tb) (hs : PlainIx b := by exact fun _ _ => rfl) : DE X F (.Subscript a b pos) (dOp rdIx ta tb) := li2 l2_ix (pe_ix (ix_all (hu_of hr)) ha hb hs)

theorem de_ix' {k : Nat} (hr : Room k X.A) (ha : DE' X F a ta) (hb : DE' X F b tb) (hs : PlainIx b := by exact fun _ _ => rfl) : DE' X F (.Subscript a b pos) (dOp rdIx ta tb) :=
  ⟨de_ix (hr := hr) (ha := ha.p) (hb := hb.p) (hs := hs)⟩
/-! ### slices -/
abbrev TDO := SD → GD → (Option Int → GD → Prop) → Prop
def liO (K : PySem.W.Frag) (F : Fx) (t : TDO) : TO := fun σ H Qv => ∃ σd G ι Q, Ok K F σd G σ H ι ∧ t σd G Q ∧ ∀ i H' G' ι', HG K G' H' ι' → Gr K H ι H' ι' → Q i G' → Qv i H'
def DO (X : Cx) (F : Fx) (e : Option Expr) (t : TDO) : Prop := PO X e (liO X.K F t)
structure DO' (X : Cx) (F : Fx) (e : Option Expr) (t : TDO) : Prop where
  p : DO X F e t
theorem PO.imp {e : Option Expr} {t t' : TO} (h : PO X e t) (i : ∀ σ H Q, t' σ H Q → t σ H Q) : PO X e t' := fun pins s σ H Q I q => h pins s σ H Q I (i σ H Q q)
def dNoPart : TDO := fun _ G Q => Q none G
def dPart (t : TDE) : TDO := fun σ G Q => t σ G fun x G1 => match x with
  | .int i => Q (some i) G1
  | _ => False
theorem do_none : DO X F none dNoPart := PO.imp po_none fun σ H Qv ⟨σd, G, ι, Q, ok, ht, hq⟩ => hq none H G ι ok.hg Gr.refl ht
theorem do_none' : DO' X F none dNoPart :=
  ⟨do_none ⟩
theorem do_some (h : DE X F e ta) : DO X F (some e) (dPart ta) := by
  refine PO.imp (po_some h) fun σ H Qv ⟨σd, G, ι, Q, ok, ht, hq⟩ => ⟨σd, G, ι, _, ok, ht, fun v H1 d G1 ι1 h1 g1 r1 q1 => ?_⟩
  cases d with
  | int i => exact ⟨i, r1, hq (some i) H1 G1 ι1 h1 g1 q1⟩
  | _ => exact q1.elim
theorem do_some' (h : DE' X F e ta) : DO' X F (some e) (dPart ta) :=
  ⟨do_some (h := h.p)⟩
def cutD (xs : List Dt) (lo hi : Option Int) : List Dt := (xs.drop (HT.sIx xs.length 0 lo)).take (HT.sIx xs.length xs.length hi - HT.sIx xs.length 0 lo)
theorem cutD_rps {K : PySem.W.Frag} {H : Hp} {ι : List Addr} {xs : List Dt} {vs : List V} (lo hi : Option Int) (r : Rps K H ι xs vs) : Rps K H ι (cutD xs lo hi) (cutV vs lo hi) := by
  unfold cutD cutV
  rw [r.len]
  exact (r.drop _).take _
abbrev RDS := Dt → Option Int → Option Int → GD → KD → Prop
def rdSl0 : RDS := fun x lo hi G Q => match x with
  | .tup xs => Q (.tup (cutD xs lo hi)) G
  | .ref i => match cellL G i with
    | some xs => Q (.ref G.length) (G ++ [.lst (cutD xs lo hi)])
    | none => False
  | _ => False
structure rdSl (x : Dt) (lo hi : Option Int) (G : GD) (Q : KD) : Prop where
  p : rdSl0 x lo hi G Q
theorem rdSl_eq {x : Dt} {lo hi : Option Int} {G : GD} {Q : KD} : rdSl x lo hi G Q = rdSl0 x lo hi G Q := propext ⟨fun h => h.p, fun h => ⟨h⟩⟩
def dSl (te : TDE) (tl th : TDO) : TDE := fun σ G Q => te σ G fun x G1 => tl σ G1 fun l G2 => th σ G2 fun u G3 => rdSl x l u G3 Q

/-- the whole of a tuple is the tuple itself -/
theorem getItem_tuple_whole {prog : Program} {w : World} {A : Around} {E : Value → Shared → Prop} {s : Shared} {tt sl : Addr} {items : Array Value} {vl vu : Value} {lo hi : Option Int} {Q : Value → Shared → Prop} (ht : IsTup s.heap tt items) (hs : s.heap.IsSliceOf sl vl vu .none) (pl : IsPart vl lo) (pu : IsPart vu hi)
    (hw : HT.sIx items.size 0 lo = 0 ∧ HT.sIx items.size items.size hi = items.size) (h : Q (.ref tt) s) : wpAny (model prog w) A (getItem (.ref tt) (.ref sl)) Q E s := by
  obtain ⟨os, hos, hcs, hds⟩ := id hs
  have hTs : s.TypeIs (.ref sl) "slice" := ⟨os, hos, hcs⟩
  obtain ⟨ot, hot, hct, nt, hdt⟩ := id ht
  unfold getItem
  try with_reducible refine wpAny_holding ?_
  first | refine wpAny_bind (wpAny_pure ?_) | skip
  refine wpAny_bind (wpAny_sequenceKey ht.typeIs (by decide) ?_)
  refine wpAny_bind (wpAny_callSpecial?_slot (name := Str.ofString "__getitem__") ht.typeIs PyProof.Rows.slot_tuple_getitem
    (wpAny_call_entry PyProof.Rows.slot_tuple_getitem ht.typeIs entry_tuple_getitem ?_ (args_tuple_getitem _ _)))
  show wpAny _ _ (Builtin.Tuple.tupleItemsOf (.ref tt) >>= _) _ _ s
  refine wpAny_bind (tupleItemsOf_ ht ?_)
  refine wpAny_bind (wpAny_typeOf hTs ?_)
  rw [if_pos (by decide)]
  refine wpAny_bind (HT.sliceApplied_gen hs pl pu ?_)
  show wpAny _ _ (if (((HT.sIx items.size 0 lo : Nat) : Int) == 0 && (1 : Int) == 1 && (HT.sIx items.size items.size hi - HT.sIx items.size 0 lo) == items.size) = true then _ else _) _ _ s
  rw [if_pos (by rw [hw.1, hw.2]; simp)]
  refine wpAny_bind (m := Builtin.Tuple.tupleIsExact (.ref tt)) ?_
  unfold Builtin.Tuple.tupleIsExact
  refine wpAny_bind (wpAny_typeOf ht.typeIs (wpAny_pure ?_))
  rw [if_pos (by decide)]
  first
    | exact wpAny_bind (wpAny_rule (wpAny_pure ⟨_, rfl, wpAny_pure h⟩))
    | exact wpAny_bind (wpAny_rule (wpAny_bind (wpAny_pure (wpAny_pure ⟨_, rfl, wpAny_pure h⟩))))
    | exact wpAny_rule (wpAny_pure ⟨_, rfl, wpAny_pure h⟩)
def rSlTW (K : PySem.W.Frag) : V → Option Int → Option Int → Hp → VK → Prop := fun x lo hi H Q => ∃ a xs, x = .ref a ∧ SqT K H a xs ∧
  (HT.sIx xs.length 0 lo = 0 ∧ HT.sIx xs.length xs.length hi = xs.length) ∧ Q (.ref a) H
theorem sl_tupW : SlR X (rSlTW X.K) := by
  intro pins s σ H x v vl vu lo hi sl Q I rx hs pl pu h
  obtain ⟨a, xs, rfl, hx, hw, q⟩ := h
  cases rx
  obtain ⟨its, r, ht, hz⟩ := I.tuple hx
  have hlen : its.toArray.size = xs.length := by rw [List.size_toArray]; exact r.length.symm
  exact ⟨"tuple", _, PyProof.Rows.slot_tuple_getitem.lookup, ht.typeIs, getItem_tuple_whole ht hs pl pu (by rw [hlen]; exact hw) ⟨.ref a, H, I, rfl, q⟩⟩
def rSlV (K : PySem.W.Frag) : V → Option Int → Option Int → Hp → VK → Prop := fun x lo hi H Q => rSlT K x lo hi H Q ∨ (rSlTW K x lo hi H Q ∨ rSlL K x lo hi H Q)
theorem sl_V : SlR X (rSlV X.K) := sl_tup.or (sl_tupW.or sl_list)
theorem cut_whole {xs : List Dt} {lo hi : Option Int} (h : HT.sIx xs.length 0 lo = 0 ∧ HT.sIx xs.length xs.length hi = xs.length) : cutD xs lo hi = xs := by
  unfold cutD
  rw [h.1, h.2]
  simp
theorem de_sl {lo hi : Option Expr} {tl th : TDO} {p2 : Pos} (he : DE X F e ta) (hl : DO X F lo tl) (hu : DO X F hi th) : DE X F (.Subscript e (.Slice lo hi none p2) pos) (dSl ta tl th) := by
  refine PE.imp (pe_slice sl_V he hl hu) fun σ H Qv ⟨σd, G, ι, Q, ok, ht, hq⟩ => ?_
  refine ⟨σd, G, ι, _, ok, ht, fun v H1 d G1 ι1 h1 g1 r1 q1 => ⟨σd, G1, ι1, _, ok.to h1 g1, q1, fun i H2 G2 ι2 h2 g2 q2 => ⟨σd, G2, ι2, _, ok.to h2 (g1.trans g2), q2, fun j H3 G3 ι3 h3 g3 q3 => ?_⟩⟩⟩
  have r3 := r1.up (g2.trans g3)
  have gg := g1.trans (g2.trans g3)
  replace q3 := q3.p; unfold rdSl0 at q3
  split at q3
  · rename_i xs
    obtain ⟨a, vs, e, s, rr⟩ := r3
    subst e
    by_cases hw : HT.sIx vs.length 0 i = 0 ∧ HT.sIx vs.length vs.length j = vs.length
    · refine .inr (.inl ⟨a, vs, rfl, s, hw, ?_⟩)
      rw [cut_whole (by rw [rr.len]; exact hw)] at q3
      exact hq _ H3 (.tup xs) G3 ι3 h3 gg ⟨a, vs, rfl, s, rr⟩ q3
    · refine .inl ⟨a, vs, rfl, s, hw, fun p hp => ?_⟩
      obtain ⟨x, y, z⟩ := rp_newTup h3 (cutD_rps i j rr) hp
      exact hq _ _ _ G3 ι3 x (gg.trans y) z q3
  · rename_i k
    obtain ⟨a, e, q⟩ := r3
    subst e
    split at q3
    · rename_i xs z
      obtain ⟨vs, s, rr⟩ := cellL_sq h3 q z
      refine .inr (.inr ⟨a, vs, rfl, s, fun p hp => ?_⟩)
      obtain ⟨x, y, z⟩ := rp_newLst h3 (cutD_rps i j rr) hp
      exact hq _ _ _ _ _ x (gg.trans y) z q3
    · exact q3.elim
  · exact q3.elim

theorem de_sl' {lo hi : Option Expr} {tl th : TDO} {p2 : Pos} (he : DE' X F e ta) (hl : DO' X F lo tl) (hu : DO' X F hi th) : DE' X F (.Subscript e (.Slice lo hi none p2) pos) (dSl ta tl th) :=
  ⟨de_sl (he := he.p) (hl := hl.p) (hu := hu.p)⟩
/-! ### + -/
theorem cat_tup0 {prog : Program} {w : World} {A : Around} {E : Value → Shared → Prop} {s : Shared} {tt b : Addr} {ws : List Value} {Q : Value → Shared → Prop} (ht : IsTup s.heap tt ([] : List Value).toArray) (hb : IsTup s.heap b ws.toArray) (h : Q (.ref b) s) : wpAny (model prog w) A (binaryOp .Add (.ref tt) (.ref b)) Q E s := by
  obtain ⟨⟨cls, dd, data, sl⟩, ho, hc, n, hd⟩ := id ht
  obtain ⟨⟨cls2, dd2, data2, sl2⟩, ho2, hc2, n2, hd2⟩ := id hb
  simp only at hc hd hc2 hd2
  subst hc hd hc2 hd2
  exact concat_meets ⟨_, ho, rfl⟩ ⟨_, ho2, rfl⟩ noFill_tuple_add seq_tuple_add PySem.F.slot_tuple_add PySem.F.entry_tuple_add (PySem.F.args_tuple_add_2 _ _)
      (tuple_addW0 tt b ([] : List Value).toArray ws.toArray n n2 dd dd2 sl sl2 (by simp)) ⟨ho, ho2, h⟩
def rCatT0 (K : PySem.W.Frag) : R2 := fun x y H Q => ∃ a b ys, x = .ref a ∧ y = .ref b ∧ SqT K H a [] ∧ SqT K H b ys ∧ Q (.ref b) H
theorem op_catT0 : OpR X (binaryOp .Add) (rCatT0 X.K) := by
  intro pins s σ H x y v u Q I rx ry h
  obtain ⟨a, b, ys, rfl, rfl, ha, hb, q⟩ := h
  cases rx
  cases ry
  obtain ⟨its, r1, p1, _⟩ := I.tuple ha
  obtain ⟨its2, r2, p2, _⟩ := I.tuple hb
  cases r1
  exact cat_tup0 p1 p2 ⟨.ref b, H, I, rfl, q⟩
def rAddV (K : PySem.W.Frag) : R2 := fun x y H Q => (∃ i j, x = .int i ∧ y = .int j ∧ Q (.int (i + j)) H) ∨ ((∃ i j, x = .str i ∧ y = .str j ∧ i.length + j.length ≤ sizeLine ∧ Q (.str (i ++ j)) H) ∨ (rCatT K x y H Q ∨ (rCatT0 K x y H Q ∨ rCat x y H Q)))
theorem op_addV : OpR X (binaryOp .Add) (rAddV X.K) := OpR.or op_add (OpR.or op_add_str (OpR.or op_catT (OpR.or op_catT0 op_cat)))
def rdAdd : RD2 := fun x y G Q => match x, y with
  | .int i, .int j => Q (.int (i + j)) G
  | .str i, .str j => i.length + j.length ≤ sizeLine ∧ Q (.str (i ++ j)) G
  | .tup xs, .tup ys => xs.length + ys.length ≤ sizeLine ∧ Q (.tup (xs ++ ys)) G
  | .ref i, .ref j => match G[i]?, G[j]? with
    | some (.lst xs), some (.lst ys) => xs.length + ys.length ≤ sizeLine ∧ Q (.ref G.length) (G ++ [.lst (xs ++ ys)])
    | _, _ => False
  | _, _ => False
theorem l2_add {K : PySem.W.Frag} : L2R K (rAddV K) rdAdd := by
  intro G H ι d1 d2 v1 v2 Q Qv hG r1 r2 h hq
  unfold rdAdd at h
  split at h
  · rename_i i j
    exact .inl ⟨i, j, r1, r2, hq _ H (.int (i + j)) G ι hG Gr.refl rfl h⟩
  · rename_i i j
    exact .inr (.inl ⟨i, j, r1, r2, h.1, hq _ H (.str (i ++ j)) G ι hG Gr.refl rfl h.2⟩)
  · rename_i xs ys
    obtain ⟨a, vs, e1, s1, rr1⟩ := r1
    obtain ⟨b, ws, e2, s2, rr2⟩ := r2
    by_cases hx : vs = []
    · subst hx
      have hx' : xs = [] := List.length_eq_zero_iff.mp (by rw [rr1.len]; rfl)
      subst hx'
      exact .inr (.inr (.inr (.inl ⟨a, b, ws, e1, e2, s1, s2, hq _ H (.tup ys) G ι hG Gr.refl ⟨b, ws, rfl, s2, rr2⟩ (by simpa using h.2)⟩)))
    · refine .inr (.inr (.inl ⟨a, b, vs, ws, e1, e2, s1, s2, hx, by rw [← rr1.len, ← rr2.len]; exact h.1, fun z => ?_, fun _ p hp => ?_⟩))
      · subst z
        have hy' : ys = [] := List.length_eq_zero_iff.mp (by rw [rr2.len]; rfl)
        subst hy'
        exact hq _ H (.tup xs) G ι hG Gr.refl ⟨a, vs, rfl, s1, rr1⟩ (by simpa using h.2)
      · obtain ⟨x, y, z⟩ := rp_newTup hG (rr1.app rr2) hp
        exact hq _ _ _ G ι x y z h.2
  · rename_i i j
    obtain ⟨a, e1, q1⟩ := r1
    obtain ⟨b, e2, q2⟩ := r2
    split at h
    · rename_i xs ys z1 z2
      obtain ⟨vs, w1, rr1⟩ := hG.cel i _ a z1 q1
      obtain ⟨ws, w2, rr2⟩ := hG.cel j _ b z2 q2
      refine .inr (.inr (.inr (.inr ⟨a, b, vs, ws, e1, e2, w1, w2, by rw [← rr1.len, ← rr2.len]; exact h.1, fun p hp => ?_⟩)))
      obtain ⟨x, y, z⟩ := rp_newLst hG (rr1.app rr2) hp
      exact hq _ _ _ _ _ x y z h.2
    · exact h.elim
  · exact h.elim
theorem de_add (ha : DE X F a ta) (hb : DE X F b tb) : DE X F (.BinOp a .Add b pos) (dOp rdAdd ta tb) := li2 l2_add (pe_op op_addV ha hb)

theorem de_add' (ha : DE' X F a ta) (hb : DE' X F b tb) : DE' X F (.BinOp a .Add b pos) (dOp rdAdd ta tb) :=
  ⟨de_add (ha := ha.p) (hb := hb.p)⟩
/-! ### list(x), tuple(x) -/
def seqD (G : GD) : Dt → Option (List Dt)
  | .tup xs => some xs
  | .ref i => cellL G i
  | _ => none
def rdList : RDA := fun ds G Q => match ds with
  | [d] => match seqD G d with
    | some xs => Q (.ref G.length) (G ++ [.lst xs])
    | none => False
  | _ => False
theorem seqD_sq {K : PySem.W.Frag} {G : GD} {H : Hp} {ι : List Addr} {d : Dt} {xs : List Dt} {v : V} (hG : HG K G H ι) (r : Rp K H ι d v) (e : seqD G d = some xs) : ∃ a vs, v = .ref a ∧ Rps K H ι xs vs ∧ ((SqL K H a vs ∧ ∃ i, d = .ref i) ∨ (SqT K H a vs ∧ d = .tup xs)) := by
  cases d with
  | tup ys =>
    cases e
    obtain ⟨a, vs, e1, s, rr⟩ := r
    exact ⟨a, vs, e1, rr, .inr ⟨s, rfl⟩⟩
  | ref i =>
    obtain ⟨a, e1, q⟩ := r
    obtain ⟨vs, s, rr⟩ := cellL_sq hG q e
    exact ⟨a, vs, e1, rr, .inl ⟨s, i, rfl⟩⟩
  | _ => cases e
def rdTuple0 : RDA := fun ds G Q => match ds with
  | [d] => match seqD G d with
    | some xs => Q (.tup xs) G
    | none => False
  | _ => False
structure rdTuple (ds : List Dt) (G : GD) (Q : KD) : Prop where
  p : rdTuple0 ds G Q
theorem rdTuple_eq {ds : List Dt} {G : GD} {Q : KD} : rdTuple ds G Q = rdTuple0 ds G Q := propext ⟨fun h => h.p, fun h => ⟨h⟩⟩
theorem rdTuple_ref {i : Nat} {xs : List Dt} {G : GD} {Q : KD} (e : cellL G i = some xs) (h : Q (.tup xs) G) : rdTuple [.ref i] G Q := by
  rw [rdTuple_eq]; unfold rdTuple0
  simp only [seqD, e]
  exact h
theorem l_tuple {K : PySem.W.Frag} : LCR K (fun xs H Q => ∃ p ys, xs = [V.ref p] ∧ ((SqL K H p ys ∧ ∀ l, H l = none → Q (.ref l) (upd H l (.tup ys))) ∨ (SqT K H p ys ∧ Q (.ref p) H))) rdTuple := by
  intro G H ι ds vs Q Qv hG r h hq
  replace h := h.p; unfold rdTuple0 at h
  split at h
  · rename_i d
    obtain ⟨v, e, rv⟩ := rps1 r
    subst e
    split at h
    · rename_i xs ex
      obtain ⟨a, ws, e, rr, hs⟩ := seqD_sq hG rv ex
      subst e
      refine ⟨a, ws, rfl, ?_⟩
      rcases hs with ⟨s, i, rfl⟩ | ⟨s, rfl⟩
      · refine .inl ⟨s, fun p hp => ?_⟩
        obtain ⟨x, y, z⟩ := rp_newTup hG rr hp
        exact hq _ _ _ _ _ x y z h
      · exact .inr ⟨s, hq _ H (.tup xs) G ι hG Gr.refl ⟨a, ws, rfl, s, rr⟩ h⟩
    · exact h.elim
  · exact h.elim
theorem de_tupleof (ha : DA X F [e] t) (hm : X.mg "tuple" = none) (hg : Gl X "tuple" := by rfl) (he : starEach [e] X.env = (false, eval e X.env) :: starEach [] X.env := by exact star_cons rfl) (hpl : (backTo pos (starEach [] X.env)).any (·.1) = false := by exact back_any rfl) : DE X F (.Call (.Name "tuple" p) [e] [] pos) (dCB rdTuple t) :=
  de_callTy call_tuple_of l_tuple bt_tuple ha hm hg (by decide) (by decide) he hpl

theorem de_tupleof' (ha : DA' X F [e] t) (hm : X.mg "tuple" = none) (hg : Gl X "tuple" := by rfl) (he : starEach [e] X.env = (false, eval e X.env) :: starEach [] X.env := by exact star_cons rfl) (hpl : (backTo pos (starEach [] X.env)).any (·.1) = false := by exact back_any rfl) : DE' X F (.Call (.Name "tuple" p) [e] [] pos) (dCB rdTuple t) :=
  ⟨de_tupleof (ha := ha.p) (hm := hm) (hg := hg) (he := he) (hpl := hpl)⟩
/-! ### append, pop -/
def isLstC (G : GD) : Dt → Prop
  | .ref i => ∃ xs, G[i]? = some (.lst xs)
  | _ => False
def rdAppend0 (i : Nat) (d : Dt) (G : GD) (Q : KD) : Prop := match G[i]? with
  | some (.lst xs) => xs.length < sizeLine ∧ Q .non (G.set i (.lst (xs ++ [d])))
  | _ => False
structure rdAppend (i : Nat) (d : Dt) (G : GD) (Q : KD) : Prop where
  p : rdAppend0 i d G Q
theorem rdAppend_eq {i : Nat} {d : Dt} {G : GD} {Q : KD} : rdAppend i d G Q = rdAppend0 i d G Q := propext ⟨fun h => h.p, fun h => ⟨h⟩⟩
theorem rdAppend_of {i : Nat} {d : Dt} {G : GD} {Q : KD} {xs : List Dt} (h : G[i]? = some (.lst xs)) (hl : xs.length < sizeLine) (hq : Q .non (G.set i (.lst (xs ++ [d])))) : rdAppend i d G Q := by
  rw [rdAppend_eq]; unfold rdAppend0
  rw [h]
  exact ⟨hl, hq⟩
theorem rdAdd_refs {i j : Nat} {G : GD} {Q : KD} {xs ys : List Dt} (hi : G[i]? = some (.lst xs)) (hj : G[j]? = some (.lst ys)) (hl : xs.length + ys.length ≤ sizeLine) (hq : Q (.ref G.length) (G ++ [.lst (xs ++ ys)])) : rdAdd (.ref i) (.ref j) G Q := by
  simp only [rdAdd, hi, hj]
  exact ⟨hl, hq⟩
theorem rdIx_of {x y d : Dt} {G : GD} {Q : KD} (h : atD G x y = some d) (hq : Q d G) : rdIx x y G Q := by
  rw [rdIx_eq]; unfold rdIx0
  rw [h]
  exact hq
theorem rdLen_of {x : Dt} {k : Nat} {G : GD} {Q : KD} (h : lenD G x = some k) (hq : Q (.int k) G) : rdLen [x] G Q := by
  simp only [rdLen_eq, rdLen0, h]
  exact hq
theorem rdSl_ref {i : Nat} {xs : List Dt} {lo hi : Option Int} {G : GD} {Q : KD} (e : cellL G i = some xs) (h : Q (.ref G.length) (G ++ [.lst (cutD xs lo hi)])) : rdSl (.ref i) lo hi G Q := by
  simp only [rdSl_eq, rdSl0, e]
  exact h
def dAppend (to : TDE) (t : TDA) : TDE := fun σ G Q => to σ G fun x G1 => isLstC G1 x ∧ t σ G1 fun ds G2 => match x, ds with
  | .ref i, [d] => rdAppend i d G2 Q
  | _, _ => False
theorem de_append {apos cpos : Pos} (ho : DE X F o to) (ha : DA X F [e] t)
    (hbase : attributeBase o "append" X.env (eval o X.env) = eval o X.env := by rfl)
    (hfew : ((backTo cpos (starEach [e] X.env)).all (fun x => !x.1) && (backToKw cpos (keywordEach [] X.env)).all (fun x => x.1.isSome)
      && decide (([e] : List Expr).length + ([] : List Keyword).length + (if ([] : List Keyword).isEmpty then 0 else 1) < 30)) = true := by rfl)
    (hline : (apos.endLine == cpos.line) = true := by rfl) (hs : starEach [e] X.env = (false, eval e X.env) :: starEach [] X.env := by exact star_cons rfl) (hplain : (backTo cpos (starEach [] X.env)).any (·.1) = false := by exact back_any rfl) :
    DE X F (.Call (.Attribute o "append" apos) [e] [] cpos) (dAppend to t) := by
  refine PE.imp (pe_bm PySem.F.plainAttrs_list PySem.F.slot_list_append PySem.F.type_list_append mt_append ho ha hbase hfew hline hs hplain) fun σ H Qv ⟨σd, G, ι, Q, ok, ht, hq⟩ => ?_
  refine ⟨σd, G, ι, _, ok, ht, fun v H1 d1 G1 ι1 h1 g1 r1 q1 => ?_⟩
  obtain ⟨ty, q1⟩ := q1
  cases d1 with
  | ref i =>
    obtain ⟨a, e1, q⟩ := r1
    subst e1
    obtain ⟨xs, z⟩ := ty
    obtain ⟨vs, w, rr⟩ := h1.cel i _ a z q
    refine ⟨.inl ⟨rfl, vs, .inl (.inl w)⟩, σd, G1, ι1, _, ok.to h1 g1, q1, fun us H2 ds G2 ι2 h2 g2 r2 q2 => ?_⟩
    split at q2
    · rename_i i' d ei
      cases ei
      obtain ⟨u, e2, ru⟩ := rps1 r2
      subst e2
      replace q2 := q2.p; unfold rdAppend0 at q2
      split at q2
      · rename_i ys z2
        obtain ⟨ws, w2, rr2⟩ := h2.cel i _ a z2 (g2.at q)
        refine ⟨a, ws, u, rfl, rfl, w2, by rw [← rr2.len]; exact q2.1, ?_⟩
        have gp : Gr X.K H2 ι2 (upd H2 a (.lst (ws ++ [u]))) ι2 := Gr.put h2 z2 rfl (g2.at q)
        exact hq _ _ .non _ ι2 (h2.put (c' := .lst (ys ++ [d])) z2 rfl (g2.at q) rfl ⟨ws ++ [u], upd_same, (rr2.app (Rps.cons ru Rps.nil)).up gp⟩) (g1.trans (g2.trans gp)) rfl q2.2
      · exact q2.elim
    · exact q2.elim
  | _ => exact ty.elim
theorem de_append' {apos cpos : Pos} (ho : DE' X F o to) (ha : DA' X F [e] t)
    (hbase : attributeBase o "append" X.env (eval o X.env) = eval o X.env := by rfl)
    (hfew : ((backTo cpos (starEach [e] X.env)).all (fun x => !x.1) && (backToKw cpos (keywordEach [] X.env)).all (fun x => x.1.isSome)
      && decide (([e] : List Expr).length + ([] : List Keyword).length + (if ([] : List Keyword).isEmpty then 0 else 1) < 30)) = true := by rfl)
    (hline : (apos.endLine == cpos.line) = true := by rfl) (hs : starEach [e] X.env = (false, eval e X.env) :: starEach [] X.env := by exact star_cons rfl) (hplain : (backTo cpos (starEach [] X.env)).any (·.1) = false := by exact back_any rfl) : DE' X F (.Call (.Attribute o "append" apos) [e] [] cpos) (dAppend to t) :=
  ⟨de_append (ho := ho.p) (ha := ha.p) (hbase := hbase) (hfew := hfew) (hline := hline) (hs := hs) (hplain := hplain)⟩
def dPop (to : TDE) : TDE := fun σ G Q => to σ G fun x G1 => match x with
  | .ref i => match G1[i]? with
    | some (.lst xs) => match xs[xs.length - 1]? with
      | some d => Q d (G1.set i (.lst xs.dropLast))
      | none => False
    | _ => False
  | _ => False
theorem de_pop {apos cpos : Pos} (ho : DE X F o to) (hbase : attributeBase o "pop" X.env (eval o X.env) = eval o X.env := by rfl) (hline : (apos.endLine == cpos.line) = true := by rfl) : DE X F (.Call (.Attribute o "pop" apos) [] [] cpos) (dPop to) := by
  refine PE.imp (pe_bm0 PySem.F.plainAttrs_list PySem.F.slot_list_pop PySem.F.type_list_pop mt_pop ho hbase hline) fun σ H Qv ⟨σd, G, ι, Q, ok, ht, hq⟩ => ?_
  refine ⟨σd, G, ι, _, ok, ht, fun v H1 d1 G1 ι1 h1 g1 r1 q1 => ?_⟩
  split at q1
  · rename_i i
    obtain ⟨a, e1, q⟩ := r1
    subst e1
    split at q1
    · rename_i xs z
      obtain ⟨vs, w, rr⟩ := h1.cel i _ a z q
      split at q1
      · rename_i d ed
        obtain ⟨u, eu, ru⟩ := rr.get ed
        rw [rr.len] at eu
        refine ⟨.inl ⟨rfl, vs, .inl (.inl w)⟩, a, vs, u, rfl, rfl, w, eu, ?_⟩
        have gp : Gr X.K H1 ι1 (upd H1 a (.lst vs.dropLast)) ι1 := Gr.put h1 z rfl q
        exact hq _ _ d _ ι1 (h1.put (c' := .lst xs.dropLast) z rfl q rfl ⟨vs.dropLast, upd_same, rr.dropLast.up gp⟩) (g1.trans gp) (ru.up gp) q1
      · exact q1.elim
    · exact q1.elim
  · exact q1.elim
theorem de_pop' {apos cpos : Pos} (ho : DE' X F o to) (hbase : attributeBase o "pop" X.env (eval o X.env) = eval o X.env := by rfl) (hline : (apos.endLine == cpos.line) = true := by rfl) : DE' X F (.Call (.Attribute o "pop" apos) [] [] cpos) (dPop to) :=
  ⟨de_pop (ho := ho.p) (hbase := hbase) (hline := hline)⟩
/-- a sequence that is walked: a tuple or a list -/
def seqR0 (d : Dt) (G : GD) (R : List Dt → (GD → Prop) → GD → Prop) : Prop := match d with
  | .tup xs => R xs (fun _ => True) G
  | .ref i => match cellL G i with
    | some xs => R xs (fun G => cellL G i = some xs) G
    | none => False
  | _ => False
structure seqR (d : Dt) (G : GD) (R : List Dt → (GD → Prop) → GD → Prop) : Prop where
  p : seqR0 d G R
theorem seqR_eq {d : Dt} {G : GD} {R : List Dt → (GD → Prop) → GD → Prop} : seqR d G R = seqR0 d G R := propext ⟨fun h => h.p, fun h => ⟨h⟩⟩
theorem seqR_tup {xs : List Dt} {G : GD} {R : List Dt → (GD → Prop) → GD → Prop} (h : R xs (fun _ => True) G) : seqR (.tup xs) G R := by
  rw [seqR_eq]; unfold seqR0
  exact h
theorem seqR_ref {i : Nat} {xs : List Dt} {G : GD} {R : List Dt → (GD → Prop) → GD → Prop} (e : cellL G i = some xs) (h : R xs (fun G => cellL G i = some xs) G) : seqR (.ref i) G R := by
  simp only [seqR_eq, seqR0, e]
  exact h
def diSeq (te : TDE) : TDI := fun σ G R => te σ G fun d G1 => seqR d G1 R
theorem pi_seq {tg l : Expr} {tl : TE} (hl : PE X l tl) : PI X tg l (fun σ H R => tl σ H fun x H1 => (∃ a, x = .ref a ∧ (∃ xs, SqL X.K H1 a xs) ∧ R (Itl X.K a) H1) ∨ (∃ a, x = .ref a ∧ (∃ xs, SqT X.K H1 a xs) ∧ R (Itt X.K a) H1)) := by
  intro pins s σ H R I h
  refine thn (hl pins s σ H _ I h) fun v s1 ⟨x, H1, I1, r1, q1⟩ => ?_
  rcases q1 with ⟨a, e, ⟨xs, hq⟩, q⟩ | ⟨a, e, ⟨xs, hq⟩, q⟩
  · subst e
    cases r1
    obtain ⟨its, rv, p, hz⟩ := I1.list hq
    refine wpAny_pyIter_list p.isList ?_
    refine ⟨s1.heap.objs.size, [s1.heap.objs.size], _, _, H1, rfl, I1.kept (t' := s1.toks) fun b o e => Heap.get?_push_of_some _ e, turn_list a _, ⟨_, Heap.get?_push_size _ rfl, rfl, rfl⟩, fun b hb => ?_, q⟩
    have e : b = s1.heap.objs.size := by simpa using hb
    subst e
    exact I1.fpOk (Nat.le_refl _) (I1.hok.fresh (Nat.le_refl _))
  · subst e
    cases r1
    obtain ⟨its, rv, p, hz⟩ := I1.tuple hq
    refine wpAny_pyIter_tuple (show s1.heap.IsTuple a its.toArray from p) ?_
    refine ⟨s1.heap.objs.size, [s1.heap.objs.size], _, _, H1, rfl, I1.kept (t' := s1.toks) fun b o e => Heap.get?_push_of_some _ e, turn_tuple a _, ⟨_, Heap.get?_push_size _ rfl, rfl, rfl⟩, fun b hb => ?_, q⟩
    have e : b = s1.heap.objs.size := by simpa using hb
    subst e
    exact I1.fpOk (Nat.le_refl _) (I1.hok.fresh (Nat.le_refl _))
theorem di_seq {tg l : Expr} {tl : TDE} (hl : DE X F l tl) : DI X F tg l (diSeq tl) := by
  refine PI.imp (pi_seq hl) fun σ H R ⟨σd, G, ι, Q, ok, ht, hq⟩ => ⟨σd, G, ι, _, ok, ht, fun v H1 d G1 ι1 h1 g1 r1 q1 => ?_⟩
  replace q1 := q1.p; unfold seqR0 at q1
  cases d with
  | tup xs =>
    obtain ⟨a, vs, e, s, rr⟩ := r1
    exact .inr ⟨a, e, ⟨vs, s⟩, hq _ H1 xs _ G1 ι1 h1 g1 (itt_D s rr) q1⟩
  | ref i =>
    obtain ⟨a, e, q⟩ := r1
    revert q1
    show (match cellL G1 i with | some xs => Q xs (fun G => cellL G i = some xs) G1 | none => False) → _
    cases z : cellL G1 i with
    | none => exact fun q1 => q1.elim
    | some xs =>
      intro q1
      obtain ⟨vs, s, _⟩ := cellL_sq h1 q z
      exact .inl ⟨a, e, ⟨vs, s⟩, hq _ H1 xs _ G1 ι1 h1 g1 (itl_D q) q1⟩
  | _ => exact q1.elim
theorem di_seq' {tg l : Expr} {tl : TDE} (hl : DE' X F l tl) : DI' X F tg l (diSeq tl) :=
  ⟨di_seq (hl := hl.p)⟩
end
end DL
namespace ZT
open PySem
section
variable {prog : Program} {w : World} {A : Around} {E : Value → Shared → Prop} {s : Shared}
theorem nextOf_tuple_item {it l : Addr} {i : Nat} {items : Array Value} {x : Value} {Q : Value → Shared → Prop} (hit : s.heap.IsTupleIter it l i)
    (hl : s.heap.IsTuple l items) (hx : items[i]? = some x) (hQ : ∀ h', h'.IsTupleIter it l (i + 1) → Heap.SameBut it s.heap h' → Q x { s with heap := h' }) :
    wpAny (model prog w) A (Builtin.SmallTypes.nextOf (.ref it)) Q E s := by
  obtain ⟨o, ho, hc, hd⟩ := id hit
  obtain ⟨ol, hol, _, nl, hdl⟩ := hl
  unfold Builtin.SmallTypes.nextOf
  refine wpAny_bind (wpAny_callSpecial?_slot (name := Str.ofString "__next__") hit.typeIs F.slot_tuple_iterator_next
    (wpAny_call_entry F.slot_tuple_iterator_next hit.typeIs F.entry_tuple_iterator_next ?_ (F.args_tuple_iterator_next_1 _)))
  show wpAny _ _ (field (.ref it) 0 >>= _) _ _ s
  refine wpAny_bind (wpAny_field ho hd (x := .ref l) rfl ?_)
  show wpAny _ _ (if (Value.ref l == Value.none) = true then _ else _) _ _ s
  rw [if_neg (show ¬ ((Value.ref l == Value.none) = true) from Bool.false_ne_true)]
  show wpAny _ _ (field (.ref it) 1 >>= _) _ _ s
  refine wpAny_bind (wpAny_field ho hd (x := .int i 0) rfl ?_)
  show wpAny _ _ (seqItems? (.ref l) >>= _) _ _ s
  refine wpAny_bind (wpAny_seqItems hol hdl ?_)
  simp only [Int.toNat_natCast, hx]
  refine wpAny_bind (wpAny_setField ho hd (by simp) (wpAny_pure ⟨x, rfl, wpAny_pure (hQ _ ?_ (Heap.SameBut.update ..))⟩))
  exact ⟨_, Heap.get?_update_self _ ho (Obj.isFreed_of_fields (Obj.data_mapFields hd _)), (Obj.cls_mapFields ..).trans hc, by
    rw [Obj.data_mapFields hd]; simp [rawInt]⟩
theorem nextOf_tuple_end {it l : Addr} {i : Nat} {items : Array Value} {Q : Value → Shared → Prop} (hh : A.handled = none)
    (hit : s.heap.IsTupleIter it l i) (hl : s.heap.IsTuple l items) (hx : items[i]? = none)
    (hE : ∀ h' e, Heap.ExtBut it s.heap h' → (∃ o, h'.get? e = some o ∧ o.cls = .type "StopIteration") → E (.ref e) { s with heap := h' }) :
    wpAny (model prog w) A (Builtin.SmallTypes.nextOf (.ref it)) Q E s := by
  obtain ⟨o, ho, hc, hd⟩ := id hit
  obtain ⟨ol, hol, _, nl, hdl⟩ := hl
  unfold Builtin.SmallTypes.nextOf
  refine wpAny_bind (wpAny_callSpecial?_slot (name := Str.ofString "__next__") hit.typeIs F.slot_tuple_iterator_next
    (wpAny_call_entry F.slot_tuple_iterator_next hit.typeIs F.entry_tuple_iterator_next ?_ (F.args_tuple_iterator_next_1 _)))
  show wpAny _ _ (field (.ref it) 0 >>= _) _ _ s
  refine wpAny_bind (wpAny_field ho hd (x := .ref l) rfl ?_)
  show wpAny _ _ (if (Value.ref l == Value.none) = true then _ else _) _ _ s
  rw [if_neg (show ¬ ((Value.ref l == Value.none) = true) from Bool.false_ne_true)]
  show wpAny _ _ (field (.ref it) 1 >>= _) _ _ s
  refine wpAny_bind (wpAny_field ho hd (x := .int i 0) rfl ?_)
  show wpAny _ _ (seqItems? (.ref l) >>= _) _ _ s
  refine wpAny_bind (wpAny_seqItems hol hdl ?_)
  simp only [Int.toNat_natCast, hx]
  refine wpAny_bind (wpAny_rule (wpAny_bind (wpAny_setField ho hd (by simp) ?_)))
  show wpAny _ _ (newExc (.type "StopIteration") [] >>= _) _ _ _
  refine wpAny_bind ?_
  simp only [newExc, newTuple]
  refine wpAny_bind (wpAny_newObj_type ?_ (by size_fits))
  refine wpAny_bind (m := firstArgMember _ _) (wpAny_of_eq (a := Value.none) (by first | rfl | (simp only [firstArgMember]; rfl)) ?_)
  refine wpAny_newObj_type ?_ (by size_fits)
  simp only [raiseNew]
  refine wpAny_bind (wpAny_handled ?_)
  first | rw [show A.in1.handled = none from hh] | rw [hh]
  refine wpAny_bind (wpAny_pure (wpAny_throw ?_))
  exact hE _ _ (((Heap.SameBut.update ..).extBut.push _).push _) ⟨_, Heap.get?_push_size _ rfl, rfl⟩

/-- an iterator that a zip walks: over a list or a tuple -/
inductive Kd where
  | lst | tup
def Kd.It (k : Kd) (h : Heap) (it l : Addr) (i : Nat) : Prop := match k with
  | .lst => h.IsListIter it l i
  | .tup => h.IsTupleIter it l i
def Kd.Sr (k : Kd) (h : Heap) (l : Addr) (xs : Array Value) : Prop := match k with
  | .lst => h.IsList l xs
  | .tup => h.IsTuple l xs
theorem Kd.It.at {k : Kd} {h h' : Heap} {it l : Addr} {i : Nat} (x : k.It h it l i) (e : ∀ o, h.get? it = some o → h'.get? it = some o) : k.It h' it l i := by
  cases k
  · exact Heap.IsListIter.at (show h.IsListIter it l i from x) e
  · exact Heap.IsTupleIter.at (show h.IsTupleIter it l i from x) e
theorem Kd.Sr.at {k : Kd} {h h' : Heap} {l : Addr} {xs : Array Value} (x : k.Sr h l xs) (e : ∀ o, h.get? l = some o → h'.get? l = some o) : k.Sr h' l xs := by
  cases k
  · exact Heap.IsList.at (show h.IsList l xs from x) e
  · obtain ⟨o, ho, r⟩ := (show h.IsTuple l xs from x)
    exact ⟨o, e o ho, r⟩
theorem Kd.It.extBut {k : Kd} {h h' : Heap} {it l b : Addr} {i : Nat} (x : k.It h it l i) (hs : Heap.ExtBut b h h') (hab : it ≠ b) : k.It h' it l i := x.at fun o e => hs _ o hab e
theorem Kd.Sr.extBut {k : Kd} {h h' : Heap} {l b : Addr} {xs : Array Value} (x : k.Sr h l xs) (hs : Heap.ExtBut b h h') (hab : l ≠ b) : k.Sr h' l xs := x.at fun o e => hs _ o hab e
theorem Kd.It.lt {k : Kd} {h : Heap} {it l : Addr} {i : Nat} (x : k.It h it l i) : it < h.objs.size := by
  cases k
  · obtain ⟨_, e, _⟩ := (show h.IsListIter it l i from x); exact Heap.lt_size e
  · obtain ⟨_, e, _⟩ := (show h.IsTupleIter it l i from x); exact Heap.lt_size e
theorem Kd.Sr.lt {k : Kd} {h : Heap} {l : Addr} {xs : Array Value} (x : k.Sr h l xs) : l < h.objs.size := by
  cases k
  · obtain ⟨_, e, _⟩ := (show h.IsList l xs from x); exact Heap.lt_size e
  · obtain ⟨_, e, _⟩ := (show h.IsTuple l xs from x); exact Heap.lt_size e
theorem Kd.item {k : Kd} {it l : Addr} {i : Nat} {items : Array Value} {x : Value} {Q : Value → Shared → Prop} (hit : k.It s.heap it l i)
    (hl : k.Sr s.heap l items) (hx : items[i]? = some x) (hQ : ∀ h', k.It h' it l (i + 1) → Heap.SameBut it s.heap h' → Q x { s with heap := h' }) :
    wpAny (model prog w) A (Builtin.SmallTypes.nextOf (.ref it)) Q E s := by
  cases k
  · exact wpAny_nextOf_list_item hit hl hx hQ
  · exact nextOf_tuple_item hit hl hx hQ
theorem Kd.end {k : Kd} {it l : Addr} {i : Nat} {items : Array Value} {Q : Value → Shared → Prop} (hh : A.handled = none)
    (hit : k.It s.heap it l i) (hl : k.Sr s.heap l items) (hx : items[i]? = none)
    (hE : ∀ h' e, Heap.ExtBut it s.heap h' → (∃ o, h'.get? e = some o ∧ o.cls = .type "StopIteration") → E (.ref e) { s with heap := h' }) :
    wpAny (model prog w) A (Builtin.SmallTypes.nextOf (.ref it)) Q E s := by
  cases k
  · exact wpAny_nextOf_list_end hh hit hl hx hE
  · exact nextOf_tuple_end hh hit hl hx hE
variable {K1 K2 : Kd}
theorem zip_next_item {z TI TO i1 i2 l1 l2 : Addr} {k1 k2 : Nat} {xs ys : Array Value} {x y a b : Value} {Q : Value → Shared → Prop} (D : ZipApart z TI TO i1 i2 l1 l2)
    (hz : IsZip s.heap z TI TO .none) (hTI : IsPair s.heap TI (.ref i1) (.ref i2)) (hTO : IsPair s.heap TO a b)
    (h1 : K1.It s.heap i1 l1 k1) (h2 : K2.It s.heap i2 l2 k2) (hl1 : K1.Sr s.heap l1 xs) (hl2 : K2.Sr s.heap l2 ys) (hx : xs[k1]? = some x) (hy : ys[k2]? = some y)
    (hQ : ∀ h', IsZip h' z TI TO (rawInt s.heap.objs.size) → IsPair h' TO x y → K1.It h' i1 l1 (k1 + 1) → K2.It h' i2 l2 (k2 + 1) → IsPair h' s.heap.objs.size x y → h'.objs.size = s.heap.objs.size + 1 →
      (∀ c o, c ≠ z → c ≠ TO → c ≠ i1 → c ≠ i2 → s.heap.get? c = some o → h'.get? c = some o) → Q (.ref s.heap.objs.size) { s with heap := h' }) :
    wpAny (model prog w) A (Builtin.«zip.__next__» ⟨[.ref z], []⟩) (fun fin s' => ∃ v, fin = .done (.ret v) ∧ Q v s') E s := by
  show wpAny _ _ (field (.ref z) 2 >>= _) _ _ _
  refine wpAny_bind (wpAny_field hz rfl (x := .bool false) rfl ?_)
  show wpAny _ _ (field (.ref z) 3 >>= _) _ _ _
  refine wpAny_bind (wpAny_field hz rfl (x := .ref TI) rfl ?_)
  refine wpAny_bind (wpAny_seqItems hTI rfl ?_)
  show wpAny _ _ (Builtin.SmallTypes.ownedTupleIsFree (.ref z) >>= _) _ _ _
  refine wpAny_bind ?_
  unfold Builtin.SmallTypes.ownedTupleIsFree
  refine wpAny_bind (wpAny_field hz rfl (x := .none) rfl (wpAny_pure ?_))
  simp only [if_true]
  refine wpAny_bind (wpAny_rule ?_)
  refine wpAny_bind (wpAny_field hz rfl (x := .ref TO) rfl ?_)
  refine wpAny_bind (wpAny_setField_rec hz (by simp) fun h₁ hz₁ hs₁ => ?_)
  replace hz₁ : IsZip h₁ z TI TO .ellipsis := hz₁
  refine wpAny_bind ?_
  simp only [List.zipIdx_cons, List.zipIdx_nil, List.forIn_cons, List.forIn_nil]
  refine wpAny_bind (wpAny_bind (wpAny_onRaise ?_))
  show wpAny _ _ (Builtin.SmallTypes.nextOf (.ref i1) >>= _) _ _ _
  refine wpAny_bind (Kd.item (h1.extBut hs₁.extBut D.i1z) (hl1.extBut hs₁.extBut D.l1z) hx fun h₂ h1₂ hs₂ => wpAny_pure ?_)
  have hTO₂ : IsPair h₂ TO a b := hs₂.extBut _ _ D.TOi1 (hs₁.extBut _ _ D.TOz hTO)
  refine wpAny_bind (wpAny_seqItems hTO₂ rfl ?_)
  refine wpAny_bind (wpAny_updateSeq_pair hTO₂ fun h₃ hTO₃ hs₃ => ?_)
  replace hTO₃ : IsPair h₃ TO x b := hTO₃
  refine wpAny_bind (wpAny_letGo (wpAny_pure ?_))
  refine wpAny_bind (wpAny_bind (wpAny_onRaise ?_))
  show wpAny _ _ (Builtin.SmallTypes.nextOf (.ref i2) >>= _) _ _ _
  refine wpAny_bind (Kd.item (((h2.extBut hs₁.extBut D.i2z).extBut hs₂.extBut D.i12.symm).extBut hs₃.extBut D.TOi2.symm)
    (((hl2.extBut hs₁.extBut D.l2z).extBut hs₂.extBut D.l2i1).extBut hs₃.extBut D.l2TO) hy fun h₄ h2₄ hs₄ => wpAny_pure ?_)
  have hTO₄ : IsPair h₄ TO x b := hs₄.extBut _ _ D.TOi2 hTO₃
  refine wpAny_bind (wpAny_seqItems hTO₄ rfl ?_)
  refine wpAny_bind (wpAny_updateSeq_pair hTO₄ fun h₅ hTO₅ hs₅ => ?_)
  replace hTO₅ : IsPair h₅ TO x y := hTO₅
  refine wpAny_bind (wpAny_letGo (wpAny_pure (wpAny_pure ?_)))
  refine wpAny_bind (wpAny_seqItems hTO₅ rfl ?_)
  refine wpAny_bind (wpAny_newTuple ?_)
  have hsz : h₅.objs.size = s.heap.objs.size := by rw [hs₅.1, hs₄.1, hs₃.1, hs₂.1, hs₁.1]
  have hz₅ : IsZip h₅ z TI TO .ellipsis := hs₅.extBut _ _ D.TOz.symm (hs₄.extBut _ _ D.i2z.symm (hs₃.extBut _ _ D.TOz.symm (hs₂.extBut _ _ D.i1z.symm hz₁)))
  have hk₅ : ∀ c o, c ≠ z → c ≠ TO → c ≠ i1 → c ≠ i2 → s.heap.get? c = some o → h₅.get? c = some o := fun c o c1 c2 c3 c4 e =>
    hs₅.extBut _ _ c2 (hs₄.extBut _ _ c4 (hs₃.extBut _ _ c2 (hs₂.extBut _ _ c3 (hs₁.extBut _ _ c1 e))))
  have h1₅ : K1.It h₅ i1 l1 (k1 + 1) := ((h1₂.extBut hs₃.extBut D.TOi1.symm).extBut hs₄.extBut D.i12).extBut hs₅.extBut D.TOi1.symm
  have h2₅ : K2.It h₅ i2 l2 (k2 + 1) := h2₄.extBut hs₅.extBut D.TOi2.symm
  have hzlt : z < h₅.objs.size := Heap.lt_size hz₅
  show wpAny _ _ (Builtin.SmallTypes.ownedTupleHandOut (.ref z) (.ref h₅.objs.size) >>= _) _ _ _
  refine wpAny_bind ?_
  unfold Builtin.SmallTypes.ownedTupleHandOut
  have hz₆ : IsZip (h₅.push { cls := .type "tuple", data := .seq #[x, y] }) z TI TO .ellipsis := Heap.get?_push_of_some _ hz₅
  refine wpAny_bind (wpAny_setField_rec hz₆ (by simp) fun h₇ hz₇ hs₇ => ?_)
  replace hz₇ : IsZip h₇ z TI TO (rawInt h₅.objs.size) := hz₇
  refine wpAny_setField_rec hz₇ (by simp) fun h₈ hz₈ hs₈ => ?_
  replace hz₈ : IsZip h₈ z TI TO (rawInt h₅.objs.size) := hz₈
  have up : ∀ c o, c ≠ z → h₅.get? c = some o → h₈.get? c = some o := fun c o c1 e => hs₈.extBut _ _ c1 (hs₇.extBut _ _ c1 (Heap.get?_push_of_some _ e))
  have hT₈ : IsPair h₈ h₅.objs.size x y := hs₈.extBut _ _ (Nat.ne_of_gt hzlt) (hs₇.extBut _ _ (Nat.ne_of_gt hzlt) (Heap.get?_push_size _ rfl))
  have hz8 : h₈.objs.size = h₅.objs.size + 1 := by rw [hs₈.1, hs₇.1, Heap.size_push]
  rw [hsz] at hz₈ hT₈ hz8
  refine wpAny_pure ⟨_, rfl, ?_⟩
  show Q (.ref h₅.objs.size) _
  rw [hsz]
  exact hQ h₈ hz₈ (up _ _ D.TOz hTO₅) (h1₅.at fun o e => up _ o D.i1z e) (h2₅.at fun o e => up _ o D.i2z e) hT₈ hz8 fun c o c1 c2 c3 c4 e => up c o c1 (hk₅ c o c1 c2 c3 c4 e)

theorem zip_next_end {z TI TO i1 i2 l1 l2 : Addr} {k1 k2 : Nat} {xs ys : Array Value} {a b : Value} {Q : Fin → Shared → Prop} (hh : A.handled = none) (D : ZipApart z TI TO i1 i2 l1 l2)
    (hz : IsZip s.heap z TI TO .none) (hTI : IsPair s.heap TI (.ref i1) (.ref i2)) (hTO : IsPair s.heap TO a b)
    (h1 : K1.It s.heap i1 l1 k1) (h2 : K2.It s.heap i2 l2 k2) (hl1 : K1.Sr s.heap l1 xs) (hl2 : K2.Sr s.heap l2 ys) (hend : xs[k1]? = none ∨ ys[k2]? = none)
    (hE : ∀ h' e, (∀ c o, c ≠ z → c ≠ TO → c ≠ i1 → c ≠ i2 → s.heap.get? c = some o → h'.get? c = some o) → (∃ o, h'.get? e = some o ∧ o.cls = .type "StopIteration") → E (.ref e) { s with heap := h' }) :
    wpAny (model prog w) A (Builtin.«zip.__next__» ⟨[.ref z], []⟩) Q E s := by
  show wpAny _ _ (field (.ref z) 2 >>= _) _ _ _
  refine wpAny_bind (wpAny_field hz rfl (x := .bool false) rfl ?_)
  show wpAny _ _ (field (.ref z) 3 >>= _) _ _ _
  refine wpAny_bind (wpAny_field hz rfl (x := .ref TI) rfl ?_)
  refine wpAny_bind (wpAny_seqItems hTI rfl ?_)
  show wpAny _ _ (Builtin.SmallTypes.ownedTupleIsFree (.ref z) >>= _) _ _ _
  refine wpAny_bind ?_
  unfold Builtin.SmallTypes.ownedTupleIsFree
  refine wpAny_bind (wpAny_field hz rfl (x := .none) rfl (wpAny_pure ?_))
  simp only [if_true]
  refine wpAny_bind (wpAny_rule ?_)
  refine wpAny_bind (wpAny_field hz rfl (x := .ref TO) rfl ?_)
  refine wpAny_bind (wpAny_setField_rec hz (by simp) fun h₁ hz₁ hs₁ => ?_)
  replace hz₁ : IsZip h₁ z TI TO .ellipsis := hz₁
  refine wpAny_bind ?_
  simp only [List.zipIdx_cons, List.zipIdx_nil, List.forIn_cons, List.forIn_nil]
  refine wpAny_bind (wpAny_bind (wpAny_onRaise ?_))
  show wpAny _ _ (Builtin.SmallTypes.nextOf (.ref i1) >>= _) _ _ _
  cases hx : xs[k1]? with
  | none =>
    refine wpAny_bind (Kd.end hh (h1.extBut hs₁.extBut D.i1z) (hl1.extBut hs₁.extBut D.l1z) hx fun h₂ e hs₂ he => ?_)
    obtain ⟨oe, hoe, hce⟩ := he
    have hz₂ : IsZip h₂ z TI TO .ellipsis := hs₂ _ _ D.i1z.symm hz₁
    have hez : e ≠ z := fun x => by subst x; rw [hz₂] at hoe; cases hoe; simp at hce
    refine wpAny_setField_rec hz₂ (by simp) fun h₃ _ hs₃ => hE h₃ e (fun c o c1 _ c3 _ x => hs₃.extBut _ _ c1 (hs₂ _ _ c3 (hs₁.extBut _ _ c1 x))) ⟨oe, hs₃.extBut _ _ hez hoe, hce⟩
  | some x =>
    have hy : ys[k2]? = none := by rcases hend with h | h; rw [hx] at h; cases h; exact h
    refine wpAny_bind (Kd.item (h1.extBut hs₁.extBut D.i1z) (hl1.extBut hs₁.extBut D.l1z) hx fun h₂ h1₂ hs₂ => wpAny_pure ?_)
    have hTO₂ : IsPair h₂ TO a b := hs₂.extBut _ _ D.TOi1 (hs₁.extBut _ _ D.TOz hTO)
    refine wpAny_bind (wpAny_seqItems hTO₂ rfl ?_)
    refine wpAny_bind (wpAny_updateSeq_pair hTO₂ fun h₃ hTO₃ hs₃ => ?_)
    refine wpAny_bind (wpAny_letGo (wpAny_pure ?_))
    refine wpAny_bind (wpAny_bind (wpAny_onRaise ?_))
    show wpAny _ _ (Builtin.SmallTypes.nextOf (.ref i2) >>= _) _ _ _
    refine wpAny_bind (Kd.end hh (((h2.extBut hs₁.extBut D.i2z).extBut hs₂.extBut D.i12.symm).extBut hs₃.extBut D.TOi2.symm)
      (((hl2.extBut hs₁.extBut D.l2z).extBut hs₂.extBut D.l2i1).extBut hs₃.extBut D.l2TO) hy fun h₄ e hs₄ he => ?_)
    obtain ⟨oe, hoe, hce⟩ := he
    have hz₄ : IsZip h₄ z TI TO .ellipsis := hs₄ _ _ D.i2z.symm (hs₃.extBut _ _ D.TOz.symm (hs₂.extBut _ _ D.i1z.symm hz₁))
    have hez : e ≠ z := fun x => by subst x; rw [hz₄] at hoe; cases hoe; simp at hce
    refine wpAny_setField_rec hz₄ (by simp) fun h₅ _ hs₅ => hE h₅ e (fun c o c1 c2 c3 c4 x => hs₅.extBut _ _ c1 (hs₄ _ _ c4 (hs₃.extBut _ _ c2 (hs₂.extBut _ _ c3 (hs₁.extBut _ _ c1 x))))) ⟨oe, hs₅.extBut _ _ hez hoe, hce⟩

theorem pyNext_zip_item {z TI TO i1 i2 l1 l2 : Addr} {k1 k2 : Nat} {xs ys : Array Value} {x y a b : Value} {Q : Option Value → Shared → Prop} (D : ZipApart z TI TO i1 i2 l1 l2)
    (hz : IsZip s.heap z TI TO .none) (hTI : IsPair s.heap TI (.ref i1) (.ref i2)) (hTO : IsPair s.heap TO a b)
    (h1 : K1.It s.heap i1 l1 k1) (h2 : K2.It s.heap i2 l2 k2) (hl1 : K1.Sr s.heap l1 xs) (hl2 : K2.Sr s.heap l2 ys) (hx : xs[k1]? = some x) (hy : ys[k2]? = some y)
    (hQ : ∀ h', IsZip h' z TI TO (rawInt s.heap.objs.size) → IsPair h' TO x y → K1.It h' i1 l1 (k1 + 1) → K2.It h' i2 l2 (k2 + 1) → IsPair h' s.heap.objs.size x y → h'.objs.size = s.heap.objs.size + 1 →
      (∀ c o, c ≠ z → c ≠ TO → c ≠ i1 → c ≠ i2 → s.heap.get? c = some o → h'.get? c = some o) → Q (some (.ref s.heap.objs.size)) { s with heap := h' }) :
    wpAny (model prog w) A (pyNext (.ref z)) Q E s := by
  have hT : s.TypeIs (.ref z) "zip" := ⟨_, hz, rfl⟩
  unfold pyNext
  exact wpAny_bind (wpAny_attempt (wpAny_callSpecial?_slot (name := Str.ofString "__next__") hT F.slot_zip_next
    (wpAny_call_entry F.slot_zip_next hT F.entry_zip_next
      (zip_next_item D hz hTI hTO h1 h2 hl1 hl2 hx hy fun h' a1 a2 a3 a4 a5 a6 a7 => wpAny_pure (hQ h' a1 a2 a3 a4 a5 a6 a7)) (F.args_zip_next_1 _))))
theorem pyNext_zip_end {z TI TO i1 i2 l1 l2 : Addr} {k1 k2 : Nat} {xs ys : Array Value} {a b : Value} {Q : Option Value → Shared → Prop} (hh : A.handled = none) (D : ZipApart z TI TO i1 i2 l1 l2)
    (hz : IsZip s.heap z TI TO .none) (hTI : IsPair s.heap TI (.ref i1) (.ref i2)) (hTO : IsPair s.heap TO a b)
    (h1 : K1.It s.heap i1 l1 k1) (h2 : K2.It s.heap i2 l2 k2) (hl1 : K1.Sr s.heap l1 xs) (hl2 : K2.Sr s.heap l2 ys) (hend : xs[k1]? = none ∨ ys[k2]? = none)
    (hQ : ∀ h', (∀ c o, c ≠ z → c ≠ TO → c ≠ i1 → c ≠ i2 → s.heap.get? c = some o → h'.get? c = some o) → Q none { s with heap := h' }) : wpAny (model prog w) A (pyNext (.ref z)) Q E s := by
  have hT : s.TypeIs (.ref z) "zip" := ⟨_, hz, rfl⟩
  unfold pyNext
  refine wpAny_bind (wpAny_attempt (wpAny_callSpecial?_slot (name := Str.ofString "__next__") hT F.slot_zip_next
    (wpAny_call_entry F.slot_zip_next hT F.entry_zip_next (zip_next_end hh D hz hTI hTO h1 h2 hl1 hl2 hend fun h' e hk he => ?_) (F.args_zip_next_1 _))))
  obtain ⟨o, ho, hc⟩ := he
  refine wpAny_bind (wpAny_isInstance (T := "StopIteration") (b := true) ⟨o, ho, hc⟩ isSubtype_stop ?_)
  exact wpAny_pure (hQ _ hk)

def Kd.name : Kd → String
  | .lst => "list_iterator"
  | .tup => "tuple_iterator"
def Kd.obj (k : Kd) (l : Addr) : Obj := { cls := .type k.name, data := .fields #[.ref l, .int 0 0] }
theorem Kd.iter {k : Kd} {l : Addr} {xs : Array Value} {Q : Value → Shared → Prop} (hl : k.Sr s.heap l xs) (hQ : Q (.ref s.heap.objs.size) { s with heap := s.heap.push (k.obj l) }) : wpAny (model prog w) A (pyIter (.ref l)) Q E s := by
  cases k
  · exact wpAny_pyIter_list hl hQ
  · exact wpAny_pyIter_tuple hl hQ
theorem Kd.Sr.push {k : Kd} {h : Heap} {l : Addr} {xs : Array Value} (x : k.Sr h l xs) (o : Obj) : k.Sr (h.push o) l xs := x.at fun _ e => Heap.get?_push_of_some _ e
theorem Kd.it0 {k : Kd} {h : Heap} {it l : Addr} (e : h.get? it = some (k.obj l)) : k.It h it l 0 := by
  cases k
  · exact ⟨_, e, rfl, rfl⟩
  · exact ⟨_, e, rfl, rfl⟩
abbrev zH1 (K1 : Kd) (h : Heap) (l1 : Addr) : Heap := h.push (K1.obj l1)
abbrev zH2 (K1 K2 : Kd) (h : Heap) (l1 l2 : Addr) : Heap := (zH1 K1 h l1).push (K2.obj l2)
abbrev zH3 (K1 K2 : Kd) (h : Heap) (l1 l2 : Addr) : Heap := (zH2 K1 K2 h l1 l2).push { cls := .type "tuple", data := .seq #[.ref h.objs.size, .ref (zH1 K1 h l1).objs.size] }
abbrev zH4 (K1 K2 : Kd) (h : Heap) (l1 l2 : Addr) : Heap := (zH3 K1 K2 h l1 l2).push { cls := .type "tuple", data := .seq #[.none, .none] }
abbrev zH5 (K1 K2 : Kd) (h : Heap) (l1 l2 : Addr) : Heap := (zH4 K1 K2 h l1 l2).push { cls := .type "zip", data := .fields #[.none, .bool false, .bool false, .ref (zH2 K1 K2 h l1 l2).objs.size, .ref (zH3 K1 K2 h l1 l2).objs.size] }
theorem meets_zip_new (K1 K2 : Kd) (l1 l2 : Addr) (xs ys : Array Value) :
    Meets (Builtin.«zip.__new__» ⟨[.type "zip", .ref l1, .ref l2], []⟩) (fun _ R s => K1.Sr s.heap l1 xs ∧ K2.Sr s.heap l2 ys ∧
      R (.ok (.ret (.ref (zH4 K1 K2 s.heap l1 l2).objs.size))) { s with heap := zH5 K1 K2 s.heap l1 l2 }) :=
  .of_wp fun prog w A R s h => by
    obtain ⟨hp, g, d, tk, os⟩ := s; obtain ⟨hl1, hl2, h⟩ := h
    have hsub := sub_zip
    have hL1 : K1.Sr (Shared.heap ⟨hp, g, d, tk, os⟩) l1 xs := hl1
    have hL2 : K2.Sr (Shared.heap ⟨hp.push (K1.obj l1), g, d, tk, os⟩) l2 ys := hl2.push _
    wp_walk using Kd.iter hL1, Kd.iter hL2
    exact ⟨_, rfl, h⟩
theorem call_zip_2 {l1 l2 : Addr} {xs ys : Array Value} {Q : Value → Shared → Prop} (hl1 : K1.Sr s.heap l1 xs) (hl2 : K2.Sr s.heap l2 ys)
    (h : ∀ h', IsZip h' (s.heap.objs.size + 4) (s.heap.objs.size + 2) (s.heap.objs.size + 3) .none → IsPair h' (s.heap.objs.size + 2) (.ref s.heap.objs.size) (.ref (s.heap.objs.size + 1)) →
      IsPair h' (s.heap.objs.size + 3) .none .none → K1.It h' s.heap.objs.size l1 0 → K2.It h' (s.heap.objs.size + 1) l2 0 → h'.objs.size = s.heap.objs.size + 5 →
      (∀ c o, s.heap.get? c = some o → h'.get? c = some o) → Q (.ref (s.heap.objs.size + 4)) { s with heap := h' }) :
    wpAny (model prog w) A (call (.type "zip") [.ref l1, .ref l2]) Q E s := by
  refine callType_new F.called_zip (by decide) (F.typeCall_zip_2 _ _) (F.newCall_zip_2 _ _) (fun obj => F.args_object_init_3 obj _ _) F.entry_zip_new
    (meets_zip_new K1 K2 l1 l2 xs ys) ⟨hl1, hl2, ?_⟩
  have z1 : (zH1 K1 s.heap l1).objs.size = s.heap.objs.size + 1 := Heap.size_push ..
  have z2 : (zH2 K1 K2 s.heap l1 l2).objs.size = s.heap.objs.size + 2 := by rw [Heap.size_push, z1]
  have z3 : (zH3 K1 K2 s.heap l1 l2).objs.size = s.heap.objs.size + 3 := by rw [Heap.size_push, z2]
  have z4 : (zH4 K1 K2 s.heap l1 l2).objs.size = s.heap.objs.size + 4 := by rw [Heap.size_push, z3]
  have z5 : (zH5 K1 K2 s.heap l1 l2).objs.size = s.heap.objs.size + 5 := by rw [Heap.size_push, z4]
  have g5 : (zH5 K1 K2 s.heap l1 l2).get? (zH4 K1 K2 s.heap l1 l2).objs.size = some _ := Heap.get?_push_size _ rfl
  have g4 : (zH5 K1 K2 s.heap l1 l2).get? (zH3 K1 K2 s.heap l1 l2).objs.size = some _ := Heap.get?_push_of_some _ (Heap.get?_push_size _ rfl)
  have g3 : (zH5 K1 K2 s.heap l1 l2).get? (zH2 K1 K2 s.heap l1 l2).objs.size = some _ := Heap.get?_push_of_some _ (Heap.get?_push_of_some _ (Heap.get?_push_size _ rfl))
  have g2 : (zH5 K1 K2 s.heap l1 l2).get? (zH1 K1 s.heap l1).objs.size = some (K2.obj l2) := Heap.get?_push_of_some _ (Heap.get?_push_of_some _ (Heap.get?_push_of_some _ (Heap.get?_push_size _ rfl)))
  have g1 : (zH5 K1 K2 s.heap l1 l2).get? s.heap.objs.size = some (K1.obj l1) := Heap.get?_push_of_some _ (Heap.get?_push_of_some _ (Heap.get?_push_of_some _ (Heap.get?_push_of_some _ (Heap.get?_push_size _ rfl))))
  show _ ∧ _
  rw [z2, z3, z4] at g5
  rw [z1, z2] at g3
  rw [z3] at g4
  rw [z1] at g2
  rw [z4]
  exact ⟨⟨_, g5, rfl⟩, h _ g5 g3 g4 (Kd.it0 g1) (Kd.it0 g2) z5 fun c o x =>
    Heap.get?_push_of_some _ (Heap.get?_push_of_some _ (Heap.get?_push_of_some _ (Heap.get?_push_of_some _ (Heap.get?_push_of_some _ x))))⟩
end
end ZT
namespace L2
open PySem PySem.Spec PyProof.Rows
/-- several records of ours have turned -/
theorem Inv.turnedL {X : Cx} {pins : List (Addr × Obj)} {σ : St} {H : Hp} {s : Shared} {h' : Heap} {t' : Nat} {ch : List Addr} (I : Inv X pins σ H s) (k : ∀ b o, b ∉ ch → s.heap.get? b = some o → h'.get? b = some o) (hf : ∀ b ∈ ch, FpOk X pins H b) :
    Inv X pins σ H { s with heap := h', toks := t' } := by
  have nit : ∀ b u, H b = some u → b ∉ ch := fun b u e z => by rw [(hf b z).1] at e; cases e
  refine I.step (g' := s.gens) (d' := s.drawn) (ch := ch) (fun b hb => ?_) (fun b o _ _ hc e _ => k b o hc e) (fun b o _ _ hc e _ => ⟨o.slots, k b o hc e⟩) (fun _ _ _ _ n => n)
    (fun b o hc e => ⟨o, k b o hc e⟩) (fun _ _ e => e) (fun _ _ _ e => e) (fun b ps e => ⟨#[], by rw [e]; simp⟩) (fun m hm => ?_) (fun b u e => ?_) I.bare
  · obtain ⟨f0, f1, f2, f3, f4, f5⟩ := hf b hb
    exact ⟨f3, f1, f4, f5⟩
  · obtain ⟨o, es, ep, ho, r⟩ := hm
    exact ⟨o, es, ep, k _ o (fun z => (hf _ z).2.1 rfl) ho, r⟩
  · refine (I.hok b u e).stay (fun c v hc q => k c v ?_ q) (fun _ q => q) fun _ _ q => q
    rcases hc with z | z
    · rw [z]; exact nit b u e
    · exact nit c _ z
/-- a source of a zip: a list or a tuple -/
def Sq (K : PySem.W.Frag) (k : ZT.Kd) (H : Hp) (a : Addr) (xs : List V) : Prop := match k with
  | .lst => SqL K H a xs
  | .tup => SqT K H a xs
theorem Inv.sq {X : Cx} {pins : List (Addr × Obj)} {σ : St} {H : Hp} {s : Shared} {k : ZT.Kd} {a : Addr} {xs : List V} (I : Inv X pins σ H s) (h : Sq X.K k H a xs) : ∃ its : List Value, Vals xs its ∧ k.Sr s.heap a its.toArray ∧ xs.length ≤ sizeLine := by
  cases k
  · obtain ⟨its, r, p, z⟩ := I.list h
    exact ⟨its, r, p.isList, z⟩
  · obtain ⟨its, r, p, z⟩ := I.tuple h
    exact ⟨its, r, p, z⟩
/-- at turn i the pair of the i-th items, a new tuple -/
def Itz (K : PySem.W.Frag) (k1 k2 : ZT.Kd) (a1 a2 : Addr) : It :=
  ⟨fun i H => ∃ xs ys x y, Sq K k1 H a1 xs ∧ Sq K k2 H a2 ys ∧ xs[i]? = some x ∧ ys[i]? = some y,
   fun i H v H' => ∃ x y p, (∀ xs, Sq K k1 H a1 xs → xs[i]? = some x) ∧ (∀ ys, Sq K k2 H a2 ys → ys[i]? = some y) ∧ H p = none ∧ v = .ref p ∧ H' = upd H p (.tup [x, y]),
   fun i H => ∃ xs ys, Sq K k1 H a1 xs ∧ Sq K k2 H a2 ys ∧ (xs.length ≤ i ∨ ys.length ≤ i)⟩
theorem Inv.sq_inj {X : Cx} {pins : List (Addr × Obj)} {σ : St} {H : Hp} {s : Shared} {k : ZT.Kd} {a : Addr} {xs ys : List V} (I : Inv X pins σ H s) (h : Sq X.K k H a xs) (h' : Sq X.K k H a ys) : xs = ys := by
  cases k
  · exact I.list_inj h h'
  · exact I.tuple_inj h h'
theorem turn_zip {P : Program} {w : World} {K : PySem.W.Frag} {elts : List Expr} {kt : Nat} {tp : Pos} (k1 k2 : ZT.Kd) (a1 a2 z TI TO i1 i2 : Addr) (D : ZipApart z TI TO i1 i2 a1 a2) :
    Turn P w K (.Tuple elts kt tp) (Itz K k1 k2 a1 a2) [z, TI, TO, i1, i2] z (fun i h => IsZip h z TI TO .none ∧ IsPair h TI (.ref i1) (.ref i2) ∧ (∃ a b, IsPair h TO a b) ∧ k1.It h i1 a1 i ∧ k2.It h i2 a2 i) where
  mem := by simp
  obj := fun i h ⟨hz, hTI, ⟨a, b, hTO⟩, h1, h2⟩ c hc => by
    simp only [List.mem_cons, List.not_mem_nil, or_false] at hc
    rcases hc with rfl | rfl | rfl | rfl | rfl
    · exact ⟨_, hz, fun v q => by cases q⟩
    · exact ⟨_, hTI, fun v q => by cases q⟩
    · exact ⟨_, hTO, fun v q => by cases q⟩
    · cases k1
      · obtain ⟨o, e, _, d⟩ := h1; exact ⟨o, e, fun v q => by rw [d] at q; cases q⟩
      · obtain ⟨o, e, _, d⟩ := h1; exact ⟨o, e, fun v q => by rw [d] at q; cases q⟩
    · cases k2
      · obtain ⟨o, e, _, d⟩ := h2; exact ⟨o, e, fun v q => by rw [d] at q; cases q⟩
      · obtain ⟨o, e, _, d⟩ := h2; exact ⟨o, e, fun v q => by rw [d] at q; cases q⟩
  keep := fun i h h' ⟨hz, hTI, ⟨a, b, hTO⟩, h1, h2⟩ k => ⟨k z (by simp) _ hz, k TI (by simp) _ hTI, ⟨a, b, k TO (by simp) _ hTO⟩, h1.at fun o e => k i1 (by simp) o e, h2.at fun o e => k i2 (by simp) o e⟩
  item := by
    intro X hP hw hK hc i pins s σ H E I hf st hg
    subst hP hw hK
    obtain ⟨hz, hTI, ⟨a, b, hTO⟩, h1, h2⟩ := st
    obtain ⟨xs, ys, x, y, q1, q2, ex, ey⟩ := hg
    obtain ⟨its1, r1, p1, z1⟩ := I.sq q1
    obtain ⟨its2, r2, p2, z2⟩ := I.sq q2
    obtain ⟨u, hu, ru⟩ := r1.get ex
    obtain ⟨u', hu', ru'⟩ := r2.get ey
    refine ZT.pyNext_zip_item D hz hTI hTO h1 h2 p1 p2 (x := u) (y := u') (by simpa using hu) (by simpa using hu') fun h' c1 c2 c3 c4 c5 c6 c7 => ?_
    refine ⟨.ref s.heap.objs.size, rfl, wpAny_letOwnedTupleGo_zip c1 fun h'' hz'' hs'' => ?_⟩
    have hf' : ∀ b ∈ [z, TO, i1, i2], FpOk X pins H b := fun b hb => hf b (by simp only [List.mem_cons, List.not_mem_nil, or_false] at hb ⊢; rcases hb with rfl | rfl | rfl | rfl <;> simp)
    have hTIlt : TI < s.heap.objs.size := Heap.lt_size hTI
    have ne : ∀ {c : Addr} {o : Obj}, s.heap.get? c = some o → s.heap.objs.size ≠ c := fun e => Nat.ne_of_gt (Heap.lt_size e)
    have kk : ∀ c o, c ∉ [z, TO, i1, i2] → s.heap.get? c = some o → h''.get? c = some o := fun c o hc e => by
      simp only [List.mem_cons, List.not_mem_nil, or_false, not_or] at hc
      exact hs''.extBut c o hc.1 (c7 c o hc.1 hc.2.1 hc.2.2.1 hc.2.2.2 e)
    -- first the records turn, in a heap without the new pair's track
    have I1 : Inv X pins σ H { s with heap := h'' } := I.turnedL (t' := s.toks) kk hf'
    have hT : h''.get? s.heap.objs.size = some { cls := .type "tuple", data := .seq #[u, u'] } := hs''.extBut _ _ (ne hz) c5
    have hn : H s.heap.objs.size = none := I.hok.fresh (Nat.le_refl _)
    refine ⟨.ref s.heap.objs.size, upd H s.heap.objs.size (.tup [x, y]), ?_, rfl, ⟨x, y, s.heap.objs.size, fun zs hz => by rw [I.sq_inj hz q1]; exact ex, fun zs hz => by rw [I.sq_inj hz q2]; exact ey, hn, rfl, rfl⟩, ⟨hz'', hs''.extBut _ _ D.TIz (c7 _ _ D.TIz D.TITO D.TIi1 D.TIi2 hTI), ⟨_, _, hs''.extBut _ _ D.TOz c2⟩, c3.extBut hs''.extBut D.i1z, c4.extBut hs''.extBut D.i2z⟩, fun b hb => ?_⟩
    · have hok' : HOk X.prog X.w (upd H s.heap.objs.size (.tup [x, y])) h'' := by
        intro b o e
        by_cases hb : b = s.heap.objs.size
        · subst hb
          rw [upd_same] at e
          cases e
          exact ⟨by show 2 ≤ sizeLine; decide, [u, u'], .cons ru (.cons ru' .nil), ⟨_, hT, rfl, ⟨_, rfl⟩, rfl⟩⟩
        · rw [upd_ne hb] at e
          exact (I1.hok b o e).stay (fun c v _ q => q) (fun c q => by rw [upd_ne (ne_of_none q hn)]; exact q) (fun c xs q => by rw [upd_ne (ne_of_none q hn)]; exact q)
      show Inv X pins σ (upd H s.heap.objs.size (.tup [x, y])) { s with heap := h'' }
      refine I.step (h' := h'') (g' := s.gens) (d' := s.drawn) (t' := s.toks) (ch := [z, TO, i1, i2]) (fun b hb => ?_) (fun b o _ _ hc e _ => kk b o hc e) (fun b o _ _ hc e _ => ⟨o.slots, kk b o hc e⟩) (fun b o _ e n => by rw [upd_ne (ne e).symm]; exact n)
        (fun b o hc e => ⟨o, kk b o hc e⟩) (fun b xs e => by rw [upd_ne (ne_of_none e hn)]; exact e) (fun b o xs e => by rw [upd_ne (ne_of_none e hn)]; exact e) (fun b ps e => ⟨#[], by rw [upd_ne (ne_of_none e hn), e]; simp⟩) (fun m hm => ?_) hok' I.bare
      · obtain ⟨f0, f1, f2, f3, f4, f5⟩ := hf' b hb
        exact ⟨f3, f1, f4, f5⟩
      · obtain ⟨o, es, ep, ho, r⟩ := hm
        exact ⟨o, es, ep, kk _ o (fun z => (hf' _ z).2.1 rfl) ho, r⟩
    · rw [upd_ne]
      · exact (hf b hb).1
      · simp only [List.mem_cons, List.not_mem_nil, or_false] at hb
        rcases hb with rfl | rfl | rfl | rfl | rfl
        · exact (ne hz).symm
        · exact (ne hTI).symm
        · exact (ne hTO).symm
        · exact Nat.ne_of_lt h1.lt
        · exact Nat.ne_of_lt h2.lt
  done := by
    intro X hP hw hK hc i pins s σ H E I hf st hg
    subst hP hw hK
    obtain ⟨hz, hTI, ⟨a, b, hTO⟩, h1, h2⟩ := st
    obtain ⟨xs, ys, q1, q2, hl⟩ := hg
    obtain ⟨its1, r1, p1, z1⟩ := I.sq q1
    obtain ⟨its2, r2, p2, z2⟩ := I.sq q2
    have l1 := r1.length
    have l2 := r2.length
    refine ZT.pyNext_zip_end (I.ok.hd hc) D hz hTI hTO h1 h2 p1 p2 ?_ fun h' c7 => ⟨rfl, I.turnedL (t' := s.toks) (ch := [z, TO, i1, i2]) (fun c o hc e => ?_) fun b hb => hf b (by simp only [List.mem_cons, List.not_mem_nil, or_false] at hb ⊢; rcases hb with rfl | rfl | rfl | rfl <;> simp)⟩
    · rcases hl with hl | hl
      · exact .inl (by simp; omega)
      · exact .inr (by simp; omega)
    · simp only [List.mem_cons, List.not_mem_nil, or_false, not_or] at hc
      exact c7 c o hc.1 hc.2.1 hc.2.2.1 hc.2.2.2 e
  self := fun _ _ _ _ _ st h => wpAny_pyIter_zip st.1 h
end L2

namespace L2
open PySem PySem.Spec PyProof.Rows
section
variable {X : Cx}
/-- for a, b in zip(e, f) -/
def iZip (K : PySem.W.Frag) (ta tb : TE) : TI := fun σ H R => ta σ H fun x H1 => tb σ H1 fun y H2 => ∃ k1 k2 a1 a2, x = .ref a1 ∧ y = .ref a2 ∧ (∃ xs, Sq K k1 H2 a1 xs) ∧ (∃ ys, Sq K k2 H2 a2 ys) ∧ R (Itz K k1 k2 a1 a2) H2
theorem pi_zip {elts : List Expr} {kt : Nat} {tp p pos : Pos} {a b : Expr} {ta tb : TE} (hg : Gl X "zip") (hm : X.mg "zip" = none) (ha : PE X a ta) (hb : PE X b tb)
    (hv : bootBuiltins "zip" = some (.type "zip") := by decide +kernel) (hs : starEach [a, b] X.env = (false, eval a X.env) :: starEach [b] X.env := by exact star_cons rfl) (hs2 : starEach [b] X.env = (false, eval b X.env) :: starEach [] X.env := by exact star_cons rfl) (hpl : (backTo pos (starEach [b] X.env)).any (·.1) = false := by exact back_any rfl) :
    PI X (.Tuple elts kt tp) (.Call (.Name "zip" p) [a, b] [] pos) (iZip X.K ta tb) := by
  intro pins s σ H R I h
  have hA : PA X [a, b] (tCons ta (tCons tb tNil)) := pa_cons ha (pa_cons hb pa_nil hs2) hs
  refine wpAny_Call_Name_kw (ld_blt I hg hm hv (PyProof.Rows.callWith_type1 (thn (hA pos pins s σ H (fun vs H2 => match vs with
    | [x, y] => ∃ k1 k2 a1 a2, x = .ref a1 ∧ y = .ref a2 ∧ (∃ xs, Sq X.K k1 H2 a1 xs) ∧ (∃ ys, Sq X.K k2 H2 a2 ys) ∧ R (Itz X.K k1 k2 a1 a2) H2
    | _ => False) I h) fun us s1 ⟨vs, H1, I1, r1, q1⟩ => ?_) hs hpl))
  dsimp only at q1
  split at q1
  · obtain ⟨k1, k2, a1, a2, rfl, rfl, ⟨xs, q1⟩, ⟨ys, q2⟩, q⟩ := q1
    obtain ⟨u, u', rfl, ru, ru'⟩ := vals2 r1
    cases ru
    cases ru'
    obtain ⟨its1, _, p1, _⟩ := I1.sq q1
    obtain ⟨its2, _, p2, _⟩ := I1.sq q2
    refine ZT.call_zip_2 p1 p2 fun h' hz hTI hTO h1 h2 hsz hk => ?_
    have I2 : Inv X pins σ H1 { s1 with heap := h' } := I1.kept (t' := s1.toks) hk
    refine wpAny_pyIter_zip (s := { s1 with heap := h' }) hz ?_
    refine ⟨_, [_, _, _, _, _], _, _, H1, rfl, I2, turn_zip k1 k2 a1 a2 _ _ _ _ _ (zipApart_new p1.lt p2.lt), ⟨hz, hTI, ⟨_, _, hTO⟩, h1, h2⟩, fun b hb => ?_, q⟩
    have hb' : s1.heap.objs.size ≤ b := by
      simp only [List.mem_cons, List.not_mem_nil, or_false] at hb
      rcases hb with rfl | rfl | rfl | rfl | rfl <;> omega
    exact I1.fpOk hb' (I1.hok.fresh hb')
  · exact q1.elim
end
end L2
namespace DL
open PySem PySem.Spec L2
open PyProof.Rows hiding St
section
variable {X : Cx} {F : Fx}
def zipD (xs ys : List Dt) : List Dt := (xs.zip ys).map fun p => Dt.tup [p.1, p.2]
def diZip (ta tb : TDE) : TDI := fun σ G R => ta σ G fun x G1 => tb σ G1 fun y G2 => match x, y with
  | .tup xs, .tup ys => R (zipD xs ys) (fun _ => True) G2
  | _, _ => False
theorem zipD_get {xs ys : List Dt} {i : Nat} {d : Dt} (h : (zipD xs ys)[i]? = some d) : ∃ x y, xs[i]? = some x ∧ ys[i]? = some y ∧ d = .tup [x, y] := by
  unfold zipD at h
  rw [List.getElem?_map] at h
  cases e : (xs.zip ys)[i]? with
  | none => rw [e] at h; cases h
  | some p =>
    rw [e] at h
    cases h
    obtain ⟨h1, h2⟩ := List.getElem?_zip_eq_some.mp e
    exact ⟨p.1, p.2, h1, h2, rfl⟩
theorem zipD_len (xs ys : List Dt) : (zipD xs ys).length = min xs.length ys.length := by simp [zipD]
theorem itz_D {K : PySem.W.Frag} {H0 : Hp} {ι0 : List Addr} {a b : Addr} {xs ys : List Dt} {vs ws : List V} (s1 : SqT K H0 a vs) (r1 : Rps K H0 ι0 xs vs) (s2 : SqT K H0 b ws) (r2 : Rps K H0 ι0 ys ws) :
    ItD K (Itz K .tup .tup a b) (zipD xs ys) (fun _ => True) H0 ι0 where
  stop := fun G H ι hG g _ => ⟨vs, ws, g.tup _ _ s1, g.tup _ _ s2, by rw [zipD_len, r1.len, r2.len]; omega⟩
  go := fun i d G H ι e hG g _ => by
    obtain ⟨x, y, ex, ey, rfl⟩ := zipD_get e
    obtain ⟨v, q1, rv⟩ := r1.get ex
    obtain ⟨v', q2, rv'⟩ := r2.get ey
    refine ⟨⟨vs, ws, v, v', g.tup _ _ s1, g.tup _ _ s2, q1, q2⟩, fun u H2 yl => ?_⟩
    obtain ⟨z1, z2, p, h1, h2, hp, rfl, rfl⟩ := yl
    have e1 := h1 vs (g.tup _ _ s1)
    rw [q1] at e1
    cases e1
    have e2 := h2 ws (g.tup _ _ s2)
    rw [q2] at e2
    cases e2
    exact rp_newTup hG (Rps.cons (rv.up g) (Rps.cons (rv'.up g) Rps.nil)) hp
theorem di_zip {elts : List Expr} {kt : Nat} {tp p pos : Pos} {a b : Expr} {ta tb : TDE} (ha : DE X F a ta) (hb : DE X F b tb) (hm : X.mg "zip" = none) (hg : Gl X "zip" := by rfl)
    (hs : starEach [a, b] X.env = (false, eval a X.env) :: starEach [b] X.env := by exact star_cons rfl) (hs2 : starEach [b] X.env = (false, eval b X.env) :: starEach [] X.env := by exact star_cons rfl) (hpl : (backTo pos (starEach [b] X.env)).any (·.1) = false := by exact back_any rfl) :
    DI X F (.Tuple elts kt tp) (.Call (.Name "zip" p) [a, b] [] pos) (diZip ta tb) := by
  refine PI.imp (pi_zip hg hm ha hb (by decide +kernel) hs hs2 hpl) fun σ H R ⟨σd, G, ι, Q, ok, ht, hq⟩ => ?_
  refine ⟨σd, G, ι, _, ok, ht, fun v1 H1 d1 G1 ι1 h1 g1 r1 q1 => ⟨σd, G1, ι1, _, ok.to h1 g1, q1, fun v2 H2 d2 G2 ι2 h2 g2 r2 q2 => ?_⟩⟩
  have r1' := r1.up g2
  cases d1 with
  | tup xs =>
    cases d2 with
    | tup ys =>
      obtain ⟨a1, vs, e1, s1, rr1⟩ := r1'
      obtain ⟨a2, ws, e2, s2, rr2⟩ := r2
      exact ⟨.tup, .tup, a1, a2, e1, e2, ⟨vs, s1⟩, ⟨ws, s2⟩, hq _ H2 _ _ G2 ι2 h2 (g1.trans g2) (itz_D s1 rr1 s2 rr2) q2⟩
    | _ => exact q2.elim
  | _ => exact q2.elim
theorem di_zip' {elts : List Expr} {kt : Nat} {tp p pos : Pos} {a b : Expr} {ta tb : TDE} (ha : DE' X F a ta) (hb : DE' X F b tb) (hm : X.mg "zip" = none) (hg : Gl X "zip" := by rfl)
    (hs : starEach [a, b] X.env = (false, eval a X.env) :: starEach [b] X.env := by exact star_cons rfl) (hs2 : starEach [b] X.env = (false, eval b X.env) :: starEach [] X.env := by exact star_cons rfl) (hpl : (backTo pos (starEach [b] X.env)).any (·.1) = false := by exact back_any rfl) : DI' X F (.Tuple elts kt tp) (.Call (.Name "zip" p) [a, b] [] pos) (diZip ta tb) :=
  ⟨di_zip (ha := ha.p) (hb := hb.p) (hm := hm) (hg := hg) (hs := hs) (hs2 := hs2) (hpl := hpl)⟩
end
end DL
namespace L2
open PySem PySem.Spec PyProof.Rows
section
variable {κ : Type} [DecidableEq κ]
theorem valV_in {kvs : List (κ × V)} {k : κ} {v : V} (h : valV kvs k = some v) : k ∈ kvs.map (·.1) := by
  have q : (kvs.any fun kv => decide (kv.1 = k)) = true := by
    rw [valV_any, h]
    all_goals rfl
  obtain ⟨p, hp, e⟩ := List.any_eq_true.mp q
  exact List.mem_map.mpr ⟨p, hp, of_decide_eq_true e⟩
end
end L2
namespace DL
open PySem PySem.Spec L2
open PyProof.Rows hiding St

/-! ### a dict of the module's top, its keys texts -/
structure Tab {δ : Type} (R : δ → Value → Prop) (K : PySem.W.Frag) (a : Addr) (D : List (Str × δ)) : Prop where
  sys : (a == sysModules) = false
  ex : ∃ o es ep, K.lookup a = some o ∧ o.ExactDict ∧ o.data = .dict es ep ∧ KTD.Rows R es.toList D
section
variable {prog : Program} {w : World} {A : Around} {E : Value → Shared → Prop} {s : Shared}
theorem dictGet_tab {δ : Type} {R : δ → Value → Prop} {K : PySem.W.Frag} {a : Addr} {D : List (Str × δ)} {k : Str} {tk : Tok} {Q : Option Value → Shared → Prop} (T : Tab R K a D) (hK : K.In s.heap)
    (h1 : ∀ d v, KTD.datumAt k D = some d → R d v → Q (some v) { s with toks := s.toks + 1 }) (h2 : KTD.datumAt k D = none → Q none { s with toks := s.toks + 1 }) : wpAny (model prog w) A (dictGet a (.str k tk)) Q E s := by
  obtain ⟨o, es, ep, ho, hc, hd, hr⟩ := T.ex
  have ho := hK _ _ ho
  unfold dictGet
  try with_reducible refine wpAny_holding ?_
  refine wpAny_bind (wpAny_pyHash_str (wpAny_bind (KTD.kt_dictFind_strs (s := { s with toks := s.toks + 1 }) ho hd (by obtain ⟨l⟩ := es; simpa using hr.exact) ?_)))
  have hq : Q (findBy (fun k v => v.isStr k) es k) { s with toks := s.toks + 1 } := by
    have hf : findBy (fun k v => v.isStr k) es k = (es.toList.find? fun e => e.key.isStr k).map (·.val) := by
      obtain ⟨l⟩ := es
      simp [findBy]
    rw [hf]
    cases hat : KTD.datumAt k D with
    | some d => obtain ⟨v, hv, hfl⟩ := hr.find_some hat; rw [hv]; exact h1 d v hat hfl
    | none => rw [hr.find_none hat]; exact h2 hat
  rw [findBy_of_findIdx?] at hq
  cases hi : es.findIdx? fun e => e.key.isStr k with
  | none => rw [hi] at hq; exact wpAny_pure hq
  | some i => rw [hi] at hq; exact wpAny_bind (wpAny_dictEntries (s := { s with toks := s.toks + 1 }) ho hd (wpAny_pure hq))
theorem call_get_tab {δ : Type} {R : δ → Value → Prop} {K : PySem.W.Frag} {a : Addr} {D : List (Str × δ)} {k : Str} {tk : Tok} {Q : Value → Shared → Prop} (T : Tab R K a D) (hK : K.In s.heap)
    (h1 : ∀ d v, KTD.datumAt k D = some d → R d v → Q v { s with toks := s.toks + 1 }) (h2 : KTD.datumAt k D = none → Q .none { s with toks := s.toks + 1 }) : wpAny (model prog w) A (call (.builtin "dict.get") [.ref a, .str k tk]) Q E s := by
  obtain ⟨o, es, ep, ho, hc, hd, hr⟩ := id T.ex
  have ty : s.TypeIs (.ref a) "dict" := ⟨o, hK _ _ ho, hc.1⟩
  refine wpAny_call_entry PySem.F.slot_dict_get ty PySem.F.entry_dict_get ?_ (PySem.F.args_dict_get_2 _ _)
  show wpAny _ _ (dictGet a (.str k tk) >>= _) _ _ s
  refine wpAny_bind (dictGet_tab T hK (fun d v ha hv => wpAny_pure ⟨v, rfl, h1 d v ha hv⟩) fun hn => ?_)
  show wpAny _ _ (Builtin.Dict.missed a (.str k tk) >>= _) _ _ _
  exact wpAny_bind (wpAny_missed_other T.sys (wpAny_pure ⟨.none, rfl, h2 hn⟩))
end
/-- a value of the module's own -/
def RM (K : PySem.W.Frag) (d : Dt) (u : Value) : Prop := ∃ v, RelV v u ∧ ∀ H ι, Rp K H ι d v
section
variable {X : Cx} {F : Fx} {e : Expr} {te : TDE} {x : Str} {p apos cpos pos : Pos}
def dMGet (D : List (Str × Dt)) (te : TDE) : TDE := fun σ G Q => te σ G fun d G1 => match d with
  | .str k => Q ((KTD.datumAt k D).getD .non) G1
  | _ => False
theorem de_mget {D : List (Str × Dt)} (M : ∃ a, X.mg x = some (.ref a) ∧ Tab (RM X.K) X.K a D) (he : DE X F e te) (hg : Gl X x := by rfl) (hd : (x == ("__debug__" : Str)) = false := by decide)
    (base : attributeBase (.Name x p) "get" X.env (eval (.Name x p) X.env) = eval (.Name x p) X.env := by rfl)
    (few : ((backTo cpos (starEach [e] X.env)).all (fun x => !x.1) && (backToKw cpos (keywordEach [] X.env)).all (fun x => x.1.isSome)
      && decide (([e] : List Expr).length + ([] : List Keyword).length + (if ([] : List Keyword).isEmpty then 0 else 1) < 30)) = true := by rfl)
    (line : (apos.endLine == cpos.line) = true := by rfl) (trees : backTo cpos (starEach [e] X.env) = [(false, eval e X.env)] := by exact back_one rfl) :
    DE X F (.Call (.Attribute (.Name x p) "get" apos) [e] [] cpos) (dMGet D te) := by
  obtain ⟨a, hm, T⟩ := M
  intro pins s σ H Qv I ⟨σd, G, ι, Q, ok, ht, hq⟩
  obtain ⟨o, es, ep, hk, hc, _⟩ := id T.ex
  refine wpAny_Call_method base few line PySem.F.plainAttrs_dict PySem.F.slot_dict_get PySem.F.type_dict_get (ld_glob I hg hm ?_ hd)
  refine ⟨⟨o, I.kIn a o hk, hc.1⟩, fun b q => by cases q; exact ⟨o, I.kIn _ o hk, hc.2.1⟩, ?_⟩
  rw [trees]
  refine Calls.callWith_builtin rfl (Calls.evalArgs_plain (Calls.spliced_cons (thn (he pins s σ H (fun v H1 => ∃ k G1 ι1, v = .str k ∧ HG X.K G1 H1 ι1 ∧ Gr X.K H ι H1 ι1 ∧ Q ((KTD.datumAt k D).getD .non) G1) I
    ⟨σd, G, ι, _, ok, ht, fun v H1 d G1 ι1 h1 g1 r1 q1 => ?_⟩) fun iv s2 ⟨y, H2, I2, ry, q2⟩ => Calls.spliced_nil ?_)))
  · cases d with
    | str k => exact ⟨k, G1, ι1, r1, h1, g1, q1⟩
    | _ => exact q1.elim
  · obtain ⟨k, G1, ι1, rfl, h1, g1, q⟩ := q2
    obtain ⟨t, rfl⟩ := ry
    refine call_get_tab T I2.kIn (fun d v hd ⟨v', rv, rp⟩ => ?_) fun hn => ?_
    · rw [hd] at q
      exact ⟨v', H2, I2.tok _, rv, hq v' H2 d G1 ι1 h1 g1 (rp _ _) q⟩
    · rw [hn] at q
      exact ⟨.non, H2, I2.tok _, rfl, hq .non H2 .non G1 ι1 h1 g1 rfl q⟩

theorem de_mget' {D : List (Str × Dt)} (M : ∃ a, X.mg x = some (.ref a) ∧ Tab (RM X.K) X.K a D) (he : DE' X F e te) (hg : Gl X x := by rfl) (hd : (x == ("__debug__" : Str)) = false := by decide)
    (base : attributeBase (.Name x p) "get" X.env (eval (.Name x p) X.env) = eval (.Name x p) X.env := by rfl)
    (few : ((backTo cpos (starEach [e] X.env)).all (fun x => !x.1) && (backToKw cpos (keywordEach [] X.env)).all (fun x => x.1.isSome)
      && decide (([e] : List Expr).length + ([] : List Keyword).length + (if ([] : List Keyword).isEmpty then 0 else 1) < 30)) = true := by rfl)
    (line : (apos.endLine == cpos.line) = true := by rfl) (trees : backTo cpos (starEach [e] X.env) = [(false, eval e X.env)] := by exact back_one rfl) : DE' X F (.Call (.Attribute (.Name x p) "get" apos) [e] [] cpos) (dMGet D te) :=
  ⟨de_mget (M := M) (he := he.p) (hg := hg) (hd := hd) (base := base) (few := few) (line := line) (trees := trees)⟩
/-! ### {k: v, ..} -/
def dPairs : List (TDE × TDE) → SD → GD → (List (Dt × Dt) → GD → Prop) → Prop
  | [], _, G, Q => Q [] G
  | (tk, tv) :: r, σ, G, Q => tk σ G fun x G1 => tv σ G1 fun y G2 => dPairs r σ G2 fun ps G3 => Q ((x, y) :: ps) G3
def RpP (K : PySem.W.Frag) (H : Hp) (ι : List Addr) : List (Dt × Dt) → List (V × V) → Prop
  | [], vs => vs = []
  | d :: ds, vs => ∃ v r, vs = v :: r ∧ Rp K H ι d.1 v.1 ∧ Rp K H ι d.2 v.2 ∧ RpP K H ι ds r
def DPs (X : Cx) (F : Fx) (pos : Pos) (keys : List (Option Expr)) (values : List Expr) (trs : List (TDE × TDE)) : Prop := PPs X pos keys values (trs.map fun p => (liE X.K F p.1, liE X.K F p.2))
structure DPs' (X : Cx) (F : Fx) (pos : Pos) (keys : List (Option Expr)) (values : List Expr) (trs : List (TDE × TDE)) : Prop where
  p : DPs X F pos keys values trs
theorem dps_nil : DPs X F pos [] [] [] := pps_nil
theorem dps_nil' : DPs' X F pos [] [] [] :=
  ⟨dps_nil ⟩
theorem dps_cons {k v : Expr} {ks : List (Option Expr)} {vs : List Expr} {tk tv : TDE} {trs : List (TDE × TDE)} (hk : DE X F k tk) (hv : DE X F v tv) (hr : DPs X F pos ks vs trs) : DPs X F pos (some k :: ks) (v :: vs) ((tk, tv) :: trs) := pps_cons hk hv hr
theorem dps_cons' {k v : Expr} {ks : List (Option Expr)} {vs : List Expr} {tk tv : TDE} {trs : List (TDE × TDE)} (hk : DE' X F k tk) (hv : DE' X F v tv) (hr : DPs' X F pos ks vs trs) : DPs' X F pos (some k :: ks) (v :: vs) ((tk, tv) :: trs) :=
  ⟨dps_cons (hk := hk.p) (hv := hv.p) (hr := hr.p)⟩
theorem tp_of {K : PySem.W.Frag} {σd : SD} {σ : St} : ∀ (trs : List (TDE × TDE)) (G : GD) (H : Hp) (ι : List Addr) (Q : List (Dt × Dt) → GD → Prop) (Qv : List (V × V) → Hp → Prop), Ok K F σd G σ H ι → dPairs trs σd G Q →
    (∀ ps H' ds G' ι', HG K G' H' ι' → Gr K H ι H' ι' → RpP K H' ι' ds ps → Q ds G' → Qv ps H') → tPairs (trs.map fun p => (liE K F p.1, liE K F p.2)) σ H Qv
  | [], G, H, ι, Q, Qv, ok, h, hq => hq [] H [] G ι ok.hg Gr.refl rfl h
  | (tk, tv) :: r, G, H, ι, Q, Qv, ok, h, hq => by
    refine ⟨σd, G, ι, _, ok, h, fun v1 H1 d1 G1 ι1 h1 g1 r1 q1 => ⟨σd, G1, ι1, _, ok.to h1 g1, q1, fun v2 H2 d2 G2 ι2 h2 g2 r2 q2 => ?_⟩⟩
    refine tp_of r G2 H2 ι2 _ _ (ok.to h2 (g1.trans g2)) q2 fun ps H' ds G' ι' h' g' r' q' => ?_
    exact hq _ H' ((d1, d2) :: ds) G' ι' h' (g1.trans (g2.trans g')) ⟨(v1, v2), ps, rfl, r1.up (g2.trans g'), r2.up g', r'⟩ q'
def keyD : Dt → Option Key
  | .int i => some (.inl i)
  | .str x => some (.inr x)
  | _ => none
def keysD : List (Dt × Dt) → Option (List (Key × Dt))
  | [] => some []
  | p :: r => match keyD p.1, keysD r with
    | some k, some ks => some ((k, p.2) :: ks)
    | _, _ => none
def dDict (trs : List (TDE × TDE)) : TDE := fun σ G Q => dPairs trs σ (G ++ [.dct []]) fun ps G2 => match keysD ps with
  | some kds => G2[G.length]? = some (.dct []) ∧ kds.length ≤ 15 ∧ (kds.map (·.1)).Nodup ∧ Q (.ref G.length) (G2.set G.length (.dct kds))
  | none => False
theorem keysD_rp {K : PySem.W.Frag} {H : Hp} {ι : List Addr} : ∀ {ps : List (Dt × Dt)} {kds : List (Key × Dt)} {vs : List (V × V)}, keysD ps = some kds → RpP K H ι ps vs → ∃ kvs : List (Key × V), vs = kvs.map (fun kv => (kV kv.1, kv.2)) ∧ RpK K H ι kds kvs
  | [], kds, vs, h, r => by
    have e : vs = [] := r
    subst e
    cases h
    exact ⟨[], rfl, rfl⟩
  | p :: ps, kds, vs, h, r => by
    obtain ⟨v, vr, e, r1, r2, rr⟩ := r
    subst e
    unfold keysD at h
    split at h
    · rename_i k ks e1 e2
      cases h
      obtain ⟨kvs, e3, r3⟩ := keysD_rp e2 rr
      refine ⟨(k, v.2) :: kvs, ?_, v.2, kvs, rfl, r2, r3⟩
      have ek : v.1 = kV k := by
        obtain ⟨p1, p2⟩ := p
        cases p1 with
        | int i => cases e1; exact r1
        | str x => cases e1; exact r1
        | _ => cases e1
      rw [List.map_cons, ← e3, ← ek]
    · cases h
theorem mergeK_nd : ∀ (more kvs : List (Key × V)), ((kvs ++ more).map (·.1)).Nodup → mergeK kvs more = kvs ++ more
  | [], kvs, _ => by show kvs = kvs ++ []; simp
  | p :: r, kvs, h => by
    have hn : valV kvs p.1 = none := by
      cases e : valV kvs p.1 with
      | none => rfl
      | some v =>
        have m := valV_in e
        rw [List.map_append, List.map_cons] at h
        have := (List.nodup_append.mp h).2.2 p.1 m p.1 List.mem_cons_self
        exact absurd rfl this
    show mergeK (putK kvs p.1 p.2) r = _
    rw [putK_new _ hn, mergeK_nd r _ (by simpa using h)]
    simp
theorem de_dict {keys : List (Option Expr)} {values : List Expr} {trs : List (TDE × TDE)} (h : DPs X F pos keys values trs) (hall : keys.all (·.isSome) = true := by rfl) (hl : keys.length = values.length := by rfl) (h0 : keys ≠ [] := by exact fun z => by cases z)
    (h15 : keys.length ≤ 15 := by decide) : DE X F (.Dict keys values pos) (dDict trs) := by
  refine PE.imp (pe_disp h hall hl h0 h15) fun σ H Qv ⟨σd, G, ι, Q, ok, ht, hq⟩ => fun p hp => ?_
  have hnew : HG X.K (G ++ [.dct []]) (upd H p (.dK [])) (ι ++ [p]) := ok.hg.new hp ⟨[], upd_same, rfl⟩
  have gnew : Gr X.K H ι (upd H p (.dK [])) (ι ++ [p]) := Gr.free hp
  have atp : (ι ++ [p])[G.length]? = some p := by rw [← ok.hg.len, List.getElem?_append_right (Nat.le_refl _)]; simp
  refine tp_of trs _ _ _ _ _ (ok.to hnew gnew) ht fun ps H' ds G' ι' h' g' r' q' => ?_
  split at q'
  · rename_i kds ek
    obtain ⟨qc, q15, qn, q⟩ := q'
    obtain ⟨kvs, e, rk⟩ := keysD_rp ek r'
    obtain ⟨kv0, hH, r0⟩ := h'.cel _ _ p qc (g'.at atp)
    have e0 : kv0 = [] := r0
    subst e0
    refine ⟨hH, kvs, e, by rw [← rk.len]; exact q15, ?_⟩
    rw [mergeK_nd kvs [] (by simpa [rk.vals.2] using qn)]
    have gp : Gr X.K H' ι' (upd H' p (.dK ([] ++ kvs))) ι' := Gr.put h' qc rfl (g'.at atp)
    refine hq _ _ (.ref G.length) _ ι' (h'.put (c' := .dct kds) qc rfl (g'.at atp) rfl ⟨[] ++ kvs, upd_same, by simpa using rk.up gp⟩) (gnew.trans (g'.trans gp)) ⟨p, rfl, g'.at atp⟩ q
  · exact q'.elim
theorem de_dict' {keys : List (Option Expr)} {values : List Expr} {trs : List (TDE × TDE)} (h : DPs' X F pos keys values trs) (hall : keys.all (·.isSome) = true := by rfl) (hl : keys.length = values.length := by rfl) (h0 : keys ≠ [] := by exact fun z => by cases z)
    (h15 : keys.length ≤ 15 := by decide) : DE' X F (.Dict keys values pos) (dDict trs) :=
  ⟨de_dict (h := h.p) (hall := hall) (hl := hl) (h0 := h0) (h15 := h15)⟩
end
end DL
namespace L2
open PySem PySem.Spec PyProof.Rows

/-! ### a list comprehension: its block as a context of its own -/
/-- a comprehension, with what is done of its list -/
structure CmpEnd (X : Cx) (pins : List (Addr × Obj)) (σ : St) (H' : Hp) (C : Addr) (s' : Shared) : Prop where
  inv : Inv X pins σ H' s'
  ns : ∃ m, s'.heap.Ns C m
  free : H' C = none
  loc : C ≠ X.env.locals
  sz : X.s₀.heap.objs.size ≤ C
  cel : ∀ x a, X.env.cells.lookup x = some a → a ≠ C
  pin : ∀ p ∈ X.pn ++ pins, p.1 ≠ C
theorem CmpEnd.go {X : Cx} {pins : List (Addr × Obj)} {σ : St} {H' : Hp} {C : Addr} {s' : Shared} {h' : Heap} (c : CmpEnd X pins σ H' C s') (hs : Heap.SameBut C s'.heap h') : Inv X pins σ H' { s' with heap := h' } :=
  c.inv.turned (t' := s'.toks) (it := C) (fun b o hb e => hs.extBut b o hb e) c.free c.loc (.inr c.sz) (fun x a e z => c.cel x a e z) c.pin
end L2

namespace DL
open PySem PySem.Spec L2
open PyProof.Rows hiding St
end DL
namespace TM
open PySem PyProof.Rows
open PySem.AutoSeq1 (wpAny_loadPart')
theorem noFill_tuple_mul : fillsNumberSlot (.type "tuple") "mul" = pure false :=
  PySem.fillsNumberSlot_seq (id := "tuple.__mul__") (r := some (.builtin "tuple.__rmul__")) F.slot_tuple_mul.lookup (by decide +kernel) F.slot_tuple_rmul.lookup (by decide +kernel)
theorem repeat_tuple : seqRepeat? (.type "tuple") = pure (some (.builtin "tuple.__mul__")) := by
  unfold seqRepeat?
  rw [PySem.seqSlot_of (T := "tuple") (name := "__mul__") (id := "tuple.__mul__") F.slot_tuple_mul.lookup (by decide +kernel), PySem.seqSlot_of (T := "tuple") (name := "__rmul__") (id := "tuple.__rmul__") F.slot_tuple_rmul.lookup (by decide +kernel)]
  rfl
theorem int_rmul_tuple (a : Int) (t : Tok) (l : Addr) (items : Array Value) (n : Nat) (dd : Option Addr) (sl : Array (Option Value)) :
    Meets (Builtin.«int.__rmul__» ⟨[.int a t, .ref l], []⟩) (fun _ R s => s.heap.get? l = some { cls := .type "tuple", dict := dd, data := .seq items n, slots := sl } ∧ R (.ok (.ret Value.notImplemented)) s) :=
  .of_wp fun prog w A R s h => by obtain ⟨hp, g, d, tk, os⟩ := s; obtain ⟨hl, h⟩ := h; wp_walk using wpAny_loadPart' hl; exact ⟨_, rfl, h⟩
theorem tuple_mul (l : Addr) (items : Array Value) (n : Nat) (dd : Option Addr) (sl : Array (Option Value)) (x : Int) (u : Tok) (h0 : ¬ (x < -(2 ^ 63) || x ≥ 2 ^ 63) = true) (h1 : ¬ (items.isEmpty || x == 1) = true) (h2 : ¬ (x ≤ 0 || items.isEmpty) = true)
    (h3 : ¬ (items.size : Int) * x > (2 ^ 63 - 1) / 8) (h4 : ¬ Builtin.Tuple.tupleTooMany (items.size * x) = true) (h5 : (List.foldl (fun x1 x2 => x1 ++ x2) #[] (List.replicate x.toNat items)).size ≤ sizeLine) :
    Meets (Builtin.«tuple.__mul__» ⟨[.ref l, .int x u], []⟩) (fun _ R s => s.heap.get? l = some { cls := .type "tuple", dict := dd, data := .seq items n, slots := sl } ∧ R (.ok (.ret (Value.ref s.heap.objs.size))) { s with heap := s.heap.push { cls := Value.type "tuple", data := Data.seq (List.foldl (fun x1 x2 => x1 ++ x2) #[] (List.replicate x.toNat items)) }, toks := s.toks }) :=
  .of_wp fun prog w A R s h => by
    obtain ⟨hp, g, d, tk, os⟩ := s; obtain ⟨hl, h⟩ := h
    have f1 := AutoSeq1.idx_int
    wp_walk using wpAny_loadPart' hl
    rw [if_neg h0]
    refine wpAny_bind (m := Builtin.Tuple.tupleItemsOf (.ref l)) (tupleItemsOf_ (show IsTup hp l items from ⟨_, hl, rfl, n, rfl⟩) ?_)
    dsimp only
    rw [if_neg h1, if_neg h2, if_neg h3, if_neg h4]
    exact wpAny_bind (m := Builtin.Tuple.tupleExact _) (wpAny_newObj_type (wpAny_pure ⟨_, rfl, h⟩) h5)
section
variable {prog : Program} {w : World} {A : Around} {E : Value → Shared → Prop} {s : Shared}
theorem foldl_rep (its : List Value) : ∀ (k : Nat) (acc : List Value), List.foldl (fun x1 x2 => x1 ++ x2) acc.toArray (List.replicate k its.toArray) = (acc ++ (List.replicate k its).flatten).toArray
  | 0, acc => by simp
  | k + 1, acc => by
    rw [List.replicate_succ, List.foldl_cons, List.replicate_succ, List.flatten_cons]
    have e : acc.toArray ++ its.toArray = (acc ++ its).toArray := by simp
    rw [e, foldl_rep its k (acc ++ its), List.append_assoc]
theorem len_rep {α : Type} (xs : List α) (k : Nat) : (List.replicate k xs).flatten.length = k * xs.length := by
  induction k with
  | zero => simp
  | succ k ih => rw [List.replicate_succ, List.flatten_cons, List.length_append, ih, Nat.succ_mul, Nat.add_comm]
theorem mul_tup {t : Addr} {its : List Value} {k : Int} {u : Tok} {Q : Value → Shared → Prop} (ht : IsTup s.heap t its.toArray) (hne : its ≠ []) (h2 : 2 ≤ k) (hz : its.length * k.toNat ≤ sizeLine)
    (h : Q (.ref s.heap.objs.size) { s with heap := s.heap.push { cls := .type "tuple", data := .seq (List.replicate k.toNat its).flatten.toArray } }) : wpAny (model prog w) A (binaryOp .Mult (.ref t) (.int k u)) Q E s := by
  obtain ⟨⟨cls, dd, data, sl⟩, ho, hc, n, hd⟩ := id ht
  simp only at hc hd
  subst hc hd
  have hs : sizeLine = 16777216 := sizeLine_eq
  have hl : 1 ≤ its.length := List.length_pos_iff.mpr hne
  have hk : k.toNat ≤ 16777216 := by
    have : 1 * k.toNat ≤ its.length * k.toNat := Nat.mul_le_mul_right _ hl
    omega
  have ek : ((its.length * k.toNat : Nat) : Int) = (its.length : Int) * k := by
    rw [Int.natCast_mul]
    have : ((k.toNat : Nat) : Int) = k := by omega
    rw [this]
  have hem : its.toArray.isEmpty = false := by cases its with | nil => exact absurd rfl hne | cons a r => rfl
  have e0 : List.foldl (fun x1 x2 => x1 ++ x2) #[] (List.replicate k.toNat its.toArray) = (List.replicate k.toNat its).flatten.toArray := by
    have := foldl_rep its k.toNat []
    simpa using this
  refine wpAny_binaryOp_repeat_ref (T := "tuple") (U := "int") (by decide) ⟨_, ho, rfl⟩ (fun s' => typeIs_int s' k u) noFill_tuple_mul F.fills_int_mul F.slot_int_rmul repeat_tuple F.slot_int_index.lookup
    (call_meets F.slot_int_rmul (typeIs_int s k u) F.entry_int_rmul (F.args_int_rmul_2 _ _) (int_rmul_tuple k u t its.toArray n dd sl)
      ⟨ho, rfl, ⟨_, ho, rfl⟩, call_meets F.slot_tuple_mul ⟨_, ho, rfl⟩ F.entry_tuple_mul (F.args_tuple_mul_2 _ _) (tuple_mul t its.toArray n dd sl k u ?_ ?_ ?_ ?_ ?_ ?_) ⟨ho, ?_⟩⟩)
  · simp; omega
  · rw [hem]; simp; omega
  · rw [hem]; simp; omega
  · rw [List.size_toArray, ← ek]; omega
  · unfold Builtin.Tuple.tupleTooMany
    rw [List.size_toArray, ← ek]
    intro z
    have z' := of_decide_eq_true z
    omega
  · rw [e0, List.size_toArray, len_rep, Nat.mul_comm]; exact hz
  · rw [e0]; exact h
end
end TM
namespace DL
open PySem PySem.Spec L2
open PyProof.Rows hiding St
section
variable {X : Cx} {F : Fx} {e a b : Expr} {t : TDA} {ta tb : TDE} {pos p : Pos} {x : Str}
/-! ### * -/
def rRepT (K : PySem.W.Frag) : R2 := fun x y H Q => ∃ a k xs, x = .ref a ∧ y = .int k ∧ SqT K H a xs ∧ xs ≠ [] ∧ 2 ≤ k ∧ xs.length * k.toNat ≤ sizeLine ∧ ∀ p, H p = none → Q (.ref p) (upd H p (.tup (List.replicate k.toNat xs).flatten))
theorem op_repT : OpR X (binaryOp .Mult) (rRepT X.K) := by
  intro pins s σ H x y v u Q I rx ry h
  obtain ⟨a, k, xs, rfl, rfl, ha, hne, h2, hz, q⟩ := h
  cases rx
  obtain ⟨t, rfl⟩ := ry
  obtain ⟨its, r, p1, _⟩ := I.tuple ha
  refine TM.mul_tup p1 (fun z => hne (r.nil_iff.mp z)) h2 (by rw [← r.length]; exact hz) ?_
  refine ⟨.ref s.heap.objs.size, _, I.laid (t' := s.toks) (o := .tup (List.replicate k.toNat xs).flatten) (fun b ob q => Heap.get?_push_of_some _ q) (Nat.le_refl _) ?_, rfl, q _ (I.hok.fresh (Nat.le_refl _))⟩
  exact ⟨by rw [TM.len_rep, Nat.mul_comm]; exact hz, _, r.rep k.toNat, IsTupN.new _ _⟩
def rMulV (K : PySem.W.Frag) : R2 := fun x y H Q => rI CMul (fun i j => .int (i * j)) x y H Q ∨ rRepT K x y H Q
theorem op_mulV : OpR X (binaryOp .Mult) (rMulV X.K) := OpR.or op_mul op_repT
def rdMul : RD2 := fun x y G Q => match x, y with
  | .int i, .int j => CMul i j ∧ Q (.int (i * j)) G
  | .tup xs, .int k => xs ≠ [] ∧ 2 ≤ k ∧ xs.length * k.toNat ≤ sizeLine ∧ Q (.tup (List.replicate k.toNat xs).flatten) G
  | _, _ => False
theorem l2_mul {K : PySem.W.Frag} : L2R K (rMulV K) rdMul := by
  intro G H ι d1 d2 v1 v2 Q Qv hG r1 r2 h hq
  unfold rdMul at h
  split at h
  · rename_i i j
    exact .inl ⟨i, j, r1, r2, h.1, hq _ H (.int (i * j)) G ι hG Gr.refl rfl h.2⟩
  · rename_i xs k
    obtain ⟨hne, h2, hz, q⟩ := h
    obtain ⟨a, vs, e1, s1, rr1⟩ := r1
    refine .inr ⟨a, k, vs, e1, r2, s1, fun z => hne ?_, h2, by rw [← rr1.len]; exact hz, fun p hp => ?_⟩
    · subst z
      exact List.length_eq_zero_iff.mp (by rw [rr1.len]; rfl)
    · obtain ⟨x, y, z⟩ := rp_newTup hG (rr1.rep k.toNat) hp
      exact hq _ _ _ G ι x y z q
  · exact h.elim
theorem de_mul (ha : DE X F a ta) (hb : DE X F b tb) : DE X F (.BinOp a .Mult b pos) (dOp rdMul ta tb) := li2 l2_mul (pe_op op_mulV ha hb)

theorem de_mul' (ha : DE' X F a ta) (hb : DE' X F b tb) : DE' X F (.BinOp a .Mult b pos) (dOp rdMul ta tb) :=
  ⟨de_mul (ha := ha.p) (hb := hb.p)⟩
/-! ### all, any of a list of truths -/
def boolsD : List Dt → Option (List Bool)
  | [] => some []
  | .bl b :: r => (boolsD r).map fun bs => b :: bs
  | _ :: _ => none
def rdAll : RDA := fun ds G Q => match ds with
  | [.ref i] => match cellL G i with
    | some xs => match boolsD xs with
      | some bs => Q (.bl (bs.all id)) G
      | none => False
    | none => False
  | _ => False
/-! ### a def of the text, for its callers -/
structure Fnc (P : Program) (w : World) (K : PySem.W.Frag) (mg : Str → Option Value) (base : Heap) (x : Str) (k : Nat) (ps : List Str) (sp : SpD) : Prop where
  ex : ∃ f fd, FnOk P w K mg base CX0 k f fd ps (liSp K ps.length sp) ∧ mg x = some (.ref f) ∧ PySem.W.keepIn K (.ref f) = true ∧ Binds K fd ps []
theorem de_callF {k : Nat} {ps : List Str} {sp : SpD} {es : List Expr} (C : Fnc X.prog X.w X.K X.mg X.base x k ps sp) (hr : Room k X.A) (ha : DA X F (e :: es) t) (hg : Gl X x := by rfl)
    (hdb : (x == ("__debug__" : Str)) = false := by decide) (he : starEach (e :: es) X.env = (false, eval e X.env) :: starEach es X.env := by exact star_cons rfl) (hpl : (backTo pos (starEach es X.env)).any (·.1) = false := by exact back_any rfl) : DE X F (.Call (.Name x p) (e :: es) [] pos) (dCall ps.length sp t) := by
  obtain ⟨f, fd, h1, h2, h3, h4⟩ := C.ex
  exact de_call h1 hr h2 h3 h4 ha hg hdb he hpl
theorem de_callF' {k : Nat} {ps : List Str} {sp : SpD} {es : List Expr} (C : Fnc X.prog X.w X.K X.mg X.base x k ps sp) (hr : Room k X.A) (ha : DA' X F (e :: es) t) (hg : Gl X x := by rfl)
    (hdb : (x == ("__debug__" : Str)) = false := by decide) (he : starEach (e :: es) X.env = (false, eval e X.env) :: starEach es X.env := by exact star_cons rfl) (hpl : (backTo pos (starEach es X.env)).any (·.1) = false := by exact back_any rfl) : DE' X F (.Call (.Name x p) (e :: es) [] pos) (dCall ps.length sp t) :=
  ⟨de_callF (C := C) (hr := hr) (ha := ha.p) (hg := hg) (hdb := hdb) (he := he) (hpl := hpl)⟩
end
/-- texts by their signs -/
theorem str_inj (a b : String) : (Str.ofString a = Str.ofString b) = (a = b) := by
  apply propext
  constructor
  · intro h
    rw [Str.ofString_eq_toList, Str.ofString_eq_toList] at h
    injection h with h
    have h2 : a.toList.map Char.toNat = b.toList.map Char.toNat := by
      have := congrArg Array.toList h
      simpa using this
    have h3 : a.toList = b.toList := by
      refine (List.map_inj_right ?_).mp h2
      intro x y e
      exact Char.toNat_inj.mp e
    exact String.toList_inj.mp h3
  · intro h
    rw [h]
/-- a def's place at the top -/
structure Plc (K : PySem.W.Frag) (mg : Str → Option Value) (x : Str) (st : Stmt) (ps : List Str) : Prop where
  ex : ∃ f fd, Fun K x x st f fd ∧ mg x = some (.ref f) ∧ Binds K fd ps []
theorem Plc.fn {P : Program} {w : World} {K : PySem.W.Frag} {mg : Str → Option Value} {base : Heap} {x : Str} {st : Stmt} {N ps : List Str} {k : Nat} {sp : SpD} (Pl : Plc K mg x st ps) (S : FnScope N ps (defScope st))
    (hbody : ∀ (f : Addr) (cdv : Value) (A : Around) (outer : List Env) (s : Shared) (H : Hp) (E : XK), Room k (A.deeper (envOfC x (defScope st) s.heap.objs.size f cdv)) →
      ∃ td, (∀ F, DSs (cxOf CX0 P w K mg base N x (defScope st) f cdv A outer s H E).nox F (defBody st) td) ∧ ∀ (ds : List Dt) (G : GD) (Q : KD), ds.length = ps.length → sp ds G Q → bnds G.length ds → bndG G.length G → td (endsD G Q) (startD N ds) G) :
    Fnc P w K mg base x (k + 1) ps sp := by
  obtain ⟨f, fd, F, hm, hb⟩ := Pl.ex
  exact ⟨f, fd, okD F S (hbody f), hm, F.kp, hb⟩
theorem Plc.fn' {P : Program} {w : World} {K : PySem.W.Frag} {mg : Str → Option Value} {base : Heap} {x : Str} {st : Stmt} {N ps : List Str} {k : Nat} {sp : SpD} (Pl : Plc K mg x st ps) (S : FnScope N ps (defScope st))
    (hbody : ∀ (f : Addr) (cdv : Value) (A : Around) (outer : List Env) (s : Shared) (H : Hp) (E : XK), Room k (A.deeper (envOfC x (defScope st) s.heap.objs.size f cdv)) →
      ∃ td, (∀ F, DSs' (cxOf CX0 P w K mg base N x (defScope st) f cdv A outer s H E).nox F (defBody st) td) ∧ ∀ (ds : List Dt) (G : GD) (Q : KD), ds.length = ps.length → sp ds G Q → bnds G.length ds → bndG G.length G → td (endsD G Q) (startD N ds) G) :
    Fnc P w K mg base x (k + 1) ps sp := Pl.fn S fun f cdv A outer s H E hr => let ⟨td, h, r⟩ := hbody f cdv A outer s H E hr; ⟨td, fun F => (h F).p, r⟩
theorem okD' {P : Program} {w : World} {K : PySem.W.Frag} {mg : Str → Option Value} {base : Heap} {x qual : Str} {st : Stmt} {f : Addr} {fd : FuncData} {N ps : List Str} {k : Nat} {sp : SpD} (Fn : Fun K x qual st f fd) (S : FnScope N ps (defScope st))
    (hbody : ∀ (cdv : Value) (A : Around) (outer : List Env) (s : Shared) (H : Hp) (E : XK), Room k (A.deeper (envOfC qual (defScope st) s.heap.objs.size f cdv)) →
      ∃ td, (∀ F, DSs' (cxOf CX0 P w K mg base N qual (defScope st) f cdv A outer s H E).nox F (defBody st) td) ∧ ∀ (ds : List Dt) (G : GD) (Q : KD), ds.length = ps.length → sp ds G Q → bnds G.length ds → bndG G.length G → td (endsD G Q) (startD N ds) G) :
    FnOk P w K mg base CX0 (k + 1) f fd ps (liSp K ps.length sp) := okD Fn S fun cdv A outer s H E hr => let ⟨td, h, r⟩ := hbody cdv A outer s H E hr; ⟨td, fun F => (h F).p, r⟩
/-- nothing may be asked of it -/
theorem Plc.never {P : Program} {w : World} {K : PySem.W.Frag} {mg : Str → Option Value} {base : Heap} {x : Str} {st : Stmt} {ps : List Str} (Pl : Plc K mg x st ps) : Fnc P w K mg base x 0 ps (fun _ _ _ => False) := by
  obtain ⟨f, fd, F, hm, hb⟩ := Pl.ex
  refine ⟨f, fd, ⟨fun vs H Q E ⟨ds, G, ι, Qd, _, _, _, h, _⟩ => h.elim, fun A outer s H args us vs Q E _ _ _ _ ⟨ds, G, ι, Qd, _, _, _, h, _⟩ => h.elim⟩, hm, F.kp, hb⟩
theorem Fnc.mono {P : Program} {w : World} {K : PySem.W.Frag} {mg : Str → Option Value} {base : Heap} {x : Str} {j k : Nat} {ps : List Str} {sp : SpD} (F : Fnc P w K mg base x j ps sp) (h : j ≤ k) : Fnc P w K mg base x k ps sp := by
  obtain ⟨f, fd, h1, r⟩ := F.ex
  exact ⟨f, fd, h1.mono h, r⟩
theorem Fnc.imp {P : Program} {w : World} {K : PySem.W.Frag} {mg : Str → Option Value} {base : Heap} {x : Str} {k : Nat} {ps : List Str} {sp sp' : SpD} (F : Fnc P w K mg base x k ps sp) (h : ∀ ds G Q, sp' ds G Q → sp ds G Q) : Fnc P w K mg base x k ps sp' := by
  obtain ⟨f, fd, h1, r⟩ := F.ex
  exact ⟨f, fd, h1.imp fun vs H Q E ⟨ds, G, ι, Qd, a, b, c, d, e⟩ => ⟨ds, G, ι, Qd, a, b, c, h _ _ _ d, e⟩, r⟩
end DL
namespace DL
open PySem PySem.Spec L2
section
variable {G : GD} {b c : Bool} {i j : Int} {x y : Str} {xs ys : List Dt} {k l : Nat} {s : String} {d e : Dt}
theorem isi_non : isiD s .non = false := rfl
theorem isi_bl : isiD s (.bl b) = (s == "bool" || s == "int") := rfl
theorem isi_int : isiD s (.int i) = (s == "int") := rfl
theorem isi_str : isiD s (.str x) = (s == "str") := rfl
theorem isi_tup : isiD s (.tup xs) = (s == "tuple") := rfl
theorem isi_ref : isiD s (.ref k) = false := rfl
theorem tru_non : truD G .non = some false := rfl
theorem tru_bl : truD G (.bl b) = some b := rfl
theorem tru_int : truD G (.int i) = some (i != 0) := rfl
theorem tru_tup : truD G (.tup xs) = some (!xs.isEmpty) := rfl
theorem tru_ref : truD G (.ref k) = match G[k]? with
    | some (.lst xs) => some (!xs.isEmpty)
    | some (.fz xs) => some (!xs.isEmpty)
    | some (.dct kvs) => some (!kvs.isEmpty)
    | none => none := rfl
theorem len_tup : lenD G (.tup xs) = some xs.length := rfl
theorem len_ref : lenD G (.ref k) = match G[k]? with
    | some (.lst xs) => some xs.length
    | some (.fz xs) => some xs.length
    | some (.dct kvs) => some kvs.length
    | none => none := rfl
theorem at_tup : atD G (.tup xs) (.int i) = atI xs i := rfl
theorem at_ref : atD G (.ref k) (.int i) = match G[k]? with
    | some (.lst xs) => atI xs i
    | some (.fz xs) => atI xs i
    | some (.dct kvs) => valD kvs (.inl i)
    | none => none := rfl
theorem at_refs : atD G (.ref k) (.str x) = match G[k]? with
    | some (.dct kvs) => valD kvs (.inr x)
    | _ => none := rfl
theorem is_non_non : isD .non .non = true := rfl
theorem is_bl_bl : isD (.bl b) (.bl c) = (b == c) := rfl
theorem is_bl_non : isD (.bl b) .non = false := rfl
theorem is_non_bl : isD .non (.bl b) = false := rfl
theorem is_int_non : isD (.int i) .non = false := rfl
theorem is_str_non : isD (.str x) .non = false := rfl
theorem is_tup_non : isD (.tup xs) .non = false := rfl
theorem is_ref_non : isD (.ref k) .non = false := rfl
theorem is_int_bl : isD (.int i) (.bl b) = false := rfl
theorem is_str_bl : isD (.str x) (.bl b) = false := rfl
theorem is_tup_bl : isD (.tup xs) (.bl b) = false := rfl
theorem is_ref_bl : isD (.ref k) (.bl b) = false := rfl
theorem eqs_int : eqS (.int i) (.int j) = some (decide (i = j)) := rfl
theorem eqs_str : eqS (.str x) (.str y) = some (decide (x = y)) := rfl
theorem eqs_bl : eqS (.bl b) (.bl c) = some (decide (b = c)) := rfl
theorem seq_tup : seqD G (.tup xs) = some xs := rfl
theorem seq_ref : seqD G (.ref k) = cellL G k := rfl
theorem atI_0 : atI (d :: xs) 0 = some d := by
  unfold atI ixN
  rw [if_pos (by decide), if_pos (by rw [List.length_cons]; omega)]
  rfl
theorem atI_1 : atI (d :: e :: xs) 1 = some e := by
  unfold atI ixN
  rw [if_pos (by decide), if_pos (by rw [List.length_cons, List.length_cons]; omega)]
  rfl
theorem atI_2 {f : Dt} : atI (d :: e :: f :: xs) 2 = some f := by
  unfold atI ixN
  rw [if_pos (by decide), if_pos (by rw [List.length_cons, List.length_cons, List.length_cons]; omega)]
  rfl
theorem succ_eq0 : decide (((k + 1 : Nat) : Int) = 0) = false := decide_eq_false (by omega)
theorem zero_eq0 : decide (((0 : Nat) : Int) = 0) = true := rfl
theorem get_endz {J : GD} : (G ++ J)[G.length]? = J[0]? := by
  rw [List.getElem?_append_right (Nat.le_refl _), Nat.sub_self]
theorem get_endj {J : GD} {j : Nat} : (G ++ J)[G.length + j]? = J[j]? := by
  rw [List.getElem?_append_right (by omega), show G.length + j - G.length = j by omega]
theorem set_endz {J : GD} {c : Cl} : (G ++ J).set G.length c = G ++ J.set 0 c := by
  rw [List.set_append_right _ _ (Nat.le_refl _), Nat.sub_self]
theorem set_endj {J : GD} {j : Nat} {c : Cl} : (G ++ J).set (G.length + j) c = G ++ J.set j c := by
  rw [List.set_append_right _ _ (by omega), show G.length + j - G.length = j by omega]
end
end DL
namespace DL
open PySem PySem.Spec L2
open PyProof.Rows hiding St
/-! ### data as Python's own, compared whole -/
mutual
def pyD : Dt → PyData
  | .non => .none
  | .bl b => .bool b
  | .int i => .int i
  | .str x => .str x
  | .tup ds => .tuple (pyDs ds)
  | .ref _ => .none
def pyDs : List Dt → List PyData
  | [] => []
  | d :: ds => pyD d :: pyDs ds
end
mutual
/-- no lists, no dicts; texts of signs -/
def lay : Dt → Bool
  | .str x => PyData.canLay0 (.str x)
  | .tup ds => lays ds
  | .ref _ => false
  | _ => true
def lays : List Dt → Bool
  | [] => true
  | d :: ds => lay d && lays ds
end
mutual
theorem lay_can : ∀ d : Dt, lay d = true → (pyD d).canLay0 = true
  | .non, _ => rfl
  | .bl _, _ => rfl
  | .int _, _ => rfl
  | .str _, h => h
  | .tup ds, h => lays_can ds h
  | .ref _, h => by cases h
theorem lays_can : ∀ ds : List Dt, lays ds = true → PyData.canLayAll0 (pyDs ds) = true
  | [], _ => rfl
  | d :: ds, h => by
    have h' : lay d = true ∧ lays ds = true := by simpa [lays] using h
    show (PyData.canLay0 (pyD d) && PyData.canLayAll0 (pyDs ds)) = true
    rw [lay_can d h'.1, lays_can ds h'.2]; rfl
end
section
variable {X : Cx} {pins : List (Addr × Obj)} {σ : L2.St} {H : Hp} {s : Shared} {ι : List Addr} {G : GD}
mutual
theorem reads_d (I : Inv X pins σ H s) : ∀ (d : Dt) (v : V) (u : Value), lay d = true → Rp X.K H ι d v → RelV v u → ∃ as, Reads s.heap u (pyD d) as
  | .non, v, u, _, r, q => by
    have e : v = V.non := r
    subst e
    cases (show u = Value.none from q)
    exact ⟨_, .none⟩
  | .bl b, v, u, _, r, q => by
    have e : v = V.bl b := r
    subst e
    cases (show u = Value.bool b from q)
    exact ⟨_, .bool b⟩
  | .int i, v, u, _, r, q => by
    have e : v = V.int i := r
    subst e
    obtain ⟨t, rfl⟩ := (show ∃ t, u = Value.int i t from q)
    exact ⟨_, .int i t⟩
  | .str x, v, u, _, r, q => by
    have e : v = V.str x := r
    subst e
    obtain ⟨t, rfl⟩ := (show ∃ t, u = Value.str x t from q)
    exact ⟨_, .str x t⟩
  | .tup ds, v, u, h, r, q => by
    obtain ⟨a, vs, e, sq, rr⟩ := r
    subst e
    cases (show u = Value.ref a from q)
    obtain ⟨its, rv, p, hz⟩ := I.tuple sq
    obtain ⟨o, ho, hc, n, hd⟩ := p
    obtain ⟨as, ra⟩ := reads_ds I ds vs its h rr rv
    exact ⟨as, .tuple ho hc hd (by simpa using ra)⟩
  | .ref _, _, _, h, _, _ => by cases h
theorem reads_ds (I : Inv X pins σ H s) : ∀ (ds : List Dt) (vs : List V) (us : List Value), lays ds = true → Rps X.K H ι ds vs → Vals vs us → ∃ as, ReadsAll s.heap us (pyDs ds) as
  | [], vs, us, _, r, q => by
    have e : vs = [] := r
    subst e
    cases q
    exact ⟨_, .nil⟩
  | d :: ds, vs, us, h, r, q => by
    obtain ⟨v, vr, e, r1, r2⟩ := r
    subst e
    cases q with
    | cons q1 q2 =>
      have h' : lay d = true ∧ lays ds = true := by simpa [lays] using h
      obtain ⟨as, ra⟩ := reads_d I d v _ h'.1 r1 q1
      obtain ⟨bs, rb⟩ := reads_ds I ds vr _ h'.2 r2 q2
      exact ⟨_, .cons ra rb⟩
end
def pyG (G : GD) : Dt → Option PyData
  | .ref i => match cellL G i with
    | some xs => if lays xs = true then some (.list (pyDs xs)) else none
    | none => none
  | d => if lay d = true then some (pyD d) else none
theorem reads_g (I : Inv X pins σ H s) (hG : HG X.K G H ι) {d : Dt} {a : PyData} {v : V} {u : Value} (e : pyG G d = some a) (r : Rp X.K H ι d v) (q : RelV v u) : a.canLay0 = true ∧ ∃ as, Reads s.heap u a as := by
  have plain : ∀ d', d' = d → (∀ i, d' ≠ .ref i) → a.canLay0 = true ∧ ∃ as, Reads s.heap u a as := fun d' hd hn => by
    subst hd
    have e' : (if lay d' = true then some (pyD d') else none) = some a := by
      cases d' with
      | ref i => exact absurd rfl (hn i)
      | _ => exact e
    by_cases hl : lay d' = true
    · rw [if_pos hl] at e'
      cases e'
      exact ⟨lay_can d' hl, reads_d I d' v u hl r q⟩
    · rw [if_neg hl] at e'; cases e'
  cases d with
  | ref i =>
    cases ex : cellL G i with
    | none => simp [pyG, ex] at e
    | some xs =>
      have e' : (if lays xs = true then some (PyData.list (pyDs xs)) else none) = some a := by simpa only [pyG, ex] using e
      by_cases hl : lays xs = true
      · rw [if_pos hl] at e'
        cases e'
        obtain ⟨p, e1, q1⟩ := r
        subst e1
        cases (show u = Value.ref p from q)
        obtain ⟨vs, sq, rr⟩ := cellL_sq hG q1 ex
        obtain ⟨its, rv, pl, hz⟩ := I.list sq
        obtain ⟨o, ho, hc, n, hd⟩ := pl.isList
        obtain ⟨as, ra⟩ := reads_ds I xs vs its hl rr rv
        exact ⟨lays_can xs hl, _, .list ho hc hd (by simpa using ra)⟩
      · rw [if_neg hl] at e'; cases e'
  | _ => exact plain _ rfl fun i h => by cases h
def PyV (K : PySem.W.Frag) (H : Hp) (x : V) (a : PyData) : Prop := ∃ G ι d, HG K G H ι ∧ Rp K H ι d x ∧ pyG G d = some a
def rEqP (K : PySem.W.Frag) (neg : Bool) : R2 := fun x y H Q => ∃ a b, PyV K H x a ∧ PyV K H y b ∧ min a.depth b.depth ≤ 60 ∧ Q (.bl (neg ^^ PyData.eqv a b)) H
theorem op_neP (hu : X.A.units + 64 < cLine) : OpR X (compareOp .NotEq) (rEqP X.K true) := by
  intro pins s σ H x y v u Q I rx ry ⟨a, b, ⟨G1, ι1, d1, h1, r1, e1⟩, ⟨G2, ι2, d2, h2, r2, e2⟩, hd, q⟩
  obtain ⟨ca, as, ra⟩ := reads_g I h1 e1 r1 rx
  obtain ⟨cb, bs, rb⟩ := reads_g I h2 e2 r2 ry
  refine SeqAt.compareNe_reads ra rb ca cb (by omega) ⟨.bl _, H, I, rfl, ?_⟩
  rw [Bool.true_xor] at q
  exact q
def rdEqP0 (neg : Bool) : RD2 := fun x y G Q => match pyG G x, pyG G y with
  | some a, some b => min a.depth b.depth ≤ 60 ∧ Q (.bl (neg ^^ PyData.eqv a b)) G
  | _, _ => False
structure rdEqP (neg : Bool) (x y : Dt) (G : GD) (Q : KD) : Prop where
  p : rdEqP0 neg x y G Q
theorem l2_eqP {K : PySem.W.Frag} {neg : Bool} : L2R K (rEqP K neg) (rdEqP neg) := by
  intro G H ι d1 d2 v1 v2 Q Qv hG r1 r2 h hq
  replace h := h.p; unfold rdEqP0 at h
  split at h
  · rename_i a b e1 e2
    exact ⟨a, b, ⟨G, ι, d1, hG, r1, e1⟩, ⟨G, ι, d2, hG, r2, e2⟩, h.1, hq _ H (.bl _) G ι hG Gr.refl rfl h.2⟩
  · exact h.elim
end
section
variable {X : Cx} {F : Fx} {a b : Expr} {ta tb : TDE} {pos : Pos} {k : Nat}
theorem dt_neP (hr : Room k X.A) (ha : DE X F a ta) (hb : DE X F b tb) : DT X F (.Compare a [.NotEq] [b] pos) (dTest (dOp (rdEqP true) ta tb)) := li2T l2_eqP (pt_cmpR (op_neP hr.units) ha hb (nomark _))
theorem dt_neP' (hr : Room k X.A) (ha : DE' X F a ta) (hb : DE' X F b tb) : DT' X F (.Compare a [.NotEq] [b] pos) (dTest (dOp (rdEqP true) ta tb)) :=
  ⟨dt_neP (hr := hr) (ha := ha.p) (hb := hb.p)⟩
end
end DL
namespace ZT
open PySem
end ZT
namespace L2
open PySem PySem.Spec PyProof.Rows
end L2
namespace DL
open PySem PySem.Spec L2
open PyProof.Rows hiding St
end DL
namespace DL
open PySem PySem.Spec L2
open PyProof.Rows hiding St
theorem bt_max : bootBuiltins "max" = some (.builtin "max") := by decide +kernel
/-! ### ints among data -/
def intsD : List Dt → Option (List Int)
  | [] => some []
  | .int i :: r => (intsD r).map fun is => i :: is
  | _ :: _ => none
theorem intsD_rps {K : PySem.W.Frag} {H : Hp} {ι : List Addr} : ∀ {xs : List Dt} {ns : List Int} {vs : List V}, intsD xs = some ns → Rps K H ι xs vs → vs = ns.map V.int
  | [], ns, vs, h, r => by
    have e : vs = [] := r
    cases h
    exact e
  | d :: xs, ns, vs, h, r => by
    obtain ⟨v, vr, e, r1, r2⟩ := r
    cases d with
    | int b =>
      have h' : (intsD xs).map (fun is => b :: is) = some ns := h
      cases hb : intsD xs with
      | none => rw [hb] at h'; cases h'
      | some bs' =>
        rw [hb] at h'
        cases h'
        rw [e, intsD_rps hb r2, show v = V.int b from r1]
        rfl
    | _ => cases h
section
variable {X : Cx} {F : Fx} {e o a b : Expr} {es : List Expr} {t : TDA} {pos p : Pos} {x : Str} {ta tb to : TDE}
/-! ### sum of a tuple of ints -/
/-! ### min, max: of two ints, of a list of ints -/
def lowI : List Int → Int
  | [] => 0
  | [i] => i
  | i :: j :: r => min i (lowI (j :: r))
def topI : List Int → Int
  | [] => 0
  | [i] => i
  | i :: j :: r => max i (topI (j :: r))
theorem topI_spec : ∀ {ns : List Int}, ns ≠ [] → topI ns ∈ ns ∧ ∀ a ∈ ns, a ≤ topI ns
  | [], h => absurd rfl h
  | [i], _ => ⟨List.mem_cons_self, fun a h => by simp at h; rw [h]; exact Int.le_refl _⟩
  | i :: j :: r, _ => by
    obtain ⟨h1, h2⟩ := topI_spec (ns := j :: r) (by simp)
    show max i (topI (j :: r)) ∈ _ ∧ ∀ a ∈ _, a ≤ max i (topI (j :: r))
    constructor
    · by_cases h : topI (j :: r) ≤ i
      · rw [Int.max_eq_left h]; exact List.mem_cons_self
      · rw [Int.max_eq_right (by omega)]; exact List.mem_cons_of_mem _ h1
    · intro a ha
      rcases List.mem_cons.mp ha with rfl | ha
      · exact Int.le_max_left _ _
      · exact Int.le_trans (h2 a ha) (Int.le_max_right _ _)
theorem top_uniq {ns : List Int} {M : Int} (h1 : M ∈ ns) (h2 : ∀ a, a ∈ ns → a ≤ M) : M = topI ns := by
  obtain ⟨a, b⟩ := topI_spec (ns := ns) (List.ne_nil_of_mem h1)
  exact Int.le_antisymm (b _ h1) (h2 _ a)
theorem call_maxL (hc : X.calm = true) : CallR X (.builtin "max") (fun xs H Q => ∃ (p : Addr) (ns : List Int), xs = [V.ref p] ∧ SqL X.K H p (ns.map V.int) ∧ ns ≠ [] ∧ Q (.int (topI ns)) H) := by
  intro pins s σ H xs us Q I r h
  obtain ⟨p, ns, rfl, hp, hne, q⟩ := h
  obtain ⟨u, rfl, ru⟩ := vals1 r
  cases ru
  obtain ⟨its, rv, pl, hz⟩ := I.list hp
  have hi := intsAre_of rv
  obtain ⟨xs, e⟩ := hi.allInts.items
  have hns : ns = xs.toList.map (·.1) := by rw [← hi.numsOf, ← nums_intItems, ← e]
  have hl := pl.isList
  have hsz : 0 < xs.size := by
    have h3 := List.length_pos_iff.mpr hne; rw [hns, List.length_map, Array.length_toList] at h3; exact h3
  rw [e] at hl
  refine max_intList (I.ok.hd hc) hl hsz fun v h' tk hv hk => ?_
  obtain ⟨t, rfl⟩ := intItems_at hv
  obtain ⟨h1, h2⟩ := argBest_gt (numAt xs) (xs.size - 1)
  have m1 : numAt xs (argBest (fun i j => decide (numAt xs i > numAt xs j)) (xs.size - 1)) ∈ ns := by
    rw [hns, numAt_eq]; exact getD_mem (by rw [List.length_map, Array.length_toList]; omega)
  have m2 : ∀ a, a ∈ ns → a ≤ numAt xs (argBest (fun i j => decide (numAt xs i > numAt xs j)) (xs.size - 1)) := fun a ha => by
    rw [hns] at ha
    obtain ⟨j, hj, rfl⟩ := mem_getD ha
    rw [List.length_map, Array.length_toList] at hj
    rw [← numAt_eq]; exact h2 j (by omega)
  rw [top_uniq m1 m2]
  exact ⟨.int (topI ns), H, I.kept (t' := tk) hk, ⟨_, rfl⟩, q⟩
def rdMM0 (f2 : Int → Int → Int) (fl : List Int → Int) : RDA := fun ds G Q => match ds with
  | [.int i, .int j] => Q (.int (f2 i j)) G
  | [.ref i] => match (cellL G i).bind intsD with
    | some ns => ns ≠ [] ∧ Q (.int (fl ns)) G
    | none => False
  | _ => False
structure rdMM (f2 : Int → Int → Int) (fl : List Int → Int) (ds : List Dt) (G : GD) (Q : KD) : Prop where
  p : rdMM0 f2 fl ds G Q
theorem rdMM_two {f2 : Int → Int → Int} {fl : List Int → Int} {i j : Int} {G : GD} {Q : KD} (hq : Q (.int (f2 i j)) G) : rdMM f2 fl [.int i, .int j] G Q := ⟨hq⟩
theorem l_mm {K : PySem.W.Frag} {f2 : Int → Int → Int} {fl : List Int → Int} : LCR K (fun xs H Q => (∃ i j, xs = [V.int i, V.int j] ∧ Q (.int (f2 i j)) H) ∨ ∃ (p : Addr) (ns : List Int), xs = [V.ref p] ∧ SqL K H p (ns.map V.int) ∧ ns ≠ [] ∧ Q (.int (fl ns)) H) (rdMM f2 fl) := by
  intro G H ι ds vs Q Qv hG r h hq
  replace h := h.p
  unfold rdMM0 at h
  split at h
  · rename_i i j
    obtain ⟨v, v', e, r1, r2⟩ := rps2 r
    subst e
    have e1 : v = V.int i := r1
    have e2 : v' = V.int j := r2
    subst e1; subst e2
    exact .inl ⟨i, j, rfl, hq _ H (.int _) G ι hG Gr.refl rfl h⟩
  · rename_i i
    obtain ⟨v, e, rv⟩ := rps1 r
    subst e
    obtain ⟨a, e1, q⟩ := rv
    subst e1
    split at h
    · rename_i ns en
      cases ex : cellL G i with
      | none => rw [ex] at en; cases en
      | some xs =>
        rw [ex] at en
        obtain ⟨ws, s, rr⟩ := cellL_sq hG q ex
        have e2 := intsD_rps en rr
        subst e2
        exact .inr ⟨a, ns, rfl, s, h.1, hq _ H (.int _) G ι hG Gr.refl rfl h.2⟩
    · exact h.elim
  · exact h.elim
def max2 (i j : Int) : Int := if j > i then j else i
theorem de_max (ha : DA X F (e :: es) t) (hm : X.mg "max" = none) (hg : Gl X "max" := by rfl) (hc : X.calm = true := by rfl) (he : starEach (e :: es) X.env = (false, eval e X.env) :: starEach es X.env := by exact star_cons rfl) (hpl : (backTo pos (starEach es X.env)).any (·.1) = false := by exact back_any rfl) : DE X F (.Call (.Name "max" p) (e :: es) [] pos) (dCB (rdMM max2 topI) t) :=
  de_callB (CallR.or (call_max2 hc) (call_maxL hc)) (l_mm (f2 := max2) (fl := topI)) bt_max ha hm hg (by decide) (by decide) he hpl
theorem de_max' (ha : DA' X F (e :: es) t) (hm : X.mg "max" = none) (hg : Gl X "max" := by rfl) (hc : X.calm = true := by rfl) (he : starEach (e :: es) X.env = (false, eval e X.env) :: starEach es X.env := by exact star_cons rfl) (hpl : (backTo pos (starEach es X.env)).any (·.1) = false := by exact back_any rfl) : DE' X F (.Call (.Name "max" p) (e :: es) [] pos) (dCB (rdMM max2 topI) t) :=
  ⟨de_max (ha := ha.p) (hm := hm) (hg := hg) (hc := hc) (he := he) (hpl := hpl)⟩
/-! ### int(..) of an int or a truth -/
/-! ### a builtin's method over data -/
def LMR (K : PySem.W.Frag) (r : V → List V → Hp → VK → Prop) (rd : Dt → List Dt → GD → KD → Prop) : Prop :=
  ∀ (G : GD) (H : Hp) (ι : List Addr) (d : Dt) (ds : List Dt) (v : V) (vs : List V) (Q : KD) (Qv : VK), HG K G H ι → Rp K H ι d v → Rps K H ι ds vs → rd d ds G Q →
    (∀ v' H' d' G' ι', HG K G' H' ι' → Gr K H ι H' ι' → Rp K H' ι' d' v' → Q d' G' → Qv v' H') → r v vs H Qv
def isLstD : GD → Dt → Prop := fun G d => ∃ i xs, d = .ref i ∧ cellL G i = some xs
theorem isLstD_ty {K : PySem.W.Frag} {G : GD} {H : Hp} {ι : List Addr} {d : Dt} {v : V} (hG : HG K G H ι) (r : Rp K H ι d v) (h : isLstD G d) : tyV K "list" v H := by
  obtain ⟨i, xs, rfl, e⟩ := h
  obtain ⟨a, rfl, q⟩ := r
  obtain ⟨vs, s, rr⟩ := cellL_sq hG q e
  exact .inl ⟨rfl, vs, s⟩
def dBM (ty : GD → Dt → Prop) (rd : Dt → List Dt → GD → KD → Prop) (to : TDE) (t : TDA) : TDE := fun σ G Q => to σ G fun x G1 => ty G1 x ∧ t σ G1 fun ds G2 => rd x ds G2 Q
theorem de_bm {name : Str} {T id : String} {ty : GD → Dt → Prop} {r : V → List V → Hp → VK → Prop} {rd : Dt → List Dt → GD → KD → Prop} {apos cpos : Pos} (pa : PlainAttrs T) (slot : Slot T name id) (hty : typeOf (.builtin id) = pure (.type "method_descriptor")) (hm : MtR X id r)
    (hl : LMR X.K r rd) (hT : ∀ {G H ι d v}, HG X.K G H ι → Rp X.K H ι d v → ty G d → tyV X.K T v H) (ho : DE X F o to) (ha : DA X F (e :: es) t)
    (hbase : attributeBase o name X.env (eval o X.env) = eval o X.env := by rfl)
    (hfew : ((backTo cpos (starEach (e :: es) X.env)).all (fun x => !x.1) && (backToKw cpos (keywordEach [] X.env)).all (fun x => x.1.isSome)
      && decide ((e :: es).length + ([] : List Keyword).length + (if ([] : List Keyword).isEmpty then 0 else 1) < 30)) = true := by rfl)
    (hline : (apos.endLine == cpos.line) = true := by rfl) (hs : starEach (e :: es) X.env = (false, eval e X.env) :: starEach es X.env := by exact star_cons rfl) (hplain : (backTo cpos (starEach es X.env)).any (·.1) = false := by exact back_any rfl) :
    DE X F (.Call (.Attribute o name apos) (e :: es) [] cpos) (dBM ty rd to t) := by
  refine PE.imp (pe_bm pa slot hty hm ho ha hbase hfew hline hs hplain) fun σ H Qv ⟨σd, G, ι, Q, ok, ht, hq⟩ => ?_
  refine ⟨σd, G, ι, _, ok, ht, fun v H1 d1 G1 ι1 h1 g1 r1 q1 => ⟨hT h1 r1 q1.1, σd, G1, ι1, _, ok.to h1 g1, q1.2, fun us H2 ds G2 ι2 h2 g2 r2 q2 => ?_⟩⟩
  exact hl G2 H2 ι2 d1 ds v us _ _ h2 (r1.up g2) r2 q2 fun v' H' d' G' ι' h' g' r' q' => hq v' H' d' G' ι' h' (g1.trans (g2.trans g')) r' q'
theorem de_bm' {name : Str} {T id : String} {ty : GD → Dt → Prop} {r : V → List V → Hp → VK → Prop} {rd : Dt → List Dt → GD → KD → Prop} {apos cpos : Pos} (pa : PlainAttrs T) (slot : Slot T name id) (hty : typeOf (.builtin id) = pure (.type "method_descriptor")) (hm : MtR X id r)
    (hl : LMR X.K r rd) (hT : ∀ {G H ι d v}, HG X.K G H ι → Rp X.K H ι d v → ty G d → tyV X.K T v H) (ho : DE' X F o to) (ha : DA' X F (e :: es) t)
    (hbase : attributeBase o name X.env (eval o X.env) = eval o X.env := by rfl)
    (hfew : ((backTo cpos (starEach (e :: es) X.env)).all (fun x => !x.1) && (backToKw cpos (keywordEach [] X.env)).all (fun x => x.1.isSome)
      && decide ((e :: es).length + ([] : List Keyword).length + (if ([] : List Keyword).isEmpty then 0 else 1) < 30)) = true := by rfl)
    (hline : (apos.endLine == cpos.line) = true := by rfl) (hs : starEach (e :: es) X.env = (false, eval e X.env) :: starEach es X.env := by exact star_cons rfl) (hplain : (backTo cpos (starEach es X.env)).any (·.1) = false := by exact back_any rfl) : DE' X F (.Call (.Attribute o name apos) (e :: es) [] cpos) (dBM ty rd to t) :=
  ⟨de_bm (pa := pa) (slot := slot) (hty := hty) (hm := hm) (hl := hl) (hT := hT) (ho := ho.p) (ha := ha.p) (hbase := hbase) (hfew := hfew) (hline := hline) (hs := hs) (hplain := hplain)⟩
/-! ### tuple.count, list.index, tuple.index: of flat items -/
end
end DL
namespace L2
open PySem PySem.Spec PyProof.Rows
/-! ### a comprehension with one name of its own that a block within it reads -/
end L2

namespace DL
open PySem PySem.Spec L2
open PyProof.Rows hiding St
end DL
namespace DL
open PySem PySem.Spec L2
open PyProof.Rows hiding St
/-! ### facts for a walk by hand -/
theorem at_last {G : GD} {c : Cl} : (G ++ [c])[G.length]? = some c := by simp
theorem at_prev {G : GD} {c d : Cl} {i : Nat} (h : G[i]? = some c) : (G ++ [d])[i]? = some c := by
  rw [List.getElem?_append_left (by have := (List.getElem?_eq_some_iff.mp h).1; exact this)]
  exact h
theorem at_more {G J : GD} {c : Cl} {i : Nat} (h : G[i]? = some c) : (G ++ J)[i]? = some c := by
  rw [List.getElem?_append_left (by have := (List.getElem?_eq_some_iff.mp h).1; exact this)]
  exact h
theorem at_set {G : GD} {c d : Cl} {i : Nat} (h : G[i]? = some c) : (G.set i d)[i]? = some d := by
  have := (List.getElem?_eq_some_iff.mp h).1
  simp [this]
theorem len_lst {G : GD} {k : Nat} {xs : List Dt} (h : G[k]? = some (.lst xs)) : lenD G (.ref k) = some xs.length := by simp only [lenD, h]
theorem cell_lst {G : GD} {k : Nat} {xs : List Dt} (h : G[k]? = some (.lst xs)) : cellL G k = some xs := by simp only [cellL, h]
theorem cell_fz {G : GD} {k : Nat} {xs : List Dt} (h : G[k]? = some (.fz xs)) : cellL G k = some xs := by simp only [cellL, h]
/-- cells have come, none of the old has changed -/
def Grw (G G' : GD) : Prop := ∃ J, G' = G ++ J
theorem Grw.refl {G : GD} : Grw G G := ⟨[], by simp⟩
theorem Grw.push {G G' : GD} {c : Cl} (h : Grw G G') : Grw G (G' ++ [c]) := by
  obtain ⟨J, rfl⟩ := h
  exact ⟨J ++ [c], by simp⟩
theorem Grw.more {G G' J : GD} (h : Grw G G') : Grw G (G' ++ J) := by
  obtain ⟨J', rfl⟩ := h
  exact ⟨J' ++ J, by simp⟩
theorem Grw.len {G G' : GD} (h : Grw G G') : G.length ≤ G'.length := by
  obtain ⟨J, rfl⟩ := h
  simp
theorem Grw.trans {G G1 G2 : GD} (a : Grw G G1) (b : Grw G1 G2) : Grw G G2 := by
  obtain ⟨J, rfl⟩ := a
  obtain ⟨J', rfl⟩ := b
  exact ⟨J ++ J', by simp⟩
theorem Grw.set {G G' : GD} {c : Cl} {i : Nat} (h : Grw G G') (hi : G.length ≤ i) : Grw G (G'.set i c) := by
  obtain ⟨J, rfl⟩ := h
  exact ⟨J.set (i - G.length) c, by rw [List.set_append_right _ _ hi]⟩
theorem Grw.at {G G' : GD} {c : Cl} {i : Nat} (h : Grw G G') (e : G[i]? = some c) : G'[i]? = some c := by
  obtain ⟨J, rfl⟩ := h
  exact at_more e
theorem Grw.take {G G' : GD} (h : Grw G G') : G'.take G.length = G := by
  obtain ⟨J, rfl⟩ := h
  simp
/-- a loop by its invariant -/
theorem lp_ind {n0 : Nat} {g : TDG} {tb : TDS} {D : EndsD} {W : GD → Prop} (I : List Dt → SD → GD → Prop) (h0 : ∀ σ G, I [] σ G → W G ∧ D.nx σ G)
    (h1 : ∀ d r (K : SD → GD → Prop), (∀ σ G, I r σ G → K σ G) → ∀ σ G, I (d :: r) σ G → W G ∧ g d σ G fun σ2 G2 => tb { D with nx := Wk n0 K, ct := Wk n0 K, bk := D.nx } σ2 G2) : ∀ ds σ G, I ds σ G → lp n0 g tb D W ds σ G := by
  intro ds
  induction ds with
  | nil => exact fun σ G h => h0 σ G h
  | cons d r ih => exact fun σ G h => h1 d r _ ih σ G h
theorem rdSl_tup {xs : List Dt} {lo hi : Option Int} {G : GD} {Q : KD} (h : Q (.tup (cutD xs lo hi)) G) : rdSl (.tup xs) lo hi G Q := by
  rw [rdSl_eq]; unfold rdSl0
  exact h
theorem iteFb {c : Bool} {A B : Prop} (h : c = false) (hB : B) : if c = true then A else B := by rw [h]; exact iteF hB
theorem iteTb {c : Bool} {A B : Prop} (h : c = true) (hA : A) : if c = true then A else B := by rw [h]; exact iteT hA
theorem cutD_ints (ns : List Int) (lo hi : Option Int) : ∃ cs : List Int, cutD (ns.map Dt.int) lo hi = cs.map Dt.int ∧ cs.length ≤ ns.length := by
  unfold cutD
  refine ⟨(ns.drop (HT.sIx (ns.map Dt.int).length 0 lo)).take (HT.sIx (ns.map Dt.int).length (ns.map Dt.int).length hi - HT.sIx (ns.map Dt.int).length 0 lo), ?_, ?_⟩
  · rw [← List.map_drop, ← List.map_take]
  · rw [List.length_take, List.length_drop]; omega
/-- a loop that keeps a state and looks at each item alone -/
theorem lp_all {n0 : Nat} {g : TDG} {tb : TDS} {D : EndsD} {W : GD → Prop} (R : SD → GD → Prop) (E : Dt → Prop) {ds : List Dt} {σ : SD} {G : GD} (hd : ∀ d ∈ ds, E d) (hs : R σ G) (hW : ∀ σ G, R σ G → W G) (h0 : ∀ σ G, R σ G → D.nx σ G)
    (h1 : ∀ d (K : SD → GD → Prop), E d → (∀ σ G, R σ G → Wk n0 K σ G) → ∀ σ G, R σ G → g d σ G fun σ2 G2 => tb { D with nx := Wk n0 K, ct := Wk n0 K, bk := D.nx } σ2 G2) : lp n0 g tb D W ds σ G :=
  lp_ind (fun ds σ G => (∀ d ∈ ds, E d) ∧ R σ G) (fun σ G h => ⟨hW σ G h.2, h0 σ G h.2⟩) (fun d r K hK σ G h => ⟨hW σ G h.2, h1 d K (h.1 d List.mem_cons_self) (fun σ G hr => Wk.here (hK σ G ⟨fun x hx => h.1 x (List.mem_cons_of_mem _ hx), hr⟩)) σ G h.2⟩) ds σ G ⟨hd, hs⟩
theorem Grw.cell {G G' : GD} {i : Nat} {xs : List Dt} (h : Grw G G') (e : cellL G i = some xs) : cellL G' i = some xs := by
  unfold cellL at e ⊢
  cases q : G[i]? with
  | none => rw [q] at e; cases e
  | some c => rw [q] at e; rw [h.at q]; exact e
theorem szl (k : Nat) (h : k ≤ 1000000 := by decide) : k ≤ sizeLine := Nat.le_trans h (by decide)
/-- a loop's turn ends: slots are forgotten, new cells let go -/
theorem Wk.cut {P : SD → GD → Prop} {σ : SD} {G G' : GD} (σ' : SD) (g : Grw G G') (hG : bndG G.length G) (hl : σ'.length = σ.length) (hs : ∀ (i : Nat) (d : Dt), σ'[i]? = some (some d) → σ[i]? = some (some d) ∧ bnd G.length d) (h : P σ' G) : Wk G.length P σ G' := by
  refine .inr ⟨G.length, σ', Nat.le_refl _, hl, hs, ?_, ?_⟩
  · rw [g.take]; exact hG
  · rw [g.take]; exact h
theorem RetD.cut {G G' : GD} {Q : KD} {d : Dt} (g : Grw G G') (hG : bndG G.length G) (hb : bnd G.length d) (h : Q d G) : RetD G Q d G' := by
  obtain ⟨J, rfl⟩ := g
  exact RetD.pure hG hb h
end DL
namespace PySem.SeqAt
open PySem PySem.Spec PySem.W
end PySem.SeqAt
namespace L2
open PySem PySem.Spec PyProof.Rows
end L2
namespace DL
open PySem PySem.Spec L2
open PyProof.Rows hiding St
end DL
/-! things, worlds, halls: what the document says of them, as Lean functions -/
namespace TH
inductive Th where
  | is (k : Nat)
  | many (m : Nat)
  | not (a : Th)
  | and (a b : Th)
  | or (a b : Th)
  | alike (a b : Th)
  | says (k : Nat) (a : Th)
def Th.wf (n : Nat) : Th → Prop
  | .is k => k < n
  | .many _ => True
  | .not a => a.wf n
  | .and a b => a.wf n ∧ b.wf n
  | .or a b => a.wf n ∧ b.wf n
  | .alike a b => a.wf n ∧ b.wf n
  | .says k a => k < n ∧ a.wf n
def Th.dep : Th → Nat
  | .is _ => 0
  | .many _ => 0
  | .not a => a.dep + 1
  | .and a b => max a.dep b.dep + 1
  | .or a b => max a.dep b.dep + 1
  | .alike a b => max a.dep b.dep + 1
  | .says _ a => a.dep + 1
/-! all worlds -/
/-! halls -/
abbrev Sg := List (Nat × Th)
def Sg.wf (n : Nat) (ss : Sg) : Prop := ∀ p ∈ ss, p.1 < n ∧ p.2.wf n
end TH
namespace TH
/-! what is assumed, and trees -/
abbrev As := List (Option Bool)
end TH
/-! things and worlds as data -/
namespace KT
open PySem PySem.Spec L2 DL TH
def enc : Th → Dt
  | .is k => .tup [.str "is", .int (k : Nat)]
  | .many m => .tup [.str "many", .int (m : Nat)]
  | .not a => .tup [.str "not", enc a]
  | .and a b => .tup [.str "and", enc a, enc b]
  | .or a b => .tup [.str "or", enc a, enc b]
  | .alike a b => .tup [.str "alike", enc a, enc b]
  | .says k a => .tup [.str "says", .int (k : Nat), enc a]
def b2 (b : Bool) : Int := if b then 1 else 0
def oD : Option Bool → Dt
  | none => .non
  | some b => .int (b2 b)
end KT
namespace KH
open PySem PySem.Spec L2 DL
def sp_law : SpD := fun ds G Q => match ds with
  | [.ref i] => ∃ ns : List Int, G[i]? = some (.fz (ns.map Dt.int)) ∧ ∀ G', Q (.bl true) G'
  | _ => False
theorem plc_mk {K : PySem.W.Frag} {h : Heap} {mg : Str → Option Value} {x : Str} {st : Stmt} {ps : List Str} {f : Addr} {oc kV dc pm cd ct : Value} {od an : Option Addr} {sl : Array (Option Value)} (X : K.In h) (G : h.Ns mainGlobals mg)
    (a : PySem.W.nsIn K mainGlobals x = some (some (.ref f))) (l : K.lookup f = some ⟨oc, od, .func (PySem.W.fnOf x x (defArgs st) (defBody st) (defScope st) .none kV dc pm an cd ct), sl⟩) (c : PySem.W.codeIn K cd x = true) (k : PySem.W.keepIn K (.ref f) = true)
    (hb : ∀ us : List Value, us.length = ps.length → bindArgs (PySem.W.fnOf x x (defArgs st) (defBody st) (defScope st) .none kV dc pm an cd ct) ⟨us, []⟩ = pure (ps.zip us)) : Plc K mg x st ps :=
  ⟨f, _, fun_mk l c k, PySem.W.mg_of X G a, Binds.all hb⟩
theorem rps_ints {K : PySem.W.Frag} {H : Hp} {ι : List Addr} : ∀ ns : List Int, Rps K H ι (ns.map Dt.int) (ns.map V.int)
  | [] => rfl
  | k :: ns => ⟨_, _, rfl, rfl, rps_ints ns⟩
theorem law_start {K : PySem.W.Frag} {H : Hp} {a : Addr} {ns : List Int} {Q : VK} {E : XK} (hO : Only H) (hS : SqL K H a (ns.map V.int)) (hQ : ∀ H', Q (.bl true) H') : liSp K 1 sp_law [.ref a] H Q E := by
  refine ⟨[.ref 0], [.fz (ns.map Dt.int)], [a], fun d _ => d = .bl true, rfl, ⟨rfl, fun i c b e1 e2 => ?_, fun i j ci cj b e1 e2 m1 m2 q1 q2 => ?_⟩, ⟨.ref a, [], rfl, ⟨a, rfl, rfl⟩, rfl⟩, ⟨ns, rfl, fun _ => rfl⟩, fun v H' d G' ι' h' g' r' q' => ?_⟩
  · match i, e1, e2 with
    | 0, e1, e2 =>
      cases e1
      cases e2
      refine ⟨ns.map V.int, ?_, rps_ints ns⟩
      rcases hS with (h | ⟨o, h⟩) | h
      · rcases hO a with z | ⟨o, xs, z⟩
        · rw [z] at h; cases h
        · rw [z] at h; cases h
      · exact .inl ⟨o, h⟩
      · exact .inr h
    | k + 1, e1, e2 => cases e1
  · match i, e1, j, e2 with
    | 0, _, 0, _ => rfl
    | 0, e1, k + 1, e2 => cases e2
    | k + 1, e1, _, _ => cases e1
  · subst q'
    have e : v = V.bl true := r'
    rw [e]
    exact hQ H'
theorem walk {m : Nat} (hm : callerA.depth + 3 * m + 5 < recursionLimit ∧ callerA.units + 16 * m + 200 < cLine) {l : PySem.W.OpenLaw} {q : Program} {loose : List Str} {XP : (Str → Option Value) → Heap → Prop} {YP : World → Heap → Prop} {d : DefRec} {K : Params → PySem.W.Frag} (hn : l.most = some 63) (hdf : d.params.defaults = [])
    (hY : ∀ (w : World) (h : Heap), YP w h → (K w.params).In h)
    (F : ∀ (w : World) (mg : Str → Option Value) (fa : Addr) (h : Heap), (K w.params).In h → h.Ns mainGlobals mg → mg d.name = some (.ref fa) →
      ∃ fd : FuncData, (∀ (s : Shared) (u : Value), BindsTo s fd ⟨[u], []⟩ [("_law_script", u)]) ∧ ∀ base : Heap, (K w.params).In base → base.Ns mainGlobals mg → FnOk l.prog w (K w.params) mg base CX0 m fa fd ["_law_script"] (liSp (K w.params) 1 sp_law)) :
    PySem.W.WalkO q loose XP YP l.row.toRowW d [] (fun f vs => PySem.call f vs) :=
  L2.walk_of (n := 63) (k := m) (x := "_law_script") (CX := fun _ => CX0) (sp := fun w => liSp (K w.params) 1 sp_law) hn (by decide) hdf ⟨rfl, hm.1, hm.2⟩ hY F (fun _ H a ns hl hO hS => law_start hO hS fun _ => rfl) fun _ _ _ _ _ z => z
end KH
/-! the module's table of forms -/
namespace KFM
open PySem PySem.Spec L2 DL TH KT KH
def formsK : List (Str × List Str) := [("is", ["guest"]), ("many", ["count"]), ("not", ["thing"]), ("and", ["thing", "thing"]), ("or", ["thing", "thing"]), ("alike", ["thing", "thing"]), ("says", ["guest", "thing"])]
def kindsD (ks : List Str) : Dt := .tup (ks.map Dt.str)
def formsD : List (Str × Dt) := formsK.map fun p => (p.1, kindsD p.2)
def formK (x : Str) : Option (List Str) := PyProof.Rows.KTD.datumAt x formsK
theorem datumAt_map {α β : Type} (f : α → β) (k : Str) : ∀ l : List (Str × α), PyProof.Rows.KTD.datumAt k (l.map fun p => (p.1, f p.2)) = (PyProof.Rows.KTD.datumAt k l).map f
  | [] => rfl
  | (x, d) :: l => by
    show (if decide (k = x) = true then some (f d) else PyProof.Rows.KTD.datumAt k (l.map fun p => (p.1, f p.2))) = Option.map f (if decide (k = x) = true then some d else PyProof.Rows.KTD.datumAt k l)
    rw [datumAt_map f k l]
    split <;> rfl
def formD (x : Str) : Dt := match formK x with
  | some ks => kindsD ks
  | none => .non
theorem formD_eq (x : Str) : (PyProof.Rows.KTD.datumAt x formsD).getD .non = formD x := by
  unfold formD formsD
  rw [datumAt_map kindsD x formsK]
  show (Option.map kindsD (formK x)).getD .non = _
  cases formK x <;> rfl
def withinD (d : Dt) (l m : Int) : Bool := match d with
  | .int i => decide (l ≤ i) && decide (i ≤ m)
  | _ => false
theorem formD_none {x : Str} (h : formK x = none) : formD x = .non := by unfold formD; rw [h]
theorem formD_some {x : Str} {ks : List Str} (h : formK x = some ks) : formD x = kindsD ks := by unfold formD; rw [h]
theorem fk_is : formK "is" = some (["guest"] : List Str) := by simp [formK, formsK, PyProof.Rows.KTD.datumAt, str_inj]
theorem fk_many : formK "many" = some (["count"] : List Str) := by simp [formK, formsK, PyProof.Rows.KTD.datumAt, str_inj]
theorem fk_not : formK "not" = some (["thing"] : List Str) := by simp [formK, formsK, PyProof.Rows.KTD.datumAt, str_inj]
theorem fk_and : formK "and" = some (["thing", "thing"] : List Str) := by simp [formK, formsK, PyProof.Rows.KTD.datumAt, str_inj]
theorem fk_or : formK "or" = some (["thing", "thing"] : List Str) := by simp [formK, formsK, PyProof.Rows.KTD.datumAt, str_inj]
theorem fk_alike : formK "alike" = some (["thing", "thing"] : List Str) := by simp [formK, formsK, PyProof.Rows.KTD.datumAt, str_inj]
theorem fk_says : formK "says" = some (["guest", "thing"] : List Str) := by simp [formK, formsK, PyProof.Rows.KTD.datumAt, str_inj]
def strsLook : List Str → List Value → Bool
  | [], [] => true
  | x :: xs, .str y _ :: vs => decide (y = x) && strsLook xs vs
  | _, _ => false
def rmLook (K : PySem.W.Frag) (ks : List Str) (v : Value) : Bool := match v with
  | .ref a => match K.lookup a with
    | some o => o.cls == .type "tuple" && o.dict.isNone && (match o.data with
      | .seq its _ => decide (its.size ≤ 100) && strsLook ks its.toList
      | _ => false)
    | none => false
  | _ => false
def rowsL (K : PySem.W.Frag) : List DictEntry → List (Str × List Str) → Bool
  | [], [] => true
  | e :: es, (x, ks) :: D => (match e.key with | .str y _ => decide (y = x) | _ => false) && rmLook K ks e.val && rowsL K es D
  | _, _ => false
def tabL (K : PySem.W.Frag) (a : Addr) : Bool := !(a == sysModules) && (match K.lookup a with
  | some o => o.cls == .type "dict" && o.dict.isNone && o.slots.isEmpty && (match o.data with | .dict es _ => rowsL K es.toList formsK | _ => false)
  | none => false)
theorem strs_vals {K : PySem.W.Frag} : ∀ {ks : List Str} {vs : List Value}, strsLook ks vs = true → Vals (ks.map V.str) vs
  | [], [], _ => .nil
  | x :: xs, .str y t :: vs, h => by
    simp only [strsLook, Bool.and_eq_true, decide_eq_true_eq] at h
    obtain ⟨rfl, h2⟩ := h
    exact .cons ⟨t, rfl⟩ (strs_vals (K := K) h2)
  | [], _ :: _, h => by cases h
  | _ :: _, [], h => by cases h
  | _ :: _, .none :: _, h => by cases h
  | _ :: _, .bool _ :: _, h => by cases h
  | _ :: _, .int _ _ :: _, h => by cases h
  | _ :: _, .ref _ :: _, h => by cases h
  | _ :: _, .type _ :: _, h => by cases h
  | _ :: _, .builtin _ :: _, h => by cases h
  | _ :: _, .float _ _ :: _, h => by cases h
  | _ :: _, .bytes _ _ :: _, h => by cases h
  | _ :: _, .ellipsis :: _, h => by cases h
  | _ :: _, .notImplemented :: _, h => by cases h
theorem rps_strs {K : PySem.W.Frag} {H : Hp} {ι : List Addr} : ∀ ks : List Str, Rps K H ι (ks.map Dt.str) (ks.map V.str)
  | [] => rfl
  | k :: ks => ⟨_, _, rfl, rfl, rps_strs ks⟩
theorem rm_of {K : PySem.W.Frag} {ks : List Str} {v : Value} (h : rmLook K ks v = true) : RM K (kindsD ks) v := by
  unfold rmLook at h
  split at h
  · rename_i a
    split at h
    · rename_i o ho
      simp only [Bool.and_eq_true] at h
      obtain ⟨⟨h1, h2⟩, h3⟩ := h
      split at h3
      · rename_i its n hd
        simp only [Bool.and_eq_true, decide_eq_true_eq] at h3
        refine ⟨.ref a, rfl, fun H ι => ⟨a, ks.map V.str, rfl, .inr ⟨o, its, n, ho, eq_of_beq h1, by simpa using h2, hd, Nat.le_trans h3.1 (by decide), strs_vals (K := K) h3.2⟩, rps_strs ks⟩⟩
      · cases h3
    · cases h
  · cases h
theorem rows_of {K : PySem.W.Frag} : ∀ {es : List DictEntry} {D : List (Str × List Str)}, rowsL K es D = true → PyProof.Rows.KTD.Rows (RM K) es (D.map fun p => (p.1, kindsD p.2))
  | [], [], _ => .nil
  | e :: es, (x, ks) :: D, h => by
    simp only [rowsL, Bool.and_eq_true] at h
    obtain ⟨⟨h1, h2⟩, h3⟩ := h
    split at h1
    · rename_i y t hk
      have e1 := of_decide_eq_true h1
      subst e1
      exact .cons hk (rm_of h2) (rows_of h3)
    · cases h1
  | [], _ :: _, h => by cases h
  | _ :: _, [], h => by cases h
theorem tab_of {K : PySem.W.Frag} {a : Addr} (h : tabL K a = true) : Tab (RM K) K a formsD := by
  unfold tabL at h
  simp only [Bool.and_eq_true] at h
  obtain ⟨h0, h⟩ := h
  split at h
  · rename_i o ho
    simp only [Bool.and_eq_true] at h
    obtain ⟨⟨⟨h1, h2⟩, h3⟩, h4⟩ := h
    split at h4
    · rename_i es ep hd
      exact ⟨by simpa using h0, o, es, ep, ho, ⟨eq_of_beq h1, by simpa using h2, by simpa using h3⟩, hd, rows_of h4⟩
    · cases h4
  · cases h
end KFM
namespace KH
open PySem PySem.Spec L2 DL TH KT
theorem any_none : ∀ as : As, ((as.map oD).any fun z => PyData.eqv (pyD z) (pyD .non)) = !(as.all Option.isSome)
  | [] => rfl
  | a :: as => by
    rw [List.map_cons, List.any_cons, List.all_cons, any_none as]
    cases a <;> simp [oD, pyD, PyData.eqv]
/-! trees as data -/
/-! heads of trees -/
end KH
namespace KH
open PySem PySem.Spec L2 DL TH KT
end KH
namespace KH
open PySem PySem.Spec L2 DL TH KT
theorem eqv_same {d : Dt} (h : lay d = true) : PyData.eqv (pyD d) (pyD d) = true := PySem.SeqAt.eqv_refl _ (lay_can d h)
theorem pyG_lay {G : GD} {d : Dt} (h : lay d = true) : pyG G d = some (pyD d) := by
  unfold pyG
  split
  · cases h
  · rw [if_pos h]
/-- two like data -/
theorem rdEqP_same {neg : Bool} {d : Dt} {G : GD} {Q : KD} (h : lay d = true) (hd : (pyD d).depth ≤ 60) (hq : Q (.bl (neg ^^ true)) G) : rdEqP neg d d G Q := by
  refine ⟨?_⟩
  unfold rdEqP0
  rw [pyG_lay h]
  exact ⟨by omega, by rw [eqv_same h]; exact hq⟩
end KH
namespace L2
open PySem PySem.Spec PyProof.Rows
open Builtin Builtin.Str
/-! ### texts: str, split, join -/
section
variable {X : Cx}
theorem call_strS : CallR X (.type "str") (fun xs H Q => (∃ i : Int, xs = [.int i] ∧ i.natAbs.log2 < 1920 ∧ Q (.str (toString i)) H) ∨ ∃ x, xs = [.str x] ∧ Q (.str x) H) := by
  intro pins s σ H xs us Q I r h
  rcases h with ⟨i, rfl, hz, q⟩ | ⟨x, rfl, q⟩
  · obtain ⟨u, rfl, t, rfl⟩ := vals1 r
    exact PySem.P.str_of_int hz ⟨.str _, H, I.tok _, ⟨_, rfl⟩, q⟩
  · obtain ⟨u, rfl, t, rfl⟩ := vals1 r
    exact PySem.P.str_of_str ⟨.str x, H, I, ⟨_, rfl⟩, q⟩
theorem vals_strs : ∀ l : List (Str × Tok), Vals ((l.map (·.1)).map V.str) (strValues l)
  | [] => .nil
  | p :: l => .cons ⟨p.2, rfl⟩ (vals_strs l)
theorem of_strs : ∀ {zs : List Str} {its : List Value}, Vals (zs.map V.str) its → ∃ l : List (Str × Tok), its = strValues l ∧ l.map (·.1) = zs
  | [], _, h => by cases h; exact ⟨[], rfl, rfl⟩
  | z :: zs, _, h => by
    cases h with
    | cons r t =>
      obtain ⟨u, rfl⟩ := r
      obtain ⟨l, rfl, e⟩ := of_strs t
      exact ⟨(z, u) :: l, rfl, by rw [List.map_cons, e]⟩
def rSplit : V → List V → Hp → VK → Prop := fun x xs H Q => ∃ z y, x = .str z ∧ xs = [.str y] ∧ (y.length == 0) = false ∧ z.length ≤ sizeLine ∧ (Txt.split z y).length ≤ sizeLine ∧ ∀ l, H l = none → Q (.ref l) (upd H l (.lst ((Txt.split z y).map V.str)))
theorem mt_split : MtR X "str.split" rSplit := by
  intro pins s σ H x xs v us Q I rx rs h
  obtain ⟨z, y, rfl, rfl, hy, hz, hn, hQ⟩ := h
  obtain ⟨t, rfl⟩ := rx
  obtain ⟨w', rfl, u, rfl⟩ := vals1 rs
  have fin : ∀ (l : List (Str × Tok)) (k : Nat), l.map (·.1) = Txt.split z y → EP X pins σ Q (.ref s.heap.objs.size) { s with heap := s.heap.push { cls := .type "list", data := .seq (strValues l).toArray }, toks := k } := fun l k e => by
    have hr := vals_strs l
    rw [e] at hr
    refine ⟨.ref _, _, I.laid (t' := k) (fun b o q => Heap.get?_push_of_some _ q) (Nat.le_refl _) (show ObjOk X.prog X.w _ _ _ (.lst ((Txt.split z y).map V.str)) from ⟨by rw [List.length_map]; exact hn, strValues l, 0, hr, Heap.get?_push_size _ rfl⟩), rfl, hQ _ (I.hok.fresh (Nat.le_refl _))⟩
  cases h1 : (decide (z.length < y.length) || decide (strKind z < strKind y))
  · cases hf : (occurrences z y 0 z.length (z.length + 1)).isEmpty
    · have e : Txt.split z y = partsBetween z (occurrences z y 0 z.length (z.length + 1)) y.length := (if_neg (ne_true_of_eq_false h1)).trans (if_neg (ne_true_of_eq_false hf))
      refine call_meets F.slot_str_split (typeIs_str _ _ _) F.entry_str_split (F.args_str_split_2 _ _) (meets_str_split_sep z y t u h1 hy hf hz (by rw [← e]; exact hn)) ?_
      show wants _ _ _ { s with toks := _, heap := s.heap.push { cls := .type "list", data := .seq (strsFrom s.toks (partsBetween z (occurrences z y 0 z.length (z.length + 1)) y.length)).toArray } }
      rw [strsFrom_eq]
      exact fin (numbered s.toks _) _ ((numbered_texts _ _).trans e.symm)
    · exact call_meets F.slot_str_split (typeIs_str _ _ _) F.entry_str_split (F.args_str_split_2 _ _) (meets_str_split_not_found z y t u h1 hy hf)
        (fin [(z, t)] s.toks ((if_neg (ne_true_of_eq_false h1)).trans (if_pos hf)).symm)
  · exact call_meets F.slot_str_split (typeIs_str _ _ _) F.entry_str_split (F.args_str_split_2 _ _) (meets_str_split_cannot_occur z y t u h1)
      (fin [(z, t)] s.toks (if_pos h1).symm)
def rJoin (K : PySem.W.Frag) : V → List V → Hp → VK → Prop := fun x xs H Q => ∃ z p zs, x = .str z ∧ xs = [.ref p] ∧ SqL K H p (zs.map V.str) ∧ JoinOk z zs = true ∧ Q (.str (Txt.join z zs)) H
theorem mt_join : MtR X "str.join" (rJoin X.K) := by
  intro pins s σ H x xs v us Q I rx rs h
  obtain ⟨z, p, zs, rfl, rfl, hp, hok, q⟩ := h
  obtain ⟨t, rfl⟩ := rx
  obtain ⟨u, rfl, r1⟩ := vals1 rs
  cases r1
  obtain ⟨its, rv, pl, _⟩ := I.list hp
  obtain ⟨l, rfl, el⟩ := of_strs rv
  have hl : s.heap.IsList p (strValues l).toArray := by
    obtain ⟨o, n, e1, e2, e3, e4⟩ := pl
    exact ⟨o, e1, e2, n, by first | exact e3 | exact e4⟩
  exact SC.join hl el hok fun t' k => ⟨.str _, H, I.tok k, ⟨t', rfl⟩, q⟩
end
end L2
namespace L2
open PySem PySem.Spec
open PyProof.Rows hiding St
/-! ### list(range(n)), a <= b < c as a test -/
end L2
namespace DL
open PySem PySem.Spec L2
open PyProof.Rows hiding St
/-! ### comprehensions over pairs: for a, b in .. -/
end DL
namespace DL
open PySem PySem.Spec L2
open PyProof.Rows hiding St
theorem bt_str1 : bootBuiltins "str" = some (.type "str") := by decide +kernel
def rdStrOf0 : RDA := fun ds G Q => match ds with
  | [.int i] => i.natAbs.log2 < 1920 ∧ Q (.str (toString i : String)) G
  | [.str x] => Q (.str x) G
  | _ => False
structure rdStrOf (ds : List Dt) (G : GD) (Q : KD) : Prop where
  p : rdStrOf0 ds G Q
theorem l_strOf {K : PySem.W.Frag} : LCR K (fun xs H Q => (∃ i : Int, xs = [V.int i] ∧ i.natAbs.log2 < 1920 ∧ Q (.str (toString i : String)) H) ∨ ∃ x, xs = [V.str x] ∧ Q (.str x) H) rdStrOf := by
  intro G H ι ds vs Q Qv hG r h hq
  replace h := h.p
  unfold rdStrOf0 at h
  split at h
  · rename_i i
    obtain ⟨v, e, rv⟩ := rps1 r
    subst e
    have e1 : v = V.int i := rv
    subst e1
    exact .inl ⟨i, rfl, h.1, hq _ H (.str _) G ι hG Gr.refl rfl h.2⟩
  · rename_i x
    obtain ⟨v, e, rv⟩ := rps1 r
    subst e
    have e1 : v = V.str x := rv
    subst e1
    exact .inr ⟨x, rfl, hq _ H (.str x) G ι hG Gr.refl rfl h⟩
  · exact h.elim
def isStrD : GD → Dt → Prop := fun _ d => ∃ x, d = .str x
theorem isStrD_ty {K : PySem.W.Frag} {G : GD} {H : Hp} {ι : List Addr} {d : Dt} {v : V} (hG : HG K G H ι) (r : Rp K H ι d v) (h : isStrD G d) : tyV K "str" v H := by
  obtain ⟨x, rfl⟩ := h
  have e : v = V.str x := r
  subst e
  exact rfl
theorem rps_strs {K : PySem.W.Frag} {H : Hp} {ι : List Addr} : ∀ l : List Str, Rps K H ι (l.map Dt.str) (l.map V.str)
  | [] => rfl
  | k :: l => ⟨_, _, rfl, rfl, rps_strs l⟩
theorem rps_strs_of {K : PySem.W.Frag} {H : Hp} {ι : List Addr} : ∀ {l : List Str} {vs : List V}, Rps K H ι (l.map Dt.str) vs → vs = l.map V.str
  | [], vs, h => h
  | k :: l, vs, h => by
    obtain ⟨v, r, e, a, b⟩ := h
    have e1 : v = V.str k := a
    rw [e, e1, rps_strs_of b]
    rfl
structure rdSplit (d : Dt) (ds : List Dt) (G : GD) (Q : KD) : Prop where
  p : ∃ z y, d = .str z ∧ ds = [.str y] ∧ (y.length == 0) = false ∧ z.length ≤ sizeLine ∧ (Txt.split z y).length ≤ sizeLine ∧ Q (.ref G.length) (G ++ [.lst ((Txt.split z y).map Dt.str)])
theorem l_split {K : PySem.W.Frag} : LMR K rSplit rdSplit := by
  intro G H ι d ds v vs Q Qv hG r rs h hq
  obtain ⟨z, y, rfl, rfl, hy, hz, hn, q⟩ := h.p
  have e1 : v = V.str z := r
  subst e1
  obtain ⟨v, e, rv⟩ := rps1 rs
  subst e
  have e2 : v = V.str y := rv
  subst e2
  refine ⟨z, y, rfl, rfl, hy, hz, hn, fun l hl => ?_⟩
  obtain ⟨a, b, c⟩ := rp_newLst hG (rps_strs (Txt.split z y)) hl
  exact hq _ _ _ _ _ a b c q
structure rdJoin (d : Dt) (ds : List Dt) (G : GD) (Q : KD) : Prop where
  p : ∃ z i zs, d = .str z ∧ ds = [.ref i] ∧ cellL G i = some (zs.map Dt.str) ∧ JoinOk z zs = true ∧ Q (.str (Txt.join z zs)) G
theorem l_join {K : PySem.W.Frag} : LMR K (rJoin K) rdJoin := by
  intro G H ι d ds v vs Q Qv hG r rs h hq
  obtain ⟨z, i, zs, rfl, rfl, hc, hok, q⟩ := h.p
  have e1 : v = V.str z := r
  subst e1
  obtain ⟨v, e, rv⟩ := rps1 rs
  subst e
  obtain ⟨a, e2, qa⟩ := rv
  subst e2
  obtain ⟨ws, s, rr⟩ := cellL_sq hG qa hc
  rw [rps_strs_of rr] at s
  exact ⟨z, a, zs, rfl, rfl, s, hok, hq _ H (.str _) G ι hG Gr.refl rfl q⟩
section
variable {X : Cx} {F : Fx} {e o : Expr} {t : TDA} {to : TDE} {pos p apos cpos : Pos}
theorem de_strof' (ha : DA' X F [e] t) (hm : X.mg "str" = none) (hg : Gl X "str" := by rfl) (he : starEach [e] X.env = (false, eval e X.env) :: starEach [] X.env := by exact star_cons rfl) (hpl : (backTo pos (starEach [] X.env)).any (·.1) = false := by exact back_any rfl) : DE' X F (.Call (.Name "str" p) [e] [] pos) (dCB rdStrOf t) :=
  de_callTy' call_strS l_strOf bt_str1 ha hm hg (by decide) (by decide) he hpl
theorem de_split' (ho : DE' X F o to) (ha : DA' X F [e] t) (hbase : attributeBase o "split" X.env (eval o X.env) = eval o X.env := by rfl)
    (hfew : ((backTo cpos (starEach [e] X.env)).all (fun x => !x.1) && (backToKw cpos (keywordEach [] X.env)).all (fun x => x.1.isSome)
      && decide ([e].length + ([] : List Keyword).length + (if ([] : List Keyword).isEmpty then 0 else 1) < 30)) = true := by rfl)
    (hline : (apos.endLine == cpos.line) = true := by rfl) (hs : starEach [e] X.env = (false, eval e X.env) :: starEach [] X.env := by exact star_cons rfl) (hplain : (backTo cpos (starEach [] X.env)).any (·.1) = false := by exact back_any rfl) :
    DE' X F (.Call (.Attribute o "split" apos) [e] [] cpos) (dBM isStrD rdSplit to t) :=
  de_bm' PySem.F.plainAttrs_str PySem.F.slot_str_split PySem.F.type_str_split mt_split l_split isStrD_ty ho ha hbase hfew hline hs hplain
theorem de_join' (ho : DE' X F o to) (ha : DA' X F [e] t) (hbase : attributeBase o "join" X.env (eval o X.env) = eval o X.env := by rfl)
    (hfew : ((backTo cpos (starEach [e] X.env)).all (fun x => !x.1) && (backToKw cpos (keywordEach [] X.env)).all (fun x => x.1.isSome)
      && decide ([e].length + ([] : List Keyword).length + (if ([] : List Keyword).isEmpty then 0 else 1) < 30)) = true := by rfl)
    (hline : (apos.endLine == cpos.line) = true := by rfl) (hs : starEach [e] X.env = (false, eval e X.env) :: starEach [] X.env := by exact star_cons rfl) (hplain : (backTo cpos (starEach [] X.env)).any (·.1) = false := by exact back_any rfl) :
    DE' X F (.Call (.Attribute o "join" apos) [e] [] cpos) (dBM isStrD rdJoin to t) :=
  de_bm' PySem.F.plainAttrs_str PySem.F.slot_str_join PySem.F.type_str_join mt_join l_join isStrD_ty ho ha hbase hfew hline hs hplain
end
end DL
namespace L2
open PySem PySem.Spec
open PyProof.Rows hiding St
/-! ### for x in reversed(list) -/
def Itv (K : PySem.W.Frag) (a : Addr) (n : Nat) : It :=
  ⟨fun i H => i < n ∧ ∃ xs, SqL K H a xs ∧ xs.length = n, fun i H x H' => H' = H ∧ ∀ xs, SqL K H a xs → xs[n - 1 - i]? = some x, fun i _ => n ≤ i⟩
theorem turn_rev {P : Program} {w : World} {K : PySem.W.Frag} {tg : Expr} (a it : Addr) (n : Nat) : Turn P w K tg (Itv K a n) [it] it (fun i h => i ≤ n ∧ h.IsRevIter it a ((n : Int) - 1 - (i : Int))) where
  mem := by simp
  obj := fun i h st b hb => by
    have e : b = it := by simpa using hb
    subst e
    obtain ⟨o, e, c, d⟩ := st.2
    exact ⟨o, e, fun v z => by rw [d] at z; cases z⟩
  keep := fun i h h' st k => ⟨st.1, st.2.at fun o e => k it (by simp) o e⟩
  item := by
    intro X hP hw hK hc i pins s σ H E I hf st hg
    subst hP hw hK
    obtain ⟨hi, xs, hq, hn⟩ := hg
    obtain ⟨its, rv, p, hz⟩ := I.list hq
    have hx : xs[n - 1 - i]? = some (xs[n - 1 - i]'(by omega)) := List.getElem?_eq_getElem (by omega)
    obtain ⟨u, hu, ru⟩ := rv.get hx
    obtain ⟨f0, f1, f2, f3, f4, f5⟩ := hf it (by simp)
    have e1 : (n : Int) - 1 - (i : Int) = ((n - 1 - i : Nat) : Int) := by omega
    have hit := st.2
    rw [e1] at hit
    refine wpAny_pyNext_rev_item hit p.isList (x := u) (by simpa using hu) fun h' st' sb => ?_
    have e2 : ((n - 1 - i : Nat) : Int) - 1 = (n : Int) - 1 - ((i + 1 : Nat) : Int) := by omega
    rw [e2] at st'
    have I1 : Inv X pins σ H { s with heap := h' } := I.turned (t' := s.toks) (fun b o hb e => (sb.2 b hb).trans e) f0 f1 f3 f4 f5
    obtain ⟨o, e, c, d⟩ := id st'
    exact ⟨u, rfl, go_of (s := { s with heap := h' }) e c d (by decide) ⟨_, H, I1, ru, ⟨rfl, fun ys hy => by rw [I.list_inj hy hq]; exact hx⟩, ⟨hi, st'⟩, fun b hb => (hf b hb).1⟩⟩
  done := by
    intro X hP hw hK hc i pins s σ H E I hf st hg
    subst hP hw hK
    have hi : i = n := Nat.le_antisymm st.1 hg
    subst hi
    have e1 : (i : Int) - 1 - (i : Int) = -1 := by omega
    have hit := st.2
    rw [e1] at hit
    obtain ⟨f0, f1, f2, f3, f4, f5⟩ := hf it (by simp)
    exact wpAny_pyNext_rev_end (I.ok.hd hc) hit fun h' eb => ⟨rfl, I.turned (t' := s.toks) (fun b o hb e => eb b o hb e) f0 f1 f3 f4 f5⟩
  self := fun _ _ _ _ _ st h => wpAny_pyIter_revIter st.2 h
section
variable {X : Cx} {tg : Expr}
theorem bt_rev : bootBuiltins "reversed" = some (.type "reversed") := by decide +kernel
def iRev (K : PySem.W.Frag) (ta : TA) : TI := fun σ H R => ta σ H fun vs H1 => ∃ a xs, vs = [.ref a] ∧ SqL K H1 a xs ∧ R (Itv K a xs.length) H1
theorem pi_rev {a : Expr} {ta : TA} {p pos : Pos} (hg : Gl X "reversed") (hm : X.mg "reversed" = none) (ha : PA X [a] ta) (hs : starEach [a] X.env = [(false, eval a X.env)] := by rfl) : PI X tg (.Call (.Name "reversed" p) [a] [] pos) (iRev X.K ta) := by
  intro pins s σ H R I h
  refine Call_ (ld_blt I hg hm bt_rev (PyProof.Rows.callWith_type1 (thn (ha pos pins s σ H _ I h) fun us s1 ⟨vs, H1, I1, r1, q1⟩ => ?_) hs rfl))
  obtain ⟨l, xs, e, hq, q⟩ := q1
  subst e
  cases r1 with
  | cons r rr =>
    cases rr
    cases r
    obtain ⟨its, rv, p, hz⟩ := I1.list hq
    refine call_reversed_list p.isList ?_
    have hit : (s1.heap.push (revObj l (((its.toArray.size : Nat) : Int) - 1))).IsRevIter s1.heap.objs.size l ((xs.length : Int) - 1 - ((0 : Nat) : Int)) := by
      refine ⟨_, Heap.get?_push_size _ rfl, rfl, ?_⟩
      have : (xs.length : Int) - 1 - ((0 : Nat) : Int) = ((its.toArray.size : Nat) : Int) - 1 := by
        have := rv.length
        simp
        omega
      rw [this]
      rfl
    refine wpAny_pyIter_revIter hit ?_
    refine ⟨s1.heap.objs.size, [s1.heap.objs.size], _, _, H1, rfl, I1.kept (t' := s1.toks) fun b o e => Heap.get?_push_of_some _ e, turn_rev l _ xs.length, ⟨Nat.zero_le _, hit⟩, fun b hb => ?_, q⟩
    have e : b = s1.heap.objs.size := by simpa using hb
    subst e
    exact I1.fpOk (Nat.le_refl _) (I1.hok.fresh (Nat.le_refl _))
end
end L2
namespace DL
open PySem PySem.Spec L2
open PyProof.Rows hiding St
theorem itv_D {K : PySem.W.Frag} {H0 : Hp} {ι0 : List Addr} {i : Nat} {a : Addr} {xs : List Dt} {n : Nat} (q : ι0[i]? = some a) (hn : xs.length = n) : ItD K (Itv K a n) xs.reverse (fun G => cellL G i = some xs) H0 ι0 where
  stop := fun G H ι hG g _ => by show n ≤ xs.reverse.length; simp [hn]
  go := fun k d G H ι e hG g hw => by
    have hk : k < xs.reverse.length := (List.getElem?_eq_some_iff.mp e).1
    rw [List.length_reverse] at hk
    obtain ⟨vs, s, rr⟩ := cellL_sq hG (g.at q) hw
    have hl := rr.len
    refine ⟨⟨by omega, vs, s, by omega⟩, fun x H2 y => ?_⟩
    obtain ⟨rfl, y⟩ := y
    have hx := y vs s
    obtain ⟨d', hd', rd⟩ := rr.getV hx
    rw [List.getElem?_reverse hk, hn] at e
    rw [e] at hd'
    cases hd'
    exact ⟨hG, Gr.refl, rd⟩
def diRev (te : TDE) : TDI := fun σ G R => te σ G fun d G1 => ∃ i xs, d = .ref i ∧ cellL G1 i = some xs ∧ R xs.reverse (fun G => cellL G i = some xs) G1
section
variable {X : Cx} {F : Fx} {tg : Expr}
theorem di_rev' {a : Expr} {ta : TDE} {p pos : Pos} (ha : DE' X F a ta) (hm : X.mg "reversed" = none) (hg : Gl X "reversed" := by rfl) (hs : starEach [a] X.env = [(false, eval a X.env)] := by exact star_one rfl) : DI' X F tg (.Call (.Name "reversed" p) [a] [] pos) (diRev ta) := by
  refine ⟨PI.imp (pi_rev hg hm (pa_cons ha.p pa_nil (by rw [hs]; rfl)) hs) fun σ H R ⟨σd, G, ι, Q, ok, ht, hq⟩ => ?_⟩
  refine ⟨σd, G, ι, _, ok, ht, fun v H1 d G1 ι1 h1 g1 r1 q1 => ?_⟩
  obtain ⟨i, xs, rfl, hc, q1⟩ := q1
  obtain ⟨a, e, q⟩ := r1
  subst e
  obtain ⟨vs, s, rr⟩ := cellL_sq h1 q hc
  exact ⟨a, vs, rfl, s, hq _ H1 _ _ G1 ι1 h1 g1 (itv_D q rr.len) q1⟩
/-! ### a dict with texts for keys -/
structure rdPutN (x y v : Dt) (G : GD) (Q : GD → Prop) : Prop where
  p : ∃ i kvs s, x = .ref i ∧ y = .str s ∧ G[i]? = some (.dct kvs) ∧ valD kvs (.inr s) = none ∧ kvs.length < sizeLine ∧ Q (G.set i (.dct (kvs ++ [(.inr s, v)])))
def dPutN (tv to ti : TDE) : TDS := fun D σ G => tv σ G fun v G1 => to σ G1 fun x G2 => ti σ G2 fun y G3 => rdPutN x y v G3 fun G4 => D.nx σ G4
theorem RpK.app {K : PySem.W.Frag} {H : Hp} {ι : List Addr} {k : Key} {d : Dt} {v : V} (r : Rp K H ι d v) : ∀ {ds : List (Key × Dt)} {vs : List (Key × V)}, RpK K H ι ds vs → RpK K H ι (ds ++ [(k, d)]) (vs ++ [(k, v)])
  | [], vs, h => by have e : vs = [] := h; rw [e]; exact ⟨v, [], rfl, r, rfl⟩
  | p :: ds, vs, h => by
    obtain ⟨w, r', e, a, b⟩ := h
    rw [e]
    exact ⟨w, r' ++ [(k, v)], rfl, a, RpK.app r b⟩
theorem any_none {kvs : List (Key × V)} {k : Key} (h : valV kvs k = none) : (kvs.any fun kv => decide (kv.1 = k)) = false := by
  unfold valV at h
  rw [Option.map_eq_none_iff, List.find?_eq_none] at h
  rw [Bool.eq_false_iff]
  intro z
  obtain ⟨p, hp, e⟩ := List.any_eq_true.mp z
  exact h p hp e
theorem ds_put' {k : Nat} {o i value : Expr} {to ti tv : TDE} {pos' pos : Pos} (hr : Room k X.A) (hv : DE' X F value tv) (ho : DE' X F o to) (hi : DE' X F i ti) (hs : swapsWith value (some (.Subscript o i pos')) pos.line X.env = pure false := by rfl) :
    DS' X F (.Assign [.Subscript o i pos'] value pos) (dPutN tv to ti) := by
  refine ⟨PS.imp (ps_dput (hu_of hr) ho.p hi.p hv.p hs) fun D σ H ⟨σd, G, ι, Dd, ok, ht, L⟩ => ?_⟩
  refine ⟨σd, G, ι, _, ok, ht, fun v H1 d G1 ι1 h1 g1 r1 q1 => ⟨σd, G1, ι1, _, ok.to h1 g1, q1, fun x H2 dx G2 ι2 h2 g2 r2 q2 => ⟨σd, G2, ι2, _, ok.to h2 (g1.trans g2), q2, fun y H3 dy G3 ι3 h3 g3 r3 q3 => ?_⟩⟩⟩
  obtain ⟨j, kvs, s, rfl, rfl, hc, hn, hl, q⟩ := q3.p
  obtain ⟨a, e2, qa⟩ := r2
  subst e2
  have e3 : y = V.str s := r3
  subst e3
  obtain ⟨vs, w, rr⟩ := h3.cel j _ a hc (g3.at qa)
  have hn' : valV vs (.inr s) = none := (rr.val (k := .inr s)).2 hn
  have hlen : vs.length = kvs.length := by have := congrArg List.length rr.vals.2; simpa using this.symm
  have ep : putK vs (.inr s) v = vs ++ [(.inr s, v)] := by unfold putK; rw [if_neg (by rw [any_none hn']; exact Bool.false_ne_true)]
  refine ⟨a, upd H3 a (.dK (putK vs (.inr s) v)), rfl, DPut.k (k := Sum.inr s) w (by rw [hlen]; exact hl), ?_⟩
  rw [ep]
  have gp : Gr X.K H3 ι3 (upd H3 a (.dK (vs ++ [(.inr s, v)]))) ι3 := Gr.put h3 hc rfl (g3.at qa)
  have hG4 := h3.put (c' := .dct (kvs ++ [(.inr s, d)])) (o := .dK (vs ++ [(.inr s, v)])) hc rfl (g3.at qa) rfl ⟨_, upd_same, (RpK.app ((r1.up g2).up g3) rr).up gp⟩
  exact L.nx _ _ _ _ ι3 (ok.to hG4 (g1.trans (g2.trans (g3.trans gp)))) q
structure rdInD (y x : Dt) (G : GD) (Q : Bool → GD → Prop) : Prop where
  p : ∃ i kvs s, x = .ref i ∧ y = .str s ∧ G[i]? = some (.dct kvs) ∧ Q (valD kvs (.inr s)).isSome G
def dInD (ty tx : TDE) : TDT := fun σ G Q => ty σ G fun y G1 => tx σ G1 fun x G2 => rdInD y x G2 Q
theorem dt_inD' {k : Nat} {a b : Expr} {ta tb : TDE} {pos : Pos} (hr : Room k X.A) (ha : DE' X F a ta) (hb : DE' X F b tb) (hm : behindInMarks .In b = false := by rfl) : DT' X F (.Compare a [.In] [b] pos) (dInD ta tb) := by
  refine ⟨PT.imp (pt_cmp (pc_din (hu_of hr) ha.p hb.p) hm) fun σ H Qv ⟨σd, G, ι, Q, ok, ht, hq⟩ => ?_⟩
  refine ⟨σd, G, ι, _, ok, ht, fun y H1 dy G1 ι1 h1 g1 r1 q1 => ⟨σd, G1, ι1, _, ok.to h1 g1, q1, fun x H2 dx G2 ι2 h2 g2 r2 q2 => ?_⟩⟩
  obtain ⟨j, kvs, s, rfl, rfl, hc, q⟩ := q2.p
  obtain ⟨a, e2, qa⟩ := r2
  subst e2
  have e3 : y = V.str s := r1
  subst e3
  obtain ⟨vs, w, rr⟩ := h2.cel j _ a hc qa
  have hv := rr.val (k := .inr s)
  refine ⟨a, valV vs (.inr s), rfl, DGet.k (k := Sum.inr s) w, (valV vs (.inr s)).isSome, rfl, ?_⟩
  have e : (valV vs (.inr s)).isSome = (valD kvs (.inr s)).isSome := by
    cases hd : valD kvs (.inr s) with
    | none => rw [hv.2 hd]; rfl
    | some d => obtain ⟨v, ev, _⟩ := hv.1 d hd; rw [ev]; rfl
  rw [e]
  exact hq _ H2 G2 ι2 h2 (g1.trans g2) q
end
end DL
namespace RT
open PySem PyProof.Rows
open Sem (wp)
theorem slot_rv_init : Slot "reversed" "__init__" "object.__init__" :=
  .of (owner := "object") (n := "__init__") (by rw [typeLookup_type, builtinLookup_eq_fast]; kernel_rfl) (by decide +kernel) (by decide +kernel) (by decide +kernel)
    (by first | exact .inl (by decide +kernel) | exact .inr (by decide +kernel)) (by rw [isSubtype_type]; kernel_rfl)
theorem called_reversed : TypeCalled "reversed" "reversed.__new__" "object.__init__" :=
  ⟨by decide +kernel, PySem.F.create_reversed, ⟨_, _, PySem.F.mro_reversed⟩, PySem.F.made_reversed, by decide +kernel, PySem.F.sub_reversed_self, slot_rv_init⟩
theorem owner_rv : Manifest.owners.lookup (String.ofList ['d', 'e', 's', 'r', 'e', 'v', 'e', 'r'].reverse) = some Manifest.sig_reversed := by kernel_rfl
theorem slot_rv_next : Slot "reversed" "__next__" "reversed.__next__" :=
  .of (owner := "reversed") (n := "__next__") (by rw [typeLookup_type, builtinLookup_eq_fast]; kernel_rfl) (by decide +kernel) (by decide +kernel) (by decide +kernel)
    (by first | exact .inl (by decide +kernel) | exact .inr (by decide +kernel)) (by rw [isSubtype_type]; kernel_rfl)
theorem entry_rv_next : entryFor table "reversed.__next__" = some Builtin.«reversed.__next__» := entryFor_of_tree (by kernel_rfl)
theorem args_rv_next_1 (a : Value) : argsOk "reversed.__next__" ⟨[a], []⟩ := by
  unfold argsOk; rw [signature?_of (id := "reversed.__next__") (n := ['_', '_', 't', 'x', 'e', 'n', '_', '_']) (o := ['d', 'e', 's', 'r', 'e', 'v', 'e', 'r']) (by kernel_rfl) owner_rv]; kernel_rfl
theorem slot_rv_iter : Slot "reversed" "__iter__" "reversed.__iter__" :=
  .of (owner := "reversed") (n := "__iter__") (by rw [typeLookup_type, builtinLookup_eq_fast]; kernel_rfl) (by decide +kernel) (by decide +kernel) (by decide +kernel)
    (by first | exact .inl (by decide +kernel) | exact .inr (by decide +kernel)) (by rw [isSubtype_type]; kernel_rfl)
theorem args_rv_iter_1 (a : Value) : argsOk "reversed.__iter__" ⟨[a], []⟩ := by
  unfold argsOk; rw [signature?_of (id := "reversed.__iter__") (n := ['_', '_', 'r', 'e', 't', 'i', '_', '_']) (o := ['d', 'e', 's', 'r', 'e', 'v', 'e', 'r']) (by kernel_rfl) owner_rv]; kernel_rfl
theorem entry_rv_iter : entryFor table "reversed.__iter__" = some Builtin.«dict_keyiterator.__iter__» :=
  entryFor_alias (id' := "dict_keyiterator.__iter__") (by kernel_rfl) (by first | rfl | decide +kernel | (unfold String.splitOn; simp +decide [String.splitOnAux])) (by decide +kernel) (by kernel_rfl)
theorem no_rev_tuple : typeLookup (.type "tuple") "__reversed__" = pure none := by rw [typeLookup_type, builtinLookup_eq_fast]; kernel_rfl
theorem sub_tuple_dict : isSubtype (.type "tuple") (.type "dict") = pure false := by rw [isSubtype_type]; kernel_rfl
theorem nolen_rv : typeLookup (.type "reversed") "__len__" = pure none := by rw [typeLookup_type, builtinLookup_eq_fast]; kernel_rfl
theorem hint_rv : typeLookup (.type "reversed") "__length_hint__" = pure (some (.builtin "reversed.__length_hint__")) := by rw [typeLookup_type, builtinLookup_eq_fast]; kernel_rfl
def rvObj (l : Addr) (i : Int) : Obj := { cls := .type "reversed", data := .fields #[.ref l, rawInt i] }
def IsRv (h : Heap) (a l : Addr) (i : Int) : Prop := ∃ o, h.get? a = some o ∧ o.cls = .type "reversed" ∧ o.data = .fields #[.ref l, rawInt i]
section
variable {prog : Program} {w : World} {A : Around} {E : Value → Shared → Prop} {s : Shared}
theorem IsRv.typeIs {a l : Addr} {i : Int} (x : IsRv s.heap a l i) : s.TypeIs (.ref a) "reversed" := let ⟨o, ho, hc, _⟩ := x; ⟨o, ho, hc⟩
theorem IsRv.at {h h' : Heap} {a l : Addr} {i : Int} (x : IsRv h a l i) (e : ∀ o, h.get? a = some o → h'.get? a = some o) : IsRv h' a l i := let ⟨o, ho, r⟩ := x; ⟨o, e _ ho, r⟩
theorem next_item {it l : Addr} {i : Nat} {items : Array Value} {x : Value} {Q : Option Value → Shared → Prop} (hit : IsRv s.heap it l (i : Int)) (hl : IsTup s.heap l items) (hx : items[i]? = some x) (hne : l ≠ it)
    (hQ : ∀ h', IsRv h' it l ((i : Int) - 1) → Heap.SameBut it s.heap h' → Q (some x) { s with heap := h', toks := s.toks + 1 }) (hi : i < 2 ^ 62) : wpAny (model prog w) A (pyNext (.ref it)) Q E s := by
  obtain ⟨o, ho, hc, hd⟩ := id hit
  have hT : s.TypeIs (.ref l) "tuple" := let ⟨ot, e, c, _⟩ := hl; ⟨ot, e, c⟩
  unfold pyNext
  refine wpAny_bind (wpAny_attempt (wpAny_callSpecial?_slot (name := Str.ofString "__next__") hit.typeIs slot_rv_next
    (wpAny_call_entry slot_rv_next hit.typeIs entry_rv_next ?_ (args_rv_next_1 _))))
  unfold Builtin.«reversed.__next__»
  refine wpAny_bind (wpAny_of_eq (a := (Value.ref it, [])) rfl ?_)
  try dsimp only
  refine wpAny_bind (wpAny_field ho hd (x := .ref l) rfl ?_)
  refine wpAny_bind (wpAny_field ho hd (x := rawInt (i : Int)) rfl ?_)
  show wpAny _ _ (if (i : Int) < 0 then _ else _) _ _ s
  rw [if_neg (by omega)]
  show wpAny _ _ (specialOf (.ref l) (Str.ofString "__getitem__") >>= _) _ _ s
  refine wpAny_bind (wpAny_specialOf hT slot_tuple_getitem.lookup ?_)
  simp only [Option.isNone_some, Bool.false_eq_true, if_false]
  have hlt : i < items.size := (Array.getElem?_eq_some_iff.mp hx).1
  have hidx : seqIndex? ((i : Nat) : Int) items.size = some i := by
    unfold seqIndex?
    dsimp only
    rw [if_neg (show ¬ ((i : Nat) : Int) < 0 by omega)]
    simp [hlt]
  refine wpAny_bind (wpAny_mkInt (wpAny_bind (wpAny_attempt (getItem_tuple (s := { s with toks := s.toks + 1 }) hl (by omega) (by omega) hidx hx ?_))))
  refine wpAny_bind (wpAny_field (s := { s with toks := s.toks + 1 }) ho hd (x := rawInt (i : Int)) rfl ?_)
  show wpAny _ _ (setField (.ref it) 1 (rawInt ((i : Int) - 1)) >>= fun _ => ret x) _ _ _
  refine wpAny_bind (wpAny_setField (s := { s with toks := s.toks + 1 }) ho hd (by simp) ?_)
  refine wpAny_pure ⟨x, rfl, wpAny_pure (hQ _ ?_ (Heap.SameBut.update ..))⟩
  exact ⟨_, Heap.get?_update_self _ ho (Obj.isFreed_of_fields (Obj.data_mapFields hd _)), (Obj.cls_mapFields ..).trans hc, by
    rw [Obj.data_mapFields hd]; simp⟩
theorem next_end {it l : Addr} {Q : Option Value → Shared → Prop} (hh : A.handled = none) (hit : IsRv s.heap it l (-1))
    (hQ : ∀ h', Heap.ExtBut it s.heap h' → Q none { s with heap := h' }) : wpAny (model prog w) A (pyNext (.ref it)) Q E s := by
  obtain ⟨o, ho, hc, hd⟩ := id hit
  unfold pyNext
  refine wpAny_bind (wpAny_attempt (wpAny_callSpecial?_slot (name := Str.ofString "__next__") hit.typeIs slot_rv_next
    (wpAny_call_entry slot_rv_next hit.typeIs entry_rv_next ?_ (args_rv_next_1 _))))
  unfold Builtin.«reversed.__next__»
  refine wpAny_bind (wpAny_of_eq (a := (Value.ref it, [])) rfl ?_)
  try dsimp only
  refine wpAny_bind (wpAny_field ho hd (x := .ref l) rfl ?_)
  refine wpAny_bind (wpAny_field ho hd (x := rawInt (-1)) rfl ?_)
  show wpAny _ _ (if (-1 : Int) < 0 then _ else _) _ _ s
  rw [if_pos (by decide)]
  refine wpAny_bind (wpAny_rule ?_)
  refine wpAny_bind ?_
  show wpAny _ _ (setField (.ref it) 1 (rawInt (-1)) >>= fun _ => setField (.ref it) 0 .none) _ _ _
  refine wpAny_bind (wpAny_setField ho hd (by simp) ?_)
  have ho2 := Heap.get?_update_self (Obj.mapFields (·.setIfInBounds 1 (rawInt (-1)))) ho (Obj.isFreed_of_fields (Obj.data_mapFields hd _))
  have hd2 := Obj.data_mapFields hd (·.setIfInBounds 1 (rawInt (-1)))
  refine wpAny_setField ho2 hd2 (by simp) ?_
  refine wpAny_bind ?_
  unfold Builtin.SmallTypes.stopIteration
  refine wpAny_bind ?_
  simp only [newExc, newTuple]
  refine wpAny_bind (wpAny_newObj_type ?_ (by size_fits))
  refine wpAny_bind (m := firstArgMember _ _) (wpAny_of_eq (a := Value.none) (by first | rfl | (simp only [firstArgMember]; rfl)) ?_)
  refine wpAny_newObj_type ?_ (by size_fits)
  simp only [raiseNew]
  refine wpAny_bind (wpAny_handled ?_)
  first | rw [show A.in1.handled = none from hh] | rw [hh]
  refine wpAny_bind (wpAny_pure (wpAny_throw ?_))
  refine wpAny_bind (wpAny_isInstance (T := "StopIteration") (b := true) ⟨_, Heap.get?_push_size _ rfl, rfl⟩ isSubtype_stop ?_)
  exact wpAny_pure (hQ _ fun b o hb e => Heap.get?_push_of_some _ (Heap.get?_push_of_some _ ((Heap.get?_update_other _ _ (Ne.symm hb)).trans ((Heap.get?_update_other _ _ (Ne.symm hb)).trans e))))
theorem iter_rv {it l : Addr} {i : Int} {Q : Value → Shared → Prop} (hit : IsRv s.heap it l i) (h : Q (.ref it) s) : wpAny (model prog w) A (pyIter (.ref it)) Q E s := by
  refine wpAny_pyIter_slot hit.typeIs slot_rv_iter (wpAny_call_entry slot_rv_iter hit.typeIs entry_rv_iter ?_ (args_rv_iter_1 _))
  show wpAny _ _ (ret (.ref it)) _ _ s
  exact wpAny_pure ⟨_, rfl, "reversed", _, hit.typeIs, slot_rv_next.lookup, h⟩
theorem code_rv_new {l : Addr} {items : Array Value} {Q₁ : Value → Shared → Prop} (hl : IsTup s.heap l items) (hn : items.size ≤ 1000)
    (h : ∀ tk, Q₁ (.ref s.heap.objs.size) { s with heap := s.heap.push (rvObj l ((items.size : Int) - 1)), toks := tk }) :
    codeAny (model prog w) A (.call (.builtin "reversed.__new__") ⟨[.type "reversed", .ref l], []⟩) (wants Q₁ E) s := by
  have hT : s.TypeIs (.ref l) "tuple" := let ⟨ot, e, c, _⟩ := hl; ⟨ot, e, c⟩
  refine codeAny_of_tree ?_
  show wpAny _ A.in1 (do checkBuiltinCall "reversed.__new__" ⟨[.type "reversed", .ref l], []⟩; again (.builtin "reversed.__new__" ⟨[.type "reversed", .ref l], []⟩)) _ _ s
  refine wpAny_bind (wpAny_of_eq (PySem.F.newCall_reversed_1 _) (wpAny_pure ⟨plainId_quiet PySem.F.plain_reversed_new _, codeAny_builtin PySem.F.entry_reversed_new ?_⟩))
  rw [Around.under_plainId PySem.F.plain_reversed_new _]
  unfold Builtin.«reversed.__new__»
  refine wpAny_bind (wpAny_of_eq (newClass_reversed _) ?_)
  try dsimp only
  refine wpAny_bind (wpAny_of_eq (a := ()) (by first | rfl | kernel_rfl) ?_)
  refine wpAny_bind (wpAny_of_eq (a := ()) (by first | rfl | kernel_rfl) ?_)
  try dsimp only
  refine wpAny_bind (wpAny_specialOf hT no_rev_tuple ?_)
  try dsimp only
  refine wpAny_bind ?_
  show wpAny _ _ (isInstance (.ref l) (.type "dict") >>= _) _ _ _
  refine wpAny_bind (wpAny_isInstance (b := false) hT sub_tuple_dict ?_)
  show wpAny _ _ (specialOf (.ref l) (Str.ofString "__getitem__") >>= _) _ _ _
  refine wpAny_bind (wpAny_specialOf hT slot_tuple_getitem.lookup ?_)
  dsimp only
  rw [if_pos (by decide +kernel)]
  refine wpAny_pure ?_
  show wpAny _ _ (call (.builtin "len") [.ref l] >>= _) _ _ _
  refine wpAny_bind (PyProof.Rows.len_tuple hl (by omega) ?_)
  refine wpAny_bind (wpAny_of_eq (a := some (items.size : Int)) rfl ?_)
  refine wpAny_bind (m := Builtin.SmallTypes.newRecord _ _) ?_
  show wpAny _ _ (newObj (.type "reversed") (.fields [Value.ref l, rawInt ((items.size : Int) - 1)].toArray)) _ _ _
  refine wpAny_newObj_type ?_ (by size_fits)
  exact wpAny_pure (h _)
theorem call_rv {l : Addr} {items : Array Value} {Q : Value → Shared → Prop} (hl : IsTup s.heap l items) (hn : items.size ≤ 1000)
    (h : ∀ tk, Q (.ref s.heap.objs.size) { s with heap := s.heap.push (rvObj l ((items.size : Int) - 1)), toks := tk }) : wpAny (model prog w) A (call (.type "reversed") [.ref l]) Q E s := by
  refine callType_codes (Q₁ := fun obj s₁ => obj = .ref s.heap.objs.size ∧ ∃ tk, s₁ = { s with heap := s.heap.push (rvObj l ((items.size : Int) - 1)), toks := tk }) called_reversed (PySem.F.typeCall_reversed_1 _) PySem.F.entry_object_init
    (code_rv_new hl hn fun tk => ⟨rfl, tk, rfl⟩) fun obj s₁ h₁ => ?_
  obtain ⟨rfl, tk, rfl⟩ := h₁
  have hT : Shared.TypeIs { s with heap := s.heap.push (rvObj l ((items.size : Int) - 1)), toks := tk } (.ref s.heap.objs.size) "reversed" := ⟨_, Heap.get?_push_size _ rfl, rfl⟩
  exact ⟨hT, PySem.F.args_object_init_2 _ _, object_init_meets called_reversed.init.lookup called_reversed.made (by decide) prog w _ _ _ ⟨hT, rfl, h tk⟩⟩
/-- the walk from the right -/
theorem walks_rv (hh : A.handled = none) (I l : Addr) (hne : l ≠ I) (items : Array Value) (hn : items.size ≤ 1000) :
    Walks prog w A I [I, l] [I] items.size (fun i v => items[items.size - 1 - i]? = some v) (fun i h => i ≤ items.size ∧ IsRv h I l ((items.size : Int) - 1 - (i : Int)) ∧ IsTup h l items) where
  sub := fun b hb => by simp at hb; simp [hb]
  frame := fun _ _ _ x hk => ⟨x.1, x.2.1.at fun o e => hk I (by simp) o e, let ⟨o, e, r⟩ := x.2.2; ⟨o, hk l (by simp) o e, r⟩⟩
  item := fun i s Q E hi x hQ => by
    have e : (items.size : Int) - 1 - (i : Int) = ((items.size - 1 - i : Nat) : Int) := by omega
    have hit := x.2.1
    rw [e] at hit
    have hx : items[items.size - 1 - i]? = some (items[items.size - 1 - i]'(by omega)) := Array.getElem?_eq_getElem (by omega)
    refine next_item hit x.2.2 hx hne (fun h' hit' hs' => ?_) (by omega)
    have e2 : ((items.size - 1 - i : Nat) : Int) - 1 = (items.size : Int) - 1 - ((i + 1 : Nat) : Int) := by omega
    rw [e2] at hit'
    exact hQ _ h' (s.toks + 1) hx ⟨hi, hit', let ⟨o, eo, r⟩ := x.2.2; ⟨o, (hs'.2 l hne).trans eo, r⟩⟩ fun b o hb eo => hs'.extBut b o (fun h => hb (by simp [h])) eo
  done := fun s Q E x hQ => by
    have e : (items.size : Int) - 1 - (items.size : Int) = -1 := by omega
    have hit := x.2.1
    rw [e] at hit
    exact next_end hh hit fun h' he' => hQ h' s.toks fun b o hb eo => he' b o (fun h => hb (by simp [h])) eo
  self := fun _ _ _ _ x hQ => iter_rv x.2.1 hQ
end
end RT
namespace RT
open PySem PyProof.Rows
section
variable {prog : Program} {w : World} {A : Around} {E : Value → Shared → Prop} {s : Shared}
theorem slot_rv_hint : Slot "reversed" "__length_hint__" "reversed.__length_hint__" :=
  .of (owner := "reversed") (n := "__length_hint__") (by rw [typeLookup_type, builtinLookup_eq_fast]; kernel_rfl) (by decide +kernel) (by decide +kernel) (by decide +kernel)
    (by first | exact .inl (by decide +kernel) | exact .inr (by decide +kernel)) (by rw [isSubtype_type]; kernel_rfl)
theorem entry_rv_hint : entryFor table "reversed.__length_hint__" = some Builtin.«reversed.__length_hint__» := entryFor_of_tree (by kernel_rfl)
theorem args_rv_hint_1 (a : Value) : argsOk "reversed.__length_hint__" ⟨[a], []⟩ := by
  unfold argsOk; rw [signature?_of (id := "reversed.__length_hint__") (n := ['_', '_', 't', 'n', 'i', 'h', '_', 'h', 't', 'g', 'n', 'e', 'l', '_', '_']) (o := ['d', 'e', 's', 'r', 'e', 'v', 'e', 'r']) (by kernel_rfl) owner_rv]; kernel_rfl
theorem call_hint {I l : Addr} {items : Array Value} {Q : Value → Shared → Prop} (hit : IsRv s.heap I l ((items.size : Int) - 1)) (hl : IsTup s.heap l items) (hn : items.size ≤ 1000)
    (h : ∀ t, Q (.int (items.size : Int) t) { s with toks := s.toks + 1 + 1 + 1 }) : wpAny (model prog w) A (call (.builtin "reversed.__length_hint__") [.ref I]) Q E s := by
  obtain ⟨o, ho, hc, hd⟩ := id hit
  refine wpAny_call_entry slot_rv_hint hit.typeIs entry_rv_hint ?_ (args_rv_hint_1 _)
  unfold Builtin.«reversed.__length_hint__»
  refine wpAny_bind (wpAny_of_eq (a := Value.ref I) rfl ?_)
  refine wpAny_bind (wpAny_field ho hd (x := .ref l) rfl ?_)
  show wpAny _ _ (call (.builtin "len") [.ref l] >>= _) _ _ _
  refine wpAny_bind (PyProof.Rows.len_tuple hl (by omega) ?_)
  refine wpAny_bind (wpAny_of_eq (a := some (items.size : Int)) rfl ?_)
  refine wpAny_bind (wpAny_field (s := { s with toks := s.toks + 1 + 1 }) ho hd (x := rawInt ((items.size : Int) - 1)) rfl ?_)
  show wpAny _ _ (if (items.size : Int) < (items.size : Int) - 1 + 1 then _ else _) _ _ _
  rw [if_neg (by omega)]
  have e : ((items.size : Int) - 1 + 1) = (items.size : Int) := by omega
  rw [e]
  refine wpAny_bind (wpAny_mkInt (wpAny_pure ⟨_, rfl, h _⟩))
theorem len_hint {I l : Addr} {items : Array Value} {Q : Bool → Shared → Prop} (hit : IsRv s.heap I l ((items.size : Int) - 1)) (hl : IsTup s.heap l items) (hn : items.size ≤ 1000)
    (h : ∀ b, Q b { s with toks := s.toks + 1 + 1 + 1 }) : wpAny (model prog w) A (Builtin.List.listLengthHint (.ref I)) Q E s := by
  unfold Builtin.List.listLengthHint
  refine wpAny_bind (wpAny_specialOf hit.typeIs nolen_rv ?_)
  show wpAny _ A (specialOf (Value.ref I) (Str.ofString "__length_hint__") >>= _) _ _ _
  refine wpAny_bind (wpAny_specialOf hit.typeIs hint_rv ?_)
  generalize hid : ("reversed.__length_hint__" : String) = id0
  wp_delta
  rw [show splitId id0 = some ("reversed", "__length_hint__") from by subst hid; decide +kernel]
  subst hid
  dsimp only
  refine wpAny_bind (wpAny_isInstance (b := true) hit.typeIs (by rw [isSubtype_type]; kernel_rfl) ?_)
  simp only [Bool.not_true, Bool.false_eq_true, if_false]
  rw [if_neg (by decide +kernel)]
  refine wpAny_bind (wpAny_rule (wpAny_bind (wpAny_of_eq (slot_rv_hint.bind (.ref I)) ?_)))
  dsimp only
  refine wpAny_bind (wpAny_attempt (call_hint hit hl hn fun t => ?_))
  show wpAny _ _ (asInt? (.int (items.size : Int) t) >>= _) _ _ _
  have ea : asInt? (.int (items.size : Int) t) = pure (some (items.size : Int)) := rfl
  rw [ea, pure_bind]
  dsimp only
  have f1 : (!Builtin.List.listFitsIndex (items.size : Int)) = false := by
    unfold Builtin.List.listFitsIndex
    simp
    omega
  have f2 : Builtin.List.listTooLong (items.size : Int).toNat = false := by
    rw [Int.toNat_natCast]
    unfold Builtin.List.listTooLong
    exact decide_eq_false (by rw [sizeLine_eq]; omega)
  rw [f1, if_neg Bool.false_ne_true, if_neg (by omega), f2, if_neg Bool.false_ne_true]
  exact wpAny_pure (h _)
end
section
variable {prog : Program} {w : World} {A : Around} {s : Shared} {R : Result → Shared → Prop}
variable {I l : Addr} {items : Array Value}
abbrev StR (I l : Addr) (items : Array Value) (i : Nat) (s : Shared) : Prop := i ≤ items.size ∧ IsRv s.heap I l ((items.size : Int) - 1 - (i : Int)) ∧ IsTup s.heap l items
abbrev PR (items : Array Value) (i : Nat) (v : Value) : Prop := items[items.size - 1 - i]? = some v
theorem extend_rv (hh : A.in1.handled = none) (hne : l ≠ I) (hn : items.size ≤ 1000) (S : Addr) (res : Value) (c₀ : Nat) (hst : StR I l items 0 s) (hSf : S ∉ [I, l])
    (hS : s.heap.get? S = some { cls := .type "list", data := .seq #[] c₀ })
    (hR : ∀ s' acc' c', Moved (S :: [I]) (fun a b => b = a) s s' → s'.heap.get? S = some { cls := .type "list", dict := none, data := .seq acc' c', slots := #[] } → ItemsOf (PR items) acc' items.size → R (.ok (.ret res)) s') :
    wpAny (model prog w) A.in1 (Builtin.List.listExtendWith (.ref S) (.ref I) res)
      (fun fin s' => match fin with | .done f => R (.ok f) s' | .again c' => c'.quiet = true ∧ codeAny (model prog w) A c' R s') (fun e s' => R (.error e) s') s := by
  have W : WalksS prog w A.in1 I [I, l] [I] (fun a b => b = a) items.size (PR items) (StR I l items) := (walks_rv hh I l hne items hn).toS
  have hSI : S ≠ I := fun e => hSf (by simp [e])
  have hT : ∀ i s, StR I l items i s → s.TypeIs (.ref I) "reversed" := fun i s st => st.2.1.typeIs
  have hfit : items.size ≤ sizeLine := by rw [sizeLine_eq]; omega
  unfold Builtin.List.listExtendWith
  refine wpAny_bind (wpAny_typeOf (hT 0 _ hst) ?_)
  have h1 : Builtin.List.listSameRef (.ref S) (.ref I) = false := by simp [Builtin.List.listSameRef, hSI]
  have h2 : (Value.type "reversed" == Value.type "list") = false := by decide
  have h3 : (Value.type "reversed" == Value.type "tuple") = false := by decide
  simp only [h1, h2, h3, Bool.or_false, Bool.false_eq_true, if_false]
  refine wpAny_bind (W.self 0 _ _ _ hst ?_)
  have hit : IsRv s.heap I l ((items.size : Int) - 1) := by have := hst.2.1; simpa using this
  refine wpAny_bind (wpAny_holding (len_hint hit hst.2.2 hn fun room => ?_))
  have loop : ∀ (h' : Heap) (tk' c' : Nat), s.toks ≤ tk' → (∀ b o, b ≠ S → s.heap.get? b = some o → h'.get? b = some o) → h'.get? S = some { cls := .type "list", dict := none, data := .seq #[] c', slots := #[] } →
      codeAny (model prog w) A (.builtin "list.extend.loop" ⟨[.ref S, .ref I, res], []⟩) R { s with heap := h', toks := tk' } := fun h' tk' c' htk oth hS' => by
    refine codeAny_extend_loopS W hfit _ hSf _ items.size 0 _ _ _ rfl (Nat.zero_le _) (W.frame 0 s h' tk' hst htk fun b hb o e => oth b o (fun h => hSf (h ▸ hb)) e) hS' (ItemsOf.nil _) fun s' acc' c'' hm hS'' hacc => ?_
    have m1 : Moved (S :: [I]) (fun a b => b = a) s { s with heap := h', toks := tk' } := ⟨fun b o hb e => oth b o (fun h => hb (h ▸ List.mem_cons_self)) e, rfl, rfl, rfl, htk⟩
    exact hR s' acc' c'' (Moved.trans W.gtrans m1 hm) hS'' hacc
  cases room with
  | false =>
    rw [if_neg (by decide +kernel)]
    exact wpAny_pure ⟨plainId_quiet PySem.F.plain_extend_loop _, loop s.heap _ _ (by omega) (fun b o _ e => e) hS⟩
  | true =>
    show wpAny _ _ (rule "list.extend.makes-room" >>= _) _ _ _
    refine wpAny_bind (wpAny_rule ?_)
    refine wpAny_bind ?_
    show wpAny _ A.in1 (updateSeq S (·.push .none) >>= fun _ => updateSeq S (·.pop)) _ _ _
    refine wpAny_bind (wpAny_updateSeq (s := { s with toks := s.toks + 1 + 1 + 1 }) hS rfl ?_)
    have hS₂ := Heap.get?_update_self (Obj.mapSeq (·.push Value.none)) hS rfl
    refine wpAny_updateSeq (hz := by seq_fits) (s := { s with heap := s.heap.update S (Obj.mapSeq (·.push Value.none)), toks := s.toks + 1 + 1 + 1 }) hS₂ rfl ?_
    have hS₃ := Heap.get?_update_self (Obj.mapSeq (·.pop)) hS₂ rfl
    exact wpAny_pure ⟨plainId_quiet PySem.F.plain_extend_loop _, loop _ _ _ (show s.toks ≤ s.toks + 1 + 1 + 1 by omega) (fun b o hb e => (Heap.get?_update_other _ _ (Ne.symm hb)).trans ((Heap.get?_update_other _ _ (Ne.symm hb)).trans e)) hS₃⟩
end
end RT
namespace RT
open PySem PyProof.Rows
section
variable {prog : Program} {w : World} {A : Around} {s : Shared} {R : Result → Shared → Prop}
variable {I l : Addr} {items : Array Value}
theorem list_init_rv (hh : A.in1.handled = none) (hne : l ≠ I) (hn : items.size ≤ 1000) (S : Addr) (hst : StR I l items 0 s) (hSf : S ∉ [I, l])
    (hS : s.heap.get? S = some { cls := .type "list", data := .seq #[] })
    (hR : ∀ s' acc' c', Moved (S :: [I]) (fun a b => b = a) s s' → s'.heap.get? S = some { cls := .type "list", dict := none, data := .seq acc' c', slots := #[] } → ItemsOf (PR items) acc' items.size → R (.ok (.ret .none)) s') :
    wpAny (model prog w) A.in1 (Builtin.«list.__init__» ⟨[.ref S, .ref I], []⟩)
      (fun fin s' => match fin with | .done f => R (.ok f) s' | .again c' => c'.quiet = true ∧ codeAny (model prog w) A c' R s') (fun e s' => R (.error e) s') s := by
  show wpAny _ A.in1 (do let old ← Builtin.List.listItems (.ref S); Builtin.List.listUpdate (.ref S) (fun _ => #[]); letGo old.toList.reverse; Builtin.List.listExtendWith (.ref S) (.ref I) .none) _ _ s
  refine wpAny_bind ?_
  unfold Builtin.List.listItems
  refine wpAny_bind (wpAny_seqItems hS rfl (wpAny_pure ?_))
  show wpAny _ A.in1 (updateSeq S (fun _ => #[]) >>= fun _ => letGo (#[] : Array Value).toList.reverse >>= fun _ => Builtin.List.listExtendWith (.ref S) (.ref I) .none) _ _ s
  refine wpAny_bind (wpAny_updateSeq hS rfl ?_)
  have hS₂ := Heap.get?_update_self (Obj.mapSeq (fun _ => (#[] : Array Value))) hS rfl
  have oth : ∀ b o, b ≠ S → s.heap.get? b = some o → (s.heap.update S (Obj.mapSeq (fun _ => (#[] : Array Value)))).get? b = some o :=
    fun b o hb e => (Heap.get?_update_other _ _ (Ne.symm hb)).trans e
  refine wpAny_bind (wpAny_letGo ?_)
  have W : WalksS prog w A.in1 I [I, l] [I] (fun a b => b = a) items.size (PR items) (StR I l items) := (walks_rv hh I l hne items hn).toS
  refine extend_rv hh hne hn S .none _ (W.frame 0 s _ s.toks hst (Nat.le_refl _) fun b hb o e => oth b o (fun h => hSf (h ▸ hb)) e) hSf hS₂ fun s' acc' c' hm hS' hacc => ?_
  have m1 : Moved (S :: [I]) (fun a b => b = a) s { s with heap := s.heap.update S (Obj.mapSeq (fun _ => (#[] : Array Value))) } := ⟨fun b o hb e => oth b o (fun h => hb (h ▸ List.mem_cons_self)) e, rfl, rfl, rfl, Nat.le_refl _⟩
  exact hR s' acc' c' (Moved.trans W.gtrans m1 hm) hS' hacc
end
section
variable {prog : Program} {w : World} {A : Around} {E : Value → Shared → Prop} {s : Shared} {I l : Addr} {items : Array Value}
theorem call_list_rv {Q : Value → Shared → Prop} (hh : A.handled = none) (hne : l ≠ I) (hn : items.size ≤ 1000) (hst : StR I l items 0 s)
    (hQ : ∀ s' acc' c', Moved (s.heap.objs.size :: [I]) (fun a b => b = a) { s with heap := s.heap.push { cls := .type "list", data := .seq #[] } } s' →
      s'.heap.get? s.heap.objs.size = some { cls := .type "list", dict := none, data := .seq acc' c', slots := #[] } → ItemsOf (PR items) acc' items.size → Q (.ref s.heap.objs.size) s') :
    wpAny (model prog w) A (call (.type "list") [.ref I]) Q E s := by
  have hfp : ∀ b ∈ [I, l], b < s.heap.objs.size := fun b hb => by
    obtain ⟨_, ⟨o, ho, _⟩, ⟨o', ho', _⟩⟩ := hst
    simp at hb
    rcases hb with rfl | rfl
    · exact Heap.lt_size ho
    · exact Heap.lt_size ho'
  have hSf : s.heap.objs.size ∉ [I, l] := fun hm => Nat.lt_irrefl _ (hfp _ hm)
  have hh1 : A.in1.in1.handled = none := by simp [hh]
  have W : WalksS prog w A.in1.in1 I [I, l] [I] (fun a b => b = a) items.size (PR items) (StR I l items) := (walks_rv hh1 I l hne items hn).toS
  refine callType_codes (Q₁ := fun obj s₁ => obj = .ref s.heap.objs.size ∧ s₁ = { s with heap := s.heap.push { cls := .type "list", data := .seq #[] } }) PySem.F.called_list (PySem.F.typeCall_list_1 _) PySem.F.entry_list_init
    (code_list_new _ ⟨rfl, rfl⟩) fun obj s₁ h₁ => ?_
  obtain ⟨rfl, rfl⟩ := h₁
  have hS : (s.heap.push { cls := .type "list", data := .seq #[] }).get? s.heap.objs.size = some { cls := .type "list", data := .seq #[] } := Heap.get?_push_size _ rfl
  refine ⟨⟨_, hS, rfl⟩, PySem.F.args_list_init_2 _ _, list_init_rv hh1 hne hn _ (W.frame 0 s _ s.toks hst (Nat.le_refl _) fun b _ o e => Heap.get?_push_of_some _ e) hSf hS fun s' acc' c' hm hS' hacc => ?_⟩
  exact ⟨rfl, hQ s' acc' c' hm hS' hacc⟩
theorem items_rev {acc : Array Value} (h : ItemsOf (PR items) acc items.size) : acc.toList = items.toList.reverse := by
  apply List.ext_getElem?
  intro i
  by_cases hi : i < acc.size
  · have e : acc[i]? = some acc[i] := Array.getElem?_eq_getElem hi
    have := h.2 i acc[i] e
    have hs := h.1
    have e1 : acc.toList[i]? = some acc[i] := by simpa using e
    rw [e1]
    have e2 : items.toList.reverse[i]? = items.toList[items.size - 1 - i]? := by
      rw [List.getElem?_reverse (by simpa using (by omega : i < items.size))]
      simp
    rw [e2]
    have this' : items[items.size - 1 - i]? = some acc[i] := this
    simpa using this'.symm
  · have hs := h.1
    rw [List.getElem?_eq_none (by simpa using hi), List.getElem?_eq_none (by simp; omega)]
end
end RT
namespace L2
open PySem PySem.Spec
open PyProof.Rows hiding St
section
variable {X : Cx}
theorem vals_rev : ∀ {xs : List V} {us : List Value}, Vals xs us → Vals xs.reverse us.reverse
  | _, _, .nil => .nil
  | _, _, .cons (a := x) (b := u) r t => by
    rw [List.reverse_cons, List.reverse_cons]
    exact (vals_rev t).append (.cons r .nil)
theorem pe_listrev {e : Expr} {ta : TA} {p p2 pos pos2 : Pos} (hc : X.calm = true) (ha : PA X [e] ta) (hm : X.mg "list" = none) (hm2 : X.mg "reversed" = none) (hg : Gl X "list") (hg2 : Gl X "reversed")
    (he : starEach [e] X.env = [(false, eval e X.env)])
    (he2 : starEach [.Call (.Name "reversed" p2) [e] [] pos2] X.env = [(false, eval (.Call (.Name "reversed" p2) [e] [] pos2) X.env)]) :
    PE X (.Call (.Name "list" p) [.Call (.Name "reversed" p2) [e] [] pos2] [] pos) (fun σ H Q => ta σ H fun vs H1 => ∃ (q : Addr) (xs : List V), vs = [.ref q] ∧ SqT X.K H1 q xs ∧ xs.length ≤ 1000 ∧ ∀ a, H1 a = none → Q (.ref a) (upd H1 a (.lst xs.reverse))) := by
  intro pins s σ H Q I h
  refine Call_ (ld_blt I hg hm DL.bt_list (PyProof.Rows.callWith_type1 ?_ he2 rfl))
  rw [he2]
  refine Calls.spliced_cons ?_
  refine Call_ (ld_blt I hg2 hm2 bt_rev (PyProof.Rows.callWith_type1 (thn (ha pos2 pins s σ H _ I h) fun us s1 z => ?_) he rfl))
  obtain ⟨vs, H1, I1, r1, q, xs, e1, hq, hn, hQ⟩ := z
  subst e1
  cases r1 with
  | cons r rr =>
    cases rr
    cases r
    obtain ⟨its, rv, pt, hz⟩ := I1.tuple hq
    have hlen := rv.length
    have hsz : its.toArray.size = xs.length := by simp [hlen]
    have hqlt : q < s1.heap.objs.size := let ⟨o, e, _⟩ := pt; Heap.lt_size e
    refine RT.call_rv pt (by rw [hsz]; exact hn) fun tk => ?_
    refine Calls.spliced_nil ?_
    have pt2 : IsTup (s1.heap.push (RT.rvObj q (((its.toArray.size : Nat) : Int) - 1))) q its.toArray := let ⟨o, e, r⟩ := pt; ⟨o, Heap.get?_push_of_some _ e, r⟩
    refine RT.call_list_rv (s := { s1 with heap := s1.heap.push (RT.rvObj q (((its.toArray.size : Nat) : Int) - 1)), toks := tk }) (I := s1.heap.objs.size) (l := q) (items := its.toArray) (I1.ok.hd hc) (Nat.ne_of_lt hqlt) (by rw [hsz]; exact hn)
      ⟨Nat.zero_le _, ⟨_, Heap.get?_push_size _ rfl, rfl, by simp [RT.rvObj]⟩, pt2⟩ fun s' acc c hmv hS hacc => ?_
    have hrev := RT.items_rev hacc
    obtain ⟨h', g', d', tk', os'⟩ := s'
    have eg : g' = s1.gens := hmv.gens
    have ed : d' = s1.drawn := hmv.drawn
    have eo : os' = s1.os := hmv.os
    subst eg ed eo
    have hsz2 : (s1.heap.push (RT.rvObj q (((its.toArray.size : Nat) : Int) - 1))).objs.size = s1.heap.objs.size + 1 := Heap.size_push ..
    have keep : ∀ b o, s1.heap.get? b = some o → h'.get? b = some o := fun b o e => by
      have hb := Heap.lt_size e
      refine hmv.heap b o ?_ (Heap.get?_push_of_some _ (Heap.get?_push_of_some _ e))
      simp only [List.mem_cons, List.mem_singleton, List.not_mem_nil, or_false, not_or]
      rw [hsz2]
      exact ⟨Nat.ne_of_lt (Nat.lt_succ_of_lt hb), Nat.ne_of_lt hb⟩
    have hfr : H1 ((s1.heap.push (RT.rvObj q (((its.toArray.size : Nat) : Int) - 1))).objs.size) = none := I1.hok.fresh (by rw [hsz2]; omega)
    refine ⟨.ref _, _, I1.laid (t' := tk') (h' := h') keep (by rw [hsz2]; omega) (show ObjOk X.prog X.w _ h' _ (.lst xs.reverse) from ?_), rfl, hQ _ hfr⟩
    refine ⟨by rw [List.length_reverse, sizeLine_eq]; omega, acc.toList, c, ?_, by simpa using hS⟩
    rw [hrev]
    exact vals_rev rv
end
end L2
namespace DL
open PySem PySem.Spec L2
open PyProof.Rows hiding St
structure rdListRev (ds : List Dt) (G : GD) (Q : KD) : Prop where
  p : ∃ xs, ds = [.tup xs] ∧ xs.length ≤ 1000 ∧ Q (.ref G.length) (G ++ [.lst xs.reverse])
theorem rps_rev {K : PySem.W.Frag} {H : Hp} {ι : List Addr} : ∀ {ds : List Dt} {vs : List V}, Rps K H ι ds vs → Rps K H ι ds.reverse vs.reverse
  | [], vs, h => by have e : vs = [] := h; rw [e]; rfl
  | d :: ds, vs, h => by
    obtain ⟨v, r, e, a, b⟩ := h
    rw [e, List.reverse_cons, List.reverse_cons]
    exact (rps_rev b).app (Rps.cons a Rps.nil)
section
variable {X : Cx} {F : Fx} {e : Expr} {t : TDA} {pos p pos2 p2 : Pos}
theorem de_listrev' (ha : DA' X F [e] t) (hm : X.mg "list" = none) (hm2 : X.mg "reversed" = none) (hg : Gl X "list" := by rfl) (hg2 : Gl X "reversed" := by rfl) (hcalm : X.calm = true := by rfl)
    (he : starEach [e] X.env = [(false, eval e X.env)] := by exact star_one rfl) (he2 : starEach [.Call (.Name "reversed" p2) [e] [] pos2] X.env = [(false, eval (.Call (.Name "reversed" p2) [e] [] pos2) X.env)] := by exact star_one rfl) :
    DE' X F (.Call (.Name "list" p) [.Call (.Name "reversed" p2) [e] [] pos2] [] pos) (dCB rdListRev t) := by
  refine ⟨PE.imp (pe_listrev hcalm ha.p hm hm2 hg hg2 he he2) fun σ H Qv ⟨σd, G, ι, Q, ok, ht, hq⟩ => ?_⟩
  refine ⟨σd, G, ι, _, ok, ht, fun vs H1 ds G1 ι1 h1 g1 r1 q1 => ?_⟩
  obtain ⟨xs, rfl, hn, q1⟩ := q1.p
  obtain ⟨v, e1, rv⟩ := rps1 r1
  subst e1
  obtain ⟨a, ws, e2, s2, rr⟩ := rv
  subst e2
  refine ⟨a, ws, rfl, s2, by rw [← rr.len]; exact hn, fun l hl => ?_⟩
  obtain ⟨x, y, z⟩ := rp_newLst h1 (rps_rev rr) hl
  exact hq _ _ _ _ _ x (g1.trans y) z q1
end
end DL
namespace L2
open PySem PySem.Spec
open PyProof.Rows hiding St
open Builtin Builtin.Str
section
variable {X : Cx}
/-- f'text{e!r}' of a text -/
def tFstr (c : Str) (te : TE) : TE := fun σ H Q => te σ H fun x H1 => ∃ z, x = .str z ∧ c.length + (reprText z).length ≤ 1000000 ∧ Q (.str (Str.empty ++ c ++ reprText z)) H1
theorem pe_fstr {c : Str} {e : Expr} {te : TE} {k p1 p2 p3} (he : PE X e te) (hc : c.length ≤ 1000) : PE X (.JoinedStr [.Constant (.str c) k p1, .FormattedValue e 114 none p2] p3) (tFstr c te) := by
  intro pins s σ H Q I h
  refine wpAny_JoinedStr ?_
  have hline : sizeLine = 16777216 := sizeLine_eq
  show wpAny _ _ (eval (.Constant (.str c) k p1) X.env) _ _ _
  refine Calls.Constant_str ?_
  have l0 : (Str.empty ++ c).length = c.length := by rw [Str.empty_append]
  have e0 : ∀ z : Str, (Str.empty ++ c ++ z).length = c.length + z.length := fun z => by rw [Str.length_append, l0]
  have go : wpAny (model X.prog X.w) X.A (eval (.FormattedValue e 114 none p2) X.env) (fun v s₁ => ∃ y t, v = .str y t ∧ (Str.empty ++ c ++ y).length ≤ sizeLine ∧ ((Str.empty ++ c ++ y).length ≤ sizeLine ∧ EP X pins σ Q (.str (Str.empty ++ c ++ y) s₁.toks) { s₁ with toks := s₁.toks + 1 })) X.xe { s with toks := s.toks + 1 } := by
    refine wpAny_FormattedValue_repr (thn (he pins _ σ H _ (I.tok _) h) fun v s1 z => ?_)
    obtain ⟨x, H1, I1, r1, z, rfl, hz, q⟩ := z
    obtain ⟨t, rfl⟩ := r1
    have hr : (reprText z).length ≤ sizeLine := by omega
    refine wpAny_pyReprObj_str ?_ hr
    have fin : ∀ (s2 : Shared) (t : Tok), Inv X pins σ H1 s2 → ∃ y t', Value.str (reprText z) t = .str y t' ∧ (Str.empty ++ c ++ y).length ≤ sizeLine ∧ ((Str.empty ++ c ++ y).length ≤ sizeLine ∧ EP X pins σ Q (.str (Str.empty ++ c ++ y) s2.toks) { s2 with toks := s2.toks + 1 }) :=
      fun s2 t I2 => ⟨reprText z, t, rfl, by rw [e0]; omega, ⟨by rw [e0]; omega, .str _, H1, I2.tok _, ⟨_, rfl⟩, q⟩⟩
    exact wpAny_formatField_str (fin _ _ (I1.tok _)) (fin _ _ ((I1.tok _).tok _)) hr
  exact ⟨c, _, rfl, by rw [l0]; omega, go⟩
end
end L2
namespace DL
open PySem PySem.Spec L2
open PyProof.Rows hiding St
structure rdFstr (c : Str) (x : Dt) (G : GD) (Q : KD) : Prop where
  p : ∃ z, x = .str z ∧ c.length + (reprText z).length ≤ 1000000 ∧ ∀ out, Q (.str out) G
def dFstr (c : Str) (te : TDE) : TDE := fun σ G Q => te σ G fun x G1 => rdFstr c x G1 Q
structure rdExtend (x : Dt) (ds : List Dt) (G : GD) (Q : KD) : Prop where
  p : ∃ i j xs ys, x = .ref i ∧ ds = [.ref j] ∧ G[i]? = some (.lst xs) ∧ G[j]? = some (.lst ys) ∧ xs.length + ys.length ≤ sizeLine ∧ Q .non (G.set i (.lst (xs ++ ys)))
theorem l_extend {K : PySem.W.Frag} : LMR K rExtend rdExtend := by
  intro G H ι d ds v vs Q Qv hG r rs h hq
  obtain ⟨i, j, xs, ys, rfl, rfl, hi, hj, hl, q⟩ := h.p
  obtain ⟨a, e1, qa⟩ := r
  subst e1
  obtain ⟨w, e, rw'⟩ := rps1 rs
  subst e
  obtain ⟨b, e2, qb⟩ := rw'
  subst e2
  obtain ⟨us, h1, r1⟩ := hG.cel i _ a hi qa
  obtain ⟨ws, h2, r2⟩ := hG.cel j _ b hj qb
  refine ⟨a, b, us, ws, rfl, rfl, h1, h2, by rw [← r1.len, ← r2.len]; exact hl, ?_⟩
  have gp : Gr K H ι (upd H a (.lst (us ++ ws))) ι := Gr.put hG hi rfl qa
  exact hq _ _ .non _ ι (hG.put (c' := .lst (xs ++ ys)) hi rfl qa rfl ⟨us ++ ws, upd_same, (r1.app r2).up gp⟩) gp rfl q
section
variable {X : Cx} {F : Fx} {e o i value : Expr} {t : TDA} {te to ti tv : TDE} {pos p apos cpos pos' : Pos}
theorem de_fstr' {c : Str} {k p1 p2 p3} (he : DE' X F e te) (hc : c.length ≤ 1000 := by decide +kernel) : DE' X F (.JoinedStr [.Constant (.str c) k p1, .FormattedValue e 114 none p2] p3) (dFstr c te) := by
  refine ⟨PE.imp (pe_fstr he.p hc) fun σ H Qv ⟨σd, G, ι, Q, ok, ht, hq⟩ => ?_⟩
  refine ⟨σd, G, ι, _, ok, ht, fun v H1 d G1 ι1 h1 g1 r1 q1 => ?_⟩
  obtain ⟨z, rfl, hz, q⟩ := q1.p
  have e1 : v = V.str z := r1
  subst e1
  exact ⟨z, rfl, hz, hq _ H1 (.str _) G1 ι1 h1 g1 rfl (q _)⟩
theorem de_extend' (ho : DE' X F o to) (ha : DA' X F [e] t) (hbase : attributeBase o "extend" X.env (eval o X.env) = eval o X.env := by rfl)
    (hfew : ((backTo cpos (starEach [e] X.env)).all (fun x => !x.1) && (backToKw cpos (keywordEach [] X.env)).all (fun x => x.1.isSome)
      && decide ([e].length + ([] : List Keyword).length + (if ([] : List Keyword).isEmpty then 0 else 1) < 30)) = true := by rfl)
    (hline : (apos.endLine == cpos.line) = true := by rfl) (hs : starEach [e] X.env = (false, eval e X.env) :: starEach [] X.env := by exact star_cons rfl) (hplain : (backTo cpos (starEach [] X.env)).any (·.1) = false := by exact back_any rfl) :
    DE' X F (.Call (.Attribute o "extend" apos) [e] [] cpos) (dBM isLstD rdExtend to t) :=
  de_bm' PySem.F.plainAttrs_list PySem.F.slot_list_extend PySem.F.type_list_extend mt_extend l_extend isLstD_ty ho ha hbase hfew hline hs hplain
/-- o[i] = value, o a list -/
structure rdSetL (x y v : Dt) (G : GD) (Q : GD → Prop) : Prop where
  p : ∃ i xs k j, x = .ref i ∧ y = .int k ∧ G[i]? = some (.lst xs) ∧ ixN xs.length k = some j ∧ Q (G.set i (.lst (xs.set j v)))
def dSetL (tv to ti : TDE) : TDS := fun D σ G => tv σ G fun v G1 => to σ G1 fun x G2 => ti σ G2 fun y G3 => rdSetL x y v G3 fun G4 => D.nx σ G4
theorem ds_setL' (hv : DE' X F value tv) (ho : DE' X F o to) (hi : DE' X F i ti) (hs : swapsWithSole [.Subscript o i pos'] value pos.line X.env = pure false := by rfl) (hw : swappedStores [.Subscript o i pos'] value X.env = pure none := by rfl)
    (h1 : (assignEach [.Subscript o i pos'] X.env).map (·.2) = [assign (.Subscript o i pos') X.env] := by rfl)
    (ha : ∀ v, assign (.Subscript o i pos') X.env v = (do
      let ov ← holding [v] (eval o X.env)
      let iv ← holding [v, ov] (eval i X.env)
      standAt pos'
      holding [v, ov, iv] (setItem ov iv v)
      release [v, ov, iv] []) := by intro _; rfl) :
    DS' X F (.Assign [.Subscript o i pos'] value pos) (dSetL tv to ti) := by
  refine ⟨PS.imp (ps_asg hv.p (pg_sub ho.p hi.p set_list ha) hs hw h1) fun D σ H ⟨σd, G, ι, Dd, ok, ht, L⟩ => ?_⟩
  refine ⟨σd, G, ι, _, ok, ht, fun v H1 d G1 ι1 h1 g1 r1 q1 => ⟨σd, G1, ι1, _, ok.to h1 g1, q1, fun x H2 dx G2 ι2 h2 g2 r2 q2 => ⟨σd, G2, ι2, _, ok.to h2 (g1.trans g2), q2, fun y H3 dy G3 ι3 h3 g3 r3 q3 => ?_⟩⟩⟩
  obtain ⟨n, xs, k, j, rfl, rfl, hc, hj, q⟩ := q3.p
  obtain ⟨a, e2, qa⟩ := r2
  subst e2
  have e3 : y = V.int k := r3
  subst e3
  obtain ⟨us, w, rr⟩ := h3.cel n _ a hc (g3.at qa)
  refine ⟨a, us, k, j, rfl, rfl, w, by rw [← rr.len]; exact hj, ?_⟩
  have gp : Gr X.K H3 ι3 (upd H3 a (.lst (us.set j v))) ι3 := Gr.put h3 hc rfl (g3.at qa)
  have hG4 := h3.put (c' := .lst (xs.set j d)) (o := .lst (us.set j v)) hc rfl (g3.at qa) rfl ⟨_, upd_same, (Rps.set ((r1.up g2).up g3) j rr).up gp⟩
  exact L.nx _ _ _ _ ι3 (ok.to hG4 (g1.trans (g2.trans (g3.trans gp)))) q
end
end DL
namespace PySem.W
open PySem PySem.Spec PySem.Calls PyProof.Rows Builtin Builtin.ObjectAttr Builtin.Getset_descriptor
/-! an exception's own class: getAttr? and isinstance -/
section
variable {prog : Program} {w : World} {A : Around} {E : Value → Shared → Prop} {s : Shared} {K : Frag} {x D : Addr} 
def ExcAt (x D : Addr) (h : Heap) : Prop := ∃ o, h.get? x = some o ∧ o.cls = .ref D
theorem ExcAt.type {M : Model} {h : Heap} (I : ExcAt x D h) : Looks M h (typeOf (.ref x)) (.ref D) := by
  obtain ⟨o, e, c⟩ := I
  exact c ▸ (Looks.ld e).andThen .now
structure ExcIn (K : Frag) (D : Addr) : Prop where
  ga : findIn K (.ref D) "__getattribute__" = some (some (.builtin "BaseException.__getattribute__"))
  gn : findIn K (.ref D) "__getattr__" = some none
  f1 : findIn K (.ref D) "__class__" = some (some (.builtin "object.__class__"))
  f2 : specialIn K (.builtin "object.__class__") "__get__" = some (some (.builtin "getset_descriptor.__get__"))
  f3 : takesIn K (.builtin "object.__class__") = some true
  mo : mroIn K D (.type "object") = some true
  mb : mroIn K D (.type "BaseException") = some true
theorem exc_check {M : Model} {nameV : Value} {Q : Unit → Shared → Prop} (X : K.In s.heap) (I : ExcAt x D s.heap) (F : ExcIn K D) (hq : Q () s) :
    wpAny M A (checkBuiltinCall "BaseException.__getattribute__" ⟨[.ref x, nameV], []⟩) Q E s := by
  have hk : builtinKind "BaseException.__getattribute__" = some .slot := by decide +kernel
  have hsplit : splitId "BaseException.__getattribute__" = some ("BaseException", "__getattribute__") := by decide +kernel
  have ha := PySem.F.args_bexc_ga (.ref x) nameV
  have L0 := I.type (M := M)
  have L1 := looks_mroIn (M := M) X F.mb
  have LI : Looks M s.heap (isInstance (.ref x) (.type "BaseException")) true := L0.andThen L1
  obtain ⟨h, g, d, t, os⟩ := s
  simp only [checkBuiltinCall, hk, hsplit]
  refine wpAny_bind (LI.at ?_)
  repeat (first | wp_step)
  exact hq
theorem exc_find {M : Model} {h : Heap} (X : K.In h) (F : ExcIn K D) : Looks M h (Builtin.ObjectAttr.find (.ref x) (.ref D) "__class__") (.bind (.builtin "getset_descriptor.__get__") (.builtin "object.__class__")) := by
  have L1 := looks_findIn (M := M) X F.f1
  have L2 : Looks M h (Builtin.ObjectAttr.getOf (some (.builtin "object.__class__"))) (some (.builtin "getset_descriptor.__get__")) := looks_specialIn X F.f2
  have L3 := looks_takesIn (M := M) X F.f3
  refine L1.andThen (L2.andThen ?_)
  exact (show Looks M h (Builtin.ObjectAttr.dataDescriptor? (some (.builtin "object.__class__")) (some (.builtin "getset_descriptor.__get__"))) (some (.builtin "getset_descriptor.__get__", .builtin "object.__class__")) from L3.andThen .now).andThen (Looks.tag .now)
theorem exc_clsget {tp : Value} {R : Result → Shared → Prop} (X : K.In s.heap) (I : ExcAt x D s.heap) (hm : mroIn K D (.type "object") = some true)
    (h : R (.ok (.ret (.ref D))) s) : codeAny (model prog w) A (.call (.builtin "getset_descriptor.__get__") ⟨[.builtin "object.__class__", .ref x, tp], []⟩) R s := by
  obtain ⟨hh, g, dr, t, os⟩ := s
  have L0 := I.type (M := model prog w)
  have L1 := looks_mroIn (M := model prog w) X hm
  refine codeAny_call_builtin KF.slot_gs.plain KF.entry_gs (KF.slot_gs.check _ _ _ _ _ _ _ _ KF.type_class (KF.args_gs _ _ _) ?_)
  unfold Builtin.«getset_descriptor.__get__» descrGet
  rw [dga_obj]
  refine wpAny_bind (wpAny_pure ?_)
  unfold descrGetter descrCheckInstance descrNameAndClass isInstance
  simp only [KF.owner_class]
  repeat lk
  refine ⟨Code.quiet_builtin _ (by decide +kernel), codeAny_builtin KF.entry_class ?_⟩
  unfold Builtin.«object.__class__» shownTypeOf
  repeat lk
  exact h
theorem exc_ga {tk : Tok} {R : Result → Shared → Prop} (X : K.In s.heap) (I : ExcAt x D s.heap) (F : ExcIn K D) (hq : R (.ok (.ret (.ref D))) s) :
    codeAny (model prog w) A (.call (.builtin "BaseException.__getattribute__") ⟨[.ref x, .str "__class__" tk], []⟩) R s := by
  refine codeAny_call_builtin PySem.F.excAttr_ValueError.ga.plain PySem.F.entry_bexc_ga (exc_check X I F ?_)
  obtain ⟨h, g, d, t, os⟩ := s
  have L0 := I.type (M := model prog w)
  have L1 := exc_find (M := model prog w) (x := x) X F
  refine wpAny_bind (wpAny_pure (wpAny_bind (wpAny_pure (wpAny_bind (L0.at (wpAny_bind (L1.at ?_)))))))
  show wpAny _ _ (holding [_] (call _ [_, .ref x, .ref D]) >>= ret) _ _ _
  refine wpAny_bind (wpAny_holding (wpAny_call (exc_clsget X I F.mo ?_)))
  exact wpAny_pure hq
theorem exc_class {Q : Option Value → Shared → Prop} (X : K.In s.heap) (I : ExcAt x D s.heap) (F : ExcIn K D) (h : Q (some (.ref D)) { s with toks := s.toks + 1 }) :
    wpAny (model prog w) A (getAttr? (.ref x) "__class__") Q E s := by
  obtain ⟨hh, g, d, t, os⟩ := s
  have L0 := I.type (M := model prog w)
  have L1 := looks_findIn (M := model prog w) X F.ga
  have L2 := looks_findIn (M := model prog w) X F.gn
  have hb := PySem.F.excAttr_ValueError.ga.bind (.ref x)
  unfold getAttr? getAttrBy? getAttrBy
  refine wpAny_bind (wpAny_mkText (wpAny_bind (wpAny_attempt (wpAny_holding (wpAny_bind (L0.at (wpAny_bind (L1.at ?_))))))))
  show wpAny _ _ (getAttrByItsOwn _ _ _ _ _ _) _ _ _
  unfold getAttrByItsOwn hookBefore
  refine wpAny_bind (L2.at ?_)
  refine wpAny_bind (wpAny_attempt (wpAny_holding ?_))
  show wpAny _ _ (boundAndCalled _ _ _) _ _ _
  unfold boundAndCalled
  refine wpAny_bind (wpAny_of_eq hb (wpAny_call (exc_ga X I F ?_)))
  exact wpAny_pure (wpAny_pure h)
theorem kitx_exc (F : ExcIn K D) : KitX K (.ref x) (.ref D) (ExcAt x D) where
  ty := fun _ _ _ I => I.type
  it := fun _ _ X _ => by
    obtain ⟨cdD, hcD, _⟩ := Option.bind_eq_some_iff.mp F.mo
    unfold clsIn at hcD
    split at hcD
    · rename_i c' d' cd' sl' ho
      intro A' Q' E' s' k q
      unfold isType loadHead
      exact wpAny_bind (wpAny_loadPart (k _ _ (X _ _ ho)) (wpAny_pure q))
    · cases hcD
  ne := fun h tp dd its n sl X htp => by
    obtain ⟨cdD, hcD, _⟩ := Option.bind_eq_some_iff.mp F.mo
    refine Bool.eq_false_iff.mpr fun q => ?_
    have e : D = tp := Value.ref.inj (beq_iff_eq.mp q)
    subst e
    unfold clsIn at hcD
    split at hcD
    · rename_i c' d' cd' sl' ho
      have z := (X _ _ ho).symm.trans htp
      cases z
    · cases hcD
  ca := fun X I k => exc_class X I F k
/-- isinstance(e, C) -/
theorem isi_exc {c : Value} {b : Bool} {Q : Value → Shared → Prop} (X : K.In s.heap) (I : ExcAt x D s.heap) (F : ExcIn K D) (e : kitOne K (.ref D) c = some b) (h : ∀ tk, Q (.bool b) { s with toks := tk }) :
    wpAny (model prog w) A (call (.builtin "isinstance") [.ref x, c]) Q E s :=
  kia_one (kitx_exc F) X I e (fun z => by cases z) h
end
end PySem.W
namespace L2
open PySem PySem.Spec PyProof.Rows
/-! ### an exception of one's own class leaves a def -/
section
variable {P : Program} {w : World} {H : Hp} {h : Heap} {a : Addr} {o : HO}
theorem ObjOk.there (x : ObjOk P w H h a o) : ∃ ob, h.get? a = some ob := by
  cases o with
  | lst xs => obtain ⟨_, _, _, _, e⟩ := x; exact ⟨_, e⟩
  | tup xs => obtain ⟨_, _, _, o, e, _⟩ := x; exact ⟨_, e⟩
  | dK kvs => obtain ⟨_, _, _, _, o, _, _, e, _⟩ := x; exact ⟨_, e⟩
  | dT kvs => obtain ⟨_, _, _, _, o, _, _, e, _⟩ := x; exact ⟨_, e⟩
  | set S n => obtain ⟨o, _, _, _, e, _⟩ := x; exact ⟨_, e⟩
  | ins C dx fs => obtain ⟨_, _, _, e, _⟩ := x; exact ⟨_, e⟩
  | own y => exact x
  | xd fs => obtain ⟨_, ⟨_, _, _, e, _⟩, _⟩ := x; exact ⟨_, e⟩
  | rng lo hi => obtain ⟨_, _, _, e⟩ := x; exact ⟨_, e⟩
  | frz ob u => obtain ⟨e, _⟩ := x; exact ⟨_, e⟩
  | tbl ps => exact ⟨_, show h.get? a = some _ from x⟩
  | met f y => exact ⟨_, show h.get? a = some _ from x⟩
  | ext φ => obtain ⟨_, e, _⟩ := x; exact e
end
/-- behind the call: ea the exception, g the heap where it was raised, fs the frames that ran there -/
structure Flew (C : Addr) (P : Program) (w : World) (outer : List Env) (H : Hp) (s : Shared) (ea t : Addr) (g : Heap) (H1 : Hp) (fs : List Addr) (s' : Shared) : Prop where
  os : s'.os = s.os
  bare : AllBare s'.gens
  un : Un (frs outer) [] H H1 s.heap g
  hok : HOk P w H1 g
  fnew : ∀ b ∈ fs, b ∈ frs outer ∨ s.heap.get? b = none
  ffree : ∀ b ∈ fs, H1 b = none
  fsub : ∀ b ∈ frs outer, b ∈ fs
  fly : Heap.FlyingW (PySem.W.hideAll g fs) outer ea (.ref C) (.ref t) s'.heap
  up : g.UpToSlots s'.heap
  new : g.get? ea = none
def CXE (C : Addr) (P : Program) (w : World) : CXT := fun outer H s E e s' => ∃ ea t g H1 fs, e = .ref ea ∧ Flew C P w outer H s ea t g H1 fs s' ∧ E (.ref C) none H1
theorem exc_obj {K : PySem.W.Frag} {h : Heap} {C : Addr} {bmB : List Value} {newId : String} (X : K.In h) (q : PySem.W.excIn K C bmB newId = true) :
    ∃ bm N nm q bs hdct sn sub ab col dd k0 k1 k2 k3 k5 mN, h.get? C = some (excClassObj nm q C N bs bm hdct sn sub ab col dd k0 k1 k2 k3 k5 newId) ∧ h.Ns N mN ∧ mN "__init__" = none ∧ OwnTail h bmB bm := by
  unfold PySem.W.excIn at q
  split at q
  · rename_i dd cd sl ho
    split at q
    · rename_i C' bm k0 k1 k2 k3 n k5 hm hs
      simp only [Bool.and_eq_true, beq_iff_eq, Bool.not_eq_true'] at q
      obtain ⟨⟨⟨⟨⟨rfl, rfl⟩, hdel⟩, ht⟩, hok⟩, hni⟩ := q
      obtain ⟨nm, bs, mro, ns, qn, hd, sn, sub, ab, col, del⟩ := cd
      dsimp only at hm hdel hok hni
      subst hm hdel
      have hsl : sl = #[k0, k1, k2, k3, some (.builtin n), k5] := by
        obtain ⟨l⟩ := sl
        simp only at hs
        rw [hs]
      subst hsl
      exact ⟨bm, ns, nm, qn, bs, hd, sn, sub, ab, col, dd, k0, k1, k2, k3, k5, _, X _ _ ho, .of_isNs (PySem.W.isNs_of_in X hok), PySem.W.nsMap_none_of_in X hok hni, PySem.W.tail_of_in X ht⟩
    · cases q
  · cases q
/-- raise C(..) -/
def tRaise (C : Addr) (E : XK) (t : TA) : TS := fun _ σ H => t σ H fun vs H1 => vs.length ≤ sizeLine ∧ E (.ref C) none H1
theorem ps_raise {P : Program} {w : World} {K : PySem.W.Frag} {mg : Str → Option Value} {base : Heap} {N : List Str} {qual : Str} {scope : Scope} {f : Addr} {cd : Value} {A : Around} {outer : List Env} {s₀ : Shared} {H₀ : Hp} {E : XK}
    {x : Str} {C : Addr} {B newId initId : String} {bmB : List Value} {np cpos pos : Pos} {e : Expr} {es : List Expr} {t : TA}
    (FB : ExcBaseFacts B newId initId bmB) (q : PySem.W.excIn K C bmB newId = true) (hm : mg x = some (.ref C)) (ha : PA (cxOf (CXE C P w) P w K mg base N qual scope f cd A outer s₀ H₀ E) (e :: es) t)
    (hg : Gl (cxOf (CXE C P w) P w K mg base N qual scope f cd A outer s₀ H₀ E) x) (hd : (x == ("__debug__" : Str)) = false := by decide)
    (he : starEach (e :: es) (cxOf (CXE C P w) P w K mg base N qual scope f cd A outer s₀ H₀ E).env = (false, eval e (cxOf (CXE C P w) P w K mg base N qual scope f cd A outer s₀ H₀ E).env) :: starEach es (cxOf (CXE C P w) P w K mg base N qual scope f cd A outer s₀ H₀ E).env := by rfl)
    (hpl : (backTo cpos (starEach es (cxOf (CXE C P w) P w K mg base N qual scope f cd A outer s₀ H₀ E).env)).any (·.1) = false := by rfl) :
    PS (cxOf (CXE C P w) P w K mg base N qual scope f cd A outer s₀ H₀ E) (.Raise (some (.Call (.Name x np) (e :: es) [] cpos)) none pos) (tRaise C E t) := by
  intro pins s σ H D I h
  obtain ⟨tl, NN, nm, qn, bs, hdct, sn, sub, ab, col, dd, k0, k1, k2, k3, k5, mN, hC, hN, hni, T⟩ := exc_obj I.ok.mod.kin q
  refine wpAny_Raise_call_subT (C := C) (nm := nm) (q := qn) (N := NN) (bs := bs) (bm := tl) (hdct := hdct) (sn := sn) (sub := sub) (ab := ab) (col := col) (dd := dd) (k0 := k0) (k1 := k1) (k2 := k2) (k3 := k3) (k5 := k5)
    FB (mN := mN) (T.hasType FB.hasBase) (I.ok.hd rfl) (by rw [he]; show (false || (backTo cpos (starEach es _)).any (·.1)) = false; rw [hpl]; rfl) hni (ld_glob I hg hm ⟨rfl, ?_⟩ hd)
  have go := ha cpos pins s σ H _ I h
  rw [he] at go ⊢
  refine Calls.evalArgs_plain (wpAny_mono go (fun us s₂ h₂ => ?_) fun _ _ y => y)
  obtain ⟨vs, H1, I1, r, hlen, hE⟩ := h₂
  have hlen' : us.length ≤ sizeLine := by rw [← r.length]; exact hlen
  refine ⟨rfl, hlen', I1.bk _ _ hC, hN.keeps I1.bk, T.keeps I1.bk, fun h' ea hx => ?_⟩
  have fr := I1.ok.frames
  have hin : ∀ env ∈ (cxOf (CXE C P w) P w K mg base N qual scope f cd A outer s₀ H₀ E).stack, ∀ b, env.frame = some b → b ∈ frs (cxOf (CXE C P w) P w K mg base N qual scope f cd A outer s₀ H₀ E).stack := fun env he b hb => List.mem_filterMap.mpr ⟨env, he, hb⟩
  refine wpAny_leaves_madeW (base := PySem.W.hideAll s₂.heap (frs (cxOf (CXE C P w) P w K mg base N qual scope f cd A outer s₀ H₀ E).stack)) fr rfl (fun b o q => PySem.W.of_hideAll _ q) (PySem.W.funFrames_hide I1.stack hin) hx fun h'' t x1 x2 x3 x4 => ?_
  refine ⟨ea, t, s₂.heap, H1, _, rfl, ⟨I1.os, I1.bare, I1.base, I1.hok, fun b hb => ?_, I1.stkFree, fun b hb => ?_, x1, (Heap.UpToSlots.of_keeps hx.keeps).trans x4, hx.new⟩, hE⟩
  · rcases List.mem_cons.mp (I1.stkSub b hb) with z | z
    · right
      rw [z]
      exact Heap.get?_none_of_le (Nat.le_refl _)
    · exact .inl z
  · obtain ⟨env, he, hf⟩ := List.mem_filterMap.mp hb
    exact List.mem_filterMap.mpr ⟨env, List.mem_cons_of_mem _ he, hf⟩
end L2
namespace L2
open PySem PySem.Spec PyProof.Rows
section
variable {X : Cx} {pins : List (Addr × Obj)} {σ : St} {H H1 : Hp} {s s' : Shared} {C ea t : Addr} {g : Heap} {fs : List Addr} {oe : Obj}
/-- whatever the exception's own records do: the caller's state behind it -/
theorem Flew.at (I : Inv X pins σ H s) (F : Flew C X.prog X.w X.stack H s ea t g H1 fs s') {h' : Heap} (st : (PySem.W.hideAll g fs).StaysIn h') (up : g.UpToSlots h') :
    Un (frs X.stack) [] H H1 s.heap h' ∧ HOk X.prog X.w H1 h' := by
  have nofs : ∀ b o, s.heap.get? b = some o → b ∉ frs X.stack → b ∉ fs := fun b o e hb z => by
    rcases F.fnew b z with q | q
    · exact hb q
    · rw [q] at e; cases e
  have slot : ∀ b o, s.heap.get? b = some o → H b = none → b ∈ frs X.stack → ∃ sl, h'.get? b = some { o with slots := sl } := fun b o e n hb => by
    obtain ⟨sl, e1⟩ := F.un.slot b o e n hb (by simp)
    obtain ⟨_, o', ho', hd⟩ := I.stack.mem hb
    rw [e] at ho'
    cases ho'
    obtain ⟨sl', e2⟩ := up b _ e1 hd
    exact ⟨sl', e2⟩
  refine ⟨⟨fun b o e n hb hx => ?_, fun b o e n hb hx => slot b o e n hb, F.un.free, fun b o e hx => ?_, F.un.tups, F.un.frzs, F.un.tbls⟩, fun a o e => (F.hok a o e).stay (fun b u hb q => ?_) (fun _ q => q) fun _ _ q => q⟩
  · exact st b o (PySem.W.hideAll_get _ (F.un.keep b o e n hb hx) (nofs b o e hb))
  · by_cases hb : b ∈ frs X.stack
    · obtain ⟨sl, q⟩ := slot b o e (I.stkFree b hb) hb
      exact ⟨_, q⟩
    · obtain ⟨o', e1⟩ := F.un.there b o e hx
      exact ⟨o', st b o' (PySem.W.hideAll_get _ e1 (nofs b o e hb))⟩
  · refine st b u (PySem.W.hideAll_get _ q fun z => ?_)
    have n := F.ffree b z
    rcases hb with rfl | hb
    · rw [n] at e; cases e
    · rw [n] at hb; cases hb
theorem Flew.inv (I : Inv X pins σ H s) (F : Flew C X.prog X.w X.stack H s ea t g H1 fs s') {h' : Heap} (st : (PySem.W.hideAll g fs).StaysIn h') (up : g.UpToSlots h') : Inv X pins σ H1 { s' with heap := h' } := by
  obtain ⟨un, hok⟩ := F.at I st up
  exact I.call' (s' := { s' with heap := h' }) (ch := []) F.os un hok F.bare (fun b z => absurd z (by simp))
theorem Flew.none (F : Flew C X.prog X.w X.stack H s ea t g H1 fs s') : H1 ea = none := by
  cases q : H1 ea with
  | none => rfl
  | some o =>
    obtain ⟨ob, e⟩ := (F.hok ea o q).there
    rw [F.new] at e
    cases e
theorem Flew.apart (F : Flew C X.prog X.w X.stack H s ea t g H1 fs s') {b : Addr} {o : Obj} (h : s.heap.get? b = some o) : ea ≠ b := fun z => by
  obtain ⟨o', e⟩ := F.un.there b o h (by simp)
  rw [← z, F.new] at e
  cases e
/-- within an except suite -/
abbrev Cx.held (X : Cx) (ea : Addr) (oe : Obj) : Cx := { X with A := X.A.mark (some (.ref ea)), calm := false, pn := (ea, oe) :: X.pn, xe := fun _ _ => False }
theorem Inv.hold (I : Inv X pins σ H s) (he : s.heap.get? ea = some oe) (hn : H ea = none) (hL : ea ≠ X.env.locals) (hf : ea ∉ X.fs) (hc : ∀ v, oe.data ≠ .cell v) : Inv (X.held ea oe) pins σ H s := by
  have ok := I.ok
  refine ⟨⟨ok.mod, ok.kind, ok.glob, ok.blt, ok.above, ok.inj, ok.has, ok.cab, (fun z => by cases z), ok.frames, ok.stk, ok.exf, ok.bs, ok.bsz, ok.noex, ok.exfs, ok.funs, ok.frf⟩, I.os, I.bare, I.base, I.loc, I.cell, I.free, I.freeC, fun p hp => ?_, I.hok, I.len⟩
  rcases List.mem_cons.mp (show p ∈ (ea, oe) :: (X.pn ++ pins) from hp) with rfl | z
  · exact ⟨he, hn, hL, hf, hc⟩
  · exact I.pin p z
theorem Inv.unhold (ok : X.Ok) (I : Inv (X.held ea oe) pins σ H s) : Inv X pins σ H s :=
  ⟨ok, I.os, I.bare, I.base, I.loc, I.cell, I.free, I.freeC, fun p hp => I.pin p (show p ∈ (ea, oe) :: (X.pn ++ pins) from List.mem_cons_of_mem _ hp), I.hok, I.len⟩
/-- a name goes -/
theorem Inv.gone {j : Nat} {n : Str} {h' : Heap} {m : Str → Option Value} {v : Option Value} {tk : Nat} (I : Inv X pins σ H s) (hN : X.N.Nodup) (hj : X.N[j]? = some n) (hm : s.heap.Ns X.env.locals m)
    (hl : ∀ (i : Nat) (x : Str) (v : V), X.N[i]? = some x → σ[i]? = some (some v) → Vis X.env.scope x → ∃ u, RelV v u ∧ Look X.env s.heap m x u)
    (hn : h'.Ns X.env.locals (fun x => if x = n then v else m x)) (hs : Heap.SameBut X.env.locals s.heap h') : Inv X pins (σ.set j none) H { s with heap := h', toks := tk } := by
  have ne : ∀ b o, X.s₀.heap.get? b = some o → b ≠ X.env.locals := fun b o e => Nat.ne_of_lt (Nat.lt_of_lt_of_le (Heap.lt_size e) I.ok.above)
  have cellK : ∀ x c, X.env.cells.lookup x = some c → ∀ v, s.heap.IsCell c v → h'.IsCell c v := fun x c e v ⟨o, ho, hd⟩ => ⟨o, (hs.2 c (I.cne x c e)).trans ho, hd⟩
  refine ⟨I.ok, I.os, I.bare, ⟨fun b o e n hb hx => ?_, fun b o e n hb hx => ?_, I.base.free, fun b o e hx => ?_, I.base.tups, I.base.frzs, I.base.tbls⟩, ⟨_, hn, fun i y v' e1 e2 e3 => ?_⟩, fun y c e => ?_, I.free, I.freeC, fun p hp => ?_, fun b ob e => ?_, by simpa using I.len⟩
  · exact (hs.2 b (ne b o e)).trans (I.base.keep b o e n hb hx)
  · obtain ⟨sl, e1⟩ := I.base.slot b o e n hb hx
    exact ⟨sl, (hs.2 b (ne b o e)).trans e1⟩
  · obtain ⟨o', e1⟩ := I.base.there b o e hx
    exact ⟨o', (hs.2 b (ne b o e)).trans e1⟩
  · by_cases hij : i = j
    · subst hij
      rw [List.getElem?_set_self'] at e2
      cases q : σ[i]? with
      | none => rw [q] at e2; cases e2
      | some _ => rw [q] at e2; cases e2
    · rw [List.getElem?_set_ne (Ne.symm hij)] at e2
      obtain ⟨u, r, l⟩ := hl i y v' e1 e2 e3
      refine ⟨u, r, ?_⟩
      rcases l with ⟨k, l⟩ | ⟨k, c, e, z⟩
      · refine .inl ⟨k, ?_⟩
        have hy : y ≠ n := fun z => hij (nodup_ix hN (z ▸ e1) hj)
        show (if y = n then v else m y) = some u
        rw [if_neg hy]
        exact l
      · exact .inr ⟨k, c, e, cellK y c e _ z⟩
  · obtain ⟨v, z⟩ := I.cell y c e
    exact ⟨v, cellK y c e v z⟩
  · obtain ⟨e, n, ne, nf, d⟩ := I.pin p hp
    exact ⟨(hs.2 p.1 ne).trans e, n, ne, nf, d⟩
  · refine (I.hok b ob e).stay (fun c w' hc q => (hs.2 c ?_).trans q) (fun _ q => q) fun _ _ q => q
    rintro rfl
    rcases hc with rfl | hc
    · rw [I.free] at e; cases e
    · rw [I.free] at hc; cases hc
end
/-- statements that may raise C; EX: what is wanted behind the exception -/
def PX (X : Cx) (C : Addr) (st : List Stmt) (tb : Ends → (St → Hp → Prop) → St → Hp → Prop) : Prop :=
  ∀ (pins : List (Addr × Obj)) (s : Shared) (σ : St) (H : Hp) (D : Ends) (EX : St → Hp → Prop), Inv X pins σ H s → tb D EX σ H →
    wpAny (model X.prog X.w) X.A (execs st X.env) (SP X pins D) (fun e s' => ∃ s1 H0 ea t g H1 fs, Inv X pins σ H0 s1 ∧ e = .ref ea ∧ Flew C X.prog X.w X.stack H0 s1 ea t g H1 fs s' ∧ EX σ H1) s
section
variable {X : Cx} {C k : Addr} {x y n : Str} {c : Value} {j : Nat} {body suite : List Stmt} {b₀ : Stmt} {p np hpos pos p5 : Pos}
theorem px_call {f : Addr} {fd : FuncData} {ps : List Str} {sp : Sp} {e : Expr} {es : List Expr} {t : TA} {i : Nat} {k : Nat} (F : FnOk X.prog X.w X.K X.mg X.base (CXE C X.prog X.w) k f fd ps sp) (hr : Room k X.A) (hg : Gl X x) (hm : X.mg x = some (.ref f)) (hk : PySem.W.keepIn X.K (.ref f) = true)
    (hb : Binds X.K fd ps []) (ha : PA X (e :: es) t) (hxe : ∀ e s', X.xe e s' → False) (hN : X.N.Nodup) (hi : X.N[i]? = some y) (hx : Loc X.env.scope y)
    (hs : swapsWith (.Call (.Name x p) (e :: es) [] pos) (some (.Name y np)) p5.line X.env = pure false := by rfl) (hf : X.fn y = true ∨ X.env.scope.names.lookup y = some .local := by first | exact .inl rfl | exact .inr rfl | assumption)
    (hdb : (x == ("__debug__" : Str)) = false := by decide) (he : starEach (e :: es) X.env = (false, eval e X.env) :: starEach es X.env := by rfl) (hpl : (backTo pos (starEach es X.env)).any (·.1) = false := by rfl) :
    PX X C [.Assign [.Name y np] (.Call (.Name x p) (e :: es) [] pos) p5] (fun D EX σ H => t σ H fun vs H1 => sp vs H1 (fun v H2 => D.nx (σ.set i (some v)) H2) (fun _ _ H2 => EX σ H2)) := by
  intro pins s σ H D EX I h
  refine wpAny_execs_cons (wpAny_mono (wpAny_Assign_Name (Q := fun f s1 => SP X pins D f s1 ∧ f = .next) (wpAny_Call_Name_kw (ld_glob I hg hm ?_ hdb)) hs) (fun f s1 q => ?_) fun _ _ z => z)
  · refine PySem.W.callWith_K (h₀ := X.base) I.ok.mod.kin hk (wpAny_mono (ha pos pins s σ H _ I h) (fun us s1 z => ?_) (fun _ _ z => (hxe _ _ z).elim)) he hpl
    obtain ⟨vs, H1, I1, r, q⟩ := z
    refine ⟨I1.kIn, ?_⟩
    have hl : us.length = ps.length := by rw [← r.length]; exact F.len _ _ _ _ q
    have hb' := hb s1 us I1.kIn (by rw [List.append_nil]; exact hl)
    rw [List.append_nil] at hb'
    refine wpAny_call (codeAny_mono (F.run X.A X.stack s1 H1 ⟨us, []⟩ us vs _ _ hr I1.env0 hb' r q) fun r s' hq => ?_)
    cases r with
    | error e =>
      obtain ⟨ea, t, g, H2, fs, rfl, FL, hE⟩ := hq
      exact ⟨s1, H1, ea, t, g, H2, fs, I1, rfl, FL, hE⟩
    | ok fl =>
      cases fl with
      | ret u =>
        obtain ⟨v, H2, I2, r2, q2⟩ := I1.after hq
        exact store_ok I2 hN hi hx r2 (fun s2 I3 => ⟨⟨_, H2, I3, q2⟩, rfl⟩) hf
      | next => exact False.elim hq
      | brk => exact False.elim hq
      | cont => exact False.elim hq
  · obtain ⟨q, rfl⟩ := q
    exact wpAny_execs_nil q
def Ends.gone (D : Ends) (j : Nat) : Ends := { nx := fun σ H => D.nx (σ.set j none) H, rt := D.rt, bk := fun σ H => D.bk (σ.set j none) H, ct := fun σ H => D.ct (σ.set j none) H }
def tTryAs (j : Nat) (tb : Ends → (St → Hp → Prop) → St → Hp → Prop) (ts : Addr → TS) : TS := fun D σ H => tb D (fun σ H1 => ∀ ea, H1 ea = none → ts ea (D.gone j) (σ.set j (some (.ref ea))) H1) σ H
theorem ps_try_as {tb : Ends → (St → Hp → Prop) → St → Hp → Prop} {ts : Addr → TS} (hb : PX X C body tb) (hst : X.stack = X.env :: X.outer) (hfr : X.env.frame = some X.env.locals)
    (hs : ∀ ea oe, oe.cls = .ref C → PSs (X.held ea oe) (b₀ :: suite) (ts ea)) (hm : X.mg x = some c) (hg : Gl X x) (he : PySem.W.exmOne X.K (.ref C) c = some true)
    (hN : X.N.Nodup) (hj : X.N[j]? = some n) (hl : X.env.scope.names.lookup n = some .local) (hd : (x == ("__debug__" : Str)) = false := by decide) :
    PS X (.Try body [.ExceptHandler (some (.Name x np)) (some n) (b₀ :: suite) hpos] [] [] pos) (tTryAs j tb ts) := by
  intro pins s σ H D I h
  refine wpAny_Try_except (wpAny_mono (hb pins s σ H D _ I h) (fun f s1 q => ?_) (fun e s1 q => ?_))
  · cases f with
    | next => exact wpAny_execs_nil q
    | ret v => exact q
    | brk => exact q
    | cont => exact q
  · obtain ⟨s0, H0, ea, t, g, H1, fs, I0, rfl, F, hEX⟩ := q
    have hno := F.none
    have hL : ea ≠ X.env.locals := by
      obtain ⟨m, ⟨o, _, _, ho, _⟩, _⟩ := I0.loc
      exact F.apart ho
    have hfs : ea ∉ X.fs := fun z => by
      obtain ⟨_, o, ho, _⟩ := I0.funs.mem z
      exact F.apart ho rfl
    have fly := F.fly
    rw [hst] at fly
    have fr := I0.ok.frames
    rw [hst] at fr
    refine wpAny_looks_onW fr hfr fly fun h₄ hheld₄ hsm₄ => ?_
    refine wpAny_landsW hheld₄ fun h₅ hheld hsm₅' => ?_
    have up5 := F.up.trans (hsm₄.trans hsm₅')
    have I5 : Inv X pins σ H1 { s1 with heap := h₅ } := F.inv I0 hheld.1 up5
    obtain ⟨oe, ws, hoe, hoec, hoed, hoe0⟩ := hheld.first
    have I5' := I5.hold hoe hno hL hfs (fun v z => by rw [hoed] at z; cases z)
    refine wpAny_handleBy_cons (codeAny_handlers_test (ld_glob I5' hg hm ?_ hd)) (by intro q; cases q)
    have LT : PySem.W.Looks (model X.prog X.w) h₅ (typeOf (.ref ea)) (.ref C) := PySem.W.ExcAt.type ⟨oe, hoe, hoec⟩
    refine (PySem.W.exm_one I5.kIn LT he).at ?_
    refine codeAny_handlers_suite_as ?_
    refine lands_againW hheld fun h₆ hfl₆ hsm₆ => ?_
    have I6 : Inv X pins σ H1 { s1 with heap := h₆ } := F.inv I0 hfl₆.1 (up5.trans hsm₆)
    obtain ⟨oe', ws', hoe', hoec', hoed', _⟩ := hfl₆.first
    have I6' := I6.hold hoe' hno hL hfs (fun v z => by rw [hoed'] at z; cases z)
    refine store_ok (X := X.held ea oe') I6' hN hj (.inl hl) (v := .ref ea) rfl (fun s7 I7 => ?_) (.inr hl)
    refine wpAny_mono (hs ea oe' hoec' pins s7 _ H1 (D.gone j) I7 (hEX ea hno)) (fun f s8 q => ?_) (fun _ _ z => z.elim)
    have fin : ∀ {σ' : St} {H' : Hp} {Q : Shared → Prop}, Inv X pins σ' H' s8 → (∀ s9, Inv X pins (σ'.set j none) H' s9 → Q s9) → wpAny (model X.prog X.w) X.A (do bindName X.env n .none; unbindBehindTheSuite X.env n hpos) (fun _ s₃ => Q s₃) X.xe s8 := fun {σ' H' Q} I8 k => by
      obtain ⟨m, hn, hl'⟩ := id I8.loc
      exact wpAny_nameGoes_keeps hl hn (by rw [I8.ok.kind]; rfl) fun h' v hn' hsb => k _ (I8.gone hN hj hn hl' hn' hsb)
    cases f with
    | next =>
      obtain ⟨σ', H', I8, q⟩ := q
      exact fin (I8.unhold I0.ok) fun s9 I9 => ⟨_, H', I9, q⟩
    | brk =>
      obtain ⟨σ', H', I8, q⟩ := q
      exact fin (I8.unhold I0.ok) fun s9 I9 => ⟨_, H', I9, q⟩
    | cont =>
      obtain ⟨σ', H', I8, q⟩ := q
      exact fin (I8.unhold I0.ok) fun s9 I9 => ⟨_, H', I9, q⟩
    | ret u =>
      obtain ⟨v, σ', H', I8, r, q⟩ := q
      exact fin (I8.unhold I0.ok) fun s9 I9 => ⟨v, _, H', I9, r, q⟩
end
end L2
namespace DL
open PySem PySem.Spec L2
open PyProof.Rows hiding St
abbrev SpX := List Dt → GD → KD → (GD → Prop) → Prop
def liSpX (K : PySem.W.Frag) (n : Nat) (sp : SpX) : Sp := fun vs H Q E => ∃ ds G ι Qd Ed, ds.length = n ∧ HG K G H ι ∧ Rps K H ι ds vs ∧ sp ds G Qd Ed ∧
  (∀ v H' d G' ι', HG K G' H' ι' → Gr K H ι H' ι' → Rp K H' ι' d v → Qd d G' → Q v H') ∧ (∀ c H' G' ι', HG K G' H' ι' → Gr K H ι H' ι' → Ed G' → E c none H')
structure FncX (P : Program) (w : World) (K : PySem.W.Frag) (mg : Str → Option Value) (base : Heap) (C : Addr) (x : Str) (k : Nat) (ps : List Str) (sp : SpX) : Prop where
  ex : ∃ f fd, FnOk P w K mg base (CXE C P w) k f fd ps (liSpX K ps.length sp) ∧ mg x = some (.ref f) ∧ PySem.W.keepIn K (.ref f) = true ∧ Binds K fd ps []
def LiX (K : PySem.W.Frag) (F : Fx) (Ed : GD → Prop) (E : XK) (C : Addr) : Prop := ∀ c H' G' ι', HG K G' H' ι' → Gr K F.H F.ι H' ι' → Ed G' → E c none H'
theorem PS.nox {X : Cx} {st : Stmt} {t : TS} (h : PS X.nox st t) : PS X st t := fun pins s σ H D I hw =>
  wpAny_mono (h pins s σ H D (I.wish _) hw) (fun _ _ q => q.unwish) fun _ _ z => False.elim z
theorem DS'.nox {X : Cx} {F : Fx} {st : Stmt} {t : TDS} (h : DS' X.nox F st t) : DS' X F st t := ⟨PS.nox h.p⟩
/-- raise C(..) -/
def dRaise (Ed : GD → Prop) (ta : TDA) : TDS := fun _ σ G => ta σ G fun ds G' => ds.length ≤ sizeLine ∧ Ed G'
section
variable {P : Program} {w : World} {K : PySem.W.Frag} {mg : Str → Option Value} {base : Heap}
theorem ds_raise' {N : List Str} {qual : Str} {scope : Scope} {f : Addr} {cd : Value} {A : Around} {outer : List Env} {s₀ : Shared} {H₀ : Hp} {E : XK} {F : Fx} {Ed : GD → Prop}
    {x : Str} {C : Addr} {B newId initId : String} {bmB : List Value} {np cpos pos : Pos} {e : Expr} {es : List Expr} {ta : TDA} (L : LiX K F Ed E C)
    (FB : ExcBaseFacts B newId initId bmB) (q : PySem.W.excIn K C bmB newId = true) (hm : mg x = some (.ref C)) (ha : DA' (cxOf (CXE C P w) P w K mg base N qual scope f cd A outer s₀ H₀ E) F (e :: es) ta)
    (hg : Gl (cxOf (CXE C P w) P w K mg base N qual scope f cd A outer s₀ H₀ E) x := by rfl) (hd : (x == ("__debug__" : Str)) = false := by decide)
    (he : starEach (e :: es) (cxOf (CXE C P w) P w K mg base N qual scope f cd A outer s₀ H₀ E).env = (false, eval e (cxOf (CXE C P w) P w K mg base N qual scope f cd A outer s₀ H₀ E).env) :: starEach es (cxOf (CXE C P w) P w K mg base N qual scope f cd A outer s₀ H₀ E).env := by exact star_cons rfl)
    (hpl : (backTo cpos (starEach es (cxOf (CXE C P w) P w K mg base N qual scope f cd A outer s₀ H₀ E).env)).any (·.1) = false := by exact back_any rfl) :
    DS' (cxOf (CXE C P w) P w K mg base N qual scope f cd A outer s₀ H₀ E) F (.Raise (some (.Call (.Name x np) (e :: es) [] cpos)) none pos) (dRaise Ed ta) := by
  refine ⟨PS.imp (ps_raise FB q hm ha.p hg hd he hpl) fun D σ H ⟨σd, G, ι, Dd, ok, ht, LE⟩ => ?_⟩
  exact ⟨σd, G, ι, _, ok, ht, fun vs H1 ds G1 ι1 h1 g1 r1 q1 => ⟨by rw [← r1.len]; exact q1.1, L _ H1 G1 ι1 h1 (ok.gr.trans g1) q1.2⟩⟩
/-- THE RULE for a def that may raise C -/
theorem Plc.fnX {x : Str} {st : Stmt} {N ps : List Str} {k : Nat} {C : Addr} {sp : SpX} (Pl : Plc K mg x st ps) (S : FnScope N ps (defScope st))
    (hbody : ∀ (f : Addr) (cdv : Value) (A : Around) (outer : List Env) (s : Shared) (H : Hp) (E : XK), Room k (A.deeper (envOfC x (defScope st) s.heap.objs.size f cdv)) →
      ∃ td : (GD → Prop) → TDS, (∀ F Ed, LiX K F Ed E C → DSs' (cxOf (CXE C P w) P w K mg base N x (defScope st) f cdv A outer s H E) F (defBody st) (td Ed)) ∧
        ∀ (ds : List Dt) (G : GD) (Q : KD) (Ed : GD → Prop), ds.length = ps.length → sp ds G Q Ed → bnds G.length ds → bndG G.length G → td Ed (endsD G Q) (startD N ds) G) :
    FncX P w K mg base C x (k + 1) ps sp := by
  obtain ⟨f, fd, Fn, hm, hb⟩ := Pl.ex
  refine ⟨f, fd, ?_, hm, Fn.kp, hb⟩
  obtain ⟨oc, od, kV, doc, pm, an, cdv, ct, osl, rfl, lk, hcd⟩ := Fn.ex
  refine fn_of lk hcd S (fun vs H Q E ⟨ds, G, ι, Qd, Ed, hl, hG, r, _⟩ => by rw [← r.len]; exact hl) fun A outer s H vs Q E hr ⟨ds, G, ι, Qd, Ed, hl, hG, r, hsp, hq, hE⟩ => ?_
  obtain ⟨td, ht, hd⟩ := hbody f cdv A outer s H E hr
  refine ⟨_, (ht ⟨H, ι⟩ Ed hE).p, startD N ds, G, ι, endsD G Qd, start_ok hG r, hd ds G Qd Ed hl hsp (by rw [← hG.len]; exact Rps.bd _ _ r) hG.bd, ?_⟩
  have fin : ∀ v H' d G' ι', HG K G' H' ι' → Gr K H ι H' ι' → Rp K H' ι' d v → RetD G Qd d G' → Q v H' := fun v H' d G' ι' h' g' r' z => by
    rcases z with q | ⟨n, hn, hb, hbG, q⟩
    · exact hq v H' d G' ι' h' g' r' q
    have ok : Ok K ⟨H, ι⟩ [] G' [] H' ι' := ⟨h', fun i d e => by simp at e, g', rfl⟩
    have ok2 := ok.weak (σd' := []) n (by rw [← hG.len] at hn; exact hn) rfl (fun i d e => by simp at e) hbG
    exact hq v H' d (G'.take n) (ι'.take n) ok2.hg ok2.gr (Rp.cut n _ _ r' hb) q
  exact ⟨fun σ' H' σd' G' ι' ok' q => fin .non H' .non G' ι' ok'.hg ok'.gr rfl q, fun _ _ _ _ _ _ q => q.elim, fun _ _ _ _ _ _ q => q.elim, fun v H' d G' ι' h' g' r' q' => fin v H' d G' ι' h' g' r' q'⟩
end
theorem Ok.unset {K : PySem.W.Frag} {F : Fx} {σd : SD} {G : GD} {σ : St} {H : Hp} {ι : List Addr} (ok : Ok K F σd G σ H ι) (j : Nat) : Ok K F (σd.set j none) G (σ.set j none) H ι := by
  refine ⟨ok.hg, fun m d e => ?_, ok.gr, by simpa using ok.ln⟩
  by_cases hj : m = j
  · subst hj
    rw [List.getElem?_set_self'] at e
    cases q : σd[m]? with
    | none => rw [q] at e; cases e
    | some _ => rw [q] at e; cases e
  · rw [List.getElem?_set_ne (Ne.symm hj)] at e
    obtain ⟨v, q, r⟩ := ok.slt m d e
    exact ⟨v, by rw [List.getElem?_set_ne (Ne.symm hj)]; exact q, r⟩
/-- try: y = f(..) except H as n: the suite sets y to None -/
def dTry (m : Nat) (i j : Nat) (sp : SpX) (ta : TDA) : TDS := fun D σ G => ta σ G fun ds G1 => ds.length = m ∧ j < σ.length ∧ sp ds G1 (fun d G2 => D.nx (σ.set i (some d)) G2) (fun G2 => D.nx ((σ.set i (some .non)).set j none) G2)
section
variable {X : Cx} {F : Fx} {C : Addr} {x y n hx : Str} {c : Value} {i j k : Nat} {suite : List Stmt} {b₀ : Stmt} {p np hp hpos pos pos' p5 : Pos} {e : Expr} {es : List Expr} {ta : TDA} {ps : List Str} {sp : SpX} {ts : Addr → TS}
theorem ds_try' (Fc : FncX X.prog X.w X.K X.mg X.base C x k ps sp) (hr : Room k X.A) (ha : DA' X F (e :: es) ta) (hxe : ∀ e s', X.xe e s' → False) (hN : X.N.Nodup) (hij : i ≠ j)
    (hs : ∀ ea oe, oe.cls = .ref C → PSs (X.held ea oe) (b₀ :: suite) (ts ea)) (hts : ∀ ea D σ H, σ[j]? = some (some (.ref ea)) → D.nx (σ.set i (some .non)) H → ts ea D σ H)
    (hm : X.mg hx = some c) (hx' : PySem.W.exmOne X.K (.ref C) c = some true)
    (hst : X.stack = X.env :: X.outer := by rfl) (hfr : X.env.frame = some X.env.locals := by rfl) (hi : X.N[i]? = some y := by rfl) (hj : X.N[j]? = some n := by rfl) (hl : X.env.scope.names.lookup n = some .local := by rfl)
    (hy : Loc X.env.scope y := by first | exact Or.inl rfl | exact Or.inr rfl) (hg : Gl X x := by rfl) (hg' : Gl X hx := by rfl)
    (hsw : swapsWith (.Call (.Name x p) (e :: es) [] pos) (some (.Name y np)) p5.line X.env = pure false := by rfl) (hf : X.fn y = true ∨ X.env.scope.names.lookup y = some .local := by first | exact .inl rfl | exact .inr rfl | assumption)
    (hdb : (x == ("__debug__" : Str)) = false := by decide) (hdb' : (hx == ("__debug__" : Str)) = false := by decide) (he : starEach (e :: es) X.env = (false, eval e X.env) :: starEach es X.env := by exact star_cons rfl) (hpl : (backTo pos (starEach es X.env)).any (·.1) = false := by exact back_any rfl) :
    DS' X F (.Try [.Assign [.Name y np] (.Call (.Name x p) (e :: es) [] pos) p5] [.ExceptHandler (some (.Name hx hp)) (some n) (b₀ :: suite) hpos] [] [] pos') (dTry ps.length i j sp ta) := by
  obtain ⟨f, fd, h1, h2, h3, h4⟩ := Fc.ex
  refine ⟨PS.imp (ps_try_as (px_call h1 hr hg h2 h3 h4 ha.p hxe hN hi hy hsw hf hdb he hpl) hst hfr hs hm hg' hx' hN hj hl hdb') fun D σ H ⟨σd, G, ι, Dd, ok, ht, L⟩ => ?_⟩
  refine ⟨σd, G, ι, _, ok, ht, fun vs H1 ds G1 ι1 h1 g1 r1 q1 => ?_⟩
  obtain ⟨hm, hjl, hsp⟩ := q1
  refine ⟨ds, G1, ι1, _, _, hm, h1, r1, hsp, fun v H' d G' ι' h' g' r' q' => L.nx _ H' _ G' ι' ((ok.to h' (g1.trans g')).set r') q', fun c H' G' ι' h' g' q' ea hno => hts ea _ _ _ ?_ ?_⟩
  · exact List.getElem?_set_self (by rw [← ok.ln]; exact hjl)
  · show D.nx (((σ.set j (some (.ref ea))).set i (some .non)).set j none) H'
    rw [List.set_comm _ _ (Ne.symm hij), List.set_set]
    exact L.nx _ H' _ G' ι' (((ok.to h' (g1.trans g')).set (d := .non) (v := .non) rfl).unset j) q'
end
end DL
namespace DL
open PySem PySem.Spec L2
open PyProof.Rows hiding St
section
variable {X : Cx} {ea C : Addr} {oe : Obj} {v : V} {b : Bool} {j : Nat} {n cx : Str} {p p1 p2 pos : Pos}
theorem call_isiE (F : PySem.W.ExcIn X.K C) (hc : oe.cls = .ref C) : CallR (X.held ea oe) (.builtin "isinstance") (fun xs H Q => ∃ c b, xs = [.ref ea, c] ∧ (∀ u, RelV c u → PySem.W.kitOne X.K (.ref C) u = some b) ∧ Q (.bl b) H) := by
  intro pins s σ H xs us Q I r h
  obtain ⟨c, b, rfl, e, q⟩ := h
  obtain ⟨u, w', rfl, rx, rc⟩ := vals2 r
  cases (show u = Value.ref ea from rx)
  have hp := (I.pin (ea, oe) (List.mem_append_left _ (List.mem_cons_self))).1
  exact PySem.W.isi_exc (K := X.K) I.kIn ⟨oe, hp, hc⟩ F (e w' rc) fun tk => ⟨.bl b, H, I.tok tk, rfl, q⟩
def tIsiE (ea : Addr) (j : Nat) (b : Bool) : TT := fun σ H Q => σ[j]? = some (some (.ref ea)) ∧ Q b H
theorem pt_isiE (F : PySem.W.ExcIn X.K C) (hc : oe.cls = .ref C) (hm : X.mg "isinstance" = none) (h2 : PE (X.held ea oe) (.Name cx p2) (tC v)) (hk : ∀ u, RelV v u → PySem.W.kitOne X.K (.ref C) u = some b)
    (hj : X.N[j]? = some n) (hl : X.env.scope.names.lookup n = some .local) (hg : Gl X "isinstance") (hd : (n == ("__debug__" : Str)) = false) (hcd : (n == ("__classdict__" : Str)) = false) :
    PT (X.held ea oe) (.Call (.Name "isinstance" p) [.Name n p1, .Name cx p2] [] pos) (tIsiE ea j b) := by
  have h1 : PE (X.held ea oe) (.Name n p1) (tVar j) := pe_var (X := X.held ea oe) hj (.inl hl) hd hcd
  have hA : PA (X.held ea oe) [.Name n p1, .Name cx p2] (tCons (tVar j) (tCons (tC v) tNil)) := pa_cons h1 (pa_cons h2 pa_nil)
  refine PT.imp (pt_val (pe_callB (X := X.held ea oe) (call_isiE F hc) hg hm bt_isinstance hA (by decide) (by decide))) fun σ H Q ⟨e, q⟩ => ?_
  exact ⟨.ref ea, e, v, b, rfl, hk, b, rfl, q⟩
/-- the suite: if isinstance(e, C) and not isinstance(e, C2) and isinstance(e, ValueError): y = None -/
def tSuite (i j : Nat) (ea : Addr) : TS := fun D σ H => σ[j]? = some (some (.ref ea)) ∧ D.nx (σ.set i (some .non)) H
structure HandIn (K : PySem.W.Frag) (mg : Str → Option Value) (c1 c2 c3 : Str) (C : Addr) : Prop where
  F : PySem.W.ExcIn K C
  m1 : mg c1 = some (.ref C)
  m2 : ∃ C2, mg c2 = some (.ref C2) ∧ PySem.W.kitOne K (.ref C) (.ref C2) = some false
  m3 : mg c3 = none
  b3 : bootBuiltins c3 = some (.type "ValueError")
  k1 : PySem.W.kitOne K (.ref C) (.ref C) = some true
  k3 : PySem.W.kitOne K (.ref C) (.type "ValueError") = some true
  isi : mg "isinstance" = none
theorem pss_suite {i : Nat} {y c1 c2 c3 : Str} {q1 q2 q3 q4 q5 q6 r1 r2 r3 r4 r5 r6 r7 r8 r9 : Pos} {kk} (T : HandIn X.K X.mg c1 c2 c3 C) (hc : oe.cls = .ref C) (hN : X.N.Nodup) (hi : X.N[i]? = some y) (hj : X.N[j]? = some n)
    (hly : X.env.scope.names.lookup y = some .local) (hl : X.env.scope.names.lookup n = some .local) (hg : Gl X "isinstance") (g1 : Gl X c1) (g2 : Gl X c2) (g3 : Gl X c3) (hd : (n == ("__debug__" : Str)) = false) (hcd : (n == ("__classdict__" : Str)) = false)
    (d1 : (c1 == ("__debug__" : Str)) = false) (d2 : (c2 == ("__debug__" : Str)) = false) (d3 : (c3 == ("__debug__" : Str)) = false) (n3 : c3 ≠ "__name__") (hsw : swapsWith (.Constant .none kk r5) (some (.Name y r6)) r7.line X.env = pure false) :
    PSs (X.held ea oe) [.If (.BoolOp .And [.Call (.Name "isinstance" q1) [.Name n q2, .Name c1 q3] [] q4, .UnaryOp .Not (.Call (.Name "isinstance" q5) [.Name n q6, .Name c2 r1] [] r2) r3, .Call (.Name "isinstance" r4) [.Name n r8, .Name c3 r9] [] p] p1) [.Assign [.Name y r6] (.Constant .none kk r5) r7] [] p2] (tSuite i j ea) := by
  obtain ⟨C2, m2, k2⟩ := T.m2
  have h1 : PE (X.held ea oe) (.Name c1 q3) (tC (.ref C)) := pe_glob (X := X.held ea oe) g1 T.m1 rfl d1
  have h2 : PE (X.held ea oe) (.Name c2 r1) (tC (.ref C2)) := pe_glob (X := X.held ea oe) g2 m2 rfl d2
  have h3 : PE (X.held ea oe) (.Name c3 r9) (tC (.ty "ValueError")) := pe_bltn (X := X.held ea oe) g3 T.m3 T.b3 rfl n3 d3
  have t1 := pt_isiE (p := q1) (p1 := q2) (pos := q4) T.F hc T.isi h1 (b := true) (fun u r => by cases (show u = Value.ref C from r); exact T.k1) hj hl hg hd hcd
  have t2 := pt_isiE (p := q5) (p1 := q6) (pos := r2) T.F hc T.isi h2 (b := false) (fun u r => by cases (show u = Value.ref C2 from r); exact k2) hj hl hg hd hcd
  have t3 := pt_isiE (p := r4) (p1 := r8) (pos := p) T.F hc T.isi h3 (b := true) (fun u r => by cases (show u = Value.type "ValueError" from r); exact T.k3) hj hl hg hd hcd
  refine PSs.imp (pss_one (ps_if (pw_and t1 (pw_and (pt_not t2) (pw_and1 t3))).pt (pss_one (ps_set (X := X.held ea oe) hN hi (.inl hly) pe_non hsw (.inr hly))) pss_nil)) fun D σ H ⟨e, q⟩ => ?_
  exact ⟨e, iteT ⟨e, iteT ⟨e, iteT q⟩⟩⟩
end
end DL
namespace DL
open PySem PySem.Spec L2
def bmVE : List Value := [.type "ValueError", .type "Exception", .type "BaseException", .type "object"]
structure OwnX (K : PySem.W.Frag) (mg : Str → Option Value) (c1 c2 hx : Str) (C : Addr) (c : Value) : Prop where
  T : HandIn K mg c1 c2 "ValueError" C
  q : PySem.W.excIn K C bmVE "ValueError.__new__" = true
  m : mg hx = some c
  x : PySem.W.exmOne K (.ref C) c = some true
theorem bt_VE : bootBuiltins "ValueError" = some (.type "ValueError") := by decide +kernel
end DL
namespace L2
open PySem PySem.Spec PyProof.Rows
section
variable {M : Model} {A : Around} {E : Value → Shared → Prop} {s : Shared}
theorem setFlight_held {base : Heap} {l : List Env} {e L : Addr} {cls a0 : Value} {Q : Unit → Shared → Prop} (R : Heap.HeldW base l e cls a0 L s.heap)
    (h : ∀ h', Heap.HeldW base l e cls a0 L h' → s.heap.UpToSlots h' → Q () { s with heap := h' }) : wpAny M A (setFlight (.ref e) (some L)) Q E s := by
  obtain ⟨hkb, hen, hl, oe, vs, T, oT, ts, he, hcls, hd, h1, hnT, hTe, hT, hdT, h3⟩ := R
  have hsz3 : 3 < ts.size := (Array.getElem?_eq_some_iff.mp h3).1
  have other : ∀ b, b ≠ T → (s.heap.update T (Obj.mapFields (·.setIfInBounds 3 ((some L).elim Value.none fun f => rawInt f)))).get? b = s.heap.get? b :=
    fun b hb => Heap.get?_update_other _ _ (Ne.symm hb)
  have noRecord : ∀ b o, s.heap.get? b = some o → (∀ vs, o.data ≠ .fields vs) → b ≠ T := fun b o hb hnf q => by
    rw [q, hT] at hb; injection hb with hb; subst hb; exact hnf ts hdT
  unfold setFlight
  refine wpAny_bind (wpAny_field he hd h1 ?_)
  rw [if_pos (show (Value.ref T != Value.none) = true from by simp)]
  refine wpAny_setField hT hdT hsz3 (h _ ⟨fun b o hbo => (other b fun q => by rw [q, hnT] at hbo; cases hbo).trans (hkb b o hbo), hen,
    hl.of_keeps fun b o hb hnf => ⟨o, (other b (noRecord b o hb hnf)).trans hb, rfl⟩, ?_⟩ fun b o hb hnf => ⟨o.slots, (other b (noRecord b o hb hnf)).trans hb⟩)
  exact ⟨oe, vs, T, _, _, (other e (Ne.symm hTe)).trans he, hcls, hd, h1, hnT, hTe, Heap.get?_update_self _ hT (Obj.isFreed_of_fields (Obj.data_mapFields hdT _)), Obj.data_mapFields hdT _, by simp [hsz3]⟩
end
/-- an exception in the air at this frame: flying, or noted -/
structure AirOf (X : Cx) (C : Addr) (E : XK) (ea t : Addr) (g : Heap) (H1 : Hp) (fs : List Addr) (s' : Shared) : Prop where
  inv : ∃ pins σ, Inv X pins σ H1 { s' with heap := g }
  fnew : ∀ b ∈ fs, b ∈ frs X.stack ∨ X.s₀.heap.get? b = none
  ffree : ∀ b ∈ fs, H1 b = none
  fsub : ∀ b ∈ frs X.stack, b ∈ fs
  fly : Heap.FlyingW (PySem.W.hideAll g fs) X.stack ea (.ref C) (.ref t) s'.heap ∨ Heap.HeldW (PySem.W.hideAll g fs) X.stack ea (.ref C) (.ref t) X.env.locals s'.heap
  up : g.UpToSlots s'.heap
  new : g.get? ea = none
  ok : E (.ref C) none H1
def Air (X : Cx) (C : Addr) (E : XK) (e : Value) (s' : Shared) : Prop := ∃ ea t g H1 fs, e = .ref ea ∧ AirOf X C E ea t g H1 fs s'
section
variable {X : Cx} {C : Addr} {E : XK}
theorem air_of (hex : X.ex = []) {pins : List (Addr × Obj)} {σ : St} {H : Hp} {s s' : Shared} {e : Value} (I : Inv X pins σ H s) (h : CXE C X.prog X.w X.stack H s E e s') : Air X C E e s' := by
  obtain ⟨ea, t, g, H1, fs, rfl, F, hE⟩ := h
  refine ⟨ea, t, g, H1, fs, rfl, ⟨⟨pins, σ, ?_⟩, fun b hb => ?_, F.ffree, F.fsub, .inl F.fly, F.up, F.new, hE⟩⟩
  · exact I.call' (s' := { s' with heap := g }) (ch := []) F.os F.un F.hok F.bare (fun b z => absurd z (by simp))
  · rcases F.fnew b hb with z | z
    · exact .inl z
    · right
      cases q : X.s₀.heap.get? b with
      | none => rfl
      | some o =>
        obtain ⟨o', e⟩ := I.base.there b o q (by rw [hex]; simp)
        rw [z] at e
        cases e
theorem air_pass (hst : X.stack = X.env :: X.outer) (hfr : X.env.frame = some X.env.locals) (hfrm : X.A.frames = some X.stack) : PassesOwn (model X.prog X.w) X.A X.env (Air X C E) := by
  intro e s' h
  obtain ⟨ea, t, g, H1, fs, rfl, R⟩ := h
  have back : ∀ h', Heap.HeldW (PySem.W.hideAll g fs) X.stack ea (.ref C) (.ref t) X.env.locals h' → g.UpToSlots h' → cameBackBy (model X.prog X.w) X.A X.env (Air X C E) (.ref ea) { s' with heap := h' } := fun h' hh up => by
    obtain ⟨_, _, _, oe, vs, T, oT, ts, he, hcls, hd, h1, hnT, hTe, hT, hdT, h3⟩ := id hh
    unfold cameBackBy
    refine wpAny_bind (wpAny_field he hd h1 ?_)
    rw [if_neg (show ¬ ((Value.ref T == Value.none) = true) from by simp)]
    rw [hfr]
    refine setFlight_held (s := { s' with heap := h' }) hh fun h'' hh' up' => ?_
    exact ⟨ea, t, g, H1, fs, rfl, ⟨R.inv, R.fnew, R.ffree, R.fsub, .inr hh', up.trans up', R.new, R.ok⟩⟩
  unfold notedBy
  rcases R.fly with hf | hh
  · rw [hst] at hf
    rw [hst] at hfrm
    refine wpAny_looks_onW hfrm hfr hf fun h' hh up => ?_
    rw [← hst] at hh
    exact back h' hh (R.up.trans up)
  · exact wpAny_noteFrame_againW hfr hh.2.2.2 (back s'.heap hh R.up)
end
/-- out of the def -/
theorem air_out {P : Program} {w : World} {K : PySem.W.Frag} {mg : Str → Option Value} {base : Heap} {N : List Str} {qual : Str} {scope : Scope} {f : Addr} {cd : Value} {A : Around} {outer : List Env} {s₀ : Shared} {H₀ : Hp} {E : XK} {C : Addr} {e : Value} {s' : Shared}
    (h : Air (cxOf (CXE C P w) P w K mg base N qual scope f cd A outer s₀ H₀ E) C E e s') : (cxOf (CXE C P w) P w K mg base N qual scope f cd A outer s₀ H₀ E).xe e s' := by
  obtain ⟨ea, t, g, H1, fs, rfl, R⟩ := h
  obtain ⟨pins, σ, I⟩ := R.inv
  have fr := I.ok.frames
  have fin : ∀ h', Heap.FlyingW (PySem.W.hideAll g fs) outer ea (.ref C) (.ref t) h' → g.UpToSlots h' → CXE C P w outer H₀ s₀ E (.ref ea) { s' with heap := h' } := fun h' x1 up => by
    refine ⟨ea, t, g, H1, fs, rfl, ⟨I.os, I.bare, I.base, I.hok, fun b hb => ?_, R.ffree, fun b hb => R.fsub b ?_, x1, up, R.new⟩, R.ok⟩
    · rcases R.fnew b hb with z | z
      · rcases List.mem_cons.mp (I.stkSub b z) with z | z
        · right
          rw [z]
          exact Heap.get?_none_of_le (Nat.le_refl _)
        · exact .inl z
      · exact .inr z
    · obtain ⟨env, he, hf⟩ := List.mem_filterMap.mp hb
      exact List.mem_filterMap.mpr ⟨env, List.mem_cons_of_mem _ he, hf⟩
  rcases R.fly with hf | hh
  · exact wpAny_leaves_onW fr rfl hf fun h' x1 x2 => fin h' x1 (R.up.trans x2)
  · show wpAny _ _ (leaving _ _) _ _ _
    unfold leaving
    refine wpAny_bind (wpAny_noteFrame_againW rfl hh.2.2.2 ?_)
    refine wpAny_landsW hh fun h' hfl up => ?_
    obtain ⟨k1, k2, ⟨_, _, k3⟩, k4⟩ := hfl
    exact fin h' ⟨k1, k2, k3, k4⟩ (R.up.trans up)
end L2
namespace DL
open PySem PySem.Spec L2
open PyProof.Rows hiding St
theorem LiX.mono {K : PySem.W.Frag} {F F' : Fx} {Ed : GD → Prop} {E : XK} {C : Addr} (L : LiX K F Ed E C) (g : Gr K F.H F.ι F'.H F'.ι) : LiX K F' Ed E C := fun c H' G' ι' h g' q => L c H' G' ι' h (g.trans g') q
section
variable {X : Cx} {F : Fx} {tg : Expr} {pos : Pos}
theorem exS_ofG {body : List Stmt} {tb : TDS} (hb : ∀ F', Gr X.K F.H F.ι F'.H F'.ι → DSs X F' body tb) : PSs X body (fun D σ H => ∃ F', Gr X.K F.H F.ι F'.H F'.ι ∧ liS X.K F' tb D σ H) :=
  fun pins s σ H D I ⟨F', g, h⟩ => hb F' g pins s σ H D I h
/-- for, where the body knows what stood at the entry -/
theorem ds_forG' {iter : Expr} {body : List Stmt} {ti : TDI} {g : TDG} {tb : TDS} (hp : X.A.frames = some X.stack → PassesOwn (model X.prog X.w) X.A X.env X.xe) (hi : DI' X F tg iter ti) (hg : ∀ F, DG' X F tg g) (hb : ∀ F', Gr X.K F.H F.ι F'.H F'.ι → DSs' X F' body tb) (hc : X.calm = true := by rfl)
    (hs : ∀ x, foldedSetIterable iter X.env x = pure x := by intro _; rfl) : DS' X F (.For tg iter body [] pos) (dFor ti g tb) := by
  refine ⟨fun pins s σ H D I h => PS.imp (ps_for (hp I.ok.frames) hc hi.p (exG_of fun F => (hg F).p) (exS_ofG fun F' g => (hb F' g).p) hs) (fun D σ H z => ?_) pins s σ H D I h⟩
  obtain ⟨σd, G, ι, Dd, ok, ht, L⟩ := z
  refine ⟨σd, G, ι, _, ok, ht, fun J H0 ds W G0 ι0 h0 g0 it q0 => ?_⟩
  have ok0 := ok.to h0 g0
  have gF := ok0.gr
  have hn : G0.length = (Fx.mk H0 ι0).ι.length := h0.len.symm
  rw [hn] at q0
  refine ⟨fun i m σ H => ∃ σd G ι, Ok X.K ⟨H0, ι0⟩ σd G σ H ι ∧ i ≤ ds.length ∧ m = ds.length - i ∧ lp (Fx.mk H0 ι0).ι.length g tb Dd W (ds.drop i) σd G, ⟨ds.length, σd, G0, ι0, ok0.here, Nat.zero_le _, rfl, q0⟩, ?_⟩
  rintro i m σ H ⟨σd, G, ι, ok, hi, rfl, q⟩
  by_cases hlt : i < ds.length
  · rw [List.drop_eq_getElem_cons hlt] at q
    obtain ⟨hW, q⟩ := q
    obtain ⟨go, yl⟩ := it.go i ds[i] G H ι (by simp [hlt]) ok.hg ok.gr hW
    refine .inr ⟨go, fun σ' H' => ∃ σd G ι, Ok X.K ⟨H0, ι0⟩ σd G σ' H' ι ∧ lp (Fx.mk H0 ι0).ι.length g tb Dd W (ds.drop (i + 1)) σd G, fun σ' H' ⟨σd', G', ι', ok', q'⟩ => ⟨ds.length - (i + 1), by omega, σd', G', ι', ok', hlt, rfl, q'⟩, fun x H2 y => ?_⟩
    obtain ⟨h2, g2, r2⟩ := yl x H2 y
    refine ⟨⟨H0, ι0⟩, ds[i], σd, G, ι, _, ok.to h2 g2, r2, q, fun σ3 H3 σd3 G3 ι3 ok3 q3 => ?_⟩
    have nx : ∀ σ' H' σd' G' ι', Ok X.K ⟨H0, ι0⟩ σd' G' σ' H' ι' → Wk (Fx.mk H0 ι0).ι.length (lp (Fx.mk H0 ι0).ι.length g tb Dd W (ds.drop (i + 1))) σd' G' → ∃ σd G ι, Ok X.K ⟨H0, ι0⟩ σd G σ' H' ι ∧ lp (Fx.mk H0 ι0).ι.length g tb Dd W (ds.drop (i + 1)) σd G := fun σ' H' σd' G' ι' ok' q => ok'.wk q
    exact ⟨⟨H0, ι0⟩, gF, σd3, G3, ι3, _, ok3, q3, ⟨nx, fun σ' H' σd' G' ι' ok' q => L.nx σ' H' σd' G' ι' (ok'.re gF) q, nx, fun v H' d G' ι' h' g' r' q' => L.rt v H' d G' ι' h' (gF.trans g') r' q'⟩⟩
  · have e : i = ds.length := by omega
    subst e
    rw [List.drop_eq_nil_of_le (Nat.le_refl _)] at q
    exact .inl ⟨it.stop G H ι ok.hg ok.gr q.1, L.nx σ H σd G ι (ok.re gF) q.2⟩
/-- f(..) that may raise, where the exception goes on -/
def dCallX (n : Nat) (sp : SpX) (Ed : GD → Prop) (t : TDA) : TDE := fun σ G Q => t σ G fun ds G1 => ds.length = n ∧ sp ds G1 Q Ed
theorem de_callX' {C : Addr} {E : XK} {Ed : GD → Prop} {x : Str} {k : Nat} {ps : List Str} {sp : SpX} {p pos : Pos} {e : Expr} {es : List Expr} {t : TDA} (L : LiX X.K F Ed E C) (Fc : FncX X.prog X.w X.K X.mg X.base C x k ps sp) (hr : Room k X.A) (hex : X.ex = [])
    (ha : DA' (X.wish (Air X C E)) F (e :: es) t) (hg : Gl X x := by rfl)
    (hdb : (x == ("__debug__" : Str)) = false := by decide) (he : starEach (e :: es) X.env = (false, eval e X.env) :: starEach es X.env := by exact star_cons rfl) (hpl : (backTo pos (starEach es X.env)).any (·.1) = false := by exact back_any rfl) :
    DE' (X.wish (Air X C E)) F (.Call (.Name x p) (e :: es) [] pos) (dCallX ps.length sp Ed t) := by
  obtain ⟨f, fd, h1, h2, h3, h4⟩ := Fc.ex
  have hx : Passes (CXE C X.prog X.w) (X.wish (Air X C E)) E := fun pins σ H s e s' I h => air_of hex I.unwish h
  refine ⟨PE.imp (pe_call (X := X.wish (Air X C E)) (E := E) h1 hr hg h2 h3 h4 .nil hx ha.p hdb he hpl) fun σ H Qv ⟨σd, G, ι, Q, ok, ht, hq⟩ => ⟨σd, G, ι, _, ok, ht, fun vs H1 ds G1 ι1 h1 g1 r1 q1 => ?_⟩⟩
  exact ⟨ds, G1, ι1, Q, Ed, q1.1, h1, by rw [List.append_nil]; exact r1, q1.2, fun v H' d G' ι' h' g' r' q' => hq v H' d G' ι' h' (g1.trans g') r' q', fun c H' G' ι' h' g' q' => L c H' G' ι' h' ((ok.gr.trans g1).trans g') q'⟩
end
section
variable {P : Program} {w : World} {K : PySem.W.Frag} {mg : Str → Option Value} {base : Heap}
theorem DS'.out {N : List Str} {qual : Str} {scope : Scope} {f : Addr} {cd : Value} {A : Around} {outer : List Env} {s₀ : Shared} {H₀ : Hp} {E : XK} {C : Addr} {F : Fx} {st : Stmt} {t : TDS}
    (h : DS' ((cxOf (CXE C P w) P w K mg base N qual scope f cd A outer s₀ H₀ E).wish (Air (cxOf (CXE C P w) P w K mg base N qual scope f cd A outer s₀ H₀ E) C E)) F st t) : DS' (cxOf (CXE C P w) P w K mg base N qual scope f cd A outer s₀ H₀ E) F st t :=
  ⟨fun pins s σ H D I hw => wpAny_mono (h.p pins s σ H D (I.wish _) hw) (fun _ _ q => q.unwish) fun _ _ z => air_out z⟩
end
end DL
namespace DL
open PySem PySem.Spec L2
open PyProof.Rows hiding St
def dDict0 : TDE := fun _ G Q => Q (.ref G.length) (G ++ [.dct []])
theorem de_dict0' {X : Cx} {F : Fx} {pos : Pos} : DE' X F (.Dict [] [] pos) dDict0 := by
  refine ⟨PE.imp pe_dnewK fun σ H Qv ⟨σd, G, ι, Q, ok, ht, hq⟩ => ?_⟩
  intro p hp
  have hc : CellOk X.K (upd H p (.dK [])) (ι ++ [p]) (.dct []) p := ⟨[], upd_same, rfl⟩
  have hG' : HG X.K (G ++ [.dct []]) (upd H p (.dK [])) (ι ++ [p]) := ok.hg.new hp hc
  have ht' : Q (.ref G.length) (G ++ [.dct []]) := ht
  refine hq _ _ (.ref G.length) (G ++ [.dct []]) (ι ++ [p]) hG' (Gr.free hp) ⟨p, rfl, ?_⟩ ht'
  rw [← ok.hg.len, List.getElem?_append_right (Nat.le_refl _)]
  simp
end DL
namespace TX
open PySem DL TH KT
/-! ### trees of words -/
inductive PT where
  | num (k : Nat)
  | node (w : Str) (xs : List PT)
mutual
def ptD : PT → Dt
  | .num k => .int (k : Nat)
  | .node w xs => .tup (.str w :: ptDs xs)
def ptDs : List PT → List Dt
  | [] => []
  | p :: r => ptD p :: ptDs r
end
def numS (k : Nat) : Str := (toString k : String)
mutual
def flat : PT → List Str
  | .num k => [numS k]
  | .node w xs => w :: flats xs
def flats : List PT → List Str
  | [] => []
  | p :: r => flat p ++ flats r
end
mutual
def dpt : PT → Nat
  | .num _ => 0
  | .node _ xs => dpts xs + 1
def dpts : List PT → Nat
  | [] => 0
  | p :: r => max (dpt p) (dpts r)
end
theorem flats_app : ∀ a b : List PT, flats (a ++ b) = flats a ++ flats b
  | [], b => rfl
  | p :: a, b => by
    show flat p ++ flats (a ++ b) = (flat p ++ flats a) ++ flats b
    rw [flats_app a b, List.append_assoc]
theorem ptDs_map (l : List PT) : ptDs l = l.map ptD := by
  induction l with
  | nil => rfl
  | cons p r ih => show ptD p :: ptDs r = _; rw [ih]; rfl
/-! ### reading: ar the number of parts of a word, nu the number of a word -/
section
variable (ar : Str → Option Nat) (nu : Str → Option Nat)
def step (st : List PT) (w : Str) : Option (List PT) := match nu w with
  | some k => some (st ++ [.num k])
  | none => match ar w with
    | none => none
    | some a => if st.length < a then none else some (st.take (st.length - a) ++ [.node w (st.drop (st.length - a)).reverse])
def run : List Str → Option (List PT)
  | [] => some []
  | w :: ws => (run ws).bind fun st => step ar nu st w
theorem run_cons (w : Str) (ws : List Str) : run ar nu (w :: ws) = (run ar nu ws).bind fun st => step ar nu st w := rfl
/-- what was read is what was written -/
theorem run_flat (hn : ∀ w k, nu w = some k → w = numS k) : ∀ (ws : List Str) (st : List PT), run ar nu ws = some st → flats st.reverse = ws
  | [], st, h => by cases h; rfl
  | w :: ws, st, h => by
    rw [run_cons] at h
    obtain ⟨s0, h0, h1⟩ := Option.bind_eq_some_iff.mp h
    have ih := run_flat hn ws s0 h0
    unfold step at h1
    split at h1
    · rename_i k hk
      cases h1
      rw [List.reverse_append]
      show flat (.num k) ++ flats s0.reverse = w :: ws
      rw [ih, hn w k hk]
      rfl
    · split at h1
      · cases h1
      · rename_i a ha
        split at h1
        · cases h1
        · cases h1
          rw [List.reverse_append]
          show flat (.node w (s0.drop (s0.length - a)).reverse) ++ flats (s0.take (s0.length - a)).reverse = w :: ws
          show w :: (flats (s0.drop (s0.length - a)).reverse ++ flats (s0.take (s0.length - a)).reverse) = w :: ws
          rw [← flats_app, ← List.reverse_append, List.take_append_drop, ih]
end
/-! ### a thing's words -/
def thP : Th → PT
  | .is k => .node "is" [.num k]
  | .many m => .node "many" [.num m]
  | .not a => .node "not" [thP a]
  | .and a b => .node "and" [thP a, thP b]
  | .or a b => .node "or" [thP a, thP b]
  | .alike a b => .node "alike" [thP a, thP b]
  | .says k a => .node "says" [.num k, thP a]
theorem thP_enc : ∀ t : Th, ptD (thP t) = enc t
  | .is k => rfl
  | .many m => rfl
  | .not a => by show Dt.tup [_, ptD (thP a)] = _; rw [thP_enc a]; rfl
  | .and a b => by show Dt.tup [_, ptD (thP a), ptD (thP b)] = _; rw [thP_enc a, thP_enc b]; rfl
  | .or a b => by show Dt.tup [_, ptD (thP a), ptD (thP b)] = _; rw [thP_enc a, thP_enc b]; rfl
  | .alike a b => by show Dt.tup [_, ptD (thP a), ptD (thP b)] = _; rw [thP_enc a, thP_enc b]; rfl
  | .says k a => by show Dt.tup [_, _, ptD (thP a)] = _; rw [thP_enc a]; rfl
/-- all numbers below 8 -/
def Th.low : Th → Prop
  | .is k => k < 8
  | .many m => m < 8
  | .not a => Th.low a
  | .and a b => Th.low a ∧ Th.low b
  | .or a b => Th.low a ∧ Th.low b
  | .alike a b => Th.low a ∧ Th.low b
  | .says k a => k < 8 ∧ Th.low a
section
variable {ar : Str → Option Nat} {nu : Str → Option Nat}
structure Gram (ar : Str → Option Nat) (nu : Str → Option Nat) : Prop where
  num : ∀ k, k < 8 → nu (numS k) = some k
  not_num : ∀ w k, nu w = some k → w = numS k
  is_ : nu "is" = none ∧ ar "is" = some 1
  many_ : nu "many" = none ∧ ar "many" = some 1
  not_ : nu "not" = none ∧ ar "not" = some 1
  and_ : nu "and" = none ∧ ar "and" = some 2
  or_ : nu "or" = none ∧ ar "or" = some 2
  alike_ : nu "alike" = none ∧ ar "alike" = some 2
  says_ : nu "says" = none ∧ ar "says" = some 2
theorem step_num (g : Gram ar nu) {k : Nat} (h : k < 8) (st : List PT) : step ar nu st (numS k) = some (st ++ [.num k]) := by unfold step; rw [g.num k h]
theorem step_1 {w : Str} (h : nu w = none ∧ ar w = some 1) (st : List PT) (a : PT) : step ar nu (st ++ [a]) w = some (st ++ [.node w [a]]) := by
  unfold step
  rw [h.1, h.2]
  show (if (st ++ [a]).length < 1 then none else some ((st ++ [a]).take ((st ++ [a]).length - 1) ++ [PT.node w ((st ++ [a]).drop ((st ++ [a]).length - 1)).reverse])) = _
  rw [if_neg (by simp)]
  have e : (st ++ [a]).length - 1 = st.length := by simp
  rw [e, List.take_left, List.drop_left]
  rfl
theorem step_2 {w : Str} (h : nu w = none ∧ ar w = some 2) (st : List PT) (a b : PT) : step ar nu (st ++ [b] ++ [a]) w = some (st ++ [.node w [a, b]]) := by
  unfold step
  rw [h.1, h.2]
  show (if (st ++ [b] ++ [a]).length < 2 then none else some ((st ++ [b] ++ [a]).take ((st ++ [b] ++ [a]).length - 2) ++ [PT.node w ((st ++ [b] ++ [a]).drop ((st ++ [b] ++ [a]).length - 2)).reverse])) = _
  rw [if_neg (by simp)]
  have e : (st ++ [b] ++ [a]).length - 2 = st.length := by simp
  rw [e, List.append_assoc, List.take_left, List.drop_left]
  rfl
theorem run_app_th (g : Gram ar nu) : ∀ (t : Th) (ws : List Str), Th.low t → run ar nu (flat (thP t) ++ ws) = (run ar nu ws).map (· ++ [thP t])
  | .is k, ws, h => by
    show run ar nu ("is" :: numS k :: ws) = _
    rw [run_cons, run_cons]
    cases run ar nu ws with
    | none => rfl
    | some st =>
      show (step ar nu st (numS k)).bind _ = _
      rw [step_num g h]
      exact step_1 g.is_ st _
  | .many k, ws, h => by
    show run ar nu ("many" :: numS k :: ws) = _
    rw [run_cons, run_cons]
    cases run ar nu ws with
    | none => rfl
    | some st =>
      show (step ar nu st (numS k)).bind _ = _
      rw [step_num g h]
      exact step_1 g.many_ st _
  | .not a, ws, h => by
    show run ar nu ("not" :: ((flat (thP a) ++ []) ++ ws)) = _
    rw [List.append_nil, run_cons, run_app_th g a ws h]
    cases run ar nu ws with
    | none => rfl
    | some st => exact step_1 g.not_ st _
  | .and a b, ws, h => by
    show run ar nu ("and" :: ((flat (thP a) ++ (flat (thP b) ++ [])) ++ ws)) = _
    rw [List.append_nil, List.append_assoc, run_cons, run_app_th g a _ h.1, run_app_th g b ws h.2]
    cases run ar nu ws with
    | none => rfl
    | some st => exact step_2 g.and_ st _ _
  | .or a b, ws, h => by
    show run ar nu ("or" :: ((flat (thP a) ++ (flat (thP b) ++ [])) ++ ws)) = _
    rw [List.append_nil, List.append_assoc, run_cons, run_app_th g a _ h.1, run_app_th g b ws h.2]
    cases run ar nu ws with
    | none => rfl
    | some st => exact step_2 g.or_ st _ _
  | .alike a b, ws, h => by
    show run ar nu ("alike" :: ((flat (thP a) ++ (flat (thP b) ++ [])) ++ ws)) = _
    rw [List.append_nil, List.append_assoc, run_cons, run_app_th g a _ h.1, run_app_th g b ws h.2]
    cases run ar nu ws with
    | none => rfl
    | some st => exact step_2 g.alike_ st _ _
  | .says k a, ws, h => by
    show run ar nu ("says" :: numS k :: ((flat (thP a) ++ []) ++ ws)) = _
    rw [List.append_nil, run_cons, run_cons, run_app_th g a ws h.2]
    cases run ar nu ws with
    | none => rfl
    | some st =>
      show (step ar nu (st ++ [thP a]) (numS k)).bind _ = _
      rw [step_num g h.1]
      exact step_2 g.says_ st _ _
end
end TX
namespace TX
open PySem DL TH KT
/-! ### texts and words -/
def spS : Str := (" " : String)
theorem spS_eq : spS = ⟨#[32]⟩ := by rfl
abbrev joinS (ws : List Str) : Str := Str.join spS ws
abbrev splitS (x : Str) : List Str := Txt.split x spS
def JN : List (List Nat) → List Nat
  | [] => []
  | [x] => x
  | x :: r => x ++ 32 :: JN r
theorem JN_cons (x y : List Nat) (r : List (List Nat)) : JN (x :: y :: r) = x ++ 32 :: JN (y :: r) := rfl
theorem join_list : ∀ ws : List Str, (joinS ws).cps.toList = JN (ws.map fun w => w.cps.toList)
  | [] => rfl
  | [x] => rfl
  | x :: y :: r => by
    show (x ++ spS ++ joinS (y :: r)).cps.toList = x.cps.toList ++ 32 :: JN ((y :: r).map fun w => w.cps.toList)
    rw [← join_list (y :: r)]
    show (x.cps ++ spS.cps ++ (joinS (y :: r)).cps).toList = _
    rw [Array.toList_append, Array.toList_append, spS_eq]
    simp
/-- no word holds a blank -/
abbrev Free (ws : List Str) : Prop := ∀ w ∈ ws, 32 ∉ w.cps.toList
theorem cut_eq {a b r s : List Nat} (ha : 32 ∉ a) (hb : 32 ∉ b) (h : a ++ 32 :: r = b ++ 32 :: s) : a = b ∧ r = s := by
  induction a generalizing b with
  | nil =>
    cases b with
    | nil => exact ⟨rfl, by simpa using h⟩
    | cons y b => simp at h; exact absurd h.1 (by intro z; exact hb (by simp [← z]))
  | cons x a ih =>
    cases b with
    | nil => simp at h; exact absurd h.1 (by intro z; exact ha (by simp [z]))
    | cons y b =>
      simp only [List.cons_append, List.cons.injEq] at h
      obtain ⟨e1, e2⟩ := ih (fun z => ha (List.mem_cons_of_mem _ z)) (fun z => hb (List.mem_cons_of_mem _ z)) h.2
      exact ⟨by rw [h.1, e1], e2⟩
theorem JN_inj : ∀ (a b : List (List Nat)), a ≠ [] → b ≠ [] → (∀ x ∈ a, 32 ∉ x) → (∀ x ∈ b, 32 ∉ x) → JN a = JN b → a = b
  | [], _, h, _, _, _, _ => absurd rfl h
  | _, [], _, h, _, _, _ => absurd rfl h
  | [x], [y], _, _, _, _, h => by have h' : x = y := h; rw [h']
  | [x], y :: z :: s, _, _, ha, _, h => by
    have h' : x = y ++ 32 :: JN (z :: s) := h
    exact absurd (show 32 ∈ x by rw [h']; simp) (ha x List.mem_cons_self)
  | x :: z :: s, [y], _, _, _, hb, h => by
    have h' : x ++ 32 :: JN (z :: s) = y := h
    exact absurd (show 32 ∈ y by rw [← h']; simp) (hb y List.mem_cons_self)
  | x :: z :: s, y :: v :: t, _, _, ha, hb, h => by
    rw [JN_cons, JN_cons] at h
    obtain ⟨e1, e2⟩ := cut_eq (ha x List.mem_cons_self) (hb y List.mem_cons_self) h
    rw [e1, JN_inj (z :: s) (v :: t) (by simp) (by simp) (fun q hq => ha q (List.mem_cons_of_mem _ hq)) (fun q hq => hb q (List.mem_cons_of_mem _ hq)) e2]
theorem split_ne (x : Str) : splitS x ≠ [] := by
  intro h
  have := StrLaws.join_split x spS
  have e : Txt.split x spS = [] := h
  unfold Txt.split at e
  split at e
  · cases e
  · split at e
    · cases e
    · rw [StrLaws.partsBetween_eq] at e
      cases hh : Builtin.Str.occurrences x spS 0 x.length (x.length + 1) with
      | nil => rw [hh] at e; cases e
      | cons a b => rw [hh] at e; cases e
theorem join_split (x : Str) : joinS (splitS x) = x := StrLaws.join_split x spS
theorem split_join {ws : List Str} (h : ws ≠ []) (hf : Free ws) : splitS (joinS ws) = ws := by
  have e : (joinS (splitS (joinS ws))).cps.toList = (joinS ws).cps.toList := by rw [join_split]
  rw [join_list, join_list] at e
  have hs : ∀ p ∈ splitS (joinS ws), 32 ∉ p.cps.toList := by
    show ∀ p ∈ Txt.split (joinS ws) spS, _
    rw [spS_eq]
    exact StrLaws.split_free _ 32
  have := JN_inj _ _ (by simpa using split_ne (joinS ws)) (by simpa using h) (fun x hx => by rw [List.mem_map] at hx; obtain ⟨p, hp, rfl⟩ := hx; exact hs p hp) (fun x hx => by rw [List.mem_map] at hx; obtain ⟨p, hp, rfl⟩ := hx; exact hf p hp) e
  have inj : ∀ (a b : List Str), a.map (fun w => w.cps.toList) = b.map (fun w => w.cps.toList) → a = b := by
    intro a
    induction a with
    | nil => intro b hb; cases b with | nil => rfl | cons _ _ => cases hb
    | cons x a ih =>
      intro b hb
      cases b with
      | nil => cases hb
      | cons y b =>
        simp only [List.map_cons, List.cons.injEq] at hb
        rw [ih b hb.2, Str.ext' (Array.toList_inj.mp hb.1)]
  exact inj _ _ this
theorem join_cons (x : Str) {r : List Str} (h : r ≠ []) : joinS (x :: r) = x ++ spS ++ joinS r := by
  cases r with
  | nil => exact absurd rfl h
  | cons y r => rfl
theorem join_app {a b : List Str} (ha : a ≠ []) (hb : b ≠ []) : joinS (a ++ b) = joinS a ++ spS ++ joinS b := by
  induction a with
  | nil => exact absurd rfl ha
  | cons x a ih =>
    by_cases h : a = []
    · subst h
      exact join_cons x hb
    · rw [List.cons_append, join_cons x (by simp [h]), ih h, join_cons x h]
      simp only [Str.append_assoc]
/-- texts of parts, joined -/
theorem join_texts : ∀ (ls : List (List Str)), (∀ l ∈ ls, l ≠ []) → joinS (ls.map joinS) = joinS ls.flatten
  | [], _ => rfl
  | [l], _ => by simp [Str.join]
  | l :: m :: r, h => by
    have hm : (m :: r).flatten ≠ [] := by
      have := h m (by simp)
      intro z
      rw [List.flatten_cons] at z
      exact this (List.append_eq_nil_iff.mp z).1
    have e : (l :: m :: r).flatten = l ++ (m :: r).flatten := rfl
    rw [e, join_app (h l List.mem_cons_self) hm, List.map_cons, join_cons _ (by simp), join_texts (m :: r) (fun q hq => h q (List.mem_cons_of_mem _ hq))]
end TX
--LAW k02
namespace K02
open PySem PySem.Spec L2 DL TH KT KH KFM
local macro_rules | `(tactic| walk_at "dx") => `(tactic| (try simp only [↓dSeq, ↓dIfS, ↓dOr, ↓dAnd, ↓dNot, ↓dTru, ↓dIsi, ↓dVar, ↓dRet, ↓dC, ↓dNext, ↓dChain, ↓rdI0, ↓rdI, ↓dTest, ↓dOp, ↓endsD, ↓startD, ↓dAndV, ↓dOrV, ↓dNotV, ↓dIf, ↓dCall, ↓dCons, ↓dNil, ↓dTup, ↓dLst, ↓dSet, ↓dAsg, ↓dgName, ↓dgNil, ↓dgCons, ↓dgTup, ↓dDrop, ↓dCB, ↓dMGet, ↓rdLen_eq, ↓rdLen0, ↓rdIx_eq, ↓rdIx0, ↓rdIs, ↓rdEq_eq, ↓rdEq0, ↓rdAdd, ↓rdMul, ↓dUn, ↓dPart, ↓dNoPart, ↓dSl, ↓rdSl_eq, ↓rdSl0, ↓rdList, ↓rdTuple_eq, ↓rdTuple0, ↓rdAll, ↓dAppend, ↓rdAppend_eq, ↓rdAppend0, ↓dPop, ↓isLstC, ↓dFor, ↓diZip, ↓diSeq, ↓seqR_eq, ↓seqR0, ↓diRng1, ↓dWhile, ↓dDict, ↓dPairs, ↓keysD, ↓keyD, get_endz, get_endj, set_endz, set_endj, Option.some.injEq, Cl.lst.injEq, exists_eq', exists_eq, exists_eq_left,
  isi_non, isi_bl, isi_int, isi_str, isi_tup, isi_ref, tru_non, tru_bl, tru_int, tru_tup, tru_ref, len_tup, len_ref, at_tup, at_ref, at_refs, is_non_non, is_bl_bl, is_bl_non, is_non_bl, is_int_non, is_str_non, is_tup_non, is_ref_non, is_int_bl, is_str_bl, is_tup_bl, is_ref_bl, eqs_int, eqs_str, eqs_bl, seq_tup, seq_ref, atI_0, atI_1, atI_2, succ_eq0, zero_eq0, str_inj,
  List.map_cons, List.map_nil, List.length_cons, List.length_nil, List.replicate, List.cons_append, List.nil_append, List.append_nil, List.append_assoc, List.length_append, List.getElem?_cons_zero, List.getElem?_cons_succ, List.set_cons_zero, List.set_cons_succ, if_true, if_false, Bool.not_true, Bool.not_false, Bool.false_eq_true, Bool.or_true, Bool.or_false, Bool.true_or, Bool.false_or, Bool.and_true, Bool.and_false, Bool.true_and, Bool.false_and, Bool.false_xor, Bool.true_xor, Nat.sub_self, Nat.reduceAdd, Nat.reduceSub, decide_true, decide_false, true_and, and_true, ne_eq, String.reduceBEq, String.reduceEq, reduceIte, reduceCtorEq]))
def top (i : Nat) : Stmt := PySem.Challenge.pw_knavehall_k02_whole_texts.main.body.getD i (.Pass ⟨0, 0, 0, 0⟩)
structure Bl (K : PySem.W.Frag) (mg : Str → Option Value) : Prop where
  b_len : mg "len" = none
  b_isinstance : mg "isinstance" = none
  b_int : mg "int" = none
  b_bool : mg "bool" = none
  b_str : mg "str" = none
  b_tuple : mg "tuple" = none
  b_list : mg "list" = none
  b_zip : mg "zip" = none
  b_range : mg "range" = none
  b_max : mg "max" = none
  b_reversed : mg "reversed" = none
  c_MOST_COUNTED : ∃ t, mg "MOST_COUNTED" = some (.int 7 t)
  m_FORMS : ∃ a : Addr, mg "FORMS" = some (.ref a) ∧ Tab (RM K) K a formsD
  own : ∃ C c, OwnX K mg "NoText" "NoWorld" "HallError" C c
abbrev s_form_of : Stmt := top 7
abbrev s_is_within : Stmt := top 8
abbrev s_has_form : Stmt := top 9
abbrev s_is_thing : Stmt := top 10
theorem sc_form_of : FnScope ["word"] ["word"] (defScope s_form_of) := ⟨rfl, rfl, rfl, by decide +kernel, rfl, by decide +kernel, by decide +kernel⟩
theorem sc_is_within : FnScope ["thing", "least", "most"] ["thing", "least", "most"] (defScope s_is_within) := ⟨rfl, rfl, rfl, by decide +kernel, rfl, by decide +kernel, by decide +kernel⟩
theorem sc_has_form : FnScope ["thing", "form"] ["thing"] (defScope s_has_form) := ⟨rfl, rfl, rfl, by decide +kernel, rfl, by decide +kernel, by decide +kernel⟩
theorem sc_is_thing : FnScope ["thing", "many", "most", "left", "whole", "kind", "part"] ["thing", "many"] (defScope s_is_thing) := ⟨rfl, rfl, rfl, by decide +kernel, rfl, by decide +kernel, by decide +kernel⟩
def hasForm : Dt → Bool
  | .tup (.str x :: r) => match formK x with
    | some ks => decide (r.length = ks.length)
    | none => false
  | _ => false
def lim (n : Int) (k : Str) : Int := if k = "guest" then n - 1 else 7
mutual
def isTh (n : Int) : Dt → Bool
  | .tup (.str x :: r) => match formK x with
    | some ks => decide (r.length = ks.length) && isPs n ks r
    | none => false
  | _ => false
def isPs (n : Int) : List Str → List Dt → Bool
  | k :: ks, d :: ds => (if k = "thing" then isTh n d else withinD d 0 (lim n k)) && isPs n ks ds
  | _, _ => true
end
mutual
def nd : Dt → Nat
  | .tup ds => nds ds + 1
  | _ => 1
def nds : List Dt → Nat
  | [] => 0
  | d :: ds => nd d + nds ds
end
section
variable {P : Program} {w : World} {K : PySem.W.Frag} {mg : Str → Option Value} {base : Heap}
def sp_form_of : SpD := fun ds G Q => match ds with
  | [.str x] => Q (formD x) G
  | _ => False
theorem ok_form_of (T : Bl K mg) (Pl : Plc K mg "form_of" s_form_of ["word"]) : Fnc P w K mg base "form_of" 1 ["word"] sp_form_of := by
  have nd := sc_form_of.nd
  refine Pl.fn' sc_form_of fun f cdv A outer s H E hr => ⟨_, fun F => (dss_one' (ds_ret' (de_mget' T.m_FORMS (de_var' 0)))), fun ds G Q hl hsp hb hG => ?_⟩
  unfold sp_form_of at hsp
  split at hsp
  · rename_i x
    walk_at "dx"
    rw [formD_eq]
    exact RetD.all hsp
  · exact hsp.elim

def sp_is_within : SpD := fun ds G Q => match ds with
  | [d, .int l, .int m] => Q (.bl (withinD d l m)) G
  | _ => False
theorem ok_is_within (T : Bl K mg) (Pl : Plc K mg "is_within" s_is_within ["thing", "least", "most"]) : Fnc P w K mg base "is_within" 1 ["thing", "least", "most"] sp_is_within := by
  have nd := sc_is_within.nd
  refine Pl.fn' sc_is_within fun f cdv A outer s H E hr => ⟨_, fun F => (dss_cons' (ds_if' (dt_w' (dw_or' (dt_not' (dt_tru' (de_isi' bt_int (by decide) (de_var' 0) T.b_isinstance T.b_int))) (dw_or1' (dt_tru' (de_isi' bt_bool (by decide) (de_var' 0) T.b_isinstance T.b_bool)))))
  (dss_one' (ds_ret' de_bl'))
  dss_nil')
  (dss_one' (ds_ret' (de_lele' (de_var' 1) (de_var' 0) (de_var' 2))))), fun ds G Q hl hsp hb hG => ?_⟩
  unfold sp_is_within at hsp
  split at hsp
  · rename_i d l m
    cases d with
    | int i =>
      walk_at "dx"
      by_cases h : l ≤ i
      · rw [decide_eq_true h, if_pos rfl]
        refine RetD.all ?_
        simpa [withinD, h] using hsp
      · rw [decide_eq_false h, if_neg Bool.false_ne_true]
        refine RetD.all ?_
        simpa [withinD, h] using hsp
    | _ => walk_at "dx"; exact RetD.all hsp
  · exact hsp.elim

def sp_has_form : SpD := fun ds G Q => match ds with
  | [d] => Q (.bl (hasForm d)) G
  | _ => False
theorem ok_has_form (T : Bl K mg) (f_form_of : Fnc P w K mg base "form_of" 1 ["word"] sp_form_of) (Pl : Plc K mg "has_form" s_has_form ["thing"]) : Fnc P w K mg base "has_form" 2 ["thing"] sp_has_form := by
  have nd := sc_has_form.nd
  refine Pl.fn' sc_has_form fun f cdv A outer s H E hr => ⟨_, fun F => (dss_cons' (ds_if' (dt_w' (dw_or' (dt_not' (dt_tru' (de_isi' bt_tuple (by decide) (de_var' 0) T.b_isinstance T.b_tuple))) (dw_or1' (dt_eq' (de_len' (da_cons' (de_var' 0) da_nil') T.b_len) de_int'))))
  (dss_one' (ds_ret' de_bl'))
  dss_nil')
  (dss_cons' (ds_if' (dt_not' (dt_tru' (de_isi' bt_str (by decide) (de_ix' hr (de_var' 0) de_int') T.b_isinstance T.b_str)))
  (dss_one' (ds_ret' de_bl'))
  dss_nil')
  (dss_cons' (ds_set' (i := 1) nd (de_callF' f_form_of (hr.mono (by decide)) (da_cons' (de_ix' hr (de_var' 0) de_int') da_nil')))
  (dss_one' (ds_ret' (de_and' (de_isnot' (de_var' 1) de_non') (de_one' (de_eq' (de_len' (da_cons' (de_var' 0) da_nil') T.b_len) (de_add' de_int' (de_len' (da_cons' (de_var' 1) da_nil') T.b_len)))))))))), fun ds G Q hl hsp hb hG => ?_⟩
  unfold sp_has_form at hsp
  split at hsp
  · rename_i d
    cases d with
    | tup xs =>
      cases xs with
      | nil => walk_at "dx"; exact RetD.all hsp
      | cons h r =>
        cases h with
        | str x =>
          walk_at "dx"
          show if (!isD (formD x) Dt.non) = true then _ else _
          have e : hasForm (.tup (.str x :: r)) = match formK x with | some ks => decide (r.length = ks.length) | none => false := rfl
          rw [e] at hsp
          cases hk : formK x with
          | none =>
            rw [hk] at hsp
            rw [formD_none hk]
            exact RetD.all hsp
          | some ks =>
            rw [hk] at hsp
            rw [formD_some hk]
            simp only [kindsD]
            walk_at "dx"
            refine RetD.all ?_
            rw [List.length_map]
            have e2 : decide (((r.length + 1 : Nat) : Int) = 1 + (ks.length : Int)) = decide (r.length = ks.length) := decide_eq_decide.mpr ⟨fun h => by omega, fun h => by omega⟩
            rw [e2]
            exact hsp
        | _ => walk_at "dx"; exact RetD.all hsp
    | _ => walk_at "dx"; exact RetD.all hsp
  · exact hsp.elim
end
end K02
--LAW k02
namespace K02
open PySem PySem.Spec L2 DL TH KT KH KFM
local macro_rules | `(tactic| walk_at "dx") => `(tactic| (try simp only [↓dSeq, ↓dIfS, ↓dOr, ↓dAnd, ↓dNot, ↓dTru, ↓dIsi, ↓dVar, ↓dRet, ↓dC, ↓dNext, ↓dChain, ↓rdI0, ↓rdI, ↓dTest, ↓dOp, ↓endsD, ↓startD, ↓dAndV, ↓dOrV, ↓dNotV, ↓dIf, ↓dCall, ↓dCons, ↓dNil, ↓dTup, ↓dLst, ↓dSet, ↓dAsg, ↓dgName, ↓dgNil, ↓dgCons, ↓dgTup, ↓dDrop, ↓dCB, ↓dMGet, ↓rdLen_eq, ↓rdLen0, ↓rdIx_eq, ↓rdIx0, ↓rdIs, ↓rdEq_eq, ↓rdEq0, ↓rdAdd, ↓rdMul, ↓dUn, ↓dPart, ↓dNoPart, ↓dSl, ↓rdSl_eq, ↓rdSl0, ↓rdList, ↓rdTuple_eq, ↓rdTuple0, ↓rdAll, ↓dAppend, ↓rdAppend_eq, ↓rdAppend0, ↓dPop, ↓isLstC, ↓dFor, ↓diZip, ↓diSeq, ↓seqR_eq, ↓seqR0, ↓diRng1, ↓dWhile, ↓dDict, ↓dPairs, ↓keysD, ↓keyD, get_endz, get_endj, set_endz, set_endj, Option.some.injEq, Cl.lst.injEq, exists_eq', exists_eq, exists_eq_left,
  isi_non, isi_bl, isi_int, isi_str, isi_tup, isi_ref, tru_non, tru_bl, tru_int, tru_tup, tru_ref, len_tup, len_ref, at_tup, at_ref, at_refs, is_non_non, is_bl_bl, is_bl_non, is_non_bl, is_int_non, is_str_non, is_tup_non, is_ref_non, is_int_bl, is_str_bl, is_tup_bl, is_ref_bl, eqs_int, eqs_str, eqs_bl, seq_tup, seq_ref, atI_0, atI_1, atI_2, succ_eq0, zero_eq0, str_inj,
  List.map_cons, List.map_nil, List.length_cons, List.length_nil, List.replicate, List.cons_append, List.nil_append, List.append_nil, List.append_assoc, List.length_append, List.getElem?_cons_zero, List.getElem?_cons_succ, List.set_cons_zero, List.set_cons_succ, if_true, if_false, Bool.not_true, Bool.not_false, Bool.false_eq_true, Bool.or_true, Bool.or_false, Bool.true_or, Bool.false_or, Bool.and_true, Bool.and_false, Bool.true_and, Bool.false_and, Bool.false_xor, Bool.true_xor, Nat.sub_self, Nat.reduceAdd, Nat.reduceSub, decide_true, decide_false, true_and, and_true, ne_eq, String.reduceBEq, String.reduceEq, reduceIte, reduceCtorEq]))
/-! ### is_thing -/
theorem spW {d : Dt} {l m : Int} {G : GD} {Q : KD} : sp_is_within [d, .int l, .int m] G Q = Q (.bl (withinD d l m)) G := rfl
theorem spH {d : Dt} {G : GD} {Q : KD} : sp_has_form [d] G Q = Q (.bl (hasForm d)) G := rfl
theorem spF {x : Str} {G : GD} {Q : KD} : sp_form_of [.str x] G Q = Q (formD x) G := rfl
def partsOk (n : Int) : List Str → List Dt → Bool
  | k :: ks, d :: ds => (if k = "thing" then true else withinD d 0 (lim n k)) && partsOk n ks ds
  | _, _ => true
def thingsOf : List Str → List Dt → List Dt
  | k :: ks, d :: ds => if k = "thing" then d :: thingsOf ks ds else thingsOf ks ds
  | _, _ => []
theorem isPs_eq (n : Int) : ∀ (ks : List Str) (ds : List Dt), isPs n ks ds = (partsOk n ks ds && (thingsOf ks ds).all (isTh n))
  | [], _ => by simp [isPs, partsOk, thingsOf]
  | _ :: _, [] => by simp [isPs, partsOk, thingsOf]
  | k :: ks, d :: ds => by
    unfold isPs partsOk thingsOf
    rw [isPs_eq n ks ds]
    by_cases h : k = "thing"
    · simp only [h, if_true, List.all_cons, Bool.true_and]
      cases isTh n d <;> cases partsOk n ks ds <;> simp
    · simp only [h, if_false]
      cases withinD d 0 (lim n k) <;> simp
theorem nds_app : ∀ (a b : List Dt), nds (a ++ b) = nds a + nds b
  | [], b => by simp [nds]
  | d :: a, b => by
    show nd d + nds (a ++ b) = nd d + nds a + nds b
    rw [nds_app a b]; omega
theorem nd_pos : ∀ d : Dt, 1 ≤ nd d := by
  intro d
  cases d <;> simp [nd]
theorem nds_len : ∀ a : List Dt, a.length ≤ nds a
  | [] => Nat.zero_le _
  | d :: a => by
    have := nds_len a
    have := nd_pos d
    show a.length + 1 ≤ nd d + nds a
    omega
theorem things_nds : ∀ (ks : List Str) (ds : List Dt), nds (thingsOf ks ds) ≤ nds ds
  | [], _ => by simp [thingsOf, nds]
  | _ :: _, [] => by simp [thingsOf, nds]
  | k :: ks, d :: ds => by
    have := things_nds ks ds
    unfold thingsOf
    split
    · show nd d + nds (thingsOf ks ds) ≤ nd d + nds ds; omega
    · show nds (thingsOf ks ds) ≤ nd d + nds ds; omega
def dctN (n : Int) : Cl := .dct [(.inr "guest", .int (n - 1)), (.inr "count", .int 7)]
def okKs (ks : List Str) : Prop := ∀ k ∈ ks, k = "guest" ∨ k = "count" ∨ k = "thing"
theorem okKs_form {x : Str} {ks : List Str} (h : formK x = some ks) : okKs ks := by
  unfold formK formsK at h
  simp only [PyProof.Rows.KTD.datumAt] at h
  intro k hk
  repeat' split at h
  all_goals first
    | (cases h; simp at hk; rcases hk with rfl | rfl <;> simp)
    | (cases h; simp at hk; subst hk; simp)
    | cases h
abbrev zG : TDG := dgTup 2 (dgCons 5 (dgCons 6 dgNil))
abbrev zB : TDS := dIfS (dTest (dOp (rdEq false) (dVar 5) (dC (.str "thing")))) (dDrop (dAppend (dVar 3) (dCons (dVar 6) dNil)))
  (dIfS (dNot (dTru (dCall 3 sp_is_within (dCons (dVar 6) (dCons (dC (.int 0)) (dCons (dOp rdIx (dVar 2) (dVar 5)) dNil)))))) (dRet (dC (.bl false))) dNext)
abbrev wC : TDT := dTest (dOp (rdI0 fun i j => .bl (decide (j < i))) (dCB rdLen (dCons (dVar 3) dNil)) (dC (.int 0)))
abbrev wB : TDS := dSeq (dSet 4 (dPop (dVar 3))) (dSeq (dIfS (dNot (dTru (dCall 1 sp_has_form (dCons (dVar 4) dNil)))) (dRet (dC (.bl false))) dNext)
  (dFor (diZip (dCall 1 sp_form_of (dCons (dOp rdIx (dVar 4) (dC (.int 0))) dNil)) (dSl (dVar 4) (dPart (dC (.int 1))) dNoPart)) zG zB))
theorem zip_loop (D : EndsD) (n0 : Nat) (G : GD) (n : Int) (th wh : Dt) : ∀ (ks : List Str) (r acc : List Dt) (k p : Option Dt), ks.length = r.length → okKs ks → acc.length + r.length < sizeLine →
    (partsOk n ks r = true → ∀ k p, D.nx [some th, some (.int n), some (.ref G.length), some (.ref (G.length + 1)), some wh, k, p] (G ++ [dctN n, .lst (acc ++ thingsOf ks r)])) →
    (partsOk n ks r = false → ∀ acc', D.rt (.bl false) (G ++ [dctN n, .lst acc'])) →
    lp n0 zG zB D (fun _ => True) (zipD (ks.map Dt.str) r) [some th, some (.int n), some (.ref G.length), some (.ref (G.length + 1)), some wh, k, p] (G ++ [dctN n, .lst acc])
  | [], [], acc, k, p, _, _, _, h1, _ => by
    refine ⟨trivial, ?_⟩
    have := h1 rfl k p
    simpa [thingsOf] using this
  | [], _ :: _, _, _, _, h, _, _, _, _ => by cases h
  | _ :: _, [], _, _, _, h, _, _, _, _ => by cases h
  | k :: ks, d :: r, acc, k0, p0, hl, hk, hz, h1, h2 => by
    have hk' : okKs ks := fun q hq => hk q (List.mem_cons_of_mem _ hq)
    have hl' : ks.length = r.length := by simpa using hl
    show True ∧ zG (.tup [.str k, d]) _ _ _
    refine ⟨trivial, ?_⟩
    walk_at "dx"
    by_cases e : k = "thing"
    · subst e
      walk_at "dx"
      refine ⟨by have : (d :: r).length = r.length + 1 := rfl; omega, Wk.here ?_⟩
      refine zip_loop D n0 G n th wh ks r (acc ++ [d]) _ _ hl' hk' ?_ (fun hp k p => ?_) (fun hp acc' => ?_)
      · have : (d :: r).length = r.length + 1 := rfl
        rw [List.length_append, List.length_singleton]; omega
      · have := h1 (by simpa [partsOk] using hp) k p
        simpa [thingsOf] using this
      · exact h2 (by simpa [partsOk] using hp) acc'
    · have ev : valD [(.inr "guest", .int (n - 1)), (.inr "count", .int 7)] (.inr k) = some (.int (lim n k)) := by
        rcases hk k List.mem_cons_self with h | h | h
        · subst h; simp [valD, lim]
        · subst h; simp [valD, lim, str_inj]
        · exact absurd h e
      simp only [e, dctN]
      walk_at "dx"
      rw [ev]
      simp only [spW]
      walk_at "dx"
      cases hw : withinD d 0 (lim n k) with
      | false => exact iteT (h2 (by simp [partsOk, e, hw]) acc)
      | true =>
        refine iteF (Wk.here ?_)
        refine zip_loop D n0 G n th wh ks r acc _ _ hl' hk' ?_ (fun hp k' p => ?_) (fun hp acc' => ?_)
        · have : (d :: r).length = r.length + 1 := rfl
          omega
        · have := h1 (by simp [partsOk, e, hw, hp]) k' p
          simpa [thingsOf, e] using this
        · exact h2 (by simp [partsOk, e, hw, hp]) acc'
theorem cut1 (d : Dt) (r : List Dt) : cutD (d :: r) (some 1) none = r := by
  unfold cutD
  have e1 : HT.sIx (d :: r).length 0 (some 1) = 1 := by
    have := HT.sIx_nat (d :: r).length 0 1
    rw [show ((1 : Nat) : Int) = 1 from rfl] at this
    rw [this, List.length_cons]; omega
  have e2 : HT.sIx (d :: r).length (d :: r).length none = (d :: r).length := rfl
  rw [e1, e2]
  simp
theorem last_of {xs : List Dt} (h : xs ≠ []) : ∃ a b, xs = a ++ [b] := ⟨xs.dropLast, xs.getLast h, (List.dropLast_concat_getLast h).symm⟩
theorem whl_loop (D : EndsD) (n0 : Nat) (G : GD) (n : Int) (th : Dt) : ∀ (m : Nat) (st : List Dt) (w k p : Option Dt), nds st < m → nds st < sizeLine →
    (st.all (isTh n) = true → ∀ w k p, D.nx [some th, some (.int n), some (.ref G.length), some (.ref (G.length + 1)), w, k, p] (G ++ [dctN n, .lst []])) →
    (st.all (isTh n) = false → ∀ acc, D.rt (.bl false) (G ++ [dctN n, .lst acc])) →
    whl n0 wC wB D m [some th, some (.int n), some (.ref G.length), some (.ref (G.length + 1)), w, k, p] (G ++ [dctN n, .lst st])
  | 0, _, _, _, _, h, _, _, _ => absurd h (Nat.not_lt_zero _)
  | m + 1, st, w, k, p, hm, hz, h1, h2 => by
    unfold whl
    walk_at "dx"
    by_cases he : st = []
    · subst he
      exact h1 rfl w k p
    · obtain ⟨a, b, rfl⟩ := last_of he
      have en : nds (a ++ [b]) = nds a + nd b := by rw [nds_app]; show nds a + (nd b + 0) = _; omega
      have hlen : (0 : Int) < ((a ++ [b]).length : Nat) := by rw [List.length_append, List.length_singleton]; omega
      rw [decide_eq_true hlen, if_pos rfl]
      have el : (a ++ [b])[(a ++ [b]).length - 1]? = some b := by simp
      simp only [el, List.dropLast_concat]
      walk_at "dx"
      simp only [spH]
      walk_at "dx"
      have ha := nds_len a
      have hb := nd_pos b
      cases hf : hasForm b with
      | false =>
        refine iteT (h2 ?_ a)
        have : isTh n b = false := by
          unfold hasForm at hf
          unfold isTh
          split
          · rename_i x r
            simp only at hf
            split at hf
            · rename_i ks hk
              rw [hf]; rfl
            · rfl
          · rfl
        simp [this]
      | true =>
        refine iteF ?_
        unfold hasForm at hf
        split at hf
        · rename_i x r
          split at hf
          · rename_i ks hk
            have hl : r.length = ks.length := of_decide_eq_true hf
            walk_at "dx"
            simp only [spF, formD_some hk, kindsD, cut1]
            walk_at "dx"
            have eTh : isTh n (.tup (.str x :: r)) = (partsOk n ks r && (thingsOf ks r).all (isTh n)) := by
              unfold isTh
              rw [hk]
              simp only [hl, decide_true, Bool.true_and]
              exact isPs_eq n ks r
            have e2 : nd (.tup (.str x :: r)) = nds r + 2 := by
              show (nd (.str x) + nds r) + 1 = _
              show (1 + nds r) + 1 = _
              omega
            have hr := nds_len r
            have ht := things_nds ks r
            refine zip_loop _ _ G n th _ ks r a k p hl.symm (okKs_form hk) (by omega) (fun hp k p => Wk.here (whl_loop D n0 G n th m (a ++ thingsOf ks r) _ k p ?_ ?_ (fun hq => ?_) (fun hq => ?_))) (fun hp acc' => h2 ?_ acc')
            · rw [nds_app]; omega
            · rw [nds_app]; omega
            · refine h1 ?_
              rw [List.all_append] at hq ⊢
              simp only [List.all_cons, List.all_nil, Bool.and_true]
              rw [eTh, hp, Bool.true_and]
              exact hq
            · refine h2 ?_
              rw [List.all_append] at hq ⊢
              simp only [List.all_cons, List.all_nil, Bool.and_true]
              rw [eTh, hp, Bool.true_and]
              exact hq
            · rw [List.all_append]
              simp only [List.all_cons, List.all_nil, Bool.and_true]
              rw [eTh, hp, Bool.false_and, Bool.and_false]
          · cases hf
        · cases hf
section
variable {P : Program} {w : World} {K : PySem.W.Frag} {mg : Str → Option Value} {base : Heap}
def sp_is_thing : SpD := fun ds G Q => match ds with
  | [d, .int n] => nd d < sizeLine ∧ Q (.bl (isTh n d)) G
  | _ => False
theorem ok_is_thing (T : Bl K mg) (f_form_of : Fnc P w K mg base "form_of" 1 ["word"] sp_form_of) (f_is_within : Fnc P w K mg base "is_within" 1 ["thing", "least", "most"] sp_is_within) (f_has_form : Fnc P w K mg base "has_form" 2 ["thing"] sp_has_form)
    (Pl : Plc K mg "is_thing" s_is_thing ["thing", "many"]) : Fnc P w K mg base "is_thing" 3 ["thing", "many"] sp_is_thing := by
  have nd := sc_is_thing.nd
  refine Pl.fn' sc_is_thing fun f cdv A outer s H E hr => ⟨_, fun F => (dss_cons' (ds_set' (i := 2) nd (de_dict' (dps_cons' de_str' (de_sub' (de_var' 1) de_int') (dps_cons' de_str' (de_gint' T.c_MOST_COUNTED) dps_nil'))))
  (dss_cons' (ds_set' (i := 3) nd (de_lst' (da_cons' (de_var' 0) da_nil')))
  (dss_cons' (ds_while' (fun _ => (dt_gt' (de_len' (da_cons' (de_var' 3) da_nil') T.b_len) de_int'))
  (fun _ => (dss_cons' (ds_set' (i := 4) nd (de_pop' (de_var' 3)))
  (dss_cons' (ds_if' (dt_not' (dt_tru' (de_callF' f_has_form (hr.mono (by decide)) (da_cons' (de_var' 4) da_nil'))))
  (dss_one' (ds_ret' de_bl'))
  dss_nil')
  (dss_one' (ds_for' (di_zip' (de_callF' f_form_of (hr.mono (by decide)) (da_cons' (de_ix' hr (de_var' 4) de_int') da_nil')) (de_sl' (de_var' 4) (do_some' de_int') do_none') T.b_zip) (fun _ => (dg_tup' (n := 2) (dgs_cons' (i := 5) nd (dgs_cons' (i := 6) nd dgs_nil'))))
  (fun _ => (dss_one' (ds_if' (dt_eq' (de_var' 5) de_str')
  (dss_one' (ds_expr' (de_append' (de_var' 3) (da_cons' (de_var' 6) da_nil'))))
  (dss_one' (ds_if' (dt_not' (dt_tru' (de_callF' f_is_within (hr.mono (by decide)) (da_cons' (de_var' 6) (da_cons' de_int' (da_cons' (de_ix' hr (de_var' 2) (de_var' 5)) da_nil'))))))
  (dss_one' (ds_ret' de_bl'))
  dss_nil')))))))))))
  (dss_one' (ds_ret' de_bl'))))), fun ds G Q hl hsp hb hG => ?_⟩
  unfold sp_is_thing at hsp
  split at hsp
  · rename_i d n
    obtain ⟨hn, hq⟩ := hsp
    walk_at "dx"
    refine ⟨by decide, by simp [str_inj], by decide, K02.nds [d] + 1, ?_⟩
    have e1 : K02.nds [d] = K02.nd d := by show K02.nd d + 0 = _; omega
    refine whl_loop _ _ G n d (K02.nds [d] + 1) [d] none none none (Nat.lt_succ_self _) (by rw [e1]; exact hn) (fun h w k p => ?_) (fun h acc => ?_)
    · have h' : isTh n d = true := by simpa using h
      rw [h'] at hq
      exact RetD.pure hG trivial hq
    · have h' : isTh n d = false := by simpa using h
      rw [h'] at hq
      exact RetD.pure hG trivial hq
  · exact hsp.elim
end
end K02
--LAW k02
namespace K02
open PySem PySem.Spec L2 DL TH KT KH KFM
local macro_rules | `(tactic| walk_at "dx") => `(tactic| (try simp only [↓dSeq, ↓dIfS, ↓dOr, ↓dAnd, ↓dNot, ↓dTru, ↓dIsi, ↓dVar, ↓dRet, ↓dC, ↓dNext, ↓dChain, ↓rdI0, ↓rdI, ↓dTest, ↓dOp, ↓endsD, ↓startD, ↓dAndV, ↓dOrV, ↓dNotV, ↓dIf, ↓dCall, ↓dCons, ↓dNil, ↓dTup, ↓dLst, ↓dSet, ↓dAsg, ↓dgName, ↓dgNil, ↓dgCons, ↓dgTup, ↓dDrop, ↓dCB, ↓dMGet, ↓rdLen_eq, ↓rdLen0, ↓rdIx_eq, ↓rdIx0, ↓rdIs, ↓rdEq_eq, ↓rdEq0, ↓rdAdd, ↓rdMul, ↓dUn, ↓dPart, ↓dNoPart, ↓dSl, ↓rdSl_eq, ↓rdSl0, ↓rdList, ↓rdTuple_eq, ↓rdTuple0, ↓rdAll, ↓dAppend, ↓rdAppend_eq, ↓rdAppend0, ↓dPop, ↓isLstC, ↓dFor, ↓diZip, ↓diSeq, ↓seqR_eq, ↓seqR0, ↓diRng1, ↓dWhile, ↓dDict, ↓dPairs, ↓keysD, ↓keyD, get_endz, get_endj, set_endz, set_endj, Option.some.injEq, Cl.lst.injEq, exists_eq', exists_eq, exists_eq_left,
  isi_non, isi_bl, isi_int, isi_str, isi_tup, isi_ref, tru_non, tru_bl, tru_int, tru_tup, tru_ref, len_tup, len_ref, at_tup, at_ref, at_refs, is_non_non, is_bl_bl, is_bl_non, is_non_bl, is_int_non, is_str_non, is_tup_non, is_ref_non, is_int_bl, is_str_bl, is_tup_bl, is_ref_bl, eqs_int, eqs_str, eqs_bl, seq_tup, seq_ref, atI_0, atI_1, atI_2, succ_eq0, zero_eq0, str_inj,
  List.map_cons, List.map_nil, List.length_cons, List.length_nil, List.replicate, List.cons_append, List.nil_append, List.append_nil, List.append_assoc, List.length_append, List.getElem?_cons_zero, List.getElem?_cons_succ, List.set_cons_zero, List.set_cons_succ, if_true, if_false, Bool.not_true, Bool.not_false, Bool.false_eq_true, Bool.or_true, Bool.or_false, Bool.true_or, Bool.false_or, Bool.and_true, Bool.and_false, Bool.true_and, Bool.false_and, Bool.false_xor, Bool.true_xor, Nat.sub_self, Nat.reduceAdd, Nat.reduceSub, decide_true, decide_false, true_and, and_true, ne_eq, String.reduceBEq, String.reduceEq, reduceIte, reduceCtorEq]))
def sD (p : Nat × Th) : Dt := .tup [.int (p.1 : Nat), enc p.2]
def hD (n : Nat) (ss : Sg) : Dt := .tup [.int (n : Nat), .tup (ss.map sD)]
/-! ### the law's cells, things, halls -/
abbrev s_cell : Stmt := top 18
abbrev s_mix : Stmt := top 19
abbrev s_thing : Stmt := top 20
abbrev s_hall : Stmt := top 21
theorem sc_cell : FnScope ["_law_script", "_law_k"] ["_law_script", "_law_k"] (defScope s_cell) := ⟨rfl, rfl, rfl, by decide +kernel, rfl, by decide +kernel, by decide +kernel⟩
theorem sc_mix : FnScope ["_law_cell_here", "_law_prime", "_law_many"] ["_law_cell_here", "_law_prime", "_law_many"] (defScope s_mix) := ⟨rfl, rfl, rfl, by decide +kernel, rfl, by decide +kernel, by decide +kernel⟩
theorem sc_thing : FnScope ["_law_cell_here", "_law_many", "_law_deep", "_law_turn", "_law_guest", "_law_one", "_law_other"] ["_law_cell_here", "_law_many", "_law_deep"] (defScope s_thing) := ⟨rfl, rfl, rfl, by decide +kernel, rfl, by decide +kernel, by decide +kernel⟩
theorem sc_hall : FnScope ["_law_script", "_law_many", "_law_size", "_law_some", "_law_k", "_law_cell_here"] ["_law_script"] (defScope s_hall) := ⟨rfl, rfl, rfl, by decide +kernel, rfl, by decide +kernel, by decide +kernel⟩
def cellI (ns : List Int) (k : Int) : Int := ns.getD k.toNat 0
def mixI (c p m : Int) : Int := c * 48271 % p % m
def leafD (c n : Int) : Dt := if mixI c 9973 9 = 8 then .tup [.str "many", .int (mixI c 9949 8)] else .tup [.str "is", .int (mixI c 9967 n)]
def opW (t : Int) : Str := if t = 5 then "and" else if t = 6 then "or" else "alike"
def thD (n : Int) : Nat → Int → Dt
  | 0, c => leafD c n
  | k + 1, c => if mixI c 9973 9 < 2 then leafD c n else if mixI c 9973 9 = 2 then .tup [.str "many", .int (mixI c 9949 (n + 1))] else if mixI c 9973 9 = 3 then .tup [.str "not", thD n k (c * 3 + 1)]
    else if mixI c 9973 9 = 4 then .tup [.str "says", .int (mixI c 9967 n), thD n k (c * 3 + 1)] else .tup [.str (opW (mixI c 9973 9)), thD n k (c * 3 + 1), thD n k (c * 5 + 2)]
theorem mix_lt {c p m : Int} (hm : 0 < m) : 0 ≤ mixI c p m ∧ mixI c p m < m := ⟨Int.emod_nonneg _ (by omega), Int.emod_lt_of_pos _ hm⟩
section
variable {P : Program} {w : World} {K : PySem.W.Frag} {mg : Str → Option Value} {base : Heap}
def sp_cell : SpD := fun ds G Q => match ds with
  | [.ref i, .int k] => ∃ ns : List Int, G[i]? = some (.fz (ns.map Dt.int)) ∧ 0 ≤ k ∧ Q (.int (cellI ns k)) G
  | _ => False
theorem atI_ints {ns : List Int} {k : Int} (h0 : 0 ≤ k) (h : k < ns.length) : atI (ns.map Dt.int) k = some (.int (cellI ns k)) := by
  obtain ⟨m, rfl⟩ := Int.eq_ofNat_of_zero_le h0
  have hk : m < ns.length := by omega
  refine atI_nat ?_
  rw [List.getElem?_map, List.getElem?_eq_getElem hk]
  unfold cellI
  simp [List.getD, hk]
theorem ok_cell (T : Bl K mg) (Pl : Plc K mg "_law_cell" s_cell ["_law_script", "_law_k"]) : Fnc P w K mg base "_law_cell" 1 ["_law_script", "_law_k"] sp_cell := by
  have nd := sc_cell.nd
  refine Pl.fn' sc_cell fun f cdv A outer s H E hr => ⟨_, fun F => (dss_cons' (ds_if' (dt_lt' (de_var' 1) (de_len' (da_cons' (de_var' 0) da_nil') T.b_len))
  (dss_one' (ds_ret' (de_ix' hr (de_var' 0) (de_var' 1))))
  dss_nil')
  (dss_one' (ds_ret' de_int'))), fun ds G Q hl hsp hb hG => ?_⟩
  unfold sp_cell at hsp
  split at hsp
  · rename_i i k
    obtain ⟨ns, hi, h0, hq⟩ := hsp
    walk_at "dx"
    simp only [hi, List.length_map]
    by_cases hk : k < ns.length
    · rw [decide_eq_true hk]
      refine iteT ?_
      rw [atI_ints h0 hk]
      exact RetD.all hq
    · rw [decide_eq_false hk]
      refine iteF (RetD.all ?_)
      have : cellI ns k = 0 := by
        unfold cellI
        simp [List.getD, show ns.length ≤ k.toNat by omega]
      rw [this] at hq
      exact hq
  · exact hsp.elim
def sp_mix : SpD := fun ds G Q => match ds with
  | [.int c, .int p, .int m] => 0 < p ∧ 0 < m ∧ Q (.int (mixI c p m)) G
  | _ => False
theorem cmul (i j : Int) (h : -(2 ^ 64) < j ∧ j < 2 ^ 64 := by decide) : CMul i j := .inr h
theorem ok_mix (T : Bl K mg) (Pl : Plc K mg "_law_mix" s_mix ["_law_cell_here", "_law_prime", "_law_many"]) : Fnc P w K mg base "_law_mix" 1 ["_law_cell_here", "_law_prime", "_law_many"] sp_mix := by
  have nd := sc_mix.nd
  refine Pl.fn' sc_mix fun f cdv A outer s H E hr => ⟨_, fun F => (dss_one' (ds_ret' (de_mod' (de_mod' (de_mul' (de_var' 0) de_int') (de_var' 1)) (de_var' 2)))), fun ds G Q hl hsp hb hG => ?_⟩
  unfold sp_mix at hsp
  split at hsp
  · rename_i c p m
    obtain ⟨hp, hm, hq⟩ := hsp
    walk_at "dx"
    exact ⟨cmul _ _, hp, hm, RetD.all hq⟩
  · exact hsp.elim
theorem spM {c p m : Int} {G : GD} {Q : KD} : sp_mix [.int c, .int p, .int m] G Q = (0 < p ∧ 0 < m ∧ Q (.int (mixI c p m)) G) := rfl
def sp_thing (k : Nat) : SpD := fun ds G Q => match ds with
  | [.int c, .int n, .int j] => 1 ≤ n ∧ 0 ≤ j ∧ j < k ∧ Q (thD n j.toNat c) G
  | _ => False
theorem spTh {k : Nat} {c n j : Int} {G : GD} {Q : KD} : sp_thing k [.int c, .int n, .int j] G Q = (1 ≤ n ∧ 0 ≤ j ∧ j < k ∧ Q (thD n j.toNat c) G) := rfl
theorem bnd_th (b : Nat) (n : Int) : ∀ (k : Nat) (c : Int), bnd b (thD n k c) := by
  have leaf : ∀ c, bnd b (leafD c n) := fun c => by
    unfold leafD
    split <;> exact ⟨trivial, trivial, trivial⟩
  intro k
  induction k with
  | zero => intro c; exact leaf c
  | succ k ih =>
    intro c
    unfold thD
    repeat' split
    · exact leaf c
    · exact ⟨trivial, trivial, trivial⟩
    · exact ⟨trivial, ih _, trivial⟩
    · exact ⟨trivial, trivial, ih _, trivial⟩
    · exact ⟨trivial, ih _, ih _, trivial⟩
theorem ok_thing_step {k : Nat} (T : Bl K mg) (f__law_mix : Fnc P w K mg base "_law_mix" 1 ["_law_cell_here", "_law_prime", "_law_many"] sp_mix) (f__law_thing : Fnc P w K mg base "_law_thing" (k + 1) ["_law_cell_here", "_law_many", "_law_deep"] (sp_thing k))
    (Pl : Plc K mg "_law_thing" s_thing ["_law_cell_here", "_law_many", "_law_deep"]) : Fnc P w K mg base "_law_thing" (k + 2) ["_law_cell_here", "_law_many", "_law_deep"] (sp_thing (k + 1)) := by
  have nd := sc_thing.nd
  refine Pl.fn' (k := k + 1) sc_thing fun f cdv A outer s H E hr => ⟨_, fun F => (dss_cons' (ds_set' (i := 3) nd (de_callF' f__law_mix (hr.mono (by omega)) (da_cons' (de_var' 0) (da_cons' de_int' (da_cons' de_int' da_nil')))))
  (dss_cons' (ds_set' (i := 4) nd (de_callF' f__law_mix (hr.mono (by omega)) (da_cons' (de_var' 0) (da_cons' de_int' (da_cons' (de_var' 1) da_nil')))))
  (dss_cons' (ds_if' (dt_w' (dw_or' (dt_eq' (de_var' 2) de_int') (dw_or1' (dt_lt' (de_var' 3) de_int'))))
  (dss_cons' (ds_if' (dt_eq' (de_var' 3) de_int')
  (dss_one' (ds_ret' (de_tup' (da_cons' de_str' (da_cons' (de_callF' f__law_mix (hr.mono (by omega)) (da_cons' (de_var' 0) (da_cons' de_int' (da_cons' de_int' da_nil')))) da_nil')))))
  dss_nil')
  (dss_one' (ds_ret' (de_tup' (da_cons' de_str' (da_cons' (de_var' 4) da_nil'))))))
  dss_nil')
  (dss_cons' (ds_set' (i := 5) nd (de_callF' f__law_thing (hr.mono (by omega)) (da_cons' (de_add' (de_mul' (de_var' 0) de_int') de_int') (da_cons' (de_var' 1) (da_cons' (de_sub' (de_var' 2) de_int') da_nil')))))
  (dss_cons' (ds_if' (dt_eq' (de_var' 3) de_int')
  (dss_one' (ds_ret' (de_tup' (da_cons' de_str' (da_cons' (de_callF' f__law_mix (hr.mono (by omega)) (da_cons' (de_var' 0) (da_cons' de_int' (da_cons' (de_add' (de_var' 1) de_int') da_nil')))) da_nil')))))
  dss_nil')
  (dss_cons' (ds_if' (dt_eq' (de_var' 3) de_int')
  (dss_one' (ds_ret' (de_tup' (da_cons' de_str' (da_cons' (de_var' 5) da_nil')))))
  dss_nil')
  (dss_cons' (ds_if' (dt_eq' (de_var' 3) de_int')
  (dss_one' (ds_ret' (de_tup' (da_cons' de_str' (da_cons' (de_var' 4) (da_cons' (de_var' 5) da_nil'))))))
  dss_nil')
  (dss_cons' (ds_set' (i := 6) nd (de_callF' f__law_thing (hr.mono (by omega)) (da_cons' (de_add' (de_mul' (de_var' 0) de_int') de_int') (da_cons' (de_var' 1) (da_cons' (de_sub' (de_var' 2) de_int') da_nil')))))
  (dss_one' (ds_ret' (de_tup' (da_cons' (de_ix' hr (de_lst' (da_cons' de_str' (da_cons' de_str' (da_cons' de_str' (da_cons' de_str' da_nil'))))) (de_sub' (de_var' 3) de_int')) (da_cons' (de_var' 5) (da_cons' (de_var' 6) da_nil')))))))))))))), fun ds G Q hl hsp hb hG => ?_⟩
  unfold sp_thing at hsp
  split at hsp
  · rename_i c n j
    obtain ⟨hn, h0, hj, hq⟩ := hsp
    walk_at "dx"
    simp only [spM]
    walk_at "dx"
    have s2 : 2 ≤ sizeLine := by decide
    have s3 : 3 ≤ sizeLine := by decide
    have s4 : 4 ≤ sizeLine := by decide
    refine ⟨by decide, by decide, by decide, by omega, ?_⟩
    obtain ⟨m0, m9⟩ := mix_lt (c := c) (p := 9973) (m := 9) (by decide)
    have leaf : Q (leafD c n) G → if decide (mixI c 9973 9 = 8) = true then 0 < (9949 : Int) ∧ 0 < (8 : Int) ∧ 2 ≤ sizeLine ∧ RetD G Q (.tup [.str "many", .int (mixI c 9949 8)]) G else 2 ≤ sizeLine ∧ RetD G Q (.tup [.str "is", .int (mixI c 9967 n)]) G := fun h => by
      unfold leafD at h
      by_cases e : mixI c 9973 9 = 8
      · rw [if_pos e] at h
        rw [decide_eq_true e]
        exact iteT ⟨by decide, by decide, s2, RetD.all h⟩
      · rw [if_neg e] at h
        rw [decide_eq_false e]
        exact iteF ⟨s2, RetD.all h⟩
    by_cases ej : j = 0
    · rw [decide_eq_true ej]
      subst ej
      exact iteT (leaf hq)
    · rw [decide_eq_false ej]
      refine iteF ?_
      have ejn : j.toNat = (j - 1).toNat + 1 := by omega
      rw [ejn] at hq
      unfold thD at hq
      by_cases e2 : mixI c 9973 9 < 2
      · rw [if_pos e2] at hq
        rw [decide_eq_true e2]
        exact iteT (leaf hq)
      · rw [if_neg e2] at hq
        rw [decide_eq_false e2]
        refine iteF ⟨cmul _ _, ?_⟩
        simp only [spTh]
        refine ⟨hn, by omega, by omega, ?_⟩
        by_cases e3 : mixI c 9973 9 = 2
        · rw [if_pos e3] at hq
          rw [decide_eq_true e3]
          exact iteT ⟨by decide, by omega, s2, RetD.all hq⟩
        · rw [if_neg e3] at hq
          rw [decide_eq_false e3]
          refine iteF ?_
          by_cases e4 : mixI c 9973 9 = 3
          · rw [if_pos e4] at hq
            rw [decide_eq_true e4]
            exact iteT ⟨s2, RetD.all hq⟩
          · rw [if_neg e4] at hq
            rw [decide_eq_false e4]
            refine iteF ?_
            by_cases e5 : mixI c 9973 9 = 4
            · rw [if_pos e5] at hq
              rw [decide_eq_true e5]
              exact iteT ⟨s3, RetD.all hq⟩
            · rw [if_neg e5] at hq
              rw [decide_eq_false e5]
              refine iteF ⟨cmul _ _, hn, by omega, by omega, s4, ?_⟩
              have ea : atI [Dt.str "and", Dt.str "or", Dt.str "alike", Dt.str "alike"] (mixI c 9973 9 - 5) = some (.str (opW (mixI c 9973 9))) := by
                have h4 : mixI c 9973 9 = 5 ∨ mixI c 9973 9 = 6 ∨ mixI c 9973 9 = 7 ∨ mixI c 9973 9 = 8 := by omega
                rcases h4 with h | h | h | h <;> rw [h] <;> rfl
              rw [ea]
              exact ⟨s3, RetD.pure hG ⟨trivial, bnd_th _ _ _ _, bnd_th _ _ _ _, trivial⟩ hq⟩
  · exact hsp.elim
theorem ok_thing (T : Bl K mg) (f_mix : Fnc P w K mg base "_law_mix" 1 ["_law_cell_here", "_law_prime", "_law_many"] sp_mix) (Pl : Plc K mg "_law_thing" s_thing ["_law_cell_here", "_law_many", "_law_deep"]) :
    ∀ k : Nat, Fnc P w K mg base "_law_thing" (k + 1) ["_law_cell_here", "_law_many", "_law_deep"] (sp_thing k)
  | 0 => (Fnc.imp Pl.never fun ds G Q h => by
      unfold sp_thing at h
      split at h
      · obtain ⟨_, h0, h1, _⟩ := h; omega
      · exact h).mono (Nat.zero_le _)
  | k + 1 => ok_thing_step T f_mix (ok_thing T f_mix Pl k) Pl
/-! ### _law_hall -/
def sayD (ns : List Int) (n : Int) (k : Nat) : Dt := .tup [.int (mixI (cellI ns (1 + k)) 9929 n), thD n (1 + cellI ns (1 + k) % 3).toNat (cellI ns (1 + k))]
def manyD (ns : List Int) : Int := 1 + mixI (cellI ns 0) 9941 5
def saysD (ns : List Int) : List Dt := (List.range (mixI (cellI ns 0) 9931 7).toNat).map (sayD ns (manyD ns))
def hallD (ns : List Int) : Dt := .tup [.int (manyD ns), .tup (saysD ns)]
def sp_hall : SpD := fun ds G Q => match ds with
  | [.ref i] => ∃ ns : List Int, G[i]? = some (.fz (ns.map Dt.int)) ∧ Q (hallD ns) G
  | _ => False
theorem spC {i : Nat} {k : Int} {G : GD} {Q : KD} : sp_cell [.ref i, .int k] G Q = (∃ ns : List Int, G[i]? = some (.fz (ns.map Dt.int)) ∧ 0 ≤ k ∧ Q (.int (cellI ns k)) G) := rfl
theorem get_left {G J : GD} {i : Nat} {c : Cl} (h : G[i]? = some c) : (G ++ J)[i]? = some c := by
  rw [List.getElem?_append_left (by have := (List.getElem?_eq_some_iff.mp h).1; exact this)]
  exact h
abbrev hB : TDS := dSeq (dSet 5 (dCall 2 sp_cell (dCons (dVar 0) (dCons (dOp rdAdd (dC (.int 1)) (dVar 4)) dNil)))) (dDrop (dAppend (dVar 3) (dCons (dTup (dCons (dCall 3 sp_mix (dCons (dVar 5) (dCons (dC (.int 9929)) (dCons (dVar 1) dNil))))
  (dCons (dCall 3 (sp_thing 4) (dCons (dVar 5) (dCons (dVar 1) (dCons (dOp rdAdd (dC (.int 1)) (dOp (rdI (fun _ j => 0 < j) fun i j => .int (i % j)) (dVar 5) (dC (.int 3)))) dNil)))) dNil))) dNil)))
theorem hall_loop (D : EndsD) (n0 : Nat) (G : GD) (ns : List Int) (n : Int) (i : Nat) (hi : G[i]? = some (.fz (ns.map Dt.int))) (hn : 1 ≤ n) (sz : Dt) : ∀ (is : List Nat) (acc : List Dt) (k c : Option Dt), acc.length + is.length < sizeLine →
    (∀ k c, D.nx [some (.ref i), some (.int n), some sz, some (.ref G.length), k, c] (G ++ [.lst (acc ++ is.map (sayD ns n))])) →
    lp n0 (dgName 4) hB D (fun _ => True) (is.map fun (j : Nat) => Dt.int (0 + j)) [some (.ref i), some (.int n), some sz, some (.ref G.length), k, c] (G ++ [.lst acc])
  | [], acc, k, c, _, h => ⟨trivial, by simpa using h k c⟩
  | j :: is, acc, k, c, hz, h => by
    refine ⟨trivial, ?_⟩
    have e2 : (j :: is).length = is.length + 1 := rfl
    walk_at "dx"
    try simp only [spC]
    refine ⟨ns, get_left hi, by omega, ?_⟩
    walk_at "dx"
    simp only [spM]
    refine ⟨by decide, by omega, ?_⟩
    walk_at "dx"
    refine ⟨by decide, ?_⟩
    simp only [spTh]
    have h3 := Int.emod_nonneg (cellI ns (1 + (0 + (j : Int)))) (b := 3) (by decide)
    have h4 := Int.emod_lt_of_pos (cellI ns (1 + (0 + (j : Int)))) (b := 3) (by decide)
    refine ⟨hn, by omega, by omega, by decide, ?_⟩
    walk_at "dx"
    refine ⟨by omega, Wk.here (hall_loop D n0 G ns n i hi hn sz is _ _ _ (by rw [List.length_append, List.length_singleton]; omega) fun k c => ?_)⟩
    have := h k c
    have e0 : (0 : Int) + (j : Int) = j := by omega
    rw [e0, List.append_assoc]
    exact this
theorem ok_hall (T : Bl K mg) (f__law_cell : Fnc P w K mg base "_law_cell" 1 ["_law_script", "_law_k"] sp_cell) (f__law_mix : Fnc P w K mg base "_law_mix" 1 ["_law_cell_here", "_law_prime", "_law_many"] sp_mix)
    (f__law_thing : Fnc P w K mg base "_law_thing" 5 ["_law_cell_here", "_law_many", "_law_deep"] (sp_thing 4)) (Pl : Plc K mg "_law_hall" s_hall ["_law_script"]) : Fnc P w K mg base "_law_hall" 6 ["_law_script"] sp_hall := by
  have nd := sc_hall.nd
  refine Pl.fn' sc_hall fun f cdv A outer s H E hr => ⟨_, fun F => (dss_cons' (ds_set' (i := 1) nd (de_add' de_int' (de_callF' f__law_mix (hr.mono (by decide)) (da_cons' (de_callF' f__law_cell (hr.mono (by decide)) (da_cons' (de_var' 0) (da_cons' de_int' da_nil'))) (da_cons' de_int' (da_cons' de_int' da_nil'))))))
  (dss_cons' (ds_set' (i := 2) nd (de_callF' f__law_mix (hr.mono (by decide)) (da_cons' (de_callF' f__law_cell (hr.mono (by decide)) (da_cons' (de_var' 0) (da_cons' de_int' da_nil'))) (da_cons' de_int' (da_cons' de_int' da_nil')))))
  (dss_cons' (ds_set' (i := 3) nd (de_lst' da_nil'))
  (dss_cons' (ds_for' (di_rng1' (da_cons' (de_var' 2) da_nil') T.b_range) (fun _ => (dg_name' (i := 4) nd))
  (fun _ => (dss_cons' (ds_set' (i := 5) nd (de_callF' f__law_cell (hr.mono (by decide)) (da_cons' (de_var' 0) (da_cons' (de_add' de_int' (de_var' 4)) da_nil'))))
  (dss_one' (ds_expr' (de_append' (de_var' 3) (da_cons' (de_tup' (da_cons' (de_callF' f__law_mix (hr.mono (by decide)) (da_cons' (de_var' 5) (da_cons' de_int' (da_cons' (de_var' 1) da_nil')))) (da_cons' (de_callF' f__law_thing (hr.mono (by decide)) (da_cons' (de_var' 5) (da_cons' (de_var' 1) (da_cons' (de_add' de_int' (de_mod' (de_var' 5) de_int')) da_nil')))) da_nil'))) da_nil')))))))
  (dss_one' (ds_ret' (de_tup' (da_cons' (de_var' 1) (da_cons' (de_tupleof' (da_cons' (de_var' 3) da_nil') T.b_tuple) da_nil'))))))))), fun ds G Q hl hsp hb hG => ?_⟩
  unfold sp_hall at hsp
  split at hsp
  · rename_i i
    obtain ⟨ns, hi, hq⟩ := hsp
    walk_at "dx"
    try simp only [spC]
    refine ⟨ns, hi, by decide, ?_⟩
    walk_at "dx"
    try simp only [spM]
    refine ⟨by decide, by decide, ?_⟩
    walk_at "dx"
    try simp only [spC]
    refine ⟨ns, hi, by decide, ?_⟩
    walk_at "dx"
    try simp only [spM]
    refine ⟨by decide, by decide, ?_⟩
    walk_at "dx"
    obtain ⟨m0, m7⟩ := mix_lt (c := cellI ns 0) (p := 9931) (m := 7) (by decide)
    obtain ⟨q0, q5⟩ := mix_lt (c := cellI ns 0) (p := 9941) (m := 5) (by decide)
    refine ⟨by decide, ⟨by omega, by omega⟩, ?_⟩
    refine hall_loop _ _ G ns (manyD ns) i hi (by unfold manyD; omega) _ (List.range (mixI (cellI ns 0) 9931 7).toNat) [] none none ?_ fun k c => ?_
    · have : sizeLine = 16777216 := sizeLine_eq
      rw [List.length_range]; simp only [List.length_nil]; omega
    · walk_at "dx"
      simp only [cellL]
      walk_at "dx"
      refine ⟨by decide, RetD.pure hG ?_ hq⟩
      refine ⟨trivial, ?_, trivial⟩
      show bnds _ (saysD ns)
      unfold saysD
      generalize List.range _ = l
      induction l with
      | nil => exact trivial
      | cons a l ih => exact ⟨⟨trivial, bnd_th _ _ _ _, trivial⟩, ih⟩
  · exact hsp.elim
end
/-! things and halls as the document has them -/
def leafT (c n : Int) : Th := if mixI c 9973 9 = 8 then .many (mixI c 9949 8).toNat else .is (mixI c 9967 n).toNat
def opT (t : Int) (a b : Th) : Th := if t = 5 then .and a b else if t = 6 then .or a b else .alike a b
def thT (n : Int) : Nat → Int → Th
  | 0, c => leafT c n
  | k + 1, c => if mixI c 9973 9 < 2 then leafT c n else if mixI c 9973 9 = 2 then .many (mixI c 9949 (n + 1)).toNat else if mixI c 9973 9 = 3 then .not (thT n k (c * 3 + 1))
    else if mixI c 9973 9 = 4 then .says (mixI c 9967 n).toNat (thT n k (c * 3 + 1)) else opT (mixI c 9973 9) (thT n k (c * 3 + 1)) (thT n k (c * 5 + 2))
theorem mix_nat {c p m : Int} (hm : 0 < m) : Dt.int (mixI c p m) = .int ((mixI c p m).toNat : Nat) := by
  have := (mix_lt (c := c) (p := p) hm).1
  rw [Int.toNat_of_nonneg this]
theorem leaf_enc {c n : Int} (h : 1 ≤ n) : leafD c n = enc (leafT c n) := by
  unfold leafD leafT
  split
  · rw [mix_nat (by decide)]; rfl
  · rw [mix_nat (by omega)]; rfl
theorem th_enc {n : Int} (h : 1 ≤ n) : ∀ (k : Nat) (c : Int), thD n k c = enc (thT n k c) := by
  intro k
  induction k with
  | zero => intro c; exact leaf_enc h
  | succ k ih =>
    intro c
    unfold thD thT
    split
    · exact leaf_enc h
    split
    · rw [mix_nat (by omega)]; rfl
    split
    · rw [ih]; rfl
    split
    · rw [ih, mix_nat (by omega)]; rfl
    · rw [ih, ih]
      unfold opW opT
      split
      · rfl
      split
      · rfl
      · rfl
theorem leaf_wf {c n : Int} (h : 1 ≤ n) : (leafT c n).wf n.toNat := by
  unfold leafT
  split
  · exact trivial
  · show (mixI c 9967 n).toNat < n.toNat
    have := mix_lt (c := c) (p := 9967) (m := n) (by omega)
    omega
theorem th_wf {n : Int} (h : 1 ≤ n) : ∀ (k : Nat) (c : Int), (thT n k c).wf n.toNat := by
  intro k
  induction k with
  | zero => intro c; exact leaf_wf h
  | succ k ih =>
    intro c
    unfold thT
    split
    · exact leaf_wf h
    split
    · exact trivial
    split
    · exact ih _
    split
    · refine ⟨?_, ih _⟩
      have := mix_lt (c := c) (p := 9967) (m := n) (by omega)
      omega
    · unfold opT
      split
      · exact ⟨ih _, ih _⟩
      split
      · exact ⟨ih _, ih _⟩
      · exact ⟨ih _, ih _⟩
theorem leaf_dep {c n : Int} : (leafT c n).dep = 0 := by
  unfold leafT
  split <;> rfl
theorem th_dep {n : Int} : ∀ (k : Nat) (c : Int), (thT n k c).dep ≤ k := by
  intro k
  induction k with
  | zero => intro c; exact Nat.le_of_eq leaf_dep
  | succ k ih =>
    intro c
    have i1 := ih (c * 3 + 1)
    have i2 := ih (c * 5 + 2)
    unfold thT
    split
    · rw [leaf_dep]; exact Nat.zero_le _
    split
    · exact Nat.zero_le _
    split
    · show (thT n k (c * 3 + 1)).dep + 1 ≤ k + 1; omega
    split
    · show (thT n k (c * 3 + 1)).dep + 1 ≤ k + 1; omega
    · unfold opT
      split
      · show max (thT n k (c * 3 + 1)).dep (thT n k (c * 5 + 2)).dep + 1 ≤ k + 1; omega
      split
      · show max (thT n k (c * 3 + 1)).dep (thT n k (c * 5 + 2)).dep + 1 ≤ k + 1; omega
      · show max (thT n k (c * 3 + 1)).dep (thT n k (c * 5 + 2)).dep + 1 ≤ k + 1; omega
def manyN (ns : List Int) : Nat := (manyD ns).toNat
def sgT (ns : List Int) : Sg := (List.range (mixI (cellI ns 0) 9931 7).toNat).map fun (k : Nat) => ((mixI (cellI ns (1 + k)) 9929 (manyD ns)).toNat, thT (manyD ns) (1 + cellI ns (1 + k) % 3).toNat (cellI ns (1 + k)))
theorem many_le (ns : List Int) : 1 ≤ manyD ns ∧ manyD ns ≤ 5 := by
  obtain ⟨a, b⟩ := mix_lt (c := cellI ns 0) (p := 9941) (m := 5) (by decide)
  unfold manyD
  omega
theorem manyN_le (ns : List Int) : 1 ≤ manyN ns ∧ manyN ns ≤ 5 := by
  have := many_le ns
  unfold manyN
  omega
theorem manyN_eq (ns : List Int) : manyD ns = (manyN ns : Nat) := by
  have := many_le ns
  unfold manyN
  omega
theorem hall_enc (ns : List Int) : hallD ns = hD (manyN ns) (sgT ns) := by
  unfold hallD hD
  rw [← manyN_eq]
  congr 3
  unfold saysD sgT
  rw [List.map_map]
  congr 1
  apply List.map_congr_left
  intro k _
  show sayD ns (manyD ns) k = sD _
  unfold sayD sD
  rw [mix_nat (by have := many_le ns; omega), th_enc (many_le ns).1]
end K02
--LAW k02
namespace K02
open PySem PySem.Spec L2 DL TH KT KH KFM
local macro_rules | `(tactic| walk_at "dx") => `(tactic| (try simp only [↓dSeq, ↓dIfS, ↓dOr, ↓dAnd, ↓dNot, ↓dTru, ↓dIsi, ↓dVar, ↓dRet, ↓dC, ↓dNext, ↓dChain, ↓rdI0, ↓rdI, ↓dTest, ↓dOp, ↓endsD, ↓startD, ↓dAndV, ↓dOrV, ↓dNotV, ↓dIf, ↓dCall, ↓dCons, ↓dNil, ↓dTup, ↓dLst, ↓dSet, ↓dAsg, ↓dgName, ↓dgNil, ↓dgCons, ↓dgTup, ↓dDrop, ↓dCB, ↓dMGet, ↓rdLen_eq, ↓rdLen0, ↓rdIx_eq, ↓rdIx0, ↓rdIs, ↓rdEq_eq, ↓rdEq0, ↓rdAdd, ↓rdMul, ↓dUn, ↓dPart, ↓dNoPart, ↓dSl, ↓rdSl_eq, ↓rdSl0, ↓rdList, ↓rdTuple_eq, ↓rdTuple0, ↓rdAll, ↓dAppend, ↓rdAppend_eq, ↓rdAppend0, ↓dPop, ↓isLstC, ↓dFor, ↓diZip, ↓diSeq, ↓seqR_eq, ↓seqR0, ↓diRng1, ↓dWhile, ↓dDict, ↓dPairs, ↓keysD, ↓keyD, get_endz, get_endj, set_endz, set_endj, Option.some.injEq, Cl.lst.injEq, exists_eq', exists_eq, exists_eq_left,
  isi_non, isi_bl, isi_int, isi_str, isi_tup, isi_ref, tru_non, tru_bl, tru_int, tru_tup, tru_ref, len_tup, len_ref, at_tup, at_ref, at_refs, is_non_non, is_bl_bl, is_bl_non, is_non_bl, is_int_non, is_str_non, is_tup_non, is_ref_non, is_int_bl, is_str_bl, is_tup_bl, is_ref_bl, eqs_int, eqs_str, eqs_bl, seq_tup, seq_ref, atI_0, atI_1, atI_2, succ_eq0, zero_eq0, str_inj,
  List.map_cons, List.map_nil, List.length_cons, List.length_nil, List.replicate, List.cons_append, List.nil_append, List.append_nil, List.append_assoc, List.length_append, List.getElem?_cons_zero, List.getElem?_cons_succ, List.set_cons_zero, List.set_cons_succ, if_true, if_false, Bool.not_true, Bool.not_false, Bool.false_eq_true, Bool.or_true, Bool.or_false, Bool.true_or, Bool.false_or, Bool.and_true, Bool.and_false, Bool.true_and, Bool.false_and, Bool.false_xor, Bool.true_xor, Nat.sub_self, Nat.reduceAdd, Nat.reduceSub, decide_true, decide_false, true_and, and_true, ne_eq, String.reduceBEq, String.reduceEq, reduceIte, reduceCtorEq]))
abbrev s_numbers : Stmt := top 12
abbrev s_put : Stmt := top 13
theorem sc_numbers : FnScope ["many", "numbers", "number"] ["many"] (defScope s_numbers) := ⟨rfl, rfl, rfl, by decide +kernel, rfl, by decide +kernel, by decide +kernel⟩
theorem sc_put : FnScope ["word", "found", "form", "parts", "kind"] ["word", "found"] (defScope s_put) := ⟨rfl, rfl, rfl, by decide +kernel, rfl, by decide +kernel, by decide +kernel⟩
open TX
def numKV (k : Nat) : Key × Dt := (.inr (numS k), .int (k : Nat))
def numsD (n : Nat) : List (Key × Dt) := (List.range n).map numKV
theorem nums_none : ∀ n, n < 8 → valD (numsD n) (.inr (numS n)) = none := by decide +kernel
theorem rng_from {k n : Nat} (h : k < n) : List.range' k (n - k) = k :: List.range' (k + 1) (n - (k + 1)) := by
  have e : n - k = (n - (k + 1)) + 1 := by omega
  rw [e, List.range'_succ]
theorem set_last' {G : GD} {c d : Cl} : (G ++ [c]).set G.length d = G ++ [d] := by
  rw [List.set_append_right _ _ (Nat.le_refl _)]
  simp
section
variable {P : Program} {w : World} {K : PySem.W.Frag} {mg : Str → Option Value} {base : Heap}
def sp_numbers : SpD := fun ds G Q => match ds with
  | [x] => ∃ n : Nat, x = .int (n : Nat) ∧ n ≤ 8 ∧ Q (.ref G.length) (G ++ [.dct (numsD 8)])
  | _ => False
theorem ok_numbers (T : Bl K mg) (Pl : Plc K mg "numbers_by_word" s_numbers ["many"]) : Fnc P w K mg base "numbers_by_word" 1 ["many"] sp_numbers := by
  have nd := sc_numbers.nd
  refine Pl.fn' sc_numbers fun f cdv A outer s H E hr => ⟨_, fun F => (dss_cons' (ds_set' (i := 1) nd de_dict0')
  (dss_cons' (ds_for' (di_rng1' (da_cons' (de_max' (da_cons' (de_var' 0) (da_cons' (de_add' (de_gint' T.c_MOST_COUNTED) de_int') da_nil')) T.b_max) da_nil') T.b_range) (fun _ => (dg_name' (i := 2) nd))
  (fun _ => (dss_one' (ds_put' hr (de_var' 2) (de_var' 1) (de_strof' (da_cons' (de_var' 2) da_nil') T.b_str)))))
  (dss_one' (ds_ret' (de_var' 1))))), fun ds G Q hl hsp hb hG => ?_⟩
  unfold sp_numbers at hsp
  split at hsp
  · obtain ⟨n, rfl, h8, hq⟩ := hsp
    have em : max2 ((n : Nat) : Int) (7 + 1) = 8 := by unfold max2; split <;> omega
    refine rdMM_two ?_
    show (-(2 ^ 62) ≤ max2 ((n : Nat) : Int) (7 + 1) ∧ max2 ((n : Nat) : Int) (7 + 1) < 2 ^ 62) ∧ _
    rw [em]
    refine ⟨⟨by decide, by decide⟩, ?_⟩
    have h8' : (8 : Int).toNat = 8 := rfl
    rw [h8']
    refine lp_ind (fun ds σ G' => ∃ (k : Nat) (s2 : Option Dt), k ≤ 8 ∧ ds = (List.range' k (8 - k)).map (fun (i : Nat) => Dt.int (i : Nat)) ∧ G' = G ++ [.dct (numsD k)] ∧ σ = [some (.int (n : Nat)), some (.ref G.length), s2]) ?_ ?_ _ _ _ ⟨0, none, by decide, by rfl, rfl, rfl⟩
    · rintro σ G' ⟨k, s2, hk, hds, rfl, rfl⟩
      have ek : k = 8 := by
        by_cases h : k = 8
        · exact h
        · rw [rng_from (by omega)] at hds
          cases hds
      subst ek
      exact ⟨trivial, RetD.all hq⟩
    · rintro d r K1 hK1 σ G' ⟨k, s2, hk, hds, rfl, rfl⟩
      have hk8 : k < 8 := by
        by_cases h : k < 8
        · exact h
        · have : 8 - k = 0 := by omega
          rw [this] at hds
          cases hds
      rw [rng_from hk8] at hds
      cases hds
      refine ⟨trivial, ?_⟩
      refine ⟨⟨?_, ?_⟩⟩
      · have h : ∀ k : Fin 8, (((k.val : Nat) : Int)).natAbs.log2 < 1920 := by decide
        exact h ⟨k, hk8⟩
      refine ⟨⟨G.length, numsD k, numS k, rfl, rfl, at_last, nums_none k hk8, ?_, ?_⟩⟩
      · unfold numsD
        rw [List.length_map, List.length_range, sizeLine_eq]
        omega
      refine Wk.here (hK1 _ _ ⟨k + 1, _, hk8, rfl, ?_, rfl⟩)
      rw [set_last']
      unfold numsD
      rw [List.range_succ, List.map_append]
      rfl
  · exact hsp.elim
end
end K02
--LAW k02
namespace K02
open PySem PySem.Spec L2 DL TH KT KH KFM
local macro_rules | `(tactic| walk_at "dx") => `(tactic| (try simp only [↓dSeq, ↓dIfS, ↓dOr, ↓dAnd, ↓dNot, ↓dTru, ↓dIsi, ↓dVar, ↓dRet, ↓dC, ↓dNext, ↓dChain, ↓rdI0, ↓rdI, ↓dTest, ↓dOp, ↓endsD, ↓startD, ↓dAndV, ↓dOrV, ↓dNotV, ↓dIf, ↓dCall, ↓dCons, ↓dNil, ↓dTup, ↓dLst, ↓dSet, ↓dAsg, ↓dgName, ↓dgNil, ↓dgCons, ↓dgTup, ↓dDrop, ↓dCB, ↓dMGet, ↓rdLen_eq, ↓rdLen0, ↓rdIx_eq, ↓rdIx0, ↓rdIs, ↓rdEq_eq, ↓rdEq0, ↓rdAdd, ↓rdMul, ↓dUn, ↓dPart, ↓dNoPart, ↓dSl, ↓rdSl_eq, ↓rdSl0, ↓rdList, ↓rdTuple_eq, ↓rdTuple0, ↓rdAll, ↓dAppend, ↓rdAppend_eq, ↓rdAppend0, ↓dPop, ↓isLstC, ↓dFor, ↓diZip, ↓diSeq, ↓seqR_eq, ↓seqR0, ↓diRng1, ↓dWhile, ↓dDict, ↓dPairs, ↓keysD, ↓keyD, get_endz, get_endj, set_endz, set_endj, Option.some.injEq, Cl.lst.injEq, exists_eq', exists_eq, exists_eq_left,
  isi_non, isi_bl, isi_int, isi_str, isi_tup, isi_ref, tru_non, tru_bl, tru_int, tru_tup, tru_ref, len_tup, len_ref, at_tup, at_ref, at_refs, is_non_non, is_bl_bl, is_bl_non, is_non_bl, is_int_non, is_str_non, is_tup_non, is_ref_non, is_int_bl, is_str_bl, is_tup_bl, is_ref_bl, eqs_int, eqs_str, eqs_bl, seq_tup, seq_ref, atI_0, atI_1, atI_2, succ_eq0, zero_eq0, str_inj,
  List.map_cons, List.map_nil, List.length_cons, List.length_nil, List.replicate, List.cons_append, List.nil_append, List.append_nil, List.append_assoc, List.length_append, List.getElem?_cons_zero, List.getElem?_cons_succ, List.set_cons_zero, List.set_cons_succ, if_true, if_false, Bool.not_true, Bool.not_false, Bool.false_eq_true, Bool.or_true, Bool.or_false, Bool.true_or, Bool.false_or, Bool.and_true, Bool.and_false, Bool.true_and, Bool.false_and, Bool.false_xor, Bool.true_xor, Nat.sub_self, Nat.reduceAdd, Nat.reduceSub, decide_true, decide_false, true_and, and_true, ne_eq, String.reduceBEq, String.reduceEq, reduceIte, reduceCtorEq]))
open TX
theorem bnd_pt_all (n : Nat) : (∀ p : PT, bnd n (ptD p)) ∧ ∀ l : List PT, bnds n (ptDs l) := by
  have h : ∀ k : Nat, (∀ p : PT, sizeOf p < k → bnd n (ptD p)) ∧ ∀ l : List PT, sizeOf l < k → bnds n (ptDs l) := by
    intro k
    induction k with
    | zero => exact ⟨fun _ h => absurd h (Nat.not_lt_zero _), fun _ h => absurd h (Nat.not_lt_zero _)⟩
    | succ k ih =>
      refine ⟨fun p hp => ?_, fun l hl => ?_⟩
      · cases p with
        | num j => trivial
        | node x xs =>
          refine ⟨trivial, ih.2 xs ?_⟩
          simp at hp
          omega
      · cases l with
        | nil => trivial
        | cons p r =>
          simp at hl
          exact ⟨ih.1 p (by omega), ih.2 r (by omega)⟩
  exact ⟨fun p => (h _).1 p (Nat.lt_succ_self _), fun l => (h _).2 l (Nat.lt_succ_self _)⟩
theorem bnd_pt (n : Nat) (p : PT) : bnd n (ptD p) := (bnd_pt_all n).1 p
theorem bnd_pts (n : Nat) (l : List PT) : bnds n (l.map ptD) := by rw [← ptDs_map]; exact (bnd_pt_all n).2 l
theorem bndG_set {n : Nat} {G : GD} {i : Nat} {c : Cl} (h : bndG n G) (hc : bndC n c) : bndG n (G.set i c) := fun d hd => by
  rcases List.mem_or_eq_of_mem_set hd with z | z
  · exact h d z
  · rw [z]; exact hc
def okRep (x : Str) : Prop := (reprText x).length ≤ 900000
section
variable {P : Program} {w : World} {K : PySem.W.Frag} {mg : Str → Option Value} {base : Heap}
def sp_put : SpX := fun ds G Q E => match ds with
  | [x, y] => ∃ (z : Str) (i : Nat) (st : List PT), x = .str z ∧ y = .ref i ∧ G[i]? = some (.lst (st.map ptD)) ∧ okRep z ∧ st.length ≤ 1000 ∧
      (formK z = none → E G) ∧ (∀ ks, formK z = some ks → st.length < ks.length → E G) ∧
      (∀ ks, formK z = some ks → ¬ st.length < ks.length → Q (ptD (.node z (st.drop (st.length - ks.length)).reverse)) (G.set i (.lst ((st.take (st.length - ks.length)).map ptD))))
  | _ => False
theorem ok_put {C : Addr} {c : Value} (T : Bl K mg) (O : OwnX K mg "NoText" "NoWorld" "HallError" C c) (f_form_of : Fnc P w K mg base "form_of" 1 ["word"] sp_form_of) (Pl : Plc K mg "put_together" s_put ["word", "found"]) : FncX P w K mg base C "put_together" 2 ["word", "found"] sp_put := by
  have nd := sc_put.nd
  refine Plc.fnX (k := 1) Pl sc_put fun f cdv A outer s H E hr => ⟨fun Ed => _, fun F Ed L => (dss_cons' (ds_set' (i := 2) nd (de_callF' f_form_of (hr.mono (by first | decide | omega)) (da_cons' (de_var' 0) da_nil')))
  (dss_cons' (ds_if' (dt_is' (de_var' 2) de_non')
  (dss_one' (ds_raise' L PySem.F.excBase_ValueError O.q O.T.m1 (da_cons' (de_fstr' (de_var' 0)) da_nil')))
  dss_nil')
  (dss_cons' (ds_if' (dt_lt' (de_len' (da_cons' (de_var' 1) da_nil') T.b_len) (de_len' (da_cons' (de_var' 2) da_nil') T.b_len))
  (dss_one' (ds_raise' L PySem.F.excBase_ValueError O.q O.T.m1 (da_cons' (de_fstr' (de_var' 0)) da_nil')))
  dss_nil')
  (dss_cons' (ds_set' (i := 3) nd (de_lst' (da_cons' (de_var' 0) da_nil')))
  (dss_cons' (DS'.nox (ds_for' (di_seq' (de_var' 2)) (fun _ => (dg_name' (i := 4) nd))
  (fun _ => (dss_one' (ds_expr' (de_append' (de_var' 3) (da_cons' (de_pop' (de_var' 1)) da_nil')))))))
  (dss_one' (ds_ret' (de_tupleof' (da_cons' (de_var' 3) da_nil') T.b_tuple)))))))), fun ds G Q Ed hl hsp hb hG => ?_⟩
  unfold sp_put at hsp
  split at hsp
  · obtain ⟨z, i, st, rfl, rfl, hi, hrep, hst, h1, h2, h3⟩ := hsp
    unfold okRep at hrep
    refine ⟨rfl, ?_⟩
    show sp_form_of [.str z] G _
    rw [spF]
    cases hk : formK z with
    | none =>
      rw [formD_none hk]
      refine ⟨⟨z, rfl, ?_, fun out => ⟨szl 1, h1 hk⟩⟩⟩
      have : (Str.ofString "no word of a thing: ").length = 20 := by decide +kernel
      omega
    | some ks =>
      rw [formD_some hk]
      refine rdLen_of (len_lst hi) ?_
      refine rdLen_of rfl ?_
      have hkl : (ks.map Dt.str).length = ks.length := List.length_map _
      by_cases hlt : st.length < ks.length
      · refine iteTb (decide_eq_true (by rw [List.length_map, hkl]; omega)) ?_
        refine ⟨⟨z, rfl, ?_, fun out => ⟨szl 1, h2 ks hk hlt⟩⟩⟩
        have : (Str.ofString "too few words behind ").length = 21 := by decide +kernel
        omega
      refine iteFb (decide_eq_false (by rw [List.length_map, hkl]; omega)) ?_
      refine ⟨szl 1, ?_⟩
      have hil : i < G.length := (List.getElem?_eq_some_iff.mp hi).1
      have hself : G.set i (.lst (st.map ptD)) = G := by
        obtain ⟨hlt, e⟩ := List.getElem?_eq_some_iff.mp hi
        rw [← e]
        exact List.set_getElem_self hlt
      refine seqR_tup ?_
      refine lp_ind (fun ds σ G' => ∃ (j : Nat) (s4 : Option Dt), j ≤ ks.length ∧ ds = (ks.drop j).map Dt.str ∧ G' = (G.set i (.lst ((st.take (st.length - j)).map ptD))) ++ [.lst (.str z :: ((st.drop (st.length - j)).reverse).map ptD)] ∧ σ = [some (.str z), some (.ref i), some (kindsD ks), some (.ref G.length), s4]) ?_ ?_ _ _ _
        ⟨0, none, Nat.zero_le _, rfl, by rw [Nat.sub_zero, List.take_length, List.drop_length, hself]; rfl, rfl⟩
      · rintro σ G' ⟨j, s4, hj, hds, rfl, rfl⟩
        have ej : j = ks.length := by
          by_cases h : j = ks.length
          · exact h
          · have : j < ks.length := by omega
            rw [List.drop_eq_getElem_cons this] at hds
            cases hds
        subst ej
        refine ⟨trivial, ?_⟩
        have hlen : (G.set i (.lst ((st.take (st.length - ks.length)).map ptD))).length = G.length := List.length_set
        refine rdTuple_ref (cell_lst (by rw [← hlen]; exact at_last)) ?_
        refine .inr ⟨G.length, Nat.le_refl _, ⟨trivial, bnd_pts _ _⟩, ?_, ?_⟩
        · rw [List.take_left' hlen]
          exact bndG_set hG (bnd_pts _ _)
        · rw [List.take_left' hlen, ← ptDs_map]
          exact h3 ks hk hlt
      · rintro d r K1 hK1 σ G' ⟨j, s4, hj, hds, rfl, rfl⟩
        have hjl : j < ks.length := by
          by_cases h : j < ks.length
          · exact h
          · rw [List.drop_eq_nil_of_le (by omega)] at hds
            cases hds
        rw [List.drop_eq_getElem_cons hjl] at hds
        cases hds
        refine ⟨trivial, ?_⟩
        have hlen : ∀ c : Cl, (G.set i c).length = G.length := fun c => List.length_set
        have hm : st.length - j - 1 < st.length := by omega
        have hpart : ∀ (X : GD) (c : Cl), X.length = G.length → (X ++ [c])[G.length]? = some c := fun X c e => by rw [← e]; exact at_last
        refine ⟨⟨_, hpart _ _ (hlen _)⟩, ?_⟩
        have hfound : ((G.set i (.lst ((st.take (st.length - j)).map ptD))) ++ [.lst (.str z :: ((st.drop (st.length - j)).reverse).map ptD)] : GD)[i]? = some (.lst ((st.take (st.length - j)).map ptD)) := at_prev (at_set hi)
        have hlast : ((st.take (st.length - j)).map ptD)[((st.take (st.length - j)).map ptD).length - 1]? = some (ptD (st[st.length - j - 1]'hm)) := by
          rw [List.length_map, List.length_take, Nat.min_eq_left (by omega), List.getElem?_map, List.getElem?_take_of_lt (by omega), List.getElem?_eq_getElem hm]
          rfl
        show (match ((G.set i (.lst ((st.take (st.length - j)).map ptD))) ++ [.lst (.str z :: ((st.drop (st.length - j)).reverse).map ptD)] : GD)[i]? with
          | some (.lst xs) => (match xs[xs.length - 1]? with | some d => _ | none => False)
          | _ => False)
        rw [hfound]
        dsimp only
        rw [hlast]
        have hset : (((G.set i (.lst ((st.take (st.length - j)).map ptD))) ++ [.lst (.str z :: ((st.drop (st.length - j)).reverse).map ptD)] : GD).set i (.lst ((st.take (st.length - j)).map ptD).dropLast)) = (G.set i (.lst ((st.take (st.length - (j + 1))).map ptD))) ++ [.lst (.str z :: ((st.drop (st.length - j)).reverse).map ptD)] := by
          rw [List.set_append_left _ _ (by rw [hlen]; exact hil), List.set_set, List.dropLast_eq_take, List.length_map, List.length_take, Nat.min_eq_left (by omega), ← List.map_take, List.take_take, Nat.min_eq_left (by omega)]
          rfl
        refine rdAppend_of (xs := .str z :: ((st.drop (st.length - j)).reverse).map ptD) ?_ ?_ ?_
        · rw [hset]
          exact hpart _ _ (hlen _)
        · rw [List.length_cons, List.length_map, List.length_reverse, List.length_drop, sizeLine_eq]
          omega
        refine Wk.here (hK1 _ _ ⟨j + 1, _, hjl, rfl, ?_, rfl⟩)
        rw [hset, List.set_append_right _ _ (by rw [hlen]; exact Nat.le_refl _), hlen, Nat.sub_self]
        have ed : st.drop (st.length - (j + 1)) = st[st.length - j - 1]'hm :: st.drop (st.length - j) := by
          have e1 : st.length - (j + 1) = st.length - j - 1 := by omega
          rw [e1, List.drop_eq_getElem_cons hm]
          have e2 : st.length - j - 1 + 1 = st.length - j := by omega
          rw [e2]
        rw [ed, List.reverse_cons, List.map_append]
        rfl
  · exact hsp.elim
end
end K02
--LAW k02
namespace K02
open PySem PySem.Spec L2 DL TH KT KH KFM
local macro_rules | `(tactic| walk_at "dx") => `(tactic| (try simp only [↓dSeq, ↓dIfS, ↓dOr, ↓dAnd, ↓dNot, ↓dTru, ↓dIsi, ↓dVar, ↓dRet, ↓dC, ↓dNext, ↓dChain, ↓rdI0, ↓rdI, ↓dTest, ↓dOp, ↓endsD, ↓startD, ↓dAndV, ↓dOrV, ↓dNotV, ↓dIf, ↓dCall, ↓dCons, ↓dNil, ↓dTup, ↓dLst, ↓dSet, ↓dAsg, ↓dgName, ↓dgNil, ↓dgCons, ↓dgTup, ↓dDrop, ↓dCB, ↓dMGet, ↓rdLen_eq, ↓rdLen0, ↓rdIx_eq, ↓rdIx0, ↓rdIs, ↓rdEq_eq, ↓rdEq0, ↓rdAdd, ↓rdMul, ↓dUn, ↓dPart, ↓dNoPart, ↓dSl, ↓rdSl_eq, ↓rdSl0, ↓rdList, ↓rdTuple_eq, ↓rdTuple0, ↓rdAll, ↓dAppend, ↓rdAppend_eq, ↓rdAppend0, ↓dPop, ↓isLstC, ↓dFor, ↓diZip, ↓diSeq, ↓seqR_eq, ↓seqR0, ↓diRng1, ↓dWhile, ↓dDict, ↓dPairs, ↓keysD, ↓keyD, get_endz, get_endj, set_endz, set_endj, Option.some.injEq, Cl.lst.injEq, exists_eq', exists_eq, exists_eq_left,
  isi_non, isi_bl, isi_int, isi_str, isi_tup, isi_ref, tru_non, tru_bl, tru_int, tru_tup, tru_ref, len_tup, len_ref, at_tup, at_ref, at_refs, is_non_non, is_bl_bl, is_bl_non, is_non_bl, is_int_non, is_str_non, is_tup_non, is_ref_non, is_int_bl, is_str_bl, is_tup_bl, is_ref_bl, eqs_int, eqs_str, eqs_bl, seq_tup, seq_ref, atI_0, atI_1, atI_2, succ_eq0, zero_eq0, str_inj,
  List.map_cons, List.map_nil, List.length_cons, List.length_nil, List.replicate, List.cons_append, List.nil_append, List.append_nil, List.append_assoc, List.length_append, List.getElem?_cons_zero, List.getElem?_cons_succ, List.set_cons_zero, List.set_cons_succ, if_true, if_false, Bool.not_true, Bool.not_false, Bool.false_eq_true, Bool.or_true, Bool.or_false, Bool.true_or, Bool.false_or, Bool.and_true, Bool.and_false, Bool.true_and, Bool.false_and, Bool.false_xor, Bool.true_xor, Nat.sub_self, Nat.reduceAdd, Nat.reduceSub, decide_true, decide_false, true_and, and_true, ne_eq, String.reduceBEq, String.reduceEq, reduceIte, reduceCtorEq]))
open TX
abbrev s_read : Stmt := top 14
theorem sc_read : FnScope ["text", "many", "numbers", "found", "word"] ["text", "many"] (defScope s_read) := ⟨rfl, rfl, rfl, by decide +kernel, rfl, by decide +kernel, by decide +kernel⟩
def ar (x : Str) : Option Nat := (formK x).map List.length
def nu (x : Str) : Option Nat := match valD (numsD 8) (.inr x) with
  | some (.int k) => some k.toNat
  | _ => none
def readR (n : Int) (x : Str) : Option PT := match run ar nu (splitS x) with
  | some [p] => if isTh n (ptD p) = true then some p else none
  | _ => none
theorem nu_some {x : Str} {d : Dt} (h : valD (numsD 8) (.inr x) = some d) : ∃ k : Nat, d = .int (k : Nat) ∧ nu x = some k ∧ x = numS k := by
  have hm : ∃ kv ∈ numsD 8, kv.1 = .inr x ∧ kv.2 = d := by
    unfold valD at h
    obtain ⟨kv, hf, e⟩ := Option.map_eq_some_iff.mp h
    exact ⟨kv, List.mem_of_find?_eq_some hf, by simpa using List.find?_some hf, e⟩
  obtain ⟨kv, hkv, e1, e2⟩ := hm
  unfold numsD at hkv
  rw [List.mem_map] at hkv
  obtain ⟨k, _, rfl⟩ := hkv
  refine ⟨k, e2.symm, ?_, ?_⟩
  · unfold nu
    rw [h, ← e2]
    show some ((k : Nat) : Int).toNat = _
    rw [Int.toNat_natCast]
  · have : (Sum.inr (numS k) : Key) = .inr x := e1
    exact (Sum.inr.inj this).symm
theorem nu_none {x : Str} (h : valD (numsD 8) (.inr x) = none) : nu x = none := by
  unfold nu
  rw [h]
def okText (x : Str) : Prop := x.length ≤ 1000 ∧ okRep x ∧ (splitS x).length ≤ 1000 ∧ ∀ w ∈ splitS x, okRep w
theorem run_len : ∀ (ws : List Str) (st : List PT), run ar nu ws = some st → st.length ≤ ws.length
  | [], st, h => by cases h; exact Nat.le_refl _
  | w :: ws, st, h => by
    rw [run_cons] at h
    obtain ⟨s0, h0, h1⟩ := Option.bind_eq_some_iff.mp h
    have ih := run_len ws s0 h0
    unfold TX.step at h1
    split at h1
    · cases h1
      rw [List.length_append, List.length_cons, List.length_cons]
      simp
      omega
    · split at h1
      · cases h1
      · split at h1
        · cases h1
        · cases h1
          rw [List.length_append, List.length_take, List.length_cons]
          simp
          omega
theorem run_mono {pre suf : List Str} (h : run ar nu suf = none) : run ar nu (pre ++ suf) = none := by
  induction pre with
  | nil => exact h
  | cons w pre ih =>
    show run ar nu (w :: (pre ++ suf)) = none
    rw [run_cons, ih]
    rfl
theorem readR_none {n : Int} {x : Str} (h : run ar nu (splitS x) = none) : readR n x = none := by unfold readR; rw [h]
theorem at_lst {G : GD} {j : Nat} {xs : List Dt} {i : Nat} {d : Dt} (h : G[j]? = some (.lst xs)) (e : xs[i]? = some d) : atD G (.ref j) (.int (i : Nat)) = some d := by
  rw [at_ref, h]
  exact atI_nat e
section
variable {P : Program} {w : World} {K : PySem.W.Frag} {mg : Str → Option Value} {base : Heap}
def sp_read : SpX := fun ds G Q E => match ds with
  | [x, y] => ∃ (z : Str) (n : Nat), x = .str z ∧ y = .int (n : Nat) ∧ n ≤ 8 ∧ okText z ∧ (∀ p, run ar nu (splitS z) = some [p] → nd (ptD p) < sizeLine) ∧ (readR (n : Nat) z = none → ∀ J, E (G ++ J)) ∧ (∀ p, readR (n : Nat) z = some p → Q (ptD p) G)
  | _ => False
theorem ok_read {C : Addr} {c : Value} (T : Bl K mg) (O : OwnX K mg "NoText" "NoWorld" "HallError" C c) (f_numbers : Fnc P w K mg base "numbers_by_word" 1 ["many"] sp_numbers) (f_put : FncX P w K mg base C "put_together" 2 ["word", "found"] sp_put) (f_is_thing : Fnc P w K mg base "is_thing" 3 ["thing", "many"] sp_is_thing)
    (Pl : Plc K mg "read" s_read ["text", "many"]) : FncX P w K mg base C "read" 4 ["text", "many"] sp_read := by
  have nd := sc_read.nd
  refine Plc.fnX (k := 3) Pl sc_read fun f cdv A outer s H E hr => ⟨fun Ed => _, fun F Ed L => (dss_cons' (ds_set' (i := 2) nd (de_callF' f_numbers (hr.mono (by first | decide | omega)) (da_cons' (de_var' 1) da_nil')))
  (dss_cons' (ds_set' (i := 3) nd (de_lst' da_nil'))
  (dss_cons' (DS'.out (ds_forG' (fun h => air_pass rfl rfl h) (di_rev' (de_split' (de_var' 0) (da_cons' de_str' da_nil')) T.b_reversed) (fun _ => (dg_name' (i := 4) nd))
  (fun F' g => (dss_one' (ds_if' (dt_inD' hr (de_var' 4) (de_var' 2))
  (dss_one' (ds_expr' (de_append' (de_var' 3) (da_cons' (de_ix' hr (de_var' 2) (de_var' 4)) da_nil'))))
  (dss_one' (ds_expr' (de_append' (de_var' 3) (da_cons' (de_callX' (L.mono g) f_put (hr.mono (by first | decide | omega)) rfl (da_cons' (de_var' 4) (da_cons' (de_var' 3) da_nil'))) da_nil')))))))))
  (dss_cons' (ds_if' (dt_w' (dw_or' (dt_ne' (de_len' (da_cons' (de_var' 3) da_nil') T.b_len) de_int') (dw_or1' (dt_not' (dt_tru' (de_callF' f_is_thing (hr.mono (by first | decide | omega)) (da_cons' (de_ix' hr (de_var' 3) de_int') (da_cons' (de_var' 1) da_nil'))))))))
  (dss_one' (ds_raise' L PySem.F.excBase_ValueError O.q O.T.m1 (da_cons' (de_fstr' (de_var' 0)) da_nil')))
  dss_nil')
  (dss_one' (ds_ret' (de_ix' hr (de_var' 3) de_int'))))))), fun ds G Q Ed hl hsp hb hG => ?_⟩
  unfold sp_read at hsp
  split at hsp
  · obtain ⟨z, n, rfl, rfl, h8, ⟨hz, hrz, hns, hrw⟩, hnd, hE, hQ⟩ := hsp
    refine ⟨rfl, n, rfl, h8, ?_⟩
    refine ⟨szl 0, ?_⟩
    refine ⟨⟨z, rfl⟩, ?_⟩
    have hsz : sizeLine = 16777216 := sizeLine_eq
    refine ⟨⟨z, _, rfl, rfl, by decide +kernel, by omega, ?_, ?_⟩⟩
    · show (splitS z).length ≤ sizeLine
      omega
    refine ⟨_, _, rfl, cell_lst at_last, ?_⟩
    show lp _ _ _ _ _ (((splitS z).map Dt.str).reverse) _ _
    rw [← List.map_reverse]
    have lD : (G ++ [Cl.dct (numsD 8)] : GD).length = G.length + 1 := by simp
    have hE2 : ∀ (a b c : Cl), readR (n : Nat) z = none → Ed (G ++ [a] ++ [b] ++ [c]) := fun a b c h => by
      rw [List.append_assoc, List.append_assoc]
      exact hE h _
    have hW3 : ∀ (l : List Dt), cellL (G ++ [.dct (numsD 8)] ++ [.lst l] ++ [.lst ((splitS z).map Dt.str)]) (G ++ [Cl.dct (numsD 8)] ++ [Cl.lst []] : GD).length = some ((splitS z).map Dt.str) := fun l => cell_lst (by
      have e : (G ++ [Cl.dct (numsD 8)] ++ [Cl.lst []] : GD).length = (G ++ [Cl.dct (numsD 8)] ++ [Cl.lst l] : GD).length := by simp
      rw [e]
      exact at_last)
    have hset : ∀ (l l' : List Dt), (G ++ [.dct (numsD 8)] ++ [.lst l] ++ [.lst ((splitS z).map Dt.str)] : GD).set (G ++ [Cl.dct (numsD 8)] : GD).length (.lst l') = G ++ [.dct (numsD 8)] ++ [.lst l'] ++ [.lst ((splitS z).map Dt.str)] := fun l l' => by
      rw [List.set_append_left _ _ (by simp), set_last']
    refine lp_ind (fun ds σ G' => ∃ (pre suf : List Str) (st : List PT) (s4 : Option Dt), splitS z = pre ++ suf ∧ ds = pre.reverse.map Dt.str ∧ run ar nu suf = some st ∧ G' = G ++ [.dct (numsD 8)] ++ [.lst (st.map ptD)] ++ [.lst ((splitS z).map Dt.str)] ∧ σ = [some (.str z), some (.int (n : Nat)), some (.ref G.length), some (.ref (G ++ [Cl.dct (numsD 8)] : GD).length), s4]) ?_ ?_ _ _ _
      ⟨splitS z, [], [], none, by simp, rfl, rfl, rfl, rfl⟩
    · rintro σ G' ⟨pre, suf, st, s4, hW, hds, hrun, rfl, rfl⟩
      refine ⟨hW3 _, ?_⟩
      have hpre : pre = [] := by
        cases hp : pre.reverse with
        | nil => simpa using hp
        | cons a b => rw [hp] at hds; cases hds
      subst hpre
      have hsuf : suf = splitS z := by rw [hW]; rfl
      subst hsuf
      have hfound : (G ++ [.dct (numsD 8)] ++ [.lst (st.map ptD)] ++ [.lst ((splitS z).map Dt.str)] : GD)[(G ++ [Cl.dct (numsD 8)] : GD).length]? = some (.lst (st.map ptD)) := at_prev at_last
      have hbz : (Str.ofString "not the writing of one thing: ").length + (reprText z).length ≤ 1000000 := by
        have : (Str.ofString "not the writing of one thing: ").length = 30 := by decide +kernel
        unfold okRep at hrz
        omega
      refine rdLen_of (len_lst hfound) ?_
      refine rdEq_int ?_
      by_cases h1 : st.length = 1
      · obtain ⟨p, rfl⟩ : ∃ p, st = [p] := by
          match st, h1 with
          | [p], _ => exact ⟨p, rfl⟩
        refine iteFb (by simp) ?_
        refine rdIx_of (d := ptD p) (at_lst (i := 0) hfound rfl) ?_
        refine ⟨rfl, hnd p hrun, ?_⟩
        cases ht : isTh (n : Nat) (ptD p) with
        | true =>
          refine iteFb rfl ?_
          refine rdIx_of (d := ptD p) (at_lst (i := 0) hfound rfl) ?_
          have hr : readR (n : Nat) z = some p := by unfold readR; rw [hrun]; show (if isTh (n : Nat) (ptD p) = true then some p else none) = _; rw [ht]; rfl
          exact RetD.cut ⟨_, by rw [List.append_assoc, List.append_assoc]⟩ hG (bnd_pt _ _) (hQ p hr)
        | false =>
          refine iteTb rfl ?_
          have hr : readR (n : Nat) z = none := by unfold readR; rw [hrun]; show (if isTh (n : Nat) (ptD p) = true then some p else none) = _; rw [ht]; rfl
          exact ⟨⟨z, rfl, hbz, fun out => ⟨szl 1, hE2 _ _ _ hr⟩⟩⟩
      · refine iteTb (by rw [List.length_map]; simp; omega) ?_
        have hr : readR (n : Nat) z = none := by
          unfold readR
          rw [hrun]
          match st, h1 with
          | [], _ => rfl
          | [p], h => exact absurd rfl h
          | _ :: _ :: _, _ => rfl
        exact ⟨⟨z, rfl, hbz, fun out => ⟨szl 1, hE2 _ _ _ hr⟩⟩⟩
    · rintro d r K1 hK1 σ G' ⟨pre, suf, st, s4, hW, hds, hrun, rfl, rfl⟩
      refine ⟨hW3 _, ?_⟩
      obtain ⟨pre', w, rfl⟩ : ∃ pre' w, pre = pre' ++ [w] := by
        cases hp : pre.reverse with
        | nil => rw [hp] at hds; cases hds
        | cons a b => exact ⟨b.reverse, a, by have := congrArg List.reverse hp; simpa using this⟩
      rw [List.reverse_append] at hds
      cases hds
      have hW' : splitS z = pre' ++ (w :: suf) := by rw [hW, List.append_assoc]; rfl
      have hmem : w ∈ splitS z := by rw [hW']; simp
      have hlen : st.length ≤ 1000 := by
        have := run_len suf st hrun
        have h2 : suf.length ≤ (splitS z).length := by rw [hW']; simp; omega
        omega
      have hfound : (G ++ [.dct (numsD 8)] ++ [.lst (st.map ptD)] ++ [.lst ((splitS z).map Dt.str)] : GD)[(G ++ [Cl.dct (numsD 8)] : GD).length]? = some (.lst (st.map ptD)) := at_prev at_last
      have hdict : (G ++ [.dct (numsD 8)] ++ [.lst (st.map ptD)] ++ [.lst ((splitS z).map Dt.str)] : GD)[G.length]? = some (.dct (numsD 8)) := at_prev (at_prev at_last)
      have hfail : run ar nu (w :: suf) = none → readR (n : Nat) z = none := fun h => readR_none (by rw [hW']; exact run_mono h)
      refine ⟨⟨G.length, numsD 8, w, rfl, rfl, hdict, ?_⟩⟩
      cases hv : valD (numsD 8) (.inr w) with
      | some d =>
        obtain ⟨k, rfl, hnu, hx⟩ := nu_some hv
        refine iteT ?_
        refine ⟨⟨_, hfound⟩, ?_⟩
        refine rdIx_of (d := .int (k : Nat)) (by rw [at_refs, hdict]; exact hv) ?_
        refine rdAppend_of hfound (by rw [List.length_map]; omega) ?_
        refine Wk.here (hK1 _ _ ⟨pre', w :: suf, st ++ [.num k], _, hW', rfl, ?_, ?_, rfl⟩)
        · rw [run_cons, hrun]
          show TX.step ar nu st w = _
          unfold TX.step
          rw [hnu]
        · rw [hset, List.map_append]
          rfl
      | none =>
        have hnu := nu_none hv
        have hstep : run ar nu (w :: suf) = match ar w with | none => none | some a => if st.length < a then none else some (st.take (st.length - a) ++ [.node w (st.drop (st.length - a)).reverse]) := by
          rw [run_cons, hrun]
          show TX.step ar nu st w = _
          unfold TX.step
          rw [hnu] <;> (cases ar w <;> rfl)
        refine iteF ?_
        refine ⟨⟨_, hfound⟩, ?_⟩
        refine ⟨rfl, w, _, st, rfl, rfl, hfound, hrw w hmem, hlen, fun hk => hE2 _ _ _ (hfail ?_), fun ks hk hlt => hE2 _ _ _ (hfail ?_), fun ks hk hlt => ?_⟩
        · rw [hstep]
          unfold ar
          rw [hk]
          rfl
        · rw [hstep]
          unfold ar
          rw [hk]
          show (if st.length < ks.length then none else _) = none
          rw [if_pos hlt]
        · rw [hset]
          refine rdAppend_of (at_prev at_last) (by rw [List.length_map, List.length_take]; omega) ?_
          refine Wk.here (hK1 _ _ ⟨pre', w :: suf, st.take (st.length - ks.length) ++ [.node w (st.drop (st.length - ks.length)).reverse], _, hW', rfl, ?_, ?_, rfl⟩)
          · rw [hstep]
            unfold ar
            rw [hk]
            show (if st.length < ks.length then none else _) = _
            rw [if_neg hlt]
          · rw [hset, List.map_append]
            rfl
  · exact hsp.elim
end
end K02
--LAW k02
namespace K02
open PySem PySem.Spec L2 DL TH KT KH KFM
local macro_rules | `(tactic| walk_at "dx") => `(tactic| (try simp only [↓dSeq, ↓dIfS, ↓dOr, ↓dAnd, ↓dNot, ↓dTru, ↓dIsi, ↓dVar, ↓dRet, ↓dC, ↓dNext, ↓dChain, ↓rdI0, ↓rdI, ↓dTest, ↓dOp, ↓endsD, ↓startD, ↓dAndV, ↓dOrV, ↓dNotV, ↓dIf, ↓dCall, ↓dCons, ↓dNil, ↓dTup, ↓dLst, ↓dSet, ↓dAsg, ↓dgName, ↓dgNil, ↓dgCons, ↓dgTup, ↓dDrop, ↓dCB, ↓dMGet, ↓rdLen_eq, ↓rdLen0, ↓rdIx_eq, ↓rdIx0, ↓rdIs, ↓rdEq_eq, ↓rdEq0, ↓rdAdd, ↓rdMul, ↓dUn, ↓dPart, ↓dNoPart, ↓dSl, ↓rdSl_eq, ↓rdSl0, ↓rdList, ↓rdTuple_eq, ↓rdTuple0, ↓rdAll, ↓dAppend, ↓rdAppend_eq, ↓rdAppend0, ↓dPop, ↓isLstC, ↓dFor, ↓diZip, ↓diSeq, ↓seqR_eq, ↓seqR0, ↓diRng1, ↓dWhile, ↓dDict, ↓dPairs, ↓keysD, ↓keyD, get_endz, get_endj, set_endz, set_endj, Option.some.injEq, Cl.lst.injEq, exists_eq', exists_eq, exists_eq_left,
  isi_non, isi_bl, isi_int, isi_str, isi_tup, isi_ref, tru_non, tru_bl, tru_int, tru_tup, tru_ref, len_tup, len_ref, at_tup, at_ref, at_refs, is_non_non, is_bl_bl, is_bl_non, is_non_bl, is_int_non, is_str_non, is_tup_non, is_ref_non, is_int_bl, is_str_bl, is_tup_bl, is_ref_bl, eqs_int, eqs_str, eqs_bl, seq_tup, seq_ref, atI_0, atI_1, atI_2, succ_eq0, zero_eq0, str_inj,
  List.map_cons, List.map_nil, List.length_cons, List.length_nil, List.replicate, List.cons_append, List.nil_append, List.append_nil, List.append_assoc, List.length_append, List.getElem?_cons_zero, List.getElem?_cons_succ, List.set_cons_zero, List.set_cons_succ, if_true, if_false, Bool.not_true, Bool.not_false, Bool.false_eq_true, Bool.or_true, Bool.or_false, Bool.true_or, Bool.false_or, Bool.and_true, Bool.and_false, Bool.true_and, Bool.false_and, Bool.false_xor, Bool.true_xor, Nat.sub_self, Nat.reduceAdd, Nat.reduceSub, decide_true, decide_false, true_and, and_true, ne_eq, String.reduceBEq, String.reduceEq, reduceIte, reduceCtorEq]))
open TX
abbrev s_written : Stmt := top 16
theorem sc_written : FnScope ["thing", "words", "left", "part"] ["thing"] (defScope s_written) := ⟨rfl, rfl, rfl, by decide +kernel, rfl, by decide +kernel, by decide +kernel⟩
/-- what stands on the stack: a word or a tree -/
abbrev It2 := Str ⊕ PT
def itD : It2 → Dt
  | .inl w => .str w
  | .inr p => ptD p
def flI : It2 → List Str
  | .inl w => [w]
  | .inr p => flat p
mutual
def szP : PT → Nat
  | .num _ => 1
  | .node _ xs => szPs xs + 2
def szPs : List PT → Nat
  | [] => 0
  | p :: r => szP p + szPs r
end
def szI : It2 → Nat
  | .inl _ => 1
  | .inr p => szP p
def szIs : List It2 → Nat
  | [] => 0
  | x :: r => szI x + szIs r
theorem szIs_app : ∀ a b : List It2, szIs (a ++ b) = szIs a + szIs b
  | [], b => by simp [szIs]
  | x :: a, b => by
    show szI x + szIs (a ++ b) = szI x + szIs a + szIs b
    rw [szIs_app a b]; omega
theorem szIs_pts : ∀ l : List PT, szIs (l.reverse.map Sum.inr) = szPs l
  | [] => rfl
  | p :: l => by
    rw [List.reverse_cons, List.map_append, szIs_app, szIs_pts l]
    show szPs l + (szP p + 0) = szP p + szPs l
    omega
def flIs (l : List It2) : List Str := l.flatMap flI
theorem flIs_pts : ∀ l : List PT, flIs (l.map Sum.inr) = flats l
  | [] => rfl
  | p :: l => by
    show flat p ++ flIs (l.map Sum.inr) = flat p ++ flats l
    rw [flIs_pts l]
mutual
def lowP : PT → Prop
  | .num k => k < 8
  | .node _ xs => lowPs xs
def lowPs : List PT → Prop
  | [] => True
  | p :: r => lowP p ∧ lowPs r
end
theorem lowPs_mem : ∀ {l : List PT}, lowPs l → ∀ p ∈ l, lowP p
  | [], _, _, h => nomatch h
  | q :: l, h, p, hp => by
    rcases List.mem_cons.mp hp with rfl | hp
    · exact h.1
    · exact lowPs_mem h.2 p hp
theorem num_log {k : Nat} (h : k < 8) : (((k : Nat) : Int)).natAbs.log2 < 1920 := by
  have h' : ∀ k : Fin 8, (((k.val : Nat) : Int)).natAbs.log2 < 1920 := by decide
  exact h' ⟨k, h⟩
def lowI : It2 → Prop
  | .inl _ => True
  | .inr p => lowP p
theorem szI_pos : ∀ x : It2, 0 < szI x
  | .inl _ => Nat.one_pos
  | .inr (.num _) => Nat.one_pos
  | .inr (.node _ xs) => by show 0 < szPs xs + 2; omega
theorem szIs_len : ∀ l : List It2, l.length ≤ szIs l
  | [] => Nat.le_refl _
  | x :: l => by
    have := szIs_len l
    have := szI_pos x
    show l.length + 1 ≤ szI x + szIs l
    omega
theorem szPs_len : ∀ l : List PT, l.length ≤ szPs l
  | [] => Nat.le_refl _
  | p :: l => by
    have := szPs_len l
    have : 0 < szP p := szI_pos (.inr p)
    show l.length + 1 ≤ szP p + szPs l
    omega
theorem whl_by {n0 : Nat} {c : TDT} {tb : TDS} {D : EndsD} (I : Nat → SD → GD → Prop)
    (h : ∀ m σ G (K : SD → GD → Prop), (∀ k, k < m → ∀ σ G, I k σ G → K σ G) → I m σ G → c σ G fun b G1 => if b = true then tb { D with nx := Wk n0 K, ct := Wk n0 K, bk := D.nx } σ G1 else D.nx σ G1) :
    ∀ m' m σ G, m < m' → I m σ G → whl n0 c tb D m' σ G
  | 0, m, _, _, hm, _ => absurd hm (Nat.not_lt_zero _)
  | m' + 1, m, σ, G, hm, hI => h m σ G (whl n0 c tb D m') (fun k hk σ G hI => whl_by I h m' k σ G (by omega) hI) hI
section
variable {P : Program} {w : World} {K : PySem.W.Frag} {mg : Str → Option Value} {base : Heap}
def sp_written : SpD := fun ds G Q => match ds with
  | [x] => ∃ p : PT, x = ptD p ∧ szP p ≤ 400 ∧ (flat p).length ≤ 400 ∧ JoinOk spS (flat p) = true ∧ lowP p ∧ Q (.str (joinS (flat p))) G
  | _ => False
theorem ok_written (T : Bl K mg) (Pl : Plc K mg "written" s_written ["thing"]) : Fnc P w K mg base "written" 1 ["thing"] sp_written := by
  have nd := sc_written.nd
  refine Pl.fn' sc_written fun f cdv A outer s H E hr => ⟨_, fun F => (dss_cons' (ds_set' (i := 1) nd (de_lst' da_nil'))
  (dss_cons' (ds_set' (i := 2) nd (de_lst' (da_cons' (de_var' 0) da_nil')))
  (dss_cons' (ds_while' (fun _ => (dt_gt' (de_len' (da_cons' (de_var' 2) da_nil') T.b_len) de_int'))
  (fun _ => (dss_cons' (ds_set' (i := 3) nd (de_pop' (de_var' 2)))
  (dss_one' (ds_if' (dt_tru' (de_isi' bt_tuple (by decide) (de_var' 3) T.b_isinstance T.b_tuple))
  (dss_one' (ds_expr' (de_extend' (de_var' 2) (da_cons' (de_listrev' (da_cons' (de_var' 3) da_nil') T.b_list T.b_reversed) da_nil'))))
  (dss_one' (ds_expr' (de_append' (de_var' 1) (da_cons' (de_strof' (da_cons' (de_var' 3) da_nil') T.b_str) da_nil')))))))))
  (dss_one' (ds_ret' (de_join' de_str' (da_cons' (de_var' 1) da_nil'))))))), fun ds G Q hl hsp hb hG => ?_⟩
  unfold sp_written at hsp
  split at hsp
  · obtain ⟨p, rfl, hsz, hlen, hjoin, hlow, hq⟩ := hsp
    have hsl : sizeLine = 16777216 := sizeLine_eq
    refine ⟨szl 0, szl 1, ?_⟩
    have lW : ∀ c : Cl, (G ++ [c] : GD).length = G.length + 1 := fun c => by simp
    refine ⟨401, whl_by (fun m σ G' => ∃ (ws : List Str) (st : List It2) (s3 : Option Dt), m = szIs st ∧ ws ++ flIs st.reverse = flat p ∧ szIs st ≤ 400 ∧ (∀ x ∈ st, lowI x) ∧ Grw (G ++ [.lst (ws.map Dt.str)] ++ [.lst (st.map itD)]) G' ∧ σ = [some (ptD p), some (.ref G.length), some (.ref (G ++ [Cl.lst []] : GD).length), s3]) ?_ 401 (szIs [.inr p]) _ _ ?_ ⟨[], [.inr p], none, rfl, ?_, ?_, ?_, Grw.refl, rfl⟩⟩
    · rintro m σ G' K1 hK1 ⟨ws, st, s3, rfl, hfl, hsz', hlow', ⟨J, rfl⟩, rfl⟩
      have hix : (G ++ [Cl.lst []] : GD).length = (G ++ [Cl.lst (ws.map Dt.str)] : GD).length := by simp
      have hleft : (G ++ [.lst (ws.map Dt.str)] ++ [.lst (st.map itD)] ++ J : GD)[(G ++ [Cl.lst []] : GD).length]? = some (.lst (st.map itD)) := by rw [hix]; exact at_more at_last
      have hwl : ws.length ≤ 400 := by have := congrArg List.length hfl; rw [List.length_append] at this; omega
      have hset1 : ∀ (l l' : List Dt) (J : GD), (G ++ [.lst (ws.map Dt.str)] ++ [.lst l] ++ J : GD).set (G ++ [Cl.lst []] : GD).length (.lst l') = G ++ [.lst (ws.map Dt.str)] ++ [.lst l'] ++ J := fun l l' J => by
        rw [hix, List.set_append_left _ _ (by simp), set_last']
      have hset0 : ∀ (l l' m : List Dt) (J : GD), (G ++ [.lst l] ++ [.lst m] ++ J : GD).set G.length (.lst l') = G ++ [.lst l'] ++ [.lst m] ++ J := fun l l' m J => by
        rw [List.set_append_left _ _ (by simp), List.set_append_left _ _ (by simp), set_last']
      have hword : ∀ (m : List Dt) (J : GD), (G ++ [.lst (ws.map Dt.str)] ++ [.lst m] ++ J : GD)[G.length]? = some (.lst (ws.map Dt.str)) := fun m J => at_more (at_prev at_last)
      refine rdLen_of (len_lst hleft) ?_
      rcases List.eq_nil_or_concat st with rfl | ⟨st', x, rfl⟩
      · have ews : ws = flat p := by rw [← hfl]; simp [flIs]
        subst ews
        refine ⟨⟨_, rfl⟩, ?_⟩
        refine ⟨⟨_, _, flat p, rfl, rfl, cell_lst (hword _ _), hjoin, ?_⟩⟩
        have ej : Txt.join (Str.ofString " ") (flat p) = joinS (flat p) := StrLaws.glued_eq_join _ _
        rw [ej]
        exact RetD.cut ⟨_, by rw [List.append_assoc, List.append_assoc]⟩ hG trivial hq
      rw [List.concat_eq_append] at hfl hsz' hlow' hleft hK1 ⊢
      refine iteTb (by simp) ?_
      have hl2 : ((st' ++ [x]).map itD)[((st' ++ [x]).map itD).length - 1]? = some (itD x) := by simp
      have hdl : ((st' ++ [x]).map itD).dropLast = st'.map itD := by simp
      show (match (G ++ [.lst (ws.map Dt.str)] ++ [.lst ((st' ++ [x]).map itD)] ++ J : GD)[(G ++ [Cl.lst []] : GD).length]? with
        | some (.lst xs) => (match xs[xs.length - 1]? with | some d => _ | none => False)
        | _ => False)
      rw [hleft]
      dsimp only
      rw [hl2]
      dsimp only
      rw [hdl, hset1]
      have hszx : szIs (st' ++ [x]) = szIs st' + szI x := by rw [szIs_app]; show _ + (szI x + 0) = _; omega
      have hflx : ws ++ (flI x ++ flIs st'.reverse) = flat p := by rw [← hfl, List.reverse_append]; rfl
      have hlow2 : ∀ y ∈ st', lowI y := fun y hy => hlow' y (List.mem_append_left _ hy)
      have hlx : lowI x := hlow' x (by simp)
      have done : ∀ (u : Str), flI x = [u] → rdAppend G.length (.str u) (G ++ [.lst (ws.map Dt.str)] ++ [.lst (st'.map itD)] ++ J) (fun _ G' => Wk (G ++ [Cl.lst []] ++ [Cl.lst [ptD p]] : GD).length K1 [some (ptD p), some (.ref G.length), some (.ref (G ++ [Cl.lst []] : GD).length), some (itD x)] G') := fun u eu => by
        refine rdAppend_of (hword _ _) (by rw [List.length_map]; omega) ?_
        rw [hset0]
        refine Wk.here (hK1 (szIs st') (by have := szI_pos x; omega) _ _ ⟨ws ++ [u], st', _, rfl, ?_, by omega, hlow2, ⟨J, by rw [List.map_append]; rfl⟩, rfl⟩)
        rw [← hflx, eu, List.append_assoc]
      cases x with
      | inl u =>
        refine ⟨⟨_, hword _ _⟩, ?_⟩
        exact ⟨done u rfl⟩
      | inr q =>
        cases q with
        | num k =>
          refine ⟨⟨_, hword _ _⟩, ?_⟩
          exact ⟨⟨num_log hlx, done (numS k) rfl⟩⟩
        | node u xs =>
          have hszn : szI (.inr (.node u xs)) = szPs xs + 2 := rfl
          have hxl : xs.length ≤ 400 := by have := szPs_len xs; omega
          have hleft2 : ∀ J2 : GD, (G ++ [.lst (ws.map Dt.str)] ++ [.lst (st'.map itD)] ++ J ++ J2 : GD)[(G ++ [Cl.lst []] : GD).length]? = some (.lst (st'.map itD)) := fun J2 => by rw [hix]; exact at_more (at_more at_last)
          refine ⟨⟨_, _, rfl, cell_lst (by have := hleft2 []; rw [List.append_nil] at this; exact this)⟩, ?_⟩
          refine ⟨⟨_, rfl, by rw [List.length_cons, ptDs_map, List.length_map]; omega, ?_⟩⟩
          refine ⟨⟨_, _, st'.map itD, _, rfl, rfl, hleft2 _, at_last, ?_, ?_⟩⟩
          · rw [List.length_map, List.length_reverse, List.length_cons, ptDs_map, List.length_map]
            have := szIs_len st'
            omega
          have has : ∀ cc : Cl, (G ++ [.lst (ws.map Dt.str)] ++ [.lst (st'.map itD)] ++ J ++ [cc] : GD) = G ++ [.lst (ws.map Dt.str)] ++ [.lst (st'.map itD)] ++ (J ++ [cc]) := fun cc => List.append_assoc _ _ _
          have hrev : (st'.map itD ++ (Dt.str u :: ptDs xs).reverse) = (st' ++ ((xs.reverse.map Sum.inr ++ [Sum.inl u] : List It2))).map itD := by
            rw [List.map_append, List.map_append, List.map_map, List.reverse_cons, ptDs_map, ← List.map_reverse]
            rfl
          have hszn2 : szIs (st' ++ ((xs.reverse.map Sum.inr ++ [Sum.inl u] : List It2))) = szIs st' + (szPs xs + 1) := by
            rw [szIs_app, szIs_app, szIs_pts]
            rfl
          rw [has, hset1, hrev]
          refine Wk.here (hK1 (szIs (st' ++ ((xs.reverse.map Sum.inr ++ [Sum.inl u] : List It2)))) ?_ _ _ ⟨ws, st' ++ ((xs.reverse.map Sum.inr ++ [Sum.inl u] : List It2)), _, rfl, ?_, ?_, ?_, ⟨_, rfl⟩, rfl⟩)
          · omega
          · rw [← hflx, List.reverse_append, List.reverse_append, ← List.map_reverse, List.reverse_reverse]
            show ws ++ flIs ([Sum.inl u] ++ xs.map Sum.inr ++ st'.reverse) = ws ++ ((u :: flats xs) ++ flIs st'.reverse)
            unfold flIs
            rw [List.flatMap_append, List.flatMap_append]
            have := flIs_pts xs
            unfold flIs at this
            rw [this]
            rfl
          · omega
          · intro y hy
            rcases List.mem_append.mp hy with hy | hy
            · exact hlow2 y hy
            · rcases List.mem_append.mp hy with hy | hy
              · rw [List.mem_map] at hy
                obtain ⟨q, hq', rfl⟩ := hy
                exact lowPs_mem (show lowPs xs from hlx) q (List.mem_reverse.mp hq')
              · simp at hy
                subst hy
                trivial
    · show szP p + 0 < 401
      omega
    · show [] ++ (flat p ++ []) = flat p
      rw [List.append_nil]; rfl
    · show szP p + 0 ≤ 400
      omega
    · intro x hx
      simp at hx
      subst hx
      exact hlow
  · exact hsp.elim
end
end K02
--LAW k02
namespace K02
open PySem PySem.Spec L2 DL TH KT KH KFM
local macro_rules | `(tactic| walk_at "dx") => `(tactic| (try simp only [↓dSeq, ↓dIfS, ↓dOr, ↓dAnd, ↓dNot, ↓dTru, ↓dIsi, ↓dVar, ↓dRet, ↓dC, ↓dNext, ↓dChain, ↓rdI0, ↓rdI, ↓dTest, ↓dOp, ↓endsD, ↓startD, ↓dAndV, ↓dOrV, ↓dNotV, ↓dIf, ↓dCall, ↓dCons, ↓dNil, ↓dTup, ↓dLst, ↓dSet, ↓dAsg, ↓dgName, ↓dgNil, ↓dgCons, ↓dgTup, ↓dDrop, ↓dCB, ↓dMGet, ↓rdLen_eq, ↓rdLen0, ↓rdIx_eq, ↓rdIx0, ↓rdIs, ↓rdEq_eq, ↓rdEq0, ↓rdAdd, ↓rdMul, ↓dUn, ↓dPart, ↓dNoPart, ↓dSl, ↓rdSl_eq, ↓rdSl0, ↓rdList, ↓rdTuple_eq, ↓rdTuple0, ↓rdAll, ↓dAppend, ↓rdAppend_eq, ↓rdAppend0, ↓dPop, ↓isLstC, ↓dFor, ↓diZip, ↓diSeq, ↓seqR_eq, ↓seqR0, ↓diRng1, ↓dWhile, ↓dDict, ↓dPairs, ↓keysD, ↓keyD, get_endz, get_endj, set_endz, set_endj, Option.some.injEq, Cl.lst.injEq, exists_eq', exists_eq, exists_eq_left,
  isi_non, isi_bl, isi_int, isi_str, isi_tup, isi_ref, tru_non, tru_bl, tru_int, tru_tup, tru_ref, len_tup, len_ref, at_tup, at_ref, at_refs, is_non_non, is_bl_bl, is_bl_non, is_non_bl, is_int_non, is_str_non, is_tup_non, is_ref_non, is_int_bl, is_str_bl, is_tup_bl, is_ref_bl, eqs_int, eqs_str, eqs_bl, seq_tup, seq_ref, atI_0, atI_1, atI_2, succ_eq0, zero_eq0, str_inj,
  List.map_cons, List.map_nil, List.length_cons, List.length_nil, List.replicate, List.cons_append, List.nil_append, List.append_nil, List.append_assoc, List.length_append, List.getElem?_cons_zero, List.getElem?_cons_succ, List.set_cons_zero, List.set_cons_succ, if_true, if_false, Bool.not_true, Bool.not_false, Bool.false_eq_true, Bool.or_true, Bool.or_false, Bool.true_or, Bool.false_or, Bool.and_true, Bool.and_false, Bool.true_and, Bool.false_and, Bool.false_xor, Bool.true_xor, Nat.sub_self, Nat.reduceAdd, Nat.reduceSub, decide_true, decide_false, true_and, and_true, ne_eq, String.reduceBEq, String.reduceEq, reduceIte, reduceCtorEq]))
open TX
abbrev s_l_text : Stmt := top 22
theorem sc_l_text : FnScope ["_law_thing_here", "_law_words", "_law_part"] ["_law_thing_here"] (defScope s_l_text) := ⟨rfl, rfl, rfl, by decide +kernel, rfl, by decide +kernel, by decide +kernel⟩
def wtS (ws : List Str) : Nat := (ws.map (·.length)).sum + ws.length
theorem wtS_app (a b : List Str) : wtS (a ++ b) = wtS a + wtS b := by unfold wtS; rw [List.map_append, List.sum_append, List.length_append]; omega
theorem joinOk_of {ts : List Str} (h : wtS ts ≤ 1000000) : JoinOk spS ts = true := by
  unfold JoinOk
  rw [StrLaws.joinTotal]
  have e : spS.length = 1 := rfl
  rw [e, Nat.mul_one]
  have hs : sizeLine = 16777216 := sizeLine_eq
  have : Builtin.Str.tooLong ((ts.map (·.length)).sum + ts.length) = false := by
    unfold Builtin.Str.tooLong
    unfold wtS at h
    exact decide_eq_false (by omega)
  rw [this]
  rfl
theorem join_len (ws : List Str) : (joinS ws).length ≤ wtS ws := by
  have := StrLaws.join_length_le spS ws
  have e : spS.length = 1 := rfl
  rw [e, Nat.mul_one] at this
  exact this
theorem flat_ne : ∀ p : PT, flat p ≠ []
  | .num _ => by simp [flat]
  | .node _ _ => by simp [flat]
theorem texts_wt : ∀ l : List PT, wtS (l.map fun q => joinS (flat q)) ≤ 2 * wtS (flats l)
  | [] => Nat.le_refl _
  | q :: l => by
    have ih := texts_wt l
    have hj := join_len (flat q)
    have hne : 1 ≤ wtS (flat q) := by
      have := List.length_pos_iff.mpr (flat_ne q)
      unfold wtS
      omega
    have e1 : wtS ((q :: l).map fun q => joinS (flat q)) = ((joinS (flat q)).length + 1) + wtS (l.map fun q => joinS (flat q)) := by
      unfold wtS
      rw [List.map_cons, List.map_cons, List.sum_cons, List.length_cons]
      omega
    have e2 : wtS (flats (q :: l)) = wtS (flat q) + wtS (flats l) := wtS_app _ _
    omega
theorem text_join (u : Str) (xs : List PT) : joinS (u :: xs.map fun q => joinS (flat q)) = joinS (flat (.node u xs)) := by
  have h := join_texts ([u] :: xs.map flat) (fun l hl => by
    rcases List.mem_cons.mp hl with rfl | hl
    · simp
    · rw [List.mem_map] at hl
      obtain ⟨q, _, rfl⟩ := hl
      exact flat_ne q)
  have e1 : ([u] :: xs.map flat).map joinS = u :: xs.map fun q => joinS (flat q) := by
    rw [List.map_cons, List.map_map]
    rfl
  have e2 : ([u] :: xs.map flat).flatten = flat (.node u xs) := by
    show [u] ++ (xs.map flat).flatten = u :: flats xs
    have : ∀ l : List PT, (l.map flat).flatten = flats l := fun l => by
      induction l with
      | nil => rfl
      | cons q l ih => show flat q ++ (l.map flat).flatten = flat q ++ flats l; rw [ih]
    rw [this]
    rfl
  rw [e1, e2] at h
  exact h
theorem dpts_mem : ∀ {l : List PT} {q : PT}, q ∈ l → dpt q ≤ dpts l
  | p :: l, q, h => by
    show dpt q ≤ max (dpt p) (dpts l)
    rcases List.mem_cons.mp h with rfl | h
    · omega
    · have := dpts_mem h
      omega
theorem wt_mem : ∀ {l : List PT} {q : PT}, q ∈ l → wtS (flat q) ≤ wtS (flats l)
  | p :: l, q, h => by
    have e2 : wtS (flats (p :: l)) = wtS (flat p) + wtS (flats l) := wtS_app _ _
    rcases List.mem_cons.mp h with rfl | h
    · omega
    · have := wt_mem h
      omega
section
variable {P : Program} {w : World} {K : PySem.W.Frag} {mg : Str → Option Value} {base : Heap}
def sp_l_text (d : Nat) : SpD := fun ds G Q => match ds with
  | [x] => ∃ (u : Str) (xs : List PT), x = ptD (.node u xs) ∧ dpts xs < d ∧ wtS (flat (.node u xs)) ≤ 400000 ∧ lowPs xs ∧ Q (.str (joinS (flat (.node u xs)))) G
  | _ => False
theorem ok_l_text_step {d : Nat} (T : Bl K mg) (f__law_text : Fnc P w K mg base "_law_text" (d + 1) ["_law_thing_here"] (sp_l_text d)) (Pl : Plc K mg "_law_text" s_l_text ["_law_thing_here"]) : Fnc P w K mg base "_law_text" (d + 2) ["_law_thing_here"] (sp_l_text (d + 1)) := by
  have nd := sc_l_text.nd
  refine Pl.fn' (k := d + 1) sc_l_text fun f cdv A outer s H E hr => ⟨_, fun F => (dss_cons' (ds_set' (i := 1) nd (de_lst' (da_cons' (de_ix' hr (de_var' 0) de_int') da_nil')))
  (dss_cons' (ds_for' (di_seq' (de_sl' (de_var' 0) (do_some' de_int') do_none')) (fun _ => (dg_name' (i := 2) nd))
  (fun _ => (dss_one' (ds_if' (dt_tru' (de_isi' bt_tuple (by decide) (de_var' 2) T.b_isinstance T.b_tuple))
  (dss_one' (ds_expr' (de_append' (de_var' 1) (da_cons' (de_callF' f__law_text (hr.mono (by first | decide | omega)) (da_cons' (de_var' 2) da_nil')) da_nil'))))
  (dss_one' (ds_expr' (de_append' (de_var' 1) (da_cons' (de_strof' (da_cons' (de_var' 2) da_nil') T.b_str) da_nil'))))))))
  (dss_one' (ds_ret' (de_join' de_str' (da_cons' (de_var' 1) da_nil')))))), fun ds G Q hl hsp hb hG => ?_⟩
  unfold sp_l_text at hsp
  split at hsp
  · obtain ⟨u, xs, rfl, hd, hwt, hlow, hq⟩ := hsp
    have hsl : sizeLine = 16777216 := sizeLine_eq
    refine rdIx_of (d := .str u) atI_0 ?_
    refine ⟨szl 1, ?_⟩
    have hwn : wtS (flat (.node u xs)) = (u.length + 1) + wtS (flats xs) := by
      show wtS ([u] ++ flats xs) = _
      rw [wtS_app]
      have : wtS [u] = u.length + 1 := by unfold wtS; simp
      rw [this]
    have hxl : xs.length ≤ wtS (flats xs) := by
      clear hwn hwt hlow hd hq hb hl
      induction xs with
      | nil => exact Nat.zero_le _
      | cons q xs ih =>
        have e2 : wtS (flats (q :: xs)) = wtS (flat q) + wtS (flats xs) := wtS_app _ _
        have hne : 1 ≤ wtS (flat q) := by
          have := List.length_pos_iff.mpr (flat_ne q)
          unfold wtS
          omega
        rw [e2, List.length_cons]
        omega
    refine rdSl_tup ?_
    have ec : cutD (.str u :: ptDs xs) (some 1) none = xs.map ptD := by
      rw [← ptDs_map]
      have := HT.sIx_nat
      unfold cutD
      rw [show ((1 : Int)) = ((1 : Nat) : Int) from rfl, HT.sIx_nat]
      simp [HT.sIx, HT.sIx_none]
    rw [ec]
    refine seqR_tup ?_
    have hset : ∀ l l' : List Dt, (G ++ [.lst l] : GD).set G.length (.lst l') = G ++ [.lst l'] := fun l l' => set_last'
    refine lp_ind (fun ds σ G' => ∃ (done rest : List PT) (s2 : Option Dt), xs = done ++ rest ∧ ds = rest.map ptD ∧ G' = G ++ [.lst ((u :: done.map fun q => joinS (flat q)).map Dt.str)] ∧ σ = [some (ptD (.node u xs)), some (.ref G.length), s2]) ?_ ?_ _ _ _ ⟨[], xs, none, rfl, rfl, rfl, rfl⟩
    · rintro σ G' ⟨done, rest, s2, hdr, hds, rfl, rfl⟩
      cases rest with
      | cons a r => cases hds
      | nil =>
        rw [List.append_nil] at hdr
        subst hdr
        refine ⟨trivial, ⟨_, rfl⟩, ?_⟩
        refine ⟨⟨_, _, u :: xs.map fun q => joinS (flat q), rfl, rfl, cell_lst at_last, joinOk_of ?_, ?_⟩⟩
        · have h1 := texts_wt xs
          have e : wtS (u :: xs.map fun q => joinS (flat q)) = (u.length + 1) + wtS (xs.map fun q => joinS (flat q)) := by
            show wtS ([u] ++ xs.map fun q => joinS (flat q)) = _
            rw [wtS_app]
            have : wtS [u] = u.length + 1 := by unfold wtS; simp
            rw [this]
          omega
        have ej : Txt.join (Str.ofString " ") (u :: xs.map fun q => joinS (flat q)) = joinS (flat (.node u xs)) := (StrLaws.glued_eq_join _ _).trans (text_join u xs)
        rw [ej]
        exact RetD.cut Grw.refl.push hG trivial hq
    · rintro d' r K1 hK1 σ G' ⟨done, rest, s2, hdr, hds, rfl, rfl⟩
      cases rest with
      | nil => cases hds
      | cons q rest =>
        cases hds
        refine ⟨trivial, ?_⟩
        have hdl : done.length ≤ xs.length := by rw [hdr]; simp
        have fin : rdAppend G.length (.str (joinS (flat q))) (G ++ [.lst ((u :: done.map fun q => joinS (flat q)).map Dt.str)]) (fun _ G' => Wk (G ++ [Cl.lst [Dt.str u]] : GD).length K1 [some (ptD (.node u xs)), some (.ref G.length), some (ptD q)] G') := by
          refine rdAppend_of at_last (by rw [List.length_map, List.length_cons, List.length_map]; omega) ?_
          refine Wk.here (hK1 _ _ ⟨done ++ [q], rest, _, by rw [hdr, List.append_assoc]; rfl, rfl, ?_, rfl⟩)
          rw [hset, List.map_append, ← List.cons_append, List.map_append]
          rfl
        have hmem : q ∈ xs := by rw [hdr]; simp
        have hq8 : lowP q := lowPs_mem hlow q hmem
        have hqd := dpts_mem hmem
        have hqw := wt_mem hmem
        cases q with
        | num k => exact ⟨⟨_, at_last⟩, ⟨⟨num_log hq8, fin⟩⟩⟩
        | node u2 ys =>
          have e : dpt (.node u2 ys) = dpts ys + 1 := rfl
          exact ⟨⟨_, at_last⟩, rfl, u2, ys, rfl, by omega, by omega, hq8, fin⟩
  · exact hsp.elim
theorem ok_l_text (T : Bl K mg) (Pl : Plc K mg "_law_text" s_l_text ["_law_thing_here"]) : ∀ d : Nat, Fnc P w K mg base "_law_text" (d + 1) ["_law_thing_here"] (sp_l_text d)
  | 0 => (Fnc.imp Pl.never fun ds G Q h => by
      unfold sp_l_text at h
      split at h
      · obtain ⟨_, _, _, h, _⟩ := h; omega
      · exact h).mono (Nat.zero_le _)
  | d + 1 => ok_l_text_step T (ok_l_text T Pl d) Pl
end
end K02
--LAW k02
namespace K02
open PySem PySem.Spec L2 DL TH KT KH KFM
local macro_rules | `(tactic| walk_at "dx") => `(tactic| (try simp only [↓dSeq, ↓dIfS, ↓dOr, ↓dAnd, ↓dNot, ↓dTru, ↓dIsi, ↓dVar, ↓dRet, ↓dC, ↓dNext, ↓dChain, ↓rdI0, ↓rdI, ↓dTest, ↓dOp, ↓endsD, ↓startD, ↓dAndV, ↓dOrV, ↓dNotV, ↓dIf, ↓dCall, ↓dCons, ↓dNil, ↓dTup, ↓dLst, ↓dSet, ↓dAsg, ↓dgName, ↓dgNil, ↓dgCons, ↓dgTup, ↓dDrop, ↓dCB, ↓dMGet, ↓rdLen_eq, ↓rdLen0, ↓rdIx_eq, ↓rdIx0, ↓rdIs, ↓rdEq_eq, ↓rdEq0, ↓rdAdd, ↓rdMul, ↓dUn, ↓dPart, ↓dNoPart, ↓dSl, ↓rdSl_eq, ↓rdSl0, ↓rdList, ↓rdTuple_eq, ↓rdTuple0, ↓rdAll, ↓dAppend, ↓rdAppend_eq, ↓rdAppend0, ↓dPop, ↓isLstC, ↓dFor, ↓diZip, ↓diSeq, ↓seqR_eq, ↓seqR0, ↓diRng1, ↓dWhile, ↓dDict, ↓dPairs, ↓keysD, ↓keyD, get_endz, get_endj, set_endz, set_endj, Option.some.injEq, Cl.lst.injEq, exists_eq', exists_eq, exists_eq_left,
  isi_non, isi_bl, isi_int, isi_str, isi_tup, isi_ref, tru_non, tru_bl, tru_int, tru_tup, tru_ref, len_tup, len_ref, at_tup, at_ref, at_refs, is_non_non, is_bl_bl, is_bl_non, is_non_bl, is_int_non, is_str_non, is_tup_non, is_ref_non, is_int_bl, is_str_bl, is_tup_bl, is_ref_bl, eqs_int, eqs_str, eqs_bl, seq_tup, seq_ref, atI_0, atI_1, atI_2, succ_eq0, zero_eq0, str_inj,
  List.map_cons, List.map_nil, List.length_cons, List.length_nil, List.replicate, List.cons_append, List.nil_append, List.append_nil, List.append_assoc, List.length_append, List.getElem?_cons_zero, List.getElem?_cons_succ, List.set_cons_zero, List.set_cons_succ, if_true, if_false, Bool.not_true, Bool.not_false, Bool.false_eq_true, Bool.or_true, Bool.or_false, Bool.true_or, Bool.false_or, Bool.and_true, Bool.and_false, Bool.true_and, Bool.false_and, Bool.false_xor, Bool.true_xor, Nat.sub_self, Nat.reduceAdd, Nat.reduceSub, decide_true, decide_false, true_and, and_true, ne_eq, String.reduceBEq, String.reduceEq, reduceIte, reduceCtorEq]))
open TX
abbrev s_l_read : Stmt := top 24
theorem sc_l_read : FnScope ["_law_text_here", "_law_many", "_law_found", "e"] ["_law_text_here", "_law_many"] (defScope s_l_read) := ⟨rfl, rfl, rfl, by decide +kernel, rfl, by decide +kernel, by decide +kernel⟩
theorem calmX {P : Program} {w : World} {K : PySem.W.Frag} {mg : Str → Option Value} {base : Heap} {C : Addr} {x : Str} {k : Nat} {ps : List Str} {sp : SpX} (F : FncX P w K mg base C x k ps sp) : Fnc P w K mg base x k ps (fun ds G Q => sp ds G Q fun _ => False) := by
  obtain ⟨f, fd, h, r⟩ := F.ex
  have conv : ∀ vs H Q E, liSp K ps.length (fun ds G Q => sp ds G Q fun _ => False) vs H Q E → liSpX K ps.length sp vs H Q (fun _ _ _ => False) := fun vs H Q E ⟨ds, G, ι, Qd, hl, hG, r, hsp, hq⟩ => ⟨ds, G, ι, Qd, fun _ => False, hl, hG, r, hsp, hq, fun _ _ _ _ _ _ z => z.elim⟩
  refine ⟨f, fd, ⟨fun vs H Q E q => h.len vs H Q _ (conv vs H Q E q), fun A outer s H args us vs Q E hr he hb hv hs => ?_⟩, r⟩
  refine codeAny_mono (h.run A outer s H args us vs Q (fun _ _ _ => False) hr he hb hv (conv vs H Q E hs)) fun r s' hq => ?_
  cases r with
  | error e =>
    obtain ⟨_, _, _, _, _, _, _, hE⟩ := hq
    exact hE.elim
  | ok fl => cases fl <;> exact hq
section
variable {P : Program} {w : World} {K : PySem.W.Frag} {mg : Str → Option Value} {base : Heap}
def foundD (n : Int) (z : Str) : Dt := match readR n z with
  | some p => ptD p
  | none => .non
def sp_l_read : SpD := fun ds G Q => match ds with
  | [x, y] => ∃ (z : Str) (n : Nat), x = .str z ∧ y = .int (n : Nat) ∧ n ≤ 8 ∧ okText z ∧ (∀ p, run ar nu (splitS z) = some [p] → nd (ptD p) < sizeLine) ∧ ∀ J, Q (foundD (n : Nat) z) (G ++ J)
  | _ => False
theorem ok_l_read {C : Addr} {c : Value} (T : Bl K mg) (O : OwnX K mg "NoText" "NoWorld" "HallError" C c) (f_read : FncX P w K mg base C "read" 4 ["text", "many"] sp_read) (Pl : Plc K mg "_law_read" s_l_read ["_law_text_here", "_law_many"]) : Fnc P w K mg base "_law_read" 5 ["_law_text_here", "_law_many"] sp_l_read := by
  have nd := sc_l_read.nd
  refine Pl.fn' (k := 4) sc_l_read fun f cdv A outer s H E hr => ⟨_, fun F => (dss_cons' (ds_set' (i := 2) nd de_str')
  (dss_cons' (ds_try' (i := 2) (j := 3) f_read hr (da_cons' (de_var' 0) (da_cons' (de_var' 1) da_nil')) (fun _ _ z => z) nd (by decide)
    (fun ea oe hc => pss_suite O.T hc nd rfl rfl rfl rfl rfl rfl rfl rfl (by decide) (by decide) (by decide) (by decide) (by decide) (by decide) rfl) (fun ea D σ H e q => ⟨e, q⟩) O.m O.x)
  (dss_one' (ds_ret' (de_var' 2))))), fun ds G Q hl hsp hb hG => ?_⟩
  unfold sp_l_read at hsp
  split at hsp
  · obtain ⟨z, n, rfl, rfl, h8, hok, hnd, hq⟩ := hsp
    refine ⟨rfl, (show 3 < 4 by decide), z, n, rfl, rfl, h8, hok, hnd, fun hn J => ?_, fun p hp => ?_⟩
    · have e : foundD (n : Nat) z = .non := by unfold foundD; rw [hn]
      rw [e] at hq
      exact RetD.all (hq J)
    · have e : foundD (n : Nat) z = ptD p := by unfold foundD; rw [hp]
      rw [e] at hq
      have h0 := hq []
      rw [List.append_nil] at h0
      exact RetD.all h0
  · exact hsp.elim
end
end K02
--LAW k02
namespace K02
open PySem PySem.Spec L2 DL TH KT KH KFM
local macro_rules | `(tactic| walk_at "dx") => `(tactic| (try simp only [↓dSeq, ↓dIfS, ↓dOr, ↓dAnd, ↓dNot, ↓dTru, ↓dIsi, ↓dVar, ↓dRet, ↓dC, ↓dNext, ↓dChain, ↓rdI0, ↓rdI, ↓dTest, ↓dOp, ↓endsD, ↓startD, ↓dAndV, ↓dOrV, ↓dNotV, ↓dIf, ↓dCall, ↓dCons, ↓dNil, ↓dTup, ↓dLst, ↓dSet, ↓dAsg, ↓dgName, ↓dgNil, ↓dgCons, ↓dgTup, ↓dDrop, ↓dCB, ↓dMGet, ↓rdLen_eq, ↓rdLen0, ↓rdIx_eq, ↓rdIx0, ↓rdIs, ↓rdEq_eq, ↓rdEq0, ↓rdAdd, ↓rdMul, ↓dUn, ↓dPart, ↓dNoPart, ↓dSl, ↓rdSl_eq, ↓rdSl0, ↓rdList, ↓rdTuple_eq, ↓rdTuple0, ↓rdAll, ↓dAppend, ↓rdAppend_eq, ↓rdAppend0, ↓dPop, ↓isLstC, ↓dFor, ↓diZip, ↓diSeq, ↓seqR_eq, ↓seqR0, ↓diRng1, ↓dWhile, ↓dDict, ↓dPairs, ↓keysD, ↓keyD, get_endz, get_endj, set_endz, set_endj, Option.some.injEq, Cl.lst.injEq, exists_eq', exists_eq, exists_eq_left,
  isi_non, isi_bl, isi_int, isi_str, isi_tup, isi_ref, tru_non, tru_bl, tru_int, tru_tup, tru_ref, len_tup, len_ref, at_tup, at_ref, at_refs, is_non_non, is_bl_bl, is_bl_non, is_non_bl, is_int_non, is_str_non, is_tup_non, is_ref_non, is_int_bl, is_str_bl, is_tup_bl, is_ref_bl, eqs_int, eqs_str, eqs_bl, seq_tup, seq_ref, atI_0, atI_1, atI_2, succ_eq0, zero_eq0, str_inj,
  List.map_cons, List.map_nil, List.length_cons, List.length_nil, List.replicate, List.cons_append, List.nil_append, List.append_nil, List.append_assoc, List.length_append, List.getElem?_cons_zero, List.getElem?_cons_succ, List.set_cons_zero, List.set_cons_succ, if_true, if_false, Bool.not_true, Bool.not_false, Bool.false_eq_true, Bool.or_true, Bool.or_false, Bool.true_or, Bool.false_or, Bool.and_true, Bool.and_false, Bool.true_and, Bool.false_and, Bool.false_xor, Bool.true_xor, Nat.sub_self, Nat.reduceAdd, Nat.reduceSub, decide_true, decide_false, true_and, and_true, ne_eq, String.reduceBEq, String.reduceEq, reduceIte, reduceCtorEq]))
open TX
abbrev s_l_spoilt : Stmt := top 23
theorem sc_l_spoilt : FnScope ["_law_text_here", "_law_cell_here", "_law_words", "_law_at", "_law_word"] ["_law_text_here", "_law_cell_here"] (defScope s_l_spoilt) := ⟨rfl, rfl, rfl, by decide +kernel, rfl, by decide +kernel, by decide +kernel⟩
def Asc (x : Str) : Prop := ∀ c ∈ x.cps.toList, c < 128
def Good (n : Nat) (ws : List Str) : Prop := wtS ws ≤ n ∧ ∀ w ∈ ws, Asc w
theorem JN_mem : ∀ {l : List (List Nat)} {c : Nat}, c ∈ JN l → c = 32 ∨ ∃ x ∈ l, c ∈ x
  | [], c, h => by cases h
  | [x], c, h => .inr ⟨x, by simp, h⟩
  | x :: y :: r, c, h => by
    rw [JN_cons] at h
    rcases List.mem_append.mp h with h | h
    · exact .inr ⟨x, by simp, h⟩
    · rcases List.mem_cons.mp h with h | h
      · exact .inl h
      · rcases JN_mem h with h | ⟨z, hz, h⟩
        · exact .inl h
        · exact .inr ⟨z, List.mem_cons_of_mem _ hz, h⟩
theorem JN_of : ∀ {l : List (List Nat)} {x : List Nat} {c : Nat}, x ∈ l → c ∈ x → c ∈ JN l
  | [x], z, c, hz, h => by
    simp at hz
    subst hz
    exact h
  | x :: y :: r, z, c, hz, h => by
    rw [JN_cons]
    rcases List.mem_cons.mp hz with rfl | hz
    · exact List.mem_append_left _ h
    · exact List.mem_append_right _ (List.mem_cons_of_mem _ (JN_of hz h))
theorem JN_len : ∀ {l : List (List Nat)}, l ≠ [] → (JN l).length + 1 = (l.map List.length).sum + l.length
  | [], h => absurd rfl h
  | [x], _ => by simp [JN]
  | x :: y :: r, _ => by
    rw [JN_cons, List.length_append, List.length_cons, List.map_cons, List.sum_cons, List.length_cons]
    have := JN_len (l := y :: r) (by simp)
    omega
theorem asc_join {ws : List Str} (h : ∀ w ∈ ws, Asc w) : Asc (joinS ws) := fun c hc => by
  rw [join_list] at hc
  rcases JN_mem hc with rfl | ⟨x, hx, hc⟩
  · decide
  · rw [List.mem_map] at hx
    obtain ⟨w, hw, rfl⟩ := hx
    exact h w hw c hc
theorem asc_split {z : Str} (h : Asc z) : ∀ w ∈ splitS z, Asc w := fun w hw c hc => by
  refine h c ?_
  rw [← join_split z, join_list]
  exact JN_of (List.mem_map.mpr ⟨w, hw, rfl⟩) hc
theorem len_list (x : Str) : x.length = x.cps.toList.length := rfl
theorem split_wt (z : Str) : wtS (splitS z) = z.length + 1 := by
  have h := JN_len (l := (splitS z).map fun w => w.cps.toList) (by simpa using split_ne z)
  rw [← join_list, join_split, List.map_map, List.length_map] at h
  unfold wtS
  rw [len_list z, h]
  rfl
theorem wt_take (ws : List Str) (k : Nat) : wtS (ws.take k) ≤ wtS ws := by
  have := wtS_app (ws.take k) (ws.drop k)
  rw [List.take_append_drop] at this
  omega
theorem wt_drop (ws : List Str) (k : Nat) : wtS (ws.drop k) ≤ wtS ws := by
  have := wtS_app (ws.take k) (ws.drop k)
  rw [List.take_append_drop] at this
  omega
theorem wt_len (ws : List Str) : ws.length ≤ wtS ws := by unfold wtS; omega
theorem wt_one (x : Str) : wtS [x] = x.length + 1 := by unfold wtS; simp
theorem wt_in {ws : List Str} {x : Str} (h : x ∈ ws) : x.length + 1 ≤ wtS ws := by
  induction ws with
  | nil => cases h
  | cons y ws ih =>
    have e : wtS (y :: ws) = (y.length + 1) + wtS ws := by rw [← wt_one y, ← wtS_app]; rfl
    rcases List.mem_cons.mp h with rfl | h
    · omega
    · have := ih h
      omega
theorem okRep_of {x : Str} (h : x.length ≤ 1000) (ha : Asc x) : okRep x := by
  unfold okRep
  have := StrLaws.reprText_len x fun c hc => Nat.lt_of_lt_of_le (ha c hc) (by decide)
  omega
theorem okText_of {x : Str} (h : x.length ≤ 900) (ha : Asc x) : okText x := by
  have hw := split_wt x
  refine ⟨by omega, okRep_of (by omega) ha, by have := wt_len (splitS x); omega, fun w hm => okRep_of ?_ (asc_split ha w hm)⟩
  have := wt_in hm
  omega
def oddW : List Str := ["is", "not", "and", "0", "7", "9", "says", "", "IS", "many", "00", "-1"]
theorem oddW_ok : ∀ x ∈ oddW, x.length ≤ 4 ∧ ∀ c ∈ x.cps.toList, c < 128 := by decide +kernel
section
variable {P : Program} {w : World} {K : PySem.W.Frag} {mg : Str → Option Value} {base : Heap}
def sp_spoilt : SpD := fun ds G Q => match ds with
  | [x, y] => ∃ (t : Str) (c : Int), x = .str t ∧ y = .int c ∧ t.length ≤ 138 ∧ Asc t ∧ (∀ w ∈ splitS t, w.length ≤ 5) ∧ ∀ z : Str, z.length ≤ 150 → Asc z → Q (.str z) G
  | _ => False
theorem ok_l_spoilt (T : Bl K mg) (Pl : Plc K mg "_law_spoilt" s_l_spoilt ["_law_text_here", "_law_cell_here"]) : Fnc P w K mg base "_law_spoilt" 1 ["_law_text_here", "_law_cell_here"] sp_spoilt := by
  have nd := sc_l_spoilt.nd
  refine Pl.fn' sc_l_spoilt fun f cdv A outer s H E hr => ⟨_, fun F => (dss_cons' (ds_set' (i := 2) nd (de_split' (de_var' 0) (da_cons' de_str' da_nil')))
  (dss_cons' (ds_set' (i := 3) nd (de_mod' (de_fdiv' (de_var' 1) de_int') (de_len' (da_cons' (de_var' 2) da_nil') T.b_len)))
  (dss_cons' (ds_set' (i := 4) nd (de_ix' hr (de_lst' (da_cons' de_str' (da_cons' de_str' (da_cons' de_str' (da_cons' de_str' (da_cons' de_str' (da_cons' de_str' (da_cons' de_str' (da_cons' de_str' (da_cons' de_str' (da_cons' de_str' (da_cons' de_str' (da_cons' de_str' da_nil'))))))))))))) (de_mod' (de_fdiv' (de_var' 1) de_int') de_int')))
  (dss_cons' (ds_if' (dt_eq' (de_mod' (de_var' 1) de_int') de_int')
  (dss_one' (ds_set' (i := 2) nd (de_add' (de_sl' (de_var' 2) do_none' (do_some' (de_var' 3))) (de_sl' (de_var' 2) (do_some' (de_add' (de_var' 3) de_int')) do_none'))))
  dss_nil')
  (dss_cons' (ds_if' (dt_eq' (de_mod' (de_var' 1) de_int') de_int')
  (dss_one' (ds_set' (i := 2) nd (de_add' (de_sl' (de_var' 2) do_none' (do_some' (de_add' (de_var' 3) de_int'))) (de_sl' (de_var' 2) (do_some' (de_var' 3)) do_none'))))
  dss_nil')
  (dss_cons' (ds_if' (dt_eq' (de_mod' (de_var' 1) de_int') de_int')
  (dss_one' (ds_set' (i := 2) nd (de_add' (de_add' (de_sl' (de_var' 2) do_none' (do_some' (de_var' 3))) (de_lst' (da_cons' (de_var' 4) da_nil'))) (de_sl' (de_var' 2) (do_some' (de_add' (de_var' 3) de_int')) do_none'))))
  dss_nil')
  (dss_cons' (ds_if' (dt_eq' (de_mod' (de_var' 1) de_int') de_int')
  (dss_one' (ds_set' (i := 2) nd (de_add' (de_add' (de_sl' (de_var' 2) do_none' (do_some' (de_var' 3))) (de_lst' (da_cons' (de_var' 4) da_nil'))) (de_sl' (de_var' 2) (do_some' (de_var' 3)) do_none'))))
  dss_nil')
  (dss_cons' (ds_if' (dt_eq' (de_mod' (de_var' 1) de_int') de_int')
  (dss_one' (ds_setL' (de_add' (de_ix' hr (de_var' 2) (de_var' 3)) de_str') (de_var' 2) (de_var' 3)))
  dss_nil')
  (dss_one' (ds_ret' (de_join' de_str' (da_cons' (de_var' 2) da_nil')))))))))))), fun ds G Q hl hsp hb hG => ?_⟩
  unfold sp_spoilt at hsp
  split at hsp
  · obtain ⟨t, c, rfl, rfl, ht, hat, h5w, hq⟩ := hsp
    have hsz : sizeLine = 16777216 := sizeLine_eq
    have hwt := split_wt t
    have has := asc_split hat
    have hne := List.length_pos_iff.mpr (split_ne t)
    have hln := wt_len (splitS t)
    refine ⟨⟨t, rfl⟩, ?_⟩
    refine ⟨⟨t, _, rfl, rfl, by decide +kernel, by omega, ?_, ?_⟩⟩
    · show (splitS t).length ≤ sizeLine
      omega
    refine ⟨⟨by decide, by decide⟩, ?_⟩
    refine rdLen_of (len_lst at_last) ?_
    have hl0 : ((Txt.split t (Str.ofString " ")).map Dt.str).length = (splitS t).length := List.length_map _
    rw [hl0]
    refine ⟨by omega, ?_⟩
    have hk0 := Int.emod_nonneg (c / 5) (b := ((splitS t).length : Int)) (by omega)
    have hk1 := Int.emod_lt_of_pos (c / 5) (b := ((splitS t).length : Int)) (by omega)
    obtain ⟨k, hk⟩ := Int.eq_ofNat_of_zero_le hk0
    rw [hk] at hk1
    dsimp only
    rw [hk]
    have hkl : k < (splitS t).length := by omega
    refine ⟨szl 12, ?_⟩
    refine ⟨⟨by decide, by decide⟩, (show (0 : Int) < 12 by decide), ?_⟩
    have hm0 := Int.emod_nonneg (c / 97) (b := 12) (by decide)
    have hm1 := Int.emod_lt_of_pos (c / 97) (b := 12) (by decide)
    obtain ⟨m, hm⟩ := Int.eq_ofNat_of_zero_le hm0
    dsimp only
    rw [hm]
    have hml : m < oddW.length := by show m < 12; omega
    refine rdIx_of (d := .str oddW[m]) (at_lst (i := m) at_last (show (oddW.map Dt.str)[m]? = _ by rw [List.getElem?_map, List.getElem?_eq_getElem hml]; rfl)) ?_
    obtain ⟨hx4, hxa⟩ := oddW_ok oddW[m] (List.getElem_mem hml)
    generalize oddW[m] = x at hx4 hxa ⊢
    have hc0 : (G ++ [.lst ((splitS t).map Dt.str)] ++ [.lst (oddW.map Dt.str)] : GD)[G.length]? = some (.lst ((splitS t).map Dt.str)) := at_prev at_last
    have g0 : Grw G (G ++ [.lst ((splitS t).map Dt.str)] ++ [.lst (oddW.map Dt.str)]) := Grw.refl.push.push
    have hset : ∀ c : Cl, Grw G ((G ++ [.lst ((splitS t).map Dt.str)] ++ [.lst (oddW.map Dt.str)] : GD).set G.length c) := fun c => ⟨[c] ++ [.lst (oddW.map Dt.str)], by
      rw [List.set_append_left _ _ (by simp), set_last', List.append_assoc]⟩
    have hself : ∀ c : Cl, ((G ++ [.lst ((splitS t).map Dt.str)] ++ [.lst (oddW.map Dt.str)] : GD).set G.length c)[G.length]? = some c := fun c => by
      rw [List.set_append_left _ _ (by simp), set_last']
      exact at_prev at_last
    show dSeq _ _ (endsD G Q) _ (G ++ [.lst ((splitS t).map Dt.str)] ++ [.lst (oddW.map Dt.str)])
    generalize (G ++ [.lst ((splitS t).map Dt.str)] ++ [.lst (oddW.map Dt.str)] : GD) = G2 at hc0 g0 hset hself ⊢
    generalize splitS t = ws at hwt has hne hln hkl hc0 h5w
    have fin : ∀ (G' : GD) (zs : List Str), Grw G G' → Good 150 zs → RetD G Q (.str (Txt.join (Str.ofString " ") zs)) G' := fun G' zs g hz => by
      have ej : Txt.join (Str.ofString " ") zs = joinS zs := StrLaws.glued_eq_join _ _
      rw [ej]
      have hz1 := hz.1
      have := join_len zs
      exact RetD.cut g hG trivial (hq _ (by omega) (asc_join hz.2))
    have ct : ∀ n : Nat, cutD (ws.map Dt.str) none (some (n : Int)) = (ws.take n).map Dt.str := fun n => by
      unfold cutD
      rw [HT.sIx_nat, HT.sIx_none]
      simp only [List.drop_zero, Nat.sub_zero, List.length_map, ← List.map_take]
      congr 1
      by_cases h : n ≤ ws.length
      · rw [Nat.min_eq_left h]
      · rw [Nat.min_eq_right (by omega), List.take_length, List.take_of_length_le (by omega)]
    have cd : ∀ n : Nat, cutD (ws.map Dt.str) (some (n : Int)) none = (ws.drop n).map Dt.str := fun n => by
      unfold cutD
      rw [HT.sIx_nat, HT.sIx_none]
      rw [List.length_map, ← List.map_drop, ← List.map_take]
      congr 1
      by_cases h : n ≤ ws.length
      · rw [Nat.min_eq_left h, List.take_of_length_le (by rw [List.length_drop]; exact Nat.le_refl _)]
      · rw [Nat.min_eq_right (by omega), Nat.sub_self, List.take_zero, List.drop_eq_nil_of_le (by omega)]
    have ht' := wt_take ws
    have hd' := wt_drop ws
    have h1 := Int.emod_nonneg c (b := 5) (by decide)
    have h2 := Int.emod_lt_of_pos c (b := 5) (by decide)
    have asct : ∀ n, ∀ y ∈ ws.take n, Asc y := fun n y hy => has y (List.mem_of_mem_take hy)
    have ascd : ∀ n, ∀ y ∈ ws.drop n, Asc y := fun n y hy => has y (List.mem_of_mem_drop hy)
    have e0 : wtS (ws.take k) + wtS (ws.drop k) = wtS ws := by rw [← wtS_app, List.take_append_drop]
    have e1 : wtS (ws.take (k + 1)) ≤ wtS (ws.take k) + 6 := by
      rw [List.take_succ_eq_append_getElem hkl, wtS_app, wt_one]
      have := h5w _ (List.getElem_mem hkl)
      omega
    have e2 : wtS (ws.drop (k + 1)) ≤ wtS (ws.drop k) := by
      have := wt_drop (ws.drop k) 1
      rw [List.drop_drop] at this
      exact this
    have good2 : ∀ a b, wtS (ws.take a) + wtS (ws.drop b) ≤ 145 → Good 150 (ws.take a ++ ws.drop b) := fun a b hab => ⟨by
      rw [wtS_app]; omega, fun y hy => by
      rcases List.mem_append.mp hy with hy | hy
      · exact asct _ y hy
      · exact ascd _ y hy⟩
    have good3 : ∀ a b, wtS (ws.take a) + wtS (ws.drop b) ≤ 145 → Good 150 (ws.take a ++ [x] ++ ws.drop b) := fun a b hab => ⟨by
      rw [wtS_app, wtS_app, wt_one]; omega, fun y hy => by
      rcases List.mem_append.mp hy with hy | hy
      · rcases List.mem_append.mp hy with hy | hy
        · exact asct _ y hy
        · simp at hy; subst hy; exact hxa
      · exact ascd _ y hy⟩
    have ct1 : cutD (ws.map Dt.str) none (some ((k : Int) + 1)) = (ws.take (k + 1)).map Dt.str := ct (k + 1)
    have cd1 : cutD (ws.map Dt.str) (some ((k : Int) + 1)) none = (ws.drop (k + 1)).map Dt.str := cd (k + 1)
    have no5 : ∀ r : Int, c % 5 ≠ r → (false ^^ decide (c % 5 = r)) = false := fun r h => by rw [Bool.false_xor]; exact decide_eq_false h
    have yes5 : ∀ r : Int, c % 5 = r → (false ^^ decide (c % 5 = r)) = true := fun r h => by rw [Bool.false_xor]; exact decide_eq_true h
    have h5 : c % 5 = 0 ∨ c % 5 = 1 ∨ c % 5 = 2 ∨ c % 5 = 3 ∨ c % 5 = 4 := by omega
    rcases h5 with h5 | h5 | h5 | h5 | h5
    · refine ⟨(show (0 : Int) < 5 by decide), rdEq_int ?_⟩
      refine iteTb (yes5 0 (by omega)) ?_
      refine rdSl_ref (cell_lst hc0) ?_
      refine rdSl_ref (cell_lst (at_prev hc0)) ?_
      refine rdAdd_refs (at_prev at_last) at_last ?_ ?_
      · rw [ct k, cd1, List.length_map, List.length_map]; have := wt_len (ws.take k); have := wt_len (ws.drop (k + 1)); have := ht' k; have := hd' (k + 1); omega
      rw [ct k, cd1, ← List.map_append]
      refine ⟨(show (0 : Int) < 5 by decide), rdEq_int ?_⟩
      refine iteFb (no5 1 (by omega)) ?_
      refine ⟨(show (0 : Int) < 5 by decide), rdEq_int ?_⟩
      refine iteFb (no5 2 (by omega)) ?_
      refine ⟨(show (0 : Int) < 5 by decide), rdEq_int ?_⟩
      refine iteFb (no5 3 (by omega)) ?_
      refine ⟨(show (0 : Int) < 5 by decide), rdEq_int ?_⟩
      refine iteFb (no5 4 (by omega)) ?_
      refine ⟨⟨_, rfl⟩, ⟨⟨_, _, _, rfl, rfl, cell_lst at_last, joinOk_of (Nat.le_trans (good2 _ _ (by omega)).1 (by decide)), fin _ _ g0.push.push.push (good2 _ _ (by omega))⟩⟩⟩
    · refine ⟨(show (0 : Int) < 5 by decide), rdEq_int ?_⟩
      refine iteFb (no5 0 (by omega)) ?_
      refine ⟨(show (0 : Int) < 5 by decide), rdEq_int ?_⟩
      refine iteTb (yes5 1 (by omega)) ?_
      refine rdSl_ref (cell_lst hc0) ?_
      refine rdSl_ref (cell_lst (at_prev hc0)) ?_
      refine rdAdd_refs (at_prev at_last) at_last ?_ ?_
      · rw [ct1, cd k, List.length_map, List.length_map]; have := wt_len (ws.take (k + 1)); have := wt_len (ws.drop k); have := ht' (k + 1); have := hd' k; omega
      rw [ct1, cd k, ← List.map_append]
      refine ⟨(show (0 : Int) < 5 by decide), rdEq_int ?_⟩
      refine iteFb (no5 2 (by omega)) ?_
      refine ⟨(show (0 : Int) < 5 by decide), rdEq_int ?_⟩
      refine iteFb (no5 3 (by omega)) ?_
      refine ⟨(show (0 : Int) < 5 by decide), rdEq_int ?_⟩
      refine iteFb (no5 4 (by omega)) ?_
      refine ⟨⟨_, rfl⟩, ⟨⟨_, _, _, rfl, rfl, cell_lst at_last, joinOk_of (Nat.le_trans (good2 _ _ (by omega)).1 (by decide)), fin _ _ g0.push.push.push (good2 _ _ (by omega))⟩⟩⟩
    · refine ⟨(show (0 : Int) < 5 by decide), rdEq_int ?_⟩
      refine iteFb (no5 0 (by omega)) ?_
      refine ⟨(show (0 : Int) < 5 by decide), rdEq_int ?_⟩
      refine iteFb (no5 1 (by omega)) ?_
      refine ⟨(show (0 : Int) < 5 by decide), rdEq_int ?_⟩
      refine iteTb (yes5 2 (by omega)) ?_
      refine rdSl_ref (cell_lst hc0) ?_
      refine ⟨szl 1, ?_⟩
      refine rdAdd_refs (at_prev at_last) at_last ?_ ?_
      · rw [ct k, List.length_map]; have := wt_len (ws.take k); have := ht' k; show _ + 1 ≤ _; omega
      refine rdSl_ref (cell_lst (at_prev (at_prev (at_prev hc0)))) ?_
      refine rdAdd_refs (at_prev at_last) at_last ?_ ?_
      · rw [ct k, cd1, List.length_append, List.length_map, List.length_map]; have := wt_len (ws.take k); have := ht' k; have := wt_len (ws.drop (k + 1)); have := hd' (k + 1); show _ + 1 + _ ≤ _; omega
      rw [ct k, cd1]
      have e : (ws.take k).map Dt.str ++ [Dt.str x] ++ (ws.drop (k + 1)).map Dt.str = (ws.take k ++ [x] ++ ws.drop (k + 1)).map Dt.str := by rw [List.map_append, List.map_append]; rfl
      rw [e]
      refine ⟨(show (0 : Int) < 5 by decide), rdEq_int ?_⟩
      refine iteFb (no5 3 (by omega)) ?_
      refine ⟨(show (0 : Int) < 5 by decide), rdEq_int ?_⟩
      refine iteFb (no5 4 (by omega)) ?_
      refine ⟨⟨_, rfl⟩, ⟨⟨_, _, _, rfl, rfl, cell_lst at_last, joinOk_of (Nat.le_trans (good3 _ _ (by omega)).1 (by decide)), fin _ _ g0.push.push.push.push.push (good3 _ _ (by omega))⟩⟩⟩
    · refine ⟨(show (0 : Int) < 5 by decide), rdEq_int ?_⟩
      refine iteFb (no5 0 (by omega)) ?_
      refine ⟨(show (0 : Int) < 5 by decide), rdEq_int ?_⟩
      refine iteFb (no5 1 (by omega)) ?_
      refine ⟨(show (0 : Int) < 5 by decide), rdEq_int ?_⟩
      refine iteFb (no5 2 (by omega)) ?_
      refine ⟨(show (0 : Int) < 5 by decide), rdEq_int ?_⟩
      refine iteTb (yes5 3 (by omega)) ?_
      refine rdSl_ref (cell_lst hc0) ?_
      refine ⟨szl 1, ?_⟩
      refine rdAdd_refs (at_prev at_last) at_last ?_ ?_
      · rw [ct k, List.length_map]; have := wt_len (ws.take k); have := ht' k; show _ + 1 ≤ _; omega
      refine rdSl_ref (cell_lst (at_prev (at_prev (at_prev hc0)))) ?_
      refine rdAdd_refs (at_prev at_last) at_last ?_ ?_
      · rw [ct k, cd k, List.length_append, List.length_map, List.length_map]; have := wt_len (ws.take k); have := ht' k; have := wt_len (ws.drop k); have := hd' k; show _ + 1 + _ ≤ _; omega
      rw [ct k, cd k]
      have e : (ws.take k).map Dt.str ++ [Dt.str x] ++ (ws.drop k).map Dt.str = (ws.take k ++ [x] ++ ws.drop k).map Dt.str := by rw [List.map_append, List.map_append]; rfl
      rw [e]
      refine ⟨(show (0 : Int) < 5 by decide), rdEq_int ?_⟩
      refine iteFb (no5 4 (by omega)) ?_
      refine ⟨⟨_, rfl⟩, ⟨⟨_, _, _, rfl, rfl, cell_lst at_last, joinOk_of (Nat.le_trans (good3 _ _ (by omega)).1 (by decide)), fin _ _ g0.push.push.push.push.push (good3 _ _ (by omega))⟩⟩⟩
    · refine ⟨(show (0 : Int) < 5 by decide), rdEq_int ?_⟩
      refine iteFb (no5 0 (by omega)) ?_
      refine ⟨(show (0 : Int) < 5 by decide), rdEq_int ?_⟩
      refine iteFb (no5 1 (by omega)) ?_
      refine ⟨(show (0 : Int) < 5 by decide), rdEq_int ?_⟩
      refine iteFb (no5 2 (by omega)) ?_
      refine ⟨(show (0 : Int) < 5 by decide), rdEq_int ?_⟩
      refine iteFb (no5 3 (by omega)) ?_
      refine ⟨(show (0 : Int) < 5 by decide), rdEq_int ?_⟩
      refine iteTb (yes5 4 (by omega)) ?_
      refine rdIx_of (d := .str (ws[k]'hkl)) (at_lst (i := k) hc0 (by rw [List.getElem?_map, List.getElem?_eq_getElem hkl]; rfl)) ?_
      have hxk := wt_in (List.getElem_mem hkl)
      refine ⟨by show (ws[k]'hkl).length + 1 ≤ _; omega, ?_⟩
      refine ⟨⟨_, _, _, k, rfl, rfl, hc0, ?_, ?_⟩⟩
      · unfold ixN
        rw [if_pos (by omega), if_pos (by rw [List.length_map]; omega)]
        rfl
      have e : (ws.map Dt.str).set k (.str (ws[k]'hkl ++ Str.ofString " ")) = (ws.set k (ws[k]'hkl ++ Str.ofString " ")).map Dt.str := by rw [List.map_set]
      rw [e]
      have good4 : Good 150 (ws.set k (ws[k]'hkl ++ Str.ofString " ")) := by
        have es : ws.set k (ws[k]'hkl ++ Str.ofString " ") = ws.take k ++ [ws[k]'hkl ++ Str.ofString " "] ++ ws.drop (k + 1) := by
          rw [List.set_eq_take_append_cons_drop, if_pos hkl, List.append_assoc]
          rfl
        rw [es]
        have hlen : (ws[k]'hkl ++ Str.ofString " ").length = (ws[k]'hkl).length + 1 := by
          show ((ws[k]'hkl).cps ++ (Str.ofString " ").cps).size = _
          rw [Array.size_append]
          rfl
        refine ⟨?_, fun y hy => ?_⟩
        · rw [wtS_app, wtS_app, wt_one, hlen]
          have e3 : wtS (ws.take k) + ((ws[k]'hkl).length + 1) + wtS (ws.drop (k + 1)) = wtS ws := by
            rw [← wt_one, ← wtS_app, ← wtS_app, List.append_assoc]
            show wtS (ws.take k ++ ws[k]'hkl :: ws.drop (k + 1)) = _
            rw [← List.drop_eq_getElem_cons hkl, List.take_append_drop]
          omega
        · rcases List.mem_append.mp hy with hy | hy
          · rcases List.mem_append.mp hy with hy | hy
            · exact asct _ y hy
            · simp at hy
              subst hy
              intro ch hch
              have hch' : ch ∈ ((ws[k]'hkl).cps ++ (Str.ofString " ").cps).toList := hch
              rw [Array.toList_append] at hch'
              rcases List.mem_append.mp hch' with h | h
              · exact has _ (List.getElem_mem hkl) ch h
              · have h' : ch ∈ [32] := h
                simp at h'
                omega
          · exact ascd _ y hy
      refine ⟨⟨_, rfl⟩, ⟨⟨_, _, _, rfl, rfl, cell_lst (hself _), joinOk_of (Nat.le_trans good4.1 (by decide)), fin _ _ (hset _) good4⟩⟩⟩
  · exact hsp.elim
end
end K02
--LAW k02
namespace K02
open PySem PySem.Spec L2 DL TH KT KH KFM
local macro_rules | `(tactic| walk_at "dx") => `(tactic| (try simp only [↓dSeq, ↓dIfS, ↓dOr, ↓dAnd, ↓dNot, ↓dTru, ↓dIsi, ↓dVar, ↓dRet, ↓dC, ↓dNext, ↓dChain, ↓rdI0, ↓rdI, ↓dTest, ↓dOp, ↓endsD, ↓startD, ↓dAndV, ↓dOrV, ↓dNotV, ↓dIf, ↓dCall, ↓dCons, ↓dNil, ↓dTup, ↓dLst, ↓dSet, ↓dAsg, ↓dgName, ↓dgNil, ↓dgCons, ↓dgTup, ↓dDrop, ↓dCB, ↓dMGet, ↓rdLen_eq, ↓rdLen0, ↓rdIx_eq, ↓rdIx0, ↓rdIs, ↓rdEq_eq, ↓rdEq0, ↓rdAdd, ↓rdMul, ↓dUn, ↓dPart, ↓dNoPart, ↓dSl, ↓rdSl_eq, ↓rdSl0, ↓rdList, ↓rdTuple_eq, ↓rdTuple0, ↓rdAll, ↓dAppend, ↓rdAppend_eq, ↓rdAppend0, ↓dPop, ↓isLstC, ↓dFor, ↓diZip, ↓diSeq, ↓seqR_eq, ↓seqR0, ↓diRng1, ↓dWhile, ↓dDict, ↓dPairs, ↓keysD, ↓keyD, get_endz, get_endj, set_endz, set_endj, Option.some.injEq, Cl.lst.injEq, exists_eq', exists_eq, exists_eq_left,
  isi_non, isi_bl, isi_int, isi_str, isi_tup, isi_ref, tru_non, tru_bl, tru_int, tru_tup, tru_ref, len_tup, len_ref, at_tup, at_ref, at_refs, is_non_non, is_bl_bl, is_bl_non, is_non_bl, is_int_non, is_str_non, is_tup_non, is_ref_non, is_int_bl, is_str_bl, is_tup_bl, is_ref_bl, eqs_int, eqs_str, eqs_bl, seq_tup, seq_ref, atI_0, atI_1, atI_2, succ_eq0, zero_eq0, str_inj,
  List.map_cons, List.map_nil, List.length_cons, List.length_nil, List.replicate, List.cons_append, List.nil_append, List.append_nil, List.append_assoc, List.length_append, List.getElem?_cons_zero, List.getElem?_cons_succ, List.set_cons_zero, List.set_cons_succ, if_true, if_false, Bool.not_true, Bool.not_false, Bool.false_eq_true, Bool.or_true, Bool.or_false, Bool.true_or, Bool.false_or, Bool.and_true, Bool.and_false, Bool.true_and, Bool.false_and, Bool.false_xor, Bool.true_xor, Nat.sub_self, Nat.reduceAdd, Nat.reduceSub, decide_true, decide_false, true_and, and_true, ne_eq, String.reduceBEq, String.reduceEq, reduceIte, reduceCtorEq]))
open TX
/-! facts of things' texts -/
theorem th_low {n : Int} (h : 1 ≤ n) (h6 : n ≤ 6) : ∀ (k : Nat) (c : Int), TX.Th.low (thT n k c) := by
  have leaf : ∀ c : Int, TX.Th.low (leafT c n) := fun c => by
    unfold leafT
    split
    · have := mix_lt (c := c) (p := 9949) (m := 8) (by decide)
      show (mixI c 9949 8).toNat < 8
      omega
    · have := mix_lt (c := c) (p := 9967) (m := n) (by omega)
      show (mixI c 9967 n).toNat < 8
      omega
  intro k
  induction k with
  | zero => intro c; exact leaf c
  | succ k ih =>
    intro c
    unfold thT
    split
    · exact leaf c
    split
    · have := mix_lt (c := c) (p := 9949) (m := n + 1) (by omega)
      show (mixI c 9949 (n + 1)).toNat < 8
      omega
    split
    · exact ih _
    split
    · have := mix_lt (c := c) (p := 9967) (m := n) (by omega)
      exact ⟨by omega, ih _⟩
    · unfold opT
      split
      · exact ⟨ih _, ih _⟩
      split
      · exact ⟨ih _, ih _⟩
      · exact ⟨ih _, ih _⟩
theorem fl_len : ∀ t : Th, (flat (thP t)).length + 1 ≤ 3 * 2 ^ t.dep
  | .is _ => Nat.le_refl 3
  | .many _ => Nat.le_refl 3
  | .not a => by
    have := fl_len a
    show (flat (thP a) ++ []).length + 1 + 1 ≤ 3 * 2 ^ (a.dep + 1)
    rw [List.append_nil, Nat.pow_succ]; omega
  | .and a b => by
    have h1 := fl_len a; have h2 := fl_len b
    have p1 := Nat.pow_le_pow_right (n := 2) (by decide) (Nat.le_max_left a.dep b.dep)
    have p2 := Nat.pow_le_pow_right (n := 2) (by decide) (Nat.le_max_right a.dep b.dep)
    show (flat (thP a) ++ (flat (thP b) ++ [])).length + 1 + 1 ≤ 3 * 2 ^ (max a.dep b.dep + 1)
    rw [List.append_nil, List.length_append, Nat.pow_succ]; omega
  | .or a b => by
    have h1 := fl_len a; have h2 := fl_len b
    have p1 := Nat.pow_le_pow_right (n := 2) (by decide) (Nat.le_max_left a.dep b.dep)
    have p2 := Nat.pow_le_pow_right (n := 2) (by decide) (Nat.le_max_right a.dep b.dep)
    show (flat (thP a) ++ (flat (thP b) ++ [])).length + 1 + 1 ≤ 3 * 2 ^ (max a.dep b.dep + 1)
    rw [List.append_nil, List.length_append, Nat.pow_succ]; omega
  | .alike a b => by
    have h1 := fl_len a; have h2 := fl_len b
    have p1 := Nat.pow_le_pow_right (n := 2) (by decide) (Nat.le_max_left a.dep b.dep)
    have p2 := Nat.pow_le_pow_right (n := 2) (by decide) (Nat.le_max_right a.dep b.dep)
    show (flat (thP a) ++ (flat (thP b) ++ [])).length + 1 + 1 ≤ 3 * 2 ^ (max a.dep b.dep + 1)
    rw [List.append_nil, List.length_append, Nat.pow_succ]; omega
  | .says _ a => by
    have := fl_len a
    have : 0 < 2 ^ a.dep := Nat.pow_pos (by decide)
    show ([_] ++ (flat (thP a) ++ [])).length + 1 + 1 ≤ 3 * 2 ^ (a.dep + 1)
    rw [List.append_nil, List.length_append, Nat.pow_succ]
    show 1 + (flat (thP a)).length + 1 + 1 ≤ _
    omega
theorem sz_len : ∀ t : Th, szP (thP t) + 2 ≤ 5 * 2 ^ t.dep
  | .is _ => Nat.le_refl 5
  | .many _ => Nat.le_refl 5
  | .not a => by
    have := sz_len a
    have : 0 < 2 ^ a.dep := Nat.pow_pos (by decide)
    show (szP (thP a) + 0 + 2) + 2 ≤ 5 * 2 ^ (a.dep + 1)
    rw [Nat.pow_succ]; omega
  | .and a b => by
    have h1 := sz_len a; have h2 := sz_len b
    have p1 := Nat.pow_le_pow_right (n := 2) (by decide) (Nat.le_max_left a.dep b.dep)
    have p2 := Nat.pow_le_pow_right (n := 2) (by decide) (Nat.le_max_right a.dep b.dep)
    show (szP (thP a) + (szP (thP b) + 0) + 2) + 2 ≤ 5 * 2 ^ (max a.dep b.dep + 1)
    rw [Nat.pow_succ]; omega
  | .or a b => by
    have h1 := sz_len a; have h2 := sz_len b
    have p1 := Nat.pow_le_pow_right (n := 2) (by decide) (Nat.le_max_left a.dep b.dep)
    have p2 := Nat.pow_le_pow_right (n := 2) (by decide) (Nat.le_max_right a.dep b.dep)
    show (szP (thP a) + (szP (thP b) + 0) + 2) + 2 ≤ 5 * 2 ^ (max a.dep b.dep + 1)
    rw [Nat.pow_succ]; omega
  | .alike a b => by
    have h1 := sz_len a; have h2 := sz_len b
    have p1 := Nat.pow_le_pow_right (n := 2) (by decide) (Nat.le_max_left a.dep b.dep)
    have p2 := Nat.pow_le_pow_right (n := 2) (by decide) (Nat.le_max_right a.dep b.dep)
    show (szP (thP a) + (szP (thP b) + 0) + 2) + 2 ≤ 5 * 2 ^ (max a.dep b.dep + 1)
    rw [Nat.pow_succ]; omega
  | .says _ a => by
    have := sz_len a
    have : 0 < 2 ^ a.dep := Nat.pow_pos (by decide)
    show (1 + (szP (thP a) + 0) + 2) + 2 ≤ 5 * 2 ^ (a.dep + 1)
    rw [Nat.pow_succ]; omega
def okW (x : Str) : Prop := x.length ≤ 5 ∧ (∀ c ∈ x.cps.toList, c < 128) ∧ 32 ∉ x.cps.toList
theorem okW_num {k : Nat} (h : k < 8) : okW (numS k) := by
  have h' : ∀ k : Fin 8, (numS k.val).length ≤ 5 ∧ (∀ c ∈ (numS k.val).cps.toList, c < 128) ∧ 32 ∉ (numS k.val).cps.toList := by decide +kernel
  exact h' ⟨k, h⟩
theorem fl_ok : ∀ t : Th, TX.Th.low t → ∀ x ∈ flat (thP t), okW x := by
  have cons : ∀ (x : Str) (l : List Str), okW x → (∀ y ∈ l, okW y) → ∀ y ∈ x :: l, okW y := fun x l hx hl y hy => by
    rcases List.mem_cons.mp hy with rfl | hy
    · exact hx
    · exact hl y hy
  have app : ∀ (a b : List Str), (∀ y ∈ a, okW y) → (∀ y ∈ b, okW y) → ∀ y ∈ a ++ b, okW y := fun a b ha hb y hy => by
    rcases List.mem_append.mp hy with hy | hy
    · exact ha y hy
    · exact hb y hy
  have non : ∀ y ∈ ([] : List Str), okW y := fun y hy => nomatch hy
  have w1 : okW "is" := by unfold okW; decide +kernel
  have w2 : okW "many" := by unfold okW; decide +kernel
  have w3 : okW "not" := by unfold okW; decide +kernel
  have w4 : okW "and" := by unfold okW; decide +kernel
  have w5 : okW "or" := by unfold okW; decide +kernel
  have w6 : okW "alike" := by unfold okW; decide +kernel
  have w7 : okW "says" := by unfold okW; decide +kernel
  intro t
  induction t with
  | is k => exact fun h => cons _ _ w1 (cons _ _ (okW_num h) non)
  | many k => exact fun h => cons _ _ w2 (cons _ _ (okW_num h) non)
  | not a i => exact fun h => cons _ _ w3 (app _ _ (i h) non)
  | and a b i j => exact fun h => cons _ _ w4 (app _ _ (i h.1) (app _ _ (j h.2) non))
  | or a b i j => exact fun h => cons _ _ w5 (app _ _ (i h.1) (app _ _ (j h.2) non))
  | alike a b i j => exact fun h => cons _ _ w6 (app _ _ (i h.1) (app _ _ (j h.2) non))
  | says k a i => exact fun h => cons _ _ w7 (app [numS k] (flat (thP a) ++ []) (cons _ _ (okW_num h.1) non) (app (flat (thP a)) [] (i h.2) non))
theorem wt_ok : ∀ {ws : List Str}, (∀ x ∈ ws, okW x) → wtS ws ≤ 6 * ws.length
  | [], _ => Nat.le_refl _
  | x :: ws, h => by
    have e : wtS (x :: ws) = (x.length + 1) + wtS ws := by rw [← wt_one x, ← wtS_app]; rfl
    have h1 := (h x List.mem_cons_self).1
    have ih := wt_ok fun y hy => h y (List.mem_cons_of_mem _ hy)
    rw [e, List.length_cons]
    omega
theorem th_lowP : ∀ t : Th, TX.Th.low t → lowP (thP t)
  | .is _, h => ⟨h, trivial⟩
  | .many _, h => ⟨h, trivial⟩
  | .not a, h => ⟨th_lowP a h, trivial⟩
  | .and a b, h => ⟨th_lowP a h.1, th_lowP b h.2, trivial⟩
  | .or a b, h => ⟨th_lowP a h.1, th_lowP b h.2, trivial⟩
  | .alike a b, h => ⟨th_lowP a h.1, th_lowP b h.2, trivial⟩
  | .says _ a, h => ⟨h.1, th_lowP a h.2, trivial⟩
theorem pt_fl_all : (∀ p : PT, dpt p ≤ (flat p).length ∧ nd (ptD p) ≤ 2 * (flat p).length) ∧ ∀ l : List PT, dpts l ≤ (flats l).length ∧ nds (ptDs l) ≤ 2 * (flats l).length := by
  have h : ∀ k : Nat, (∀ p : PT, sizeOf p < k → dpt p ≤ (flat p).length ∧ nd (ptD p) ≤ 2 * (flat p).length) ∧ ∀ l : List PT, sizeOf l < k → dpts l ≤ (flats l).length ∧ nds (ptDs l) ≤ 2 * (flats l).length := by
    intro k
    induction k with
    | zero => exact ⟨fun _ h => absurd h (Nat.not_lt_zero _), fun _ h => absurd h (Nat.not_lt_zero _)⟩
    | succ k ih =>
      refine ⟨fun p hp => ?_, fun l hl => ?_⟩
      · cases p with
        | num j => exact ⟨Nat.zero_le _, by show 1 ≤ 2 * 1; decide⟩
        | node x xs =>
          obtain ⟨h1, h2⟩ := ih.2 xs (by simp at hp; omega)
          refine ⟨?_, ?_⟩
          · show dpts xs + 1 ≤ (flats xs).length + 1
            omega
          · show (1 + nds (ptDs xs)) + 1 ≤ 2 * ((flats xs).length + 1)
            omega
      · cases l with
        | nil => exact ⟨Nat.le_refl _, Nat.le_refl _⟩
        | cons p r =>
          simp at hl
          obtain ⟨h1, h2⟩ := ih.1 p (by omega)
          obtain ⟨h3, h4⟩ := ih.2 r (by omega)
          have e : (flats (p :: r)).length = (flat p).length + (flats r).length := List.length_append
          rw [e]
          refine ⟨?_, ?_⟩
          · show max (dpt p) (dpts r) ≤ _
            omega
          · show nd (ptD p) + nds (ptDs r) ≤ _
            omega
  exact ⟨fun p => (h _).1 p (Nat.lt_succ_self _), fun l => (h _).2 l (Nat.lt_succ_self _)⟩
theorem nu_low {x : Str} {k : Nat} (h : nu x = some k) : k < 8 := by
  unfold nu at h
  cases hv : valD (numsD 8) (.inr x) with
  | none => rw [hv] at h; cases h
  | some d =>
    unfold valD at hv
    obtain ⟨kv, hf, e⟩ := Option.map_eq_some_iff.mp hv
    have hm := List.mem_of_find?_eq_some hf
    unfold numsD at hm
    rw [List.mem_map] at hm
    obtain ⟨j, hj, rfl⟩ := hm
    have e' : d = .int (j : Nat) := e.symm
    subst e'
    have hv' : valD (numsD 8) (.inr x) = some (.int (j : Nat)) := hv
    rw [hv'] at h
    have h' : some ((j : Nat) : Int).toNat = some k := h
    rw [Int.toNat_natCast] at h'
    cases h'
    exact List.mem_range.mp hj
theorem nu_eq {x : Str} {k : Nat} (h : nu x = some k) : x = numS k := by
  cases hv : valD (numsD 8) (.inr x) with
  | none => rw [nu_none hv] at h; cases h
  | some d =>
    obtain ⟨j, _, h2, h3⟩ := nu_some hv
    rw [h] at h2
    cases h2
    exact h3
theorem nu_is {w : Str} (h : (valD (numsD 8) (.inr w)).isNone = true) : nu w = none := nu_none (by simpa using h)
theorem ar_of {w : Str} {ks : List Str} {n : Nat} (h : formK w = some ks) (e : ks.length = n) : ar w = some n := by unfold ar; rw [h, ← e]; rfl
theorem gram : Gram ar nu where
  num := fun k hk => by
    have h : ∀ k : Fin 8, nu (numS k.val) = some k.val := by decide +kernel
    exact h ⟨k, hk⟩
  not_num := fun w k h => nu_eq h
  is_ := ⟨nu_is (by decide +kernel), ar_of fk_is rfl⟩
  many_ := ⟨nu_is (by decide +kernel), ar_of fk_many rfl⟩
  not_ := ⟨nu_is (by decide +kernel), ar_of fk_not rfl⟩
  and_ := ⟨nu_is (by decide +kernel), ar_of fk_and rfl⟩
  or_ := ⟨nu_is (by decide +kernel), ar_of fk_or rfl⟩
  alike_ := ⟨nu_is (by decide +kernel), ar_of fk_alike rfl⟩
  says_ := ⟨nu_is (by decide +kernel), ar_of fk_says rfl⟩
theorem lowPs_of : ∀ {l : List PT}, (∀ p ∈ l, lowP p) → lowPs l
  | [], _ => trivial
  | p :: l, h => ⟨h p List.mem_cons_self, lowPs_of fun q hq => h q (List.mem_cons_of_mem _ hq)⟩
theorem run_low : ∀ (ws : List Str) (st : List PT), run ar nu ws = some st → ∀ p ∈ st, lowP p
  | [], st, h => by cases h; exact fun _ h => nomatch h
  | w :: ws, st, h => by
    rw [run_cons] at h
    obtain ⟨s0, h0, h1⟩ := Option.bind_eq_some_iff.mp h
    have ih := run_low ws s0 h0
    unfold TX.step at h1
    split at h1
    · rename_i k hk
      cases h1
      intro p hp
      rcases List.mem_append.mp hp with hp | hp
      · exact ih p hp
      · simp at hp
        subst hp
        exact nu_low hk
    · split at h1
      · cases h1
      · split at h1
        · cases h1
        · cases h1
          intro p hp
          rcases List.mem_append.mp hp with hp | hp
          · exact ih p (List.mem_of_mem_take hp)
          · simp at hp
            subst hp
            exact lowPs_of fun q hq => ih q (List.mem_of_mem_drop (List.mem_reverse.mp hq))
theorem run_words {ws : List Str} {p : PT} (h : run ar nu ws = some [p]) : flat p = ws := by
  have := run_flat ar nu (fun w k => nu_eq) ws [p] h
  have e : flats [p].reverse = flat p ++ [] := rfl
  rw [e, List.append_nil] at this
  exact this
/-! things -/
theorem w_nat {k n : Nat} (h : k < n) : withinD (.int (k : Nat)) 0 ((n : Nat) - 1) = true := by
  show (decide ((0 : Int) ≤ (k : Nat)) && decide (((k : Nat) : Int) ≤ (n : Nat) - 1)) = true
  rw [decide_eq_true (by omega), decide_eq_true (by omega)]; rfl
theorem lim_g (n : Int) : lim n "guest" = n - 1 := by unfold lim; rw [if_pos rfl]
theorem lim_c (n : Int) : lim n "count" = 7 := by unfold lim; rw [if_neg (by simp [str_inj])]
theorem gt : ("guest" : Str) ≠ "thing" := by simp [str_inj]
theorem ct : ("count" : Str) ≠ "thing" := by simp [str_inj]
theorem th_is {n : Int} {d : Dt} : isTh n (.tup [.str "is", d]) = withinD d 0 (n - 1) := by
  unfold isTh
  rw [fk_is]
  simp only [isPs, if_neg gt, lim_g]
  simp
theorem th_many {n : Int} {d : Dt} : isTh n (.tup [.str "many", d]) = withinD d 0 7 := by
  unfold isTh
  rw [fk_many]
  simp only [isPs, if_neg ct, lim_c]
  simp
theorem th_not {n : Int} {d : Dt} : isTh n (.tup [.str "not", d]) = isTh n d := by
  conv => lhs; unfold isTh
  rw [fk_not]
  simp [isPs]
theorem th_and {n : Int} {d e : Dt} : isTh n (.tup [.str "and", d, e]) = (isTh n d && isTh n e) := by
  conv => lhs; unfold isTh
  rw [fk_and]
  simp [isPs]
theorem th_or {n : Int} {d e : Dt} : isTh n (.tup [.str "or", d, e]) = (isTh n d && isTh n e) := by
  conv => lhs; unfold isTh
  rw [fk_or]
  simp [isPs]
theorem th_alike {n : Int} {d e : Dt} : isTh n (.tup [.str "alike", d, e]) = (isTh n d && isTh n e) := by
  conv => lhs; unfold isTh
  rw [fk_alike]
  simp [isPs]
theorem th_says {n : Int} {d e : Dt} : isTh n (.tup [.str "says", d, e]) = (withinD d 0 (n - 1) && isTh n e) := by
  conv => lhs; unfold isTh
  rw [fk_says]
  simp only [isPs, if_neg gt, lim_g]
  simp
theorem isTh_enc {n : Nat} : ∀ t : Th, t.wf n → TX.Th.low t → isTh (n : Nat) (enc t) = true := by
  intro t
  induction t with
  | is k => intro h _; show isTh (n : Nat) (.tup [.str "is", .int (k : Nat)]) = true; rw [th_is]; exact w_nat h
  | many m =>
    intro _ h
    have h : m < 8 := h
    show isTh (n : Nat) (.tup [.str "many", .int (m : Nat)]) = true
    rw [th_many]
    show (decide ((0 : Int) ≤ (m : Nat)) && decide (((m : Nat) : Int) ≤ 7)) = true
    rw [decide_eq_true (by omega), decide_eq_true (by omega)]; rfl
  | not a ih => intro h l; show isTh (n : Nat) (.tup [.str "not", enc a]) = true; rw [th_not]; exact ih h l
  | and a b i j => intro h l; show isTh (n : Nat) (.tup [.str "and", enc a, enc b]) = true; rw [th_and, i h.1 l.1, j h.2 l.2]; rfl
  | or a b i j => intro h l; show isTh (n : Nat) (.tup [.str "or", enc a, enc b]) = true; rw [th_or, i h.1 l.1, j h.2 l.2]; rfl
  | alike a b i j => intro h l; show isTh (n : Nat) (.tup [.str "alike", enc a, enc b]) = true; rw [th_alike, i h.1 l.1, j h.2 l.2]; rfl
  | says k a i => intro h l; show isTh (n : Nat) (.tup [.str "says", .int (k : Nat), enc a]) = true; rw [th_says, w_nat h.1, i h.2 l.2]; rfl
theorem lay_enc : ∀ t : Th, lay (enc t) = true
  | .is _ => by show (lay (.str "is") && (true && true)) = true; decide +kernel
  | .many _ => by show (lay (.str "many") && (true && true)) = true; decide +kernel
  | .not a => by show (lay (.str "not") && (lay (enc a) && true)) = true; rw [lay_enc a]; decide +kernel
  | .and a b => by show (lay (.str "and") && (lay (enc a) && (lay (enc b) && true))) = true; rw [lay_enc a, lay_enc b]; decide +kernel
  | .or a b => by show (lay (.str "or") && (lay (enc a) && (lay (enc b) && true))) = true; rw [lay_enc a, lay_enc b]; decide +kernel
  | .alike a b => by show (lay (.str "alike") && (lay (enc a) && (lay (enc b) && true))) = true; rw [lay_enc a, lay_enc b]; decide +kernel
  | .says _ a => by show (lay (.str "says") && (true && (lay (enc a) && true))) = true; rw [lay_enc a]; decide +kernel
theorem dpt_enc : ∀ t : Th, (pyD (enc t)).depth ≤ t.dep + 1
  | .is _ => by simp [enc, pyD, pyDs, PyData.depth, PyData.depthAll, Th.dep]
  | .many _ => by simp [enc, pyD, pyDs, PyData.depth, PyData.depthAll, Th.dep]
  | .not a => by have := dpt_enc a; simp [enc, pyD, pyDs, PyData.depth, PyData.depthAll, Th.dep]; omega
  | .and a b => by have := dpt_enc a; have := dpt_enc b; simp [enc, pyD, pyDs, PyData.depth, PyData.depthAll, Th.dep]; omega
  | .or a b => by have := dpt_enc a; have := dpt_enc b; simp [enc, pyD, pyDs, PyData.depth, PyData.depthAll, Th.dep]; omega
  | .alike a b => by have := dpt_enc a; have := dpt_enc b; simp [enc, pyD, pyDs, PyData.depth, PyData.depthAll, Th.dep]; omega
  | .says _ a => by have := dpt_enc a; simp [enc, pyD, pyDs, PyData.depth, PyData.depthAll, Th.dep]; omega
/-! a thing's text is read as the thing -/
structure TxOk (n : Nat) (t : Th) : Prop where
  wf : t.wf n
  low : TX.Th.low t
  dep : t.dep ≤ 3
def txt (t : Th) : Str := joinS (flat (thP t))
section
variable {n : Nat} {t : Th}
theorem TxOk.len (h : TxOk n t) : (flat (thP t)).length ≤ 23 := by
  have := fl_len t
  have p := Nat.pow_le_pow_right (n := 2) (by decide) h.dep
  have : 2 ^ 3 = 8 := rfl
  omega
theorem TxOk.sz (h : TxOk n t) : szP (thP t) ≤ 400 := by
  have := sz_len t
  have p := Nat.pow_le_pow_right (n := 2) (by decide) h.dep
  have : 2 ^ 3 = 8 := rfl
  omega
theorem TxOk.wt (h : TxOk n t) : wtS (flat (thP t)) ≤ 138 := by
  have := wt_ok (fl_ok t h.low)
  have := h.len
  omega
theorem TxOk.tlen (h : TxOk n t) : (txt t).length ≤ 138 := Nat.le_trans (join_len _) h.wt
theorem TxOk.asc (h : TxOk n t) : Asc (txt t) := asc_join fun x hx => (fl_ok t h.low x hx).2.1
theorem TxOk.free (h : TxOk n t) : Free (flat (thP t)) := fun x hx => (fl_ok t h.low x hx).2.2
theorem TxOk.split (h : TxOk n t) : splitS (txt t) = flat (thP t) := split_join (flat_ne _) h.free
theorem TxOk.run (h : TxOk n t) : run ar nu (splitS (txt t)) = some [thP t] := by
  rw [h.split]
  have := run_app_th gram t [] h.low
  rw [List.append_nil] at this
  rw [this]
  rfl
theorem TxOk.read (h : TxOk n t) : readR (n : Nat) (txt t) = some (thP t) := by
  unfold readR
  rw [h.run]
  show (if isTh (n : Nat) (ptD (thP t)) = true then some (thP t) else none) = _
  rw [thP_enc, isTh_enc t h.wf h.low]
  rfl
end
theorem nd_run {z : Str} (h : z.length ≤ 900) : ∀ p, run ar nu (splitS z) = some [p] → nd (ptD p) < sizeLine := fun p hp => by
  have h1 := run_words hp
  have h2 := (pt_fl_all.1 p).2
  have h3 := wt_len (splitS z)
  rw [split_wt] at h3
  rw [h1] at h2
  have hs : sizeLine = 16777216 := sizeLine_eq
  omega
theorem found_node {n : Nat} {z : Str} {p : PT} (h : readR (n : Nat) z = some p) : isTh (n : Nat) (ptD p) = true ∧ run ar nu (splitS z) = some [p] ∧ ∃ u xs, p = .node u xs := by
  unfold readR at h
  split at h
  · rename_i q hq
    split at h
    · rename_i ht
      cases h
      refine ⟨ht, hq, ?_⟩
      cases p with
      | num k => cases ht
      | node u xs => exact ⟨u, xs, rfl⟩
    · cases h
  · cases h
/-! the nine texts that are none -/
theorem read_bad {n : Int} {z : Str} {ws : List Str} (hz : z = joinS ws) (hn : ws ≠ []) (hf : Free ws) (h : ∀ p, run ar nu ws ≠ some [p]) : readR n z = none := by
  unfold readR
  rw [hz, split_join hn hf]
  split
  · rename_i p hp
    exact absurd hp (h p)
  · rfl
theorem step_odd {w : Str} (h1 : nu w = none) (h2 : ar w = none) (st : List PT) : TX.step ar nu st w = none := by
  unfold TX.step
  rw [h1, h2]
theorem emp_odd : nu "" = none ∧ ar "" = none := ⟨nu_is (by decide +kernel), by decide +kernel⟩
theorem str_emp (x : Str) : x ++ joinS [""] = x := by
  apply Str.ext'
  show x.cps ++ #[] = x.cps
  simp
theorem free_app {a b : List Str} (ha : Free a) (hb : Free b) : Free (a ++ b) := fun w hw => by
  rcases List.mem_append.mp hw with h | h
  · exact ha w h
  · exact hb w h
section
variable {n : Nat} {t : Th}
theorem bad1 (h : TxOk n t) : readR (n : Nat) (txt t ++ Str.ofString " ") = none := by
  refine read_bad (ws := flat (thP t) ++ ([""] : List Str)) ?_ (by simp) (free_app h.free (by decide +kernel)) fun p hp => ?_
  · rw [join_app (flat_ne _) (by simp), str_emp]
    rfl
  · rw [run_mono (suf := [""])] at hp
    · cases hp
    · rw [run_cons]
      exact step_odd emp_odd.1 emp_odd.2 []
theorem bad2 (h : TxOk n t) : readR (n : Nat) (Str.ofString " " ++ txt t) = none := by
  refine read_bad (ws := "" :: flat (thP t)) ?_ (by simp) (free_app (a := [""]) (by decide +kernel) h.free) fun p hp => ?_
  · rw [join_cons _ (flat_ne _)]
    apply Str.ext'
    show (Str.ofString " ").cps ++ (txt t).cps = (#[] ++ spS.cps) ++ (txt t).cps
    simp [spS]
  · rw [run_cons] at hp
    obtain ⟨st, _, h2⟩ := Option.bind_eq_some_iff.mp hp
    rw [step_odd emp_odd.1 emp_odd.2 st] at h2
    cases h2
theorem is0 : run ar nu ["is", "0"] = some [thP (.is 0)] := by
  have := run_app_th gram (.is 0) [] (show 0 < 8 by decide)
  exact this
theorem bad3 (h : TxOk n t) : readR (n : Nat) (txt t ++ Str.ofString " is 0") = none := by
  refine read_bad (ws := flat (thP t) ++ (["is", "0"] : List Str)) ?_ (by simp) (free_app h.free (by decide +kernel)) fun p hp => ?_
  · rw [join_app (flat_ne _) (by simp), Str.append_assoc]
    congr 1
  · rw [run_app_th gram t _ h.low, is0] at hp
    cases hp
theorem badW {ws : List Str} {z : Str} {n : Int} (hz : z = joinS ws) (hn : ws ≠ []) (hf : Free ws) (h : ((run ar nu ws).map List.length) ≠ some 1) : readR n z = none :=
  read_bad hz hn hf fun p hp => h (by rw [hp]; rfl)
theorem bad6 (hn : n ≤ 5) : readR (n : Nat) (Str.ofString "is " ++ numS n) = none := by
  have h5 : n < 8 := by omega
  have hs : splitS (Str.ofString "is " ++ numS n) = (["is", numS n] : List Str) := by
    have e : Str.ofString "is " ++ numS n = joinS ["is", numS n] := by
      rw [join_cons _ (by simp)]
      have h' : Str.ofString "is " = Str.ofString "is" ++ spS := by decide +kernel
      rw [h']
      rfl
    rw [e]
    refine split_join (by simp) fun w hw => ?_
    rcases List.mem_cons.mp hw with rfl | hw
    · decide +kernel
    · simp at hw
      subst hw
      exact (okW_num h5).2.2
  unfold readR
  have hr : run ar nu ["is", numS n] = some [thP (.is n)] := run_app_th gram (.is n) [] h5
  rw [hs, hr]
  show (if isTh (n : Nat) (ptD (thP (.is n))) = true then _ else none) = none
  rw [thP_enc]
  have : isTh (n : Nat) (enc (.is n)) = false := by
    show isTh (n : Nat) (.tup [.str "is", .int (n : Nat)]) = false
    rw [th_is]
    show (decide ((0 : Int) ≤ (n : Nat)) && decide (((n : Nat) : Int) ≤ (n : Nat) - 1)) = false
    rw [Bool.and_eq_false_iff]
    exact .inr (decide_eq_false (by omega))
  rw [this]
  rfl
end
theorem bad4 {n : Int} : readR n (Str.ofString "not") = none := badW (ws := ["not"]) rfl (by simp) (by decide +kernel) (by decide +kernel)
theorem bad5 {n : Int} : readR n (Str.ofString "") = none := badW (ws := [""]) rfl (by simp) (by decide +kernel) (by decide +kernel)
theorem bad7 {n : Int} : readR n (Str.ofString "many 8") = none := badW (ws := ["many", "8"]) (by decide +kernel) (by simp) (by decide +kernel) (by decide +kernel)
theorem bad8 {n : Int} : readR n (Str.ofString "is 0 is 0") = none := badW (ws := ["is", "0", "is", "0"]) (by decide +kernel) (by simp) (by decide +kernel) (by decide +kernel)
theorem bad9 {n : Int} : readR n (Str.ofString "is") = none := badW (ws := ["is"]) rfl (by simp) (by decide +kernel) (by decide +kernel)
end K02
--LAW k02
namespace K02
open PySem PySem.Spec L2 DL TH KT KH KFM
local macro_rules | `(tactic| walk_at "dx") => `(tactic| (try simp only [↓dSeq, ↓dIfS, ↓dOr, ↓dAnd, ↓dNot, ↓dTru, ↓dIsi, ↓dVar, ↓dRet, ↓dC, ↓dNext, ↓dChain, ↓rdI0, ↓rdI, ↓dTest, ↓dOp, ↓endsD, ↓startD, ↓dAndV, ↓dOrV, ↓dNotV, ↓dIf, ↓dCall, ↓dCons, ↓dNil, ↓dTup, ↓dLst, ↓dSet, ↓dAsg, ↓dgName, ↓dgNil, ↓dgCons, ↓dgTup, ↓dDrop, ↓dCB, ↓dMGet, ↓rdLen_eq, ↓rdLen0, ↓rdIx_eq, ↓rdIx0, ↓rdIs, ↓rdEq_eq, ↓rdEq0, ↓rdAdd, ↓rdMul, ↓dUn, ↓dPart, ↓dNoPart, ↓dSl, ↓rdSl_eq, ↓rdSl0, ↓rdList, ↓rdTuple_eq, ↓rdTuple0, ↓rdAll, ↓dAppend, ↓rdAppend_eq, ↓rdAppend0, ↓dPop, ↓isLstC, ↓dFor, ↓diZip, ↓diSeq, ↓seqR_eq, ↓seqR0, ↓diRng1, ↓dWhile, ↓dDict, ↓dPairs, ↓keysD, ↓keyD, get_endz, get_endj, set_endz, set_endj, Option.some.injEq, Cl.lst.injEq, exists_eq', exists_eq, exists_eq_left,
  isi_non, isi_bl, isi_int, isi_str, isi_tup, isi_ref, tru_non, tru_bl, tru_int, tru_tup, tru_ref, len_tup, len_ref, at_tup, at_ref, at_refs, is_non_non, is_bl_bl, is_bl_non, is_non_bl, is_int_non, is_str_non, is_tup_non, is_ref_non, is_int_bl, is_str_bl, is_tup_bl, is_ref_bl, eqs_int, eqs_str, eqs_bl, seq_tup, seq_ref, atI_0, atI_1, atI_2, succ_eq0, zero_eq0, str_inj,
  List.map_cons, List.map_nil, List.length_cons, List.length_nil, List.replicate, List.cons_append, List.nil_append, List.append_nil, List.append_assoc, List.length_append, List.getElem?_cons_zero, List.getElem?_cons_succ, List.set_cons_zero, List.set_cons_succ, if_true, if_false, Bool.not_true, Bool.not_false, Bool.false_eq_true, Bool.or_true, Bool.or_false, Bool.true_or, Bool.false_or, Bool.and_true, Bool.and_false, Bool.true_and, Bool.false_and, Bool.false_xor, Bool.true_xor, Nat.sub_self, Nat.reduceAdd, Nat.reduceSub, decide_true, decide_false, true_and, and_true, ne_eq, String.reduceBEq, String.reduceEq, reduceIte, reduceCtorEq]))
--WHOLE read(_law_text_here, _law_many) != _law_thing_here
open TX
abbrev s_law : Stmt := top 25
theorem sc_law : FnScope ["_law_script", "_law_many", "_law_cell_here", "_law_thing_here", "_law_text_here", "_law_bad", "_law_found", "_law_more"] ["_law_script"] (defScope s_law) := ⟨rfl, rfl, rfl, by decide +kernel, rfl, by decide +kernel, by decide +kernel⟩
theorem thP_node (t : Th) : ∃ u xs, thP t = .node u xs := by cases t <;> exact ⟨_, _, rfl⟩
theorem asc_app {a b : Str} (ha : Asc a) (hb : Asc b) : Asc (a ++ b) := fun c hc => by
  have hc' : c ∈ (a.cps ++ b.cps).toList := hc
  rw [Array.toList_append] at hc'
  rcases List.mem_append.mp hc' with h | h
  · exact ha c h
  · exact hb c h
theorem len_app (a b : Str) : (a ++ b).length = a.length + b.length := by
  show (a.cps ++ b.cps).size = _
  rw [Array.size_append]
  rfl
theorem text_th {n : Nat} {t : Th} {G : GD} {Q : KD} (h : TxOk n t) (hq : Q (.str (txt t)) G) : sp_l_text 155 [enc t] G Q := by
  obtain ⟨u, xs, e⟩ := thP_node t
  have hd := (pt_fl_all.1 (thP t)).1
  have hl := h.len
  have hw := h.wt
  have hlow := th_lowP t h.low
  unfold txt at hq
  rw [e] at hd hl hw hlow hq
  have hd' : dpts xs + 1 ≤ (flat (.node u xs)).length := hd
  exact ⟨u, xs, by rw [← e, thP_enc], by omega, by omega, hlow, hq⟩
theorem text_found {z : Str} {u : Str} {xs : List PT} {G : GD} {Q : KD} (hz : z.length ≤ 150) (hr : run ar nu (splitS z) = some [.node u xs]) (hq : Q (.str z) G) : sp_l_text 155 [ptD (.node u xs)] G Q := by
  have h1 := run_words hr
  have h2 := (pt_fl_all.1 (.node u xs)).1
  have h3 := wt_len (splitS z)
  have h4 := split_wt z
  have h5 : dpts xs + 1 ≤ (flat (.node u xs)).length := h2
  have hlow := run_low _ _ hr (.node u xs) (by simp)
  refine ⟨u, xs, rfl, by rw [h1] at h5; omega, by rw [h1]; omega, hlow, ?_⟩
  rw [h1, join_split]
  exact hq
def badL (n : Nat) (t : Th) : List Str := [txt t ++ Str.ofString " ", Str.ofString " " ++ txt t, txt t ++ Str.ofString " is 0", Str.ofString "not", Str.ofString "", Str.ofString "is " ++ numS n, Str.ofString "many 8", Str.ofString "is 0 is 0", Str.ofString "is"]
theorem badL_ok {n : Nat} {t : Th} (h : TxOk n t) (h5 : n ≤ 5) : ∀ z ∈ badL n t, z.length ≤ 150 ∧ Asc z ∧ readR (n : Nat) z = none := by
  have ht := h.tlen
  have ha := h.asc
  have h8 := okW_num (k := n) (by omega)
  have a1 : Asc (Str.ofString " ") := by unfold Asc; decide +kernel
  have a2 : Asc (Str.ofString " is 0") := by unfold Asc; decide +kernel
  have a3 : Asc (Str.ofString "is ") := by unfold Asc; decide +kernel
  have l1 : (Str.ofString " ").length = 1 := by decide +kernel
  have l2 : (Str.ofString " is 0").length = 5 := by decide +kernel
  have l3 : (Str.ofString "is ").length = 3 := by decide +kernel
  intro z hz
  unfold badL at hz
  simp only [List.mem_cons, List.not_mem_nil, or_false] at hz
  rcases hz with rfl | rfl | rfl | rfl | rfl | rfl | rfl | rfl | rfl
  · exact ⟨by rw [len_app]; omega, asc_app ha a1, bad1 h⟩
  · exact ⟨by rw [len_app]; omega, asc_app a1 ha, bad2 h⟩
  · exact ⟨by rw [len_app]; omega, asc_app ha a2, bad3 h⟩
  · exact ⟨by decide +kernel, by unfold Asc; decide +kernel, bad4⟩
  · exact ⟨by decide +kernel, by unfold Asc; decide +kernel, bad5⟩
  · exact ⟨by rw [len_app]; have := h8.1; omega, asc_app a3 h8.2.1, bad6 h5⟩
  · exact ⟨by decide +kernel, by unfold Asc; decide +kernel, bad7⟩
  · exact ⟨by decide +kernel, by unfold Asc; decide +kernel, bad8⟩
  · exact ⟨by decide +kernel, by unfold Asc; decide +kernel, bad9⟩
section
variable {P : Program} {w : World} {K : PySem.W.Frag} {mg : Str → Option Value} {base : Heap}
theorem ok_law {fa : Addr} {fd : FuncData} (T : Bl K mg) (f__law_hall : Fnc P w K mg base "_law_hall" 6 ["_law_script"] sp_hall) (f__law_thing : Fnc P w K mg base "_law_thing" 5 ["_law_cell_here", "_law_many", "_law_deep"] (sp_thing 4)) (f__law_text : Fnc P w K mg base "_law_text" 156 ["_law_thing_here"] (sp_l_text 155))
    (f_written : Fnc P w K mg base "written" 1 ["thing"] sp_written) (f_read : Fnc P w K mg base "read" 4 ["text", "many"] (fun ds G Q => sp_read ds G Q fun _ => False)) (f__law_spoilt : Fnc P w K mg base "_law_spoilt" 1 ["_law_text_here", "_law_cell_here"] sp_spoilt) (f__law_read : Fnc P w K mg base "_law_read" 5 ["_law_text_here", "_law_many"] sp_l_read)
    (f_is_thing : Fnc P w K mg base "is_thing" 3 ["thing", "many"] sp_is_thing)
    (Fn : Fun K "law" "law" s_law fa fd) : FnOk P w K mg base CX0 157 fa fd ["_law_script"] (liSp K 1 sp_law) := by
  have nd := sc_law.nd
  refine okD' Fn sc_law fun cdv A outer s H E hr => ⟨_, fun F => (dss_cons' (ds_set' (i := 1) nd (de_ix' hr (de_callF' f__law_hall (hr.mono (by first | decide | omega)) (da_cons' (de_var' 0) da_nil')) de_int'))
  (dss_cons' (ds_for' (di_seq' (de_sl' (de_var' 0) (do_some' de_int') (do_some' de_int'))) (fun _ => (dg_name' (i := 2) nd))
  (fun _ => (dss_cons' (ds_set' (i := 3) nd (de_callF' f__law_thing (hr.mono (by first | decide | omega)) (da_cons' (de_var' 2) (da_cons' (de_var' 1) (da_cons' de_int' da_nil')))))
  (dss_cons' (ds_set' (i := 4) nd (de_callF' f__law_text (hr.mono (by first | decide | omega)) (da_cons' (de_var' 3) da_nil')))
  (dss_cons' (ds_if' (dt_w' (dw_or' (dt_ne' (de_callF' f_written (hr.mono (by first | decide | omega)) (da_cons' (de_var' 3) da_nil')) (de_var' 4)) (dw_or1' (dt_neP' hr (de_callF' f_read (hr.mono (by first | decide | omega)) (da_cons' (de_var' 4) (da_cons' (de_var' 1) da_nil'))) (de_var' 3)))))
  (dss_one' (ds_ret' de_bl'))
  dss_nil')
  (dss_cons' (ds_set' (i := 5) nd (de_callF' f__law_spoilt (hr.mono (by first | decide | omega)) (da_cons' (de_var' 4) (da_cons' (de_var' 2) da_nil'))))
  (dss_cons' (ds_set' (i := 6) nd (de_callF' f__law_read (hr.mono (by first | decide | omega)) (da_cons' (de_var' 5) (da_cons' (de_var' 1) da_nil'))))
  (dss_cons' (ds_if' (dt_w' (dw_and' (dt_isnot' (de_var' 6) de_non') (dw_and1' (dt_w' (dw_or' (dt_not' (dt_tru' (de_callF' f_is_thing (hr.mono (by first | decide | omega)) (da_cons' (de_var' 6) (da_cons' (de_var' 1) da_nil'))))) (dw_or1' (dt_ne' (de_callF' f__law_text (hr.mono (by first | decide | omega)) (da_cons' (de_var' 6) da_nil')) (de_var' 5))))))))
  (dss_one' (ds_ret' de_bl'))
  dss_nil')
  (dss_one' (ds_for' (di_seq' (de_lst' (da_cons' (de_add' (de_var' 4) de_str') (da_cons' (de_add' de_str' (de_var' 4)) (da_cons' (de_add' (de_var' 4) de_str') (da_cons' de_str' (da_cons' de_str' (da_cons' (de_add' de_str' (de_strof' (da_cons' (de_var' 1) da_nil') T.b_str)) (da_cons' de_str' (da_cons' de_str' (da_cons' de_str' da_nil'))))))))))) (fun _ => (dg_name' (i := 7) nd))
  (fun _ => (dss_one' (ds_if' (dt_isnot' (de_callF' f__law_read (hr.mono (by first | decide | omega)) (da_cons' (de_var' 7) (da_cons' (de_var' 1) da_nil'))) de_non')
  (dss_one' (ds_ret' de_bl'))
  dss_nil')))))))))))))
  (dss_one' (ds_ret' de_bl')))), fun ds G Q hl hsp hb hG => ?_⟩
  unfold sp_law at hsp
  split at hsp
  · rename_i i
    obtain ⟨ns, hi, hq⟩ := hsp
    obtain ⟨m1, m5⟩ := manyN_le ns
    refine ⟨rfl, ns, hi, ?_⟩
    rw [hall_enc ns]
    generalize sgT ns = ss
    generalize manyN ns = n at m1 m5 ⊢
    refine rdIx_of atI_0 ?_
    refine rdSl_ref (cell_fz hi) ?_
    obtain ⟨cs, ecs, _⟩ := cutD_ints ns (some 1) (some 9)
    rw [ecs]
    refine seqR_ref (cell_lst at_last) ?_
    have hsz : sizeLine = 16777216 := sizeLine_eq
    have hc1 : (G ++ [.lst (cs.map Dt.int)] : GD)[G.length]? = some (.lst (cs.map Dt.int)) := at_last
    generalize (G ++ [.lst (cs.map Dt.int)] : GD) = G1 at hc1 ⊢
    refine lp_all (fun σ G' => Grw G1 G' ∧ ∃ s2 s3 s4 s5 s6 s7, σ = [some (.ref i), some (.int (n : Nat)), s2, s3, s4, s5, s6, s7]) (fun d => ∃ c : Int, d = .int c)
      (fun d hd => by rw [List.mem_map] at hd; obtain ⟨c, _, rfl⟩ := hd; exact ⟨c, rfl⟩) ⟨Grw.refl, _, _, _, _, _, _, rfl⟩ (fun _ _ h => h.1.cell (cell_lst hc1)) ?_ ?_
    · rintro σ G2 ⟨g2, s2, s3, s4, s5, s6, s7, rfl⟩
      exact RetD.all (hq _)
    · rintro d K1 ⟨c, rfl⟩ hK1 σ G2 ⟨g2, s2, s3, s4, s5, s6, s7, rfl⟩
      have hen := th_enc (n := (n : Nat)) (by omega) 3 c
      have hok : TxOk n (thT (n : Nat) 3 c) := ⟨by have := th_wf (n := (n : Nat)) (by omega) 3 c; exact this, th_low (by omega) (by omega) 3 c, th_dep 3 c⟩
      refine ⟨rfl, show (1 : Int) ≤ (n : Nat) by omega, by decide, by decide, ?_⟩
      have e3 : (3 : Int).toNat = 3 := rfl
      rw [e3, hen]
      generalize thT (n : Nat) 3 c = t at hok
      refine ⟨rfl, text_th hok ?_⟩
      have ht := hok.tlen
      have ha := hok.asc
      refine ⟨rfl, thP t, (thP_enc t).symm, hok.sz, by have := hok.len; omega, joinOk_of (by have := hok.wt; omega), th_lowP t hok.low, ?_⟩
      refine rdEq_str ?_
      refine iteFb (by show (true ^^ decide (txt t = txt t)) = false; simp) ?_
      refine ⟨rfl, txt t, n, rfl, rfl, by omega, okText_of (by omega) ha, nd_run (by omega), fun hn => ?_, fun p hp => ?_⟩
      · rw [hok.read] at hn
        cases hn
      rw [hok.read] at hp
      cases hp
      rw [thP_enc]
      refine rdEqP_same (lay_enc t) (by have := dpt_enc t; have := hok.dep; omega) ?_
      refine iteFb rfl ?_
      refine ⟨rfl, txt t, c, rfl, rfl, ht, ha, fun w hw => by rw [hok.split] at hw; exact (fl_ok t hok.low w hw).1, fun z hz haz => ?_⟩
      refine ⟨rfl, z, n, rfl, rfl, by omega, okText_of (by omega) haz, nd_run (by omega), fun J => ?_⟩
      have g3 : Grw G1 (G2 ++ J) := g2.more
      generalize (G2 ++ J : GD) = G3 at g3
      have l1 : (Str.ofString " ").length = 1 := by decide +kernel
      have l2 : (Str.ofString " is 0").length = 5 := by decide +kernel
      have l3 : (Str.ofString "is ").length = 3 := by decide +kernel
      cases hr : readR (n : Nat) z with
      | none =>
        have e : foundD (n : Nat) z = .non := by unfold foundD; rw [hr]
        rw [e]
        refine ⟨by rw [l1]; omega, by rw [l1]; omega, by rw [l2]; omega, ?_⟩
        refine ⟨⟨num_log (by omega), ?_⟩⟩
        refine ⟨by show (Str.ofString "is ").length + (numS n).length ≤ _; rw [l3]; have := (okW_num (k := n) (by omega)).1; omega, ?_⟩
        refine ⟨szl 9, ?_⟩
        refine seqR_ref (cell_lst at_last) ?_
        have g4 : Grw G1 (G3 ++ [.lst ((badL n t).map Dt.str)]) := g3.push
        have hc4 : (G3 ++ [.lst ((badL n t).map Dt.str)] : GD)[G3.length]? = some (.lst ((badL n t).map Dt.str)) := at_last
        show lp (G3 ++ [.lst ((badL n t).map Dt.str)] : GD).length _ _ _ _ ((badL n t).map Dt.str) _ (G3 ++ [.lst ((badL n t).map Dt.str)])
        generalize (G3 ++ [.lst ((badL n t).map Dt.str)] : GD) = G4 at g4 hc4 ⊢
        refine lp_all (fun σ G' => Grw G4 G' ∧ ∃ s2 s3 s4 s5 s6 s7, σ = [some (.ref i), some (.int (n : Nat)), s2, s3, s4, s5, s6, s7]) (fun d => ∃ y ∈ badL n t, d = .str y)
          (fun d hd => by rw [List.mem_map] at hd; obtain ⟨y, hy, rfl⟩ := hd; exact ⟨y, hy, rfl⟩) ⟨Grw.refl, _, _, _, _, _, _, rfl⟩ (fun _ _ h => h.1.cell (cell_lst hc4)) ?_ ?_
        · rintro σ G5 ⟨g5, s2, s3, s4, s5, s6, s7, rfl⟩
          exact hK1 _ _ ⟨g4.trans g5, _, _, _, _, _, _, rfl⟩
        · rintro d K2 ⟨y, hy, rfl⟩ hK2 σ G5 ⟨g5, s2, s3, s4, s5, s6, s7, rfl⟩
          obtain ⟨y1, y2, y3⟩ := badL_ok hok m5 y hy
          refine ⟨rfl, y, n, rfl, rfl, by omega, okText_of (by omega) y2, nd_run (by omega), fun J => ?_⟩
          have e : foundD (n : Nat) y = .non := by unfold foundD; rw [y3]
          rw [e]
          exact hK2 _ _ ⟨g5.more, _, _, _, _, _, _, rfl⟩
      | some p =>
        have e : foundD (n : Nat) z = ptD p := by unfold foundD; rw [hr]
        rw [e]
        obtain ⟨h1, h2, u, xs, rfl⟩ := found_node hr
        refine ⟨rfl, nd_run (by omega) _ h2, ?_⟩
        rw [h1]
        refine ⟨rfl, text_found hz h2 ?_⟩
        refine rdEq_str ?_
        refine iteFb (by show (true ^^ decide (z = z)) = false; simp) ?_
        refine ⟨by rw [l1]; omega, by rw [l1]; omega, by rw [l2]; omega, ?_⟩
        refine ⟨⟨num_log (by omega), ?_⟩⟩
        refine ⟨by show (Str.ofString "is ").length + (numS n).length ≤ _; rw [l3]; have := (okW_num (k := n) (by omega)).1; omega, ?_⟩
        refine ⟨szl 9, ?_⟩
        refine seqR_ref (cell_lst at_last) ?_
        have g4 : Grw G1 (G3 ++ [.lst ((badL n t).map Dt.str)]) := g3.push
        have hc4 : (G3 ++ [.lst ((badL n t).map Dt.str)] : GD)[G3.length]? = some (.lst ((badL n t).map Dt.str)) := at_last
        show lp (G3 ++ [.lst ((badL n t).map Dt.str)] : GD).length _ _ _ _ ((badL n t).map Dt.str) _ (G3 ++ [.lst ((badL n t).map Dt.str)])
        generalize (G3 ++ [.lst ((badL n t).map Dt.str)] : GD) = G4 at g4 hc4 ⊢
        refine lp_all (fun σ G' => Grw G4 G' ∧ ∃ s2 s3 s4 s5 s6 s7, σ = [some (.ref i), some (.int (n : Nat)), s2, s3, s4, s5, s6, s7]) (fun d => ∃ y ∈ badL n t, d = .str y)
          (fun d hd => by rw [List.mem_map] at hd; obtain ⟨y, hy, rfl⟩ := hd; exact ⟨y, hy, rfl⟩) ⟨Grw.refl, _, _, _, _, _, _, rfl⟩ (fun _ _ h => h.1.cell (cell_lst hc4)) ?_ ?_
        · rintro σ G5 ⟨g5, s2, s3, s4, s5, s6, s7, rfl⟩
          exact hK1 _ _ ⟨g4.trans g5, _, _, _, _, _, _, rfl⟩
        · rintro d K2 ⟨y, hy, rfl⟩ hK2 σ G5 ⟨g5, s2, s3, s4, s5, s6, s7, rfl⟩
          obtain ⟨y1, y2, y3⟩ := badL_ok hok m5 y hy
          refine ⟨rfl, y, n, rfl, rfl, by omega, okText_of (by omega) y2, nd_run (by omega), fun J => ?_⟩
          have e : foundD (n : Nat) y = .non := by unfold foundD; rw [y3]
          rw [e]
          exact hK2 _ _ ⟨g5.more, _, _, _, _, _, _, rfl⟩
  · exact hsp.elim
end
open PySem PySem.Spec L2 DL TH KT KH
section
variable {P : Program} {w : World} {K : PySem.W.Frag} {mg : Str → Option Value} {base : Heap}
structure Tx (K : PySem.W.Frag) (mg : Str → Option Value) : Prop where
  T : Bl K mg
  p0 : Plc K mg "form_of" s_form_of ["word"]
  p1 : Plc K mg "is_within" s_is_within ["thing", "least", "most"]
  p2 : Plc K mg "has_form" s_has_form ["thing"]
  p3 : Plc K mg "is_thing" s_is_thing ["thing", "many"]
  p4 : Plc K mg "numbers_by_word" s_numbers ["many"]
  p5 : Plc K mg "put_together" s_put ["word", "found"]
  p6 : Plc K mg "read" s_read ["text", "many"]
  p7 : Plc K mg "written" s_written ["thing"]
  p8 : Plc K mg "_law_cell" s_cell ["_law_script", "_law_k"]
  p9 : Plc K mg "_law_mix" s_mix ["_law_cell_here", "_law_prime", "_law_many"]
  p10 : Plc K mg "_law_thing" s_thing ["_law_cell_here", "_law_many", "_law_deep"]
  p11 : Plc K mg "_law_hall" s_hall ["_law_script"]
  p12 : Plc K mg "_law_text" s_l_text ["_law_thing_here"]
  p13 : Plc K mg "_law_spoilt" s_l_spoilt ["_law_text_here", "_law_cell_here"]
  p14 : Plc K mg "_law_read" s_l_read ["_law_text_here", "_law_many"]
theorem law_fn {fa : Addr} {fd : FuncData} (X : Tx K mg) (F : Fun K "law" "law" s_law fa fd) : FnOk P w K mg base CX0 157 fa fd ["_law_script"] (liSp K 1 sp_law) := by
  obtain ⟨C, c, O⟩ := X.T.own
  have f_form_of := ok_form_of (P := P) (w := w) (base := base) X.T X.p0
  have f_is_within := ok_is_within (P := P) (w := w) (base := base) X.T X.p1
  have f_has_form := ok_has_form (P := P) (w := w) (base := base) X.T f_form_of X.p2
  have f_is_thing := ok_is_thing (P := P) (w := w) (base := base) X.T f_form_of f_is_within f_has_form X.p3
  have f_numbers_by_word := ok_numbers (P := P) (w := w) (base := base) X.T X.p4
  have f_put_together := ok_put (P := P) (w := w) (base := base) X.T O f_form_of X.p5
  have f_read := ok_read (P := P) (w := w) (base := base) X.T O f_numbers_by_word f_put_together f_is_thing X.p6
  have f_written := ok_written (P := P) (w := w) (base := base) X.T X.p7
  have f__law_cell := ok_cell (P := P) (w := w) (base := base) X.T X.p8
  have f__law_mix := ok_mix (P := P) (w := w) (base := base) X.T X.p9
  have f__law_thing := ok_thing (P := P) (w := w) (base := base) X.T f__law_mix X.p10 4
  have f__law_hall := ok_hall (P := P) (w := w) (base := base) X.T f__law_cell f__law_mix f__law_thing X.p11
  have f__law_text := ok_l_text (P := P) (w := w) (base := base) X.T X.p12 155
  have f__law_spoilt := ok_l_spoilt (P := P) (w := w) (base := base) X.T X.p13
  have f__law_read := ok_l_read (P := P) (w := w) (base := base) X.T O f_read X.p14
  exact ok_law X.T f__law_hall f__law_thing f__law_text f_written (calmX f_read) f__law_spoilt f__law_read f_is_thing F
end
end K02
open PySem PySem.W PyProof.Rows
set_option maxRecDepth 100000 in
set_option maxHeartbeats 0 in
theorem PySem.Challenge.cw_knavehall_k02_whole_texts_holds : PySem.Challenge.rw_knavehall_k02_whole_texts.Holds := by
  w_on; o_law; k_head; (case hw => w_witness2)
  k_fill
  refine KH.walk (m := 157) (by decide) (l := PySem.Challenge.rw_knavehall_k02_whole_texts) rfl rfl (fun w h Y => PySem.W.kIn_of Y) ?F
  case F =>
    intro w mg fa h KX G hmg
    have b_len := PySem.W.mg_none_of (n := "len") KX G (by k_is)
    have b_isinstance := PySem.W.mg_none_of (n := "isinstance") KX G (by k_is)
    have b_int := PySem.W.mg_none_of (n := "int") KX G (by k_is)
    have b_bool := PySem.W.mg_none_of (n := "bool") KX G (by k_is)
    have b_str := PySem.W.mg_none_of (n := "str") KX G (by k_is)
    have b_tuple := PySem.W.mg_none_of (n := "tuple") KX G (by k_is)
    have b_list := PySem.W.mg_none_of (n := "list") KX G (by k_is)
    have b_zip := PySem.W.mg_none_of (n := "zip") KX G (by k_is)
    have b_range := PySem.W.mg_none_of (n := "range") KX G (by k_is)
    have b_max := PySem.W.mg_none_of (n := "max") KX G (by k_is)
    have b_reversed := PySem.W.mg_none_of (n := "reversed") KX G (by k_is)
    have d_MOST_COUNTED := PySem.W.mg_of (n := "MOST_COUNTED") KX G (by k_is)
    have c_MOST_COUNTED : ∃ t, mg "MOST_COUNTED" = some (.int 7 t) := ⟨_, d_MOST_COUNTED⟩
    have m_FORMS : ∃ a : Addr, mg "FORMS" = some (.ref a) ∧ DL.Tab (DL.RM (L2.KOf KX)) (L2.KOf KX) a KFM.formsD := by
      dsimp only [L2.KOf]
      refine' ⟨_, PySem.W.mg_of KX G ?m, KFM.tab_of ?n⟩
      (case m => k_is)
      (case n => kernel_rfl)
    have own : ∃ C c, DL.OwnX (L2.KOf KX) mg "NoText" "NoWorld" "HallError" C c := by
      dsimp only [L2.KOf]
      have m1 := PySem.W.mg_of (n := "NoText") KX G (by k_is)
      have m2 := PySem.W.mg_of (n := "NoWorld") KX G (by k_is)
      have m3 := PySem.W.mg_of (n := "HallError") KX G (by k_is)
      have b3 := PySem.W.mg_none_of (n := "ValueError") KX G (by k_is)
      have bi := PySem.W.mg_none_of (n := "isinstance") KX G (by k_is)
      refine' ⟨_, _, ⟨⟨?ga, ?gn, ?f1, ?f2, ?f3, ?mo, ?mb⟩, m1, ⟨_, m2, ?k2⟩, b3, DL.bt_VE, ?k1, ?k3, bi⟩, ?xq, m3, ?xx⟩
      (case ga => kernel_rfl); (case gn => kernel_rfl); (case f1 => kernel_rfl); (case f2 => kernel_rfl); (case f3 => kernel_rfl); (case mo => kernel_rfl); (case mb => kernel_rfl)
      (case k2 => kernel_rfl); (case k1 => kernel_rfl); (case k3 => kernel_rfl)
      (case xq => kernel_rfl)
      (case xx => kernel_rfl)
    have p0 : DL.Plc (L2.KOf KX) mg "form_of" K02.s_form_of ["word"] := by
      dsimp only [L2.KOf]
      refine' KH.plc_mk KX G ?a ?l ?c ?k ?b
      (case a => k_is); (case l => k_is); (case c => k_is); (case k => k_is)
      (case b => exact fun us hl => match us, hl with | [_], _ => rfl)
    have p1 : DL.Plc (L2.KOf KX) mg "is_within" K02.s_is_within ["thing", "least", "most"] := by
      dsimp only [L2.KOf]
      refine' KH.plc_mk KX G ?a ?l ?c ?k ?b
      (case a => k_is); (case l => k_is); (case c => k_is); (case k => k_is)
      (case b => exact fun us hl => match us, hl with | [_, _, _], _ => rfl)
    have p2 : DL.Plc (L2.KOf KX) mg "has_form" K02.s_has_form ["thing"] := by
      dsimp only [L2.KOf]
      refine' KH.plc_mk KX G ?a ?l ?c ?k ?b
      (case a => k_is); (case l => k_is); (case c => k_is); (case k => k_is)
      (case b => exact fun us hl => match us, hl with | [_], _ => rfl)
    have p3 : DL.Plc (L2.KOf KX) mg "is_thing" K02.s_is_thing ["thing", "many"] := by
      dsimp only [L2.KOf]
      refine' KH.plc_mk KX G ?a ?l ?c ?k ?b
      (case a => k_is); (case l => k_is); (case c => k_is); (case k => k_is)
      (case b => exact fun us hl => match us, hl with | [_, _], _ => rfl)
    have p4 : DL.Plc (L2.KOf KX) mg "numbers_by_word" K02.s_numbers ["many"] := by
      dsimp only [L2.KOf]
      refine' KH.plc_mk KX G ?a ?l ?c ?k ?b
      (case a => k_is); (case l => k_is); (case c => k_is); (case k => k_is)
      (case b => exact fun us hl => match us, hl with | [_], _ => rfl)
    have p5 : DL.Plc (L2.KOf KX) mg "put_together" K02.s_put ["word", "found"] := by
      dsimp only [L2.KOf]
      refine' KH.plc_mk KX G ?a ?l ?c ?k ?b
      (case a => k_is); (case l => k_is); (case c => k_is); (case k => k_is)
      (case b => exact fun us hl => match us, hl with | [_, _], _ => rfl)
    have p6 : DL.Plc (L2.KOf KX) mg "read" K02.s_read ["text", "many"] := by
      dsimp only [L2.KOf]
      refine' KH.plc_mk KX G ?a ?l ?c ?k ?b
      (case a => k_is); (case l => k_is); (case c => k_is); (case k => k_is)
      (case b => exact fun us hl => match us, hl with | [_, _], _ => rfl)
    have p7 : DL.Plc (L2.KOf KX) mg "written" K02.s_written ["thing"] := by
      dsimp only [L2.KOf]
      refine' KH.plc_mk KX G ?a ?l ?c ?k ?b
      (case a => k_is); (case l => k_is); (case c => k_is); (case k => k_is)
      (case b => exact fun us hl => match us, hl with | [_], _ => rfl)
    have p8 : DL.Plc (L2.KOf KX) mg "_law_cell" K02.s_cell ["_law_script", "_law_k"] := by
      dsimp only [L2.KOf]
      refine' KH.plc_mk KX G ?a ?l ?c ?k ?b
      (case a => k_is); (case l => k_is); (case c => k_is); (case k => k_is)
      (case b => exact fun us hl => match us, hl with | [_, _], _ => rfl)
    have p9 : DL.Plc (L2.KOf KX) mg "_law_mix" K02.s_mix ["_law_cell_here", "_law_prime", "_law_many"] := by
      dsimp only [L2.KOf]
      refine' KH.plc_mk KX G ?a ?l ?c ?k ?b
      (case a => k_is); (case l => k_is); (case c => k_is); (case k => k_is)
      (case b => exact fun us hl => match us, hl with | [_, _, _], _ => rfl)
    have p10 : DL.Plc (L2.KOf KX) mg "_law_thing" K02.s_thing ["_law_cell_here", "_law_many", "_law_deep"] := by
      dsimp only [L2.KOf]
      refine' KH.plc_mk KX G ?a ?l ?c ?k ?b
      (case a => k_is); (case l => k_is); (case c => k_is); (case k => k_is)
      (case b => exact fun us hl => match us, hl with | [_, _, _], _ => rfl)
    have p11 : DL.Plc (L2.KOf KX) mg "_law_hall" K02.s_hall ["_law_script"] := by
      dsimp only [L2.KOf]
      refine' KH.plc_mk KX G ?a ?l ?c ?k ?b
      (case a => k_is); (case l => k_is); (case c => k_is); (case k => k_is)
      (case b => exact fun us hl => match us, hl with | [_], _ => rfl)
    have p12 : DL.Plc (L2.KOf KX) mg "_law_text" K02.s_l_text ["_law_thing_here"] := by
      dsimp only [L2.KOf]
      refine' KH.plc_mk KX G ?a ?l ?c ?k ?b
      (case a => k_is); (case l => k_is); (case c => k_is); (case k => k_is)
      (case b => exact fun us hl => match us, hl with | [_], _ => rfl)
    have p13 : DL.Plc (L2.KOf KX) mg "_law_spoilt" K02.s_l_spoilt ["_law_text_here", "_law_cell_here"] := by
      dsimp only [L2.KOf]
      refine' KH.plc_mk KX G ?a ?l ?c ?k ?b
      (case a => k_is); (case l => k_is); (case c => k_is); (case k => k_is)
      (case b => exact fun us hl => match us, hl with | [_, _], _ => rfl)
    have p14 : DL.Plc (L2.KOf KX) mg "_law_read" K02.s_l_read ["_law_text_here", "_law_many"] := by
      dsimp only [L2.KOf]
      refine' KH.plc_mk KX G ?a ?l ?c ?k ?b
      (case a => k_is); (case l => k_is); (case c => k_is); (case k => k_is)
      (case b => exact fun us hl => match us, hl with | [_, _], _ => rfl)
    have T : K02.Bl (L2.KOf KX) mg := ⟨b_len, b_isinstance, b_int, b_bool, b_str, b_tuple, b_list, b_zip, b_range, b_max, b_reversed, c_MOST_COUNTED, m_FORMS, own⟩
    have X : K02.Tx (L2.KOf KX) mg := ⟨T, p0, p1, p2, p3, p4, p5, p6, p7, p8, p9, p10, p11, p12, p13, p14⟩
    have L : ∃ fa' : Addr, ∃ fd : FuncData, mg "law" = some (.ref fa') ∧ L2.Fun (L2.KOf KX) "law" "law" K02.s_law fa' fd ∧ ∀ (s : Shared) (u : Value), BindsTo s fd ⟨[u], []⟩ [("_law_script", u)] := by
      dsimp only [L2.KOf]
      refine' ⟨_, _, PySem.W.mg_of KX G ?a, L2.fun_mk ?l ?c ?k, ?b⟩
      (case a => k_is); (case l => k_is); (case c => k_is); (case k => k_is)
      exact fun s u => .of_eq rfl
    obtain ⟨fa', fd, e, F, hb⟩ := L
    have e0 := hmg.symm.trans e
    cases e0
    exact ⟨fd, hb, fun base _ _ => K02.law_fn X F⟩
#print axioms PySem.Challenge.cw_knavehall_k02_whole_texts_holds
