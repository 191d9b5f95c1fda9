import PyProof.Rows.All
import Wide.All
import OpenK.AllK
import Wide.FinOn
import Lean
import PyProof.EqAt
import PyProof.EqKinds
import PyProof.TupleCall
import PyProof.NeKinds
import KE.KDictSum
import PyProof.Rows.SortRuns
import PySem.SetOps
import PyProof.Rows.SetFrom
import PyProof.DictWalks
import PyProof.FactsAll.set_1
import PyProof.FactsAll.set_2
import PyProof.MakeMany
import PyProof.CollectWalk
import PyProof.Rows.SortShell
import PyProof.StrWalks
import PyProof.StrLoop
import PyProof.ZipIter
import PyProof.TupleIter
import PyProof.Draws
import PyProof.SliceStr2
import PyProof.StrBlockI
import PyProof.Rows.StrWeight2
import PyProof.StrOps2
import PyProof.ConsumeWalk
import KE.KUnpack
import PySem.Challenge.RW_midlanes_k12_formed
section
set_option Elab.async false
set_option linter.all false
set_option maxRecDepth 100000
/-! THE HAND LAYER, for ints, bools, texts, own classes, LISTS and tuples (index, slices, in, append, pop ..), calls, loops. Paste it whole ahead of your own text; what your proof does not reach may be deleted. -/
namespace L2
open PySem PySem.Spec PyProof.Rows

/-- a key: an int or a str -/
abbrev Key := Sum Int Str
def keyIs : Key → Value → Bool
  | .inl k, v => Value.isInt k v
  | .inr x, v => Value.isStrOf x v
def keyH (w : World) : Key → Int
  | .inl k => hashInt k
  | .inr x => hashStr w x
theorem keyIs_shape : ∀ {k : Key} {v : Value}, keyIs k v = true → (∃ i t, k = Sum.inl i ∧ v = Value.int i t) ∨ (∃ x t, k = Sum.inr x ∧ v = Value.str x t)
  | .inl i, v, h => by
    obtain ⟨t, e⟩ := Value.isInt_shape (k := i) (v := v) h
    exact .inl ⟨i, t, rfl, e⟩
  | .inr x, v, h => by
    obtain ⟨t, e⟩ := Value.isStrOf_shape (x := x) (v := v) h
    exact .inr ⟨x, t, rfl, e⟩
theorem keyIs_int (i : Int) (t : Tok) : keyIs (.inl i) (.int i t) = true := by simp [keyIs, Value.isInt]
theorem keyIs_str (x : Str) (t : Tok) : keyIs (.inr x) (.str x t) = true := by simp [keyIs, Value.isStrOf]
theorem key_ll (a b : Int) : decide ((Sum.inl a : Key) = Sum.inl b) = (a == b) := by
  by_cases e : a = b
  · subst e; simp
  · have h : ¬ (Sum.inl a : Key) = Sum.inl b := fun q => e (Sum.inl.inj q)
    rw [decide_eq_false h]
    exact (beq_eq_false_iff_ne.mpr e).symm
theorem key_rr (a b : Str) : decide ((Sum.inr a : Key) = Sum.inr b) = decide (a = b) := by
  by_cases e : a = b
  · subst e; simp
  · have h : ¬ (Sum.inr a : Key) = Sum.inr b := fun q => e (Sum.inr.inj q)
    rw [decide_eq_false h, decide_eq_false e]
theorem key_lr (a : Int) (b : Str) : decide ((Sum.inl a : Key) = Sum.inr b) = false := decide_eq_false (fun q => nomatch q)
theorem key_rl (a : Str) (b : Int) : decide ((Sum.inr a : Key) = Sum.inl b) = false := decide_eq_false (fun q => nomatch q)

def mixKind (prog : Program) (w : World) : PySem.KeyKind prog w Key where
  is := keyIs
  hash := keyH w
  inj := fun v a b ha hb => by
    rcases keyIs_shape ha with ⟨i, t, rfl, rfl⟩ | ⟨x, t, rfl, rfl⟩
    · rcases keyIs_shape hb with ⟨j, u, rfl, e⟩ | ⟨y, u, rfl, e⟩
      · injection e with e1 _; rw [e1]
      · exact nomatch e
    · rcases keyIs_shape hb with ⟨j, u, rfl, e⟩ | ⟨y, u, rfl, e⟩
      · exact nomatch e
      · injection e with e1 _; rw [e1]
  byValue := fun k v h => by
    rcases keyIs_shape h with ⟨i, t, rfl, rfl⟩ | ⟨x, t, rfl, rfl⟩ <;> rfl
  pyHash := fun hv h => by
    rcases keyIs_shape hv with ⟨i, t, rfl, rfl⟩ | ⟨x, t, rfl, rfl⟩
    · exact wpAny_pyHash_int h
    · exact wpAny_pyHash_str h
  eqBool := fun hu hv h => by
    rcases keyIs_shape hu with ⟨i, t, rfl, rfl⟩ | ⟨x, t, rfl, rfl⟩
    · rcases keyIs_shape hv with ⟨j, u, rfl, rfl⟩ | ⟨y, u, rfl, rfl⟩
      · rw [key_ll] at h; exact wpAny_eqBool_int h
      · rw [key_lr] at h; exact SeqAt.EqAt.int_str i t y u _ _ _ _ h
    · rcases keyIs_shape hv with ⟨j, u, rfl, rfl⟩ | ⟨y, u, rfl, rfl⟩
      · rw [key_rl] at h; exact SeqAt.EqAt.str_int x t j u _ _ _ _ h
      · rw [key_rr] at h; exact wpAny_eqBool_str h
  «strs» := fun k x t v h => by
    rcases keyIs_shape h with ⟨i, u, rfl, e⟩ | ⟨y, u, rfl, e⟩
    · exact nomatch e
    · injection e with e1 _
      subst e1
      cases v <;> rfl

theorem mixKind_int (prog : Program) (w : World) (i : Int) (t : Tok) : (mixKind prog w).is (.inl i) (.int i t) = true := keyIs_int i t
theorem mixKind_str (prog : Program) (w : World) (x : Str) (t : Tok) : (mixKind prog w).is (.inr x) (.str x t) = true := keyIs_str x t
end L2

namespace L2
open PySem PySem.Spec PyProof.Rows

/-- a value, without the heap -/
inductive V where
  | non | bl (b : Bool) | int (i : Int) | str (x : Str) | byt (b : Array UInt8) | flt (b : UInt64) | ref (a : Addr) | ty (n : String)
  deriving DecidableEq

def RelV : V → Value → Prop
  | .non, u => u = Value.none
  | .bl b, u => u = Value.bool b
  | .int i, u => ∃ t, u = Value.int i t
  | .str x, u => ∃ t, u = Value.str x t
  | .byt b, u => ∃ t, u = Value.bytes b t
  | .flt b, u => ∃ t, u = Value.float b t
  | .ref a, u => u = Value.ref a
  | .ty n, u => u = Value.type n

abbrev Vals : List V → List Value → Prop := Paired RelV
theorem Vals.length {xs : List V} {us : List Value} (r : Vals xs us) : xs.length = us.length := Paired.length r
theorem Vals.get : ∀ {xs : List V} {us : List Value} {i : Nat} {x : V}, Vals xs us → xs[i]? = some x → ∃ u, us[i]? = some u ∧ RelV x u
  | _, _, _, _, .nil, e => by simp at e
  | _, _, 0, _, .cons r _, e => by simp at e; subst e; exact ⟨_, rfl, r⟩
  | _, _, i + 1, x, .cons _ t, e => by
    obtain ⟨u, h1, h2⟩ := Vals.get (i := i) (x := x) t (by simpa using e)
    exact ⟨u, by simpa using h1, h2⟩
theorem Vals.set {x : V} {u : Value} (r : RelV x u) : ∀ {xs : List V} {us : List Value} (i : Nat), Vals xs us → Vals (xs.set i x) (us.set i u)
  | _, _, _, .nil => .nil
  | _, _, 0, .cons _ t => .cons r t
  | _, _, i + 1, .cons q t => .cons q (Vals.set r i t)
theorem Vals.append : ∀ {xs ys : List V} {us ws : List Value}, Vals xs us → Vals ys ws → Vals (xs ++ ys) (us ++ ws)
  | _, _, _, _, .nil, s => s
  | _, _, _, _, .cons r t, s => .cons r (Vals.append t s)
theorem Vals.take : ∀ {xs : List V} {us : List Value} (n : Nat), Vals xs us → Vals (xs.take n) (us.take n)
  | _, _, 0, _ => .nil
  | _, _, _ + 1, .nil => .nil
  | _, _, n + 1, .cons r t => .cons r (Vals.take n t)
theorem Vals.drop : ∀ {xs : List V} {us : List Value} (n : Nat), Vals xs us → Vals (xs.drop n) (us.drop n)
  | _, _, 0, r => r
  | _, _, _ + 1, .nil => .nil
  | _, _, n + 1, .cons _ t => Vals.drop n t
def RelO : Option V → Option Value → Prop
  | some v, some u => RelV v u
  | none, none => True
  | _, _ => False
def KV {κ : Type} : List (κ × V) → List (κ × Value) → Prop := Paired fun (p : κ × V) (q : κ × Value) => p.1 = q.1 ∧ RelV p.2 q.2

/-- a key of a dict (00_mix): an int or a text -/
def kV : Key → V
  | .inl i => .int i
  | .inr x => .str x

/-- what stands at a tracked address -/
inductive HO where
  /-- a list -/
  | lst (xs : List V)
  /-- a tuple (never changes) -/
  | tup (xs : List V)
  /-- a dict whose keys are ints and texts; one whose keys are tuples of ints and texts (the empty one is both) -/
  | dK (kvs : List (Key × V)) | dT (kvs : List (List Key × V))
  /-- a set of ints: its members, its size -/
  | set (S : Int → Bool) (n : Nat)
  /-- an instance of the class at C, its dict at dx, its attributes -/
  | ins (C dx : Addr) (fs : List (Str × V))
  /-- the dict of the instance at x -/
  | own (x : Addr)
  /-- the dict of an exception -/
  | xd (fs : List (Str × V))
  /-- a bound method, f of x -/
  | met (f x : Addr)
  /-- a range object lo, lo + 1, .. below hi -/
  | rng (lo hi : Int)
  /-- a thing that is known to the object (the script; a dict while a loop walks it): read, never written while it is so -/
  | frz (o : Obj) (u : HO)
  /-- a code object's table -/
  | tbl (ps : Array Value)
  /-- any other thing, by what is true of its one object (a def of one's own: SetO a S n := HO.ext fun h => ..) -/
  | ext (φ : Heap → Prop)

abbrev Hp := Addr → Option HO
def upd (H : Hp) (a : Addr) (o : HO) : Hp := fun b => if b = a then some o else H b
theorem upd_same {H : Hp} {a : Addr} {o : HO} : upd H a o a = some o := by unfold upd; rw [if_pos rfl]
theorem upd_ne {H : Hp} {a b : Addr} {o : HO} (h : b ≠ a) : upd H a o b = H b := by unfold upd; rw [if_neg h]
theorem upd_upd {H : Hp} {a : Addr} {o u : HO} : upd (upd H a o) a u = upd H a u := by
  funext b; unfold upd; split <;> rfl
/-- two objects of different content stand apart -/
theorem ne_of {H : Hp} {a b : Addr} {o u : HO} (h : H a = some o) (h' : H b = some u) (d : o ≠ u) : a ≠ b := by
  intro e; subst e; rw [h] at h'; exact d (Option.some.inj h')
theorem ne_of_none {H : Hp} {a b : Addr} {o : HO} (h : H a = some o) (h' : H b = none) : a ≠ b := by
  intro e; subst e; rw [h] at h'; cases h'

section
variable (P : Program) (w : World)
def ObjOk (H : Hp) (h : Heap) (a : Addr) : HO → Prop
  | .lst xs => xs.length ≤ sizeLine ∧ ∃ (its : List Value) (n : Nat), Vals xs its ∧ h.get? a = some { cls := .type "list", data := .seq its.toArray n }
  | .tup xs => xs.length ≤ sizeLine ∧ ∃ its : List Value, Vals xs its ∧ IsTup h a its.toArray
  | .dK kvs => kvs.length ≤ sizeLine ∧ (a == sysModules) = false ∧ ∃ vs, KV kvs vs ∧ h.DictOf (mixKind P w) a vs
  | .dT kvs => kvs.length ≤ sizeLine ∧ (a == sysModules) = false ∧ ∃ xs : List (List Key × Addr × Value),
      Paired (fun (p : List Key × V) (q : List Key × Addr × Value) => p.1 = q.1 ∧ H q.2.1 = some (.tup (p.1.map kV)) ∧ RelV p.2 q.2.2) kvs xs ∧
      ∃ o es ep, h.get? a = some o ∧ o.ExactDict ∧ o.data = .dict es ep ∧ es.toList = xs.map (entryOfKey (tupleKind (mixKind P w))) ∧ (xs.map (·.1)).Nodup
  | .set S n => h.SetOf (intKind P w) a S n
  | .ins C dx fs => H dx = some (.own a) ∧ fs.length ≤ 1000 ∧ dx ≠ a ∧ h.get? a = some (PySem.W.instObj C dx) ∧
      ∃ mA, h.Ns1 dx mA ∧ (∀ f, RelO (fs.lookup f) (mA f)) ∧ PySem.Within mA (fs.map (·.1))
  | .own _ => ∃ o, h.get? a = some o
  | .xd fs => ∃ mA, h.Ns1 a mA ∧ ∀ f, RelO (fs.lookup f) (mA f)
  | .rng lo hi => ∃ t u v, h.get? a = some { cls := .type "range", data := .fields #[.int lo t, .int hi u, .int 1 v] }
  | .frz o u => h.get? a = some o ∧ ObjOk H h a u
  | .tbl ps => h.get? a = some { cls := .none, data := .fields ps }
  | .met f x => h.get? a = some (PySem.W.methodObj (.ref f) (.ref x))
  | .ext φ => φ h ∧ (∃ o, h.get? a = some o) ∧ ∀ h1 h2 : Heap, φ h1 → (∀ o, h1.get? a = some o → h2.get? a = some o) → φ h2
/-- the abstract heap is held -/
def HOk (H : Hp) (h : Heap) : Prop := ∀ a o, H a = some o → ObjOk P w H h a o
end

section
variable {P : Program} {w : World} {H H' : Hp} {h h' : Heap} {a : Addr} {o : HO}
theorem ObjOk.lt (x : ObjOk P w H h a o) : a < h.objs.size := by
  cases o with
  | lst xs => obtain ⟨_, _, _, _, e⟩ := x; exact Heap.lt_size e
  | tup xs => obtain ⟨_, _, _, p⟩ := x; exact p.lt
  | dK kvs => obtain ⟨_, _, _, _, o, _, _, e, _⟩ := x; exact Heap.lt_size e
  | dT kvs => obtain ⟨_, _, _, _, o, _, _, e, _⟩ := x; exact Heap.lt_size e
  | set S n => obtain ⟨o, _, _, _, e, _⟩ := x; exact Heap.lt_size e
  | ins C dx fs => obtain ⟨_, _, _, e, _⟩ := x; exact Heap.lt_size e
  | own y => obtain ⟨_, e⟩ := x; exact Heap.lt_size e
  | xd fs => obtain ⟨_, ⟨_, _, _, e, _⟩, _⟩ := x; exact Heap.lt_size e
  | rng lo hi => obtain ⟨_, _, _, e⟩ := x; exact Heap.lt_size e
  | frz ob u => obtain ⟨e, _⟩ := x; exact Heap.lt_size e
  | tbl ps => exact Heap.lt_size (show h.get? a = some _ from x)
  | met f y => exact Heap.lt_size (show h.get? a = some _ from x)
  | ext φ => obtain ⟨_, ⟨_, e⟩, _⟩ := x; exact Heap.lt_size e
theorem Paired.mapP {α β : Type} {F G : α → β → Prop} : ∀ {l₁ : List α} {l₂ : List β}, Paired F l₁ l₂ → (∀ a b, F a b → G a b) → Paired G l₁ l₂
  | _, _, .nil, _ => .nil
  | _, _, .cons r t, f => .cons (f _ _ r) (Paired.mapP t f)
/-- what an object's description leans on: its own object, its own dict, the tuples -/
theorem ObjOk.stay (x : ObjOk P w H h a o) (k : ∀ b u, (b = a ∨ H b = some (.own a)) → h.get? b = some u → h'.get? b = some u)
    (ho : ∀ b, H b = some (.own a) → H' b = some (.own a)) (ht : ∀ b xs, H b = some (.tup xs) → H' b = some (.tup xs)) : ObjOk P w H' h' a o := by
  induction o with
  | lst xs => obtain ⟨z, its, n, r, e⟩ := x; exact ⟨z, its, n, r, k _ _ (.inl rfl) e⟩
  | tup xs => obtain ⟨z, its, r, ob, e, c⟩ := x; exact ⟨z, its, r, ob, k _ _ (.inl rfl) e, c⟩
  | dK kvs => obtain ⟨z, y, vs, r, ob, es, ep, e, c⟩ := x; exact ⟨z, y, vs, r, ob, es, ep, k _ _ (.inl rfl) e, c⟩
  | dT kvs =>
    obtain ⟨z, y, xs, r, ob, es, ep, e, c⟩ := x
    exact ⟨z, y, xs, Paired.mapP r fun p q z => ⟨z.1, ht _ _ z.2.1, z.2.2⟩, ob, es, ep, k _ _ (.inl rfl) e, c⟩
  | set S n => obtain ⟨ob, es, ep, t, e, c⟩ := x; exact ⟨ob, es, ep, t, k _ _ (.inl rfl) e, c⟩
  | ins C dx fs =>
    obtain ⟨d, z, ne, e, mA, ⟨od, es, ep, e2, c⟩, r⟩ := x
    exact ⟨ho _ d, z, ne, k _ _ (.inl rfl) e, mA, ⟨od, es, ep, k _ _ (.inr d) e2, c⟩, r⟩
  | own y => obtain ⟨ob, e⟩ := x; exact ⟨ob, k _ _ (.inl rfl) e⟩
  | xd fs => obtain ⟨mA, ⟨od, es, ep, e, c⟩, r⟩ := x; exact ⟨mA, ⟨od, es, ep, k _ _ (.inl rfl) e, c⟩, r⟩
  | rng lo hi => obtain ⟨t, u, v, e⟩ := x; exact ⟨t, u, v, k _ _ (.inl rfl) e⟩
  | frz ob u ih => obtain ⟨e, q⟩ := x; exact ⟨k _ _ (.inl rfl) e, ih q⟩
  | tbl ps =>
    have e : h.get? a = some { cls := .none, data := .fields ps } := x
    show h'.get? a = some { cls := .none, data := .fields ps }
    exact k a _ (.inl rfl) e
  | met f y =>
    have e : h.get? a = some (PySem.W.methodObj (.ref f) (.ref y)) := x
    show h'.get? a = some (PySem.W.methodObj (.ref f) (.ref y))
    exact k a _ (.inl rfl) e
  | ext φ => obtain ⟨p, ⟨o, e⟩, st⟩ := x; exact ⟨st _ _ p fun o q => k _ _ (.inl rfl) q, ⟨o, k _ _ (.inl rfl) e⟩, st⟩
theorem HOk.lt (x : HOk P w H h) (e : H a = some o) : a < h.objs.size := (x a o e).lt
theorem HOk.fresh (x : HOk P w H h) (e : h.objs.size ≤ a) : H a = none := by
  cases q : H a with
  | none => rfl
  | some u => exact absurd (Nat.lt_of_lt_of_le (x.lt q) e) (Nat.lt_irrefl _)
/-- every object of the heap is kept -/
theorem HOk.kept (x : HOk P w H h) (k : ∀ b u, h.get? b = some u → h'.get? b = some u) : HOk P w H h' := fun a o e =>
  (x a o e).stay (fun b u _ q => k b u q) (fun _ q => q) fun _ _ q => q
/-- a new object is laid and tracked -/
theorem HOk.laid (x : HOk P w H h) (k : ∀ b u, h.get? b = some u → h'.get? b = some u) (hp : h.objs.size ≤ a) (new : ObjOk P w (upd H a o) h' a o) : HOk P w (upd H a o) h' := fun b u e => by
  have hn := x.fresh hp
  by_cases hb : b = a
  · subst hb; rw [upd_same] at e; cases e; exact new
  · rw [upd_ne hb] at e
    exact (x b u e).stay (fun c v _ q => k c v q) (fun c q => by rw [upd_ne (ne_of_none q hn)]; exact q) fun c xs q => by rw [upd_ne (ne_of_none q hn)]; exact q
end

/-- what may be read as u: it is u, or a known u -/
def Rd (H : Hp) (a : Addr) (u : HO) : Prop := H a = some u ∨ ∃ o, H a = some (.frz o u)
theorem Rd.ok {P : Program} {w : World} {H : Hp} {h : Heap} {a : Addr} {u : HO} (r : Rd H a u) (x : HOk P w H h) : ObjOk P w H h a u := by
  rcases r with r | ⟨o, r⟩
  · exact x a u r
  · obtain ⟨_, q⟩ := x a _ r
    exact q
/-- what may be written -/
def Mut : Option HO → Prop
  | some (.lst _) => True
  | some (.dK _) => True
  | some (.dT _) => True
  | some (.set _ _) => True
  | some (.ins _ _ _) => True
  | some (.ext _) => True
  | _ => False
section
variable {P : Program} {w : World} {H : Hp} {h h' : Heap} {x e : Addr} {o' : HO}
/-- the object at e is changed: x itself, or the dict of the instance x -/
theorem HOk.write (ok : HOk P w H h) (mu : Mut (H x)) (he : e = x ∨ H e = some (.own x)) (k : ∀ b u, b ≠ e → h.get? b = some u → h'.get? b = some u) (heo : ∃ u, h'.get? e = some u)
    (new : ObjOk P w (upd H x o') h' x o') : HOk P w (upd H x o') h' := fun b u q => by
  have nown : ∀ c y, H c = some (.own y) → c ≠ x := fun c y r z => by subst z; rw [r] at mu; exact mu
  have ntup : ∀ c xs, H c = some (.tup xs) → c ≠ x := fun c xs r z => by subst z; rw [r] at mu; exact mu
  by_cases hb : b = x
  · subst hb; rw [upd_same] at q; cases q; exact new
  · rw [upd_ne hb] at q
    by_cases hbe : b = e
    · have q' : H b = some (.own x) := by
        rcases he with z | z
        · exact absurd (hbe.trans z) hb
        · rw [hbe]; exact z
      rw [q] at q'; cases q'
      obtain ⟨v, hv⟩ := heo
      exact ⟨v, by rw [hbe]; exact hv⟩
    · refine (ok b u q).stay (fun c v hc r => k c v ?_ r) (fun c r => by rw [upd_ne (nown c b r)]; exact r) fun c xs r => by rw [upd_ne (ntup c xs r)]; exact r
      rcases hc with rfl | hc
      · exact hbe
      · rintro rfl
        rcases he with z | z
        · exact nown c b hc z
        · rw [hc] at z; cases z; exact hb rfl
end

/-! ### kept unless tracked; of the frames at fs (the callers') the slots may change (an exception that passes writes there); of the records at ex (iterators) nothing is said -/
structure Un (fs ex : List Addr) (H H' : Hp) (h h' : Heap) : Prop where
  keep : ∀ b o, h.get? b = some o → H b = none → b ∉ fs → b ∉ ex → h'.get? b = some o
  slot : ∀ b o, h.get? b = some o → H b = none → b ∈ fs → b ∉ ex → ∃ sl, h'.get? b = some { o with slots := sl }
  free : ∀ b o, h.get? b = some o → H b = none → b ∉ ex → H' b = none
  there : ∀ b o, h.get? b = some o → b ∉ ex → ∃ o', h'.get? b = some o'
  tups : ∀ b xs, H b = some (.tup xs) → H' b = some (.tup xs)
  frzs : ∀ b o u, H b = some (.frz o u) → H' b = some (.frz o u)
  tbls : ∀ b ps, H b = some (.tbl ps) → ∃ more, H' b = some (.tbl (ps ++ more))
section
variable {fs fs' ex ex' : List Addr} {H H1 H2 : Hp} {h h1 h2 h' : Heap} {a x e : Addr} {o : HO}
theorem Un.any (u : Un fs ex H H1 h h1) {b : Addr} {ob : Obj} (q : h.get? b = some ob) (n : H b = none) (hx : b ∉ ex) : ∃ sl, h1.get? b = some { ob with slots := sl } := by
  by_cases hb : b ∈ fs
  · exact u.slot b ob q n hb hx
  · exact ⟨ob.slots, u.keep b ob q n hb hx⟩
theorem Un.kept (k : ∀ b u, h.get? b = some u → h'.get? b = some u) : Un fs ex H H h h' :=
  ⟨fun b ob q _ _ _ => k b ob q, fun b ob q _ _ _ => ⟨ob.slots, k b ob q⟩, fun _ _ _ n _ => n, fun b ob q _ => ⟨ob, k b ob q⟩, fun _ _ q => q, fun _ _ _ q => q, fun _ ps q => ⟨#[], by rw [q]; simp⟩⟩
theorem Un.refl : Un fs ex H H h h := Un.kept fun _ _ q => q
theorem Un.laid (k : ∀ b u, h.get? b = some u → h'.get? b = some u) (hp : h.objs.size ≤ a) (hn : H a = none) : Un fs ex H (upd H a o) h h' where
  keep := fun b u q _ _ _ => k b u q
  slot := fun b u q _ _ _ => ⟨u.slots, k b u q⟩
  free := fun b u q n _ => by rw [upd_ne (Nat.ne_of_lt (Nat.lt_of_lt_of_le (Heap.lt_size q) hp))]; exact n
  there := fun b u q _ => ⟨u, k b u q⟩
  tups := fun b xs q => by rw [upd_ne (ne_of_none q hn)]; exact q
  frzs := fun b u xs q => by rw [upd_ne (ne_of_none q hn)]; exact q
  tbls := fun b ps q => ⟨#[], by rw [upd_ne (ne_of_none q hn), q]; simp⟩
theorem Un.write (mu : Mut (H x)) (he : e = x ∨ H e = some (.own x)) (k : ∀ b u, b ≠ e → h.get? b = some u → h'.get? b = some u) (heo : ∃ u, h'.get? e = some u) : Un fs ex H (upd H x o) h h' := by
  have hx : ∀ b, H b = none → b ≠ x := fun b n z => by subst z; rw [n] at mu; exact mu
  have hb : ∀ b, H b = none → b ≠ e := fun b n z => by
    subst z
    rcases he with r | r
    · exact hx b n r
    · rw [n] at r; cases r
  have hm : ∀ b u, H b = some u → ¬ Mut (some u) → b ≠ x := fun b u q nm z => by subst z; rw [q] at mu; exact nm mu
  refine ⟨fun b u q n _ _ => k b u (hb b n) q, fun b u q n _ _ => ⟨u.slots, k b u (hb b n) q⟩, fun b u q n _ => by rw [upd_ne (hx b n)]; exact n, fun b u q _ => ?_,
    fun b xs q => by rw [upd_ne (hm b _ q fun z => z)]; exact q, fun b u xs q => by rw [upd_ne (hm b _ q fun z => z)]; exact q, fun b ps q => ⟨#[], by rw [upd_ne (hm b _ q fun z => z), q]; simp⟩⟩
  by_cases hbe : b = e
  · subst hbe; exact heo
  · exact ⟨u, k b u hbe q⟩
end

/-! ### the heap without what is tracked -/
def trk (h : Heap) (H : Hp) : List Addr := (List.range h.objs.size).filter fun a => (H a).isSome
def hidT (h : Heap) (H : Hp) : Heap := PySem.W.hideAll h (trk h H)
theorem hidT_size (h : Heap) (H : Hp) : (hidT h H).objs.size = h.objs.size := PySem.W.hideAll_size _ _
theorem hidT_get {h : Heap} {H : Hp} {b : Addr} {o : Obj} (e : h.get? b = some o) (n : H b = none) : (hidT h H).get? b = some o :=
  PySem.W.hideAll_get _ e fun hm => by
    have q : (H b).isSome = true := (List.mem_filter.mp hm).2
    rw [n] at q; simp at q
theorem of_hidT {h : Heap} {H : Hp} {b : Addr} {o : Obj} (e : (hidT h H).get? b = some o) : h.get? b = some o ∧ H b = none := by
  have e' : h.get? b = some o := PySem.W.of_hideAll (trk h H) e
  refine ⟨e', ?_⟩
  cases q : H b with
  | none => rfl
  | some x =>
    have hm : b ∈ trk h H := List.mem_filter.mpr ⟨List.mem_range.mpr (Heap.lt_size e'), by simp [q]⟩
    have z : (hidT h H).get? b = none := PySem.W.hideAll_none (trk h H) hm
    rw [z] at e; cases e

/-! ### OpenK's ledger, filled with every new object but one -/
def allNews (g h : Heap) (L : Addr) : List (Addr × Obj) := (List.range h.objs.size).filterMap fun a => if a = L ∨ (g.get? a).isSome = true then none else (h.get? a).map fun o => (a, o)
def rest (g h : Heap) (L d : Addr) : List (Addr × Obj) := (allNews g h L).filter fun p => decide (p.1 ≠ d)
end L2

namespace L2
open PySem PySem.Spec PyProof.Rows

/-- the module's facts, over the base: the heap at the law's entry without what is tracked there -/
structure Mod (K : PySem.W.Frag) (mg : Str → Option Value) (base : Heap) : Prop where
  kin : K.In base
  glob : base.Ns mainGlobals mg
  blt : ∃ mb, base.Ns builtinsNs mb ∧ ∀ x : Str, x ≠ "__name__" → mb x = bootBuiltins x
  nolimit : base.NoLimit

/-- the context: a def's body (or a comprehension's block) running. base: fixed through the whole law; s₀, H₀: the entry; outer: the frames whose slots others may change (a def's callers); stack: all frames that run;
   ex: iterators that were made ahead of the entry and are walked here (a comprehension's); fn: the names whose cells were made at the entry (a def: all; a comprehension's block: its own); calm: not within an except suite; pn: pins that every state bears; xe: what is wanted of an exception that leaves the code -/
structure Cx where
  prog : Program
  w : World
  K : PySem.W.Frag
  mg : Str → Option Value
  base : Heap
  A : Around
  N : List Str
  s₀ : Shared
  H₀ : Hp
  env : Env
  outer : List Env
  stack : List Env
  ex : List Addr
  fn : Str → Bool
  calm : Bool
  pn : List (Addr × Obj)
  xe : Value → Shared → Prop
/-- the callers' frames -/
def frs (l : List Env) : List Addr := l.filterMap (·.frame)
abbrev Cx.fs (X : Cx) : List Addr := frs X.outer

def Vis (sc : Scope) (x : Str) : Prop := sc.names.lookup x = some .local ∨ sc.names.lookup x = some .cell ∨ sc.names.lookup x = some .free
def Loc (sc : Scope) (x : Str) : Prop := sc.names.lookup x = some .local ∨ sc.names.lookup x = some .cell
def Look (env : Env) (h : Heap) (m : Str → Option Value) (x : Str) (u : Value) : Prop :=
  (env.kindOf x = some .local ∧ m x = some u) ∨ ((env.kindOf x = some .cell ∨ env.kindOf x = some .free) ∧ ∃ c, env.cells.lookup x = some c ∧ h.IsCell c (some u))

structure Cx.Ok (X : Cx) : Prop where
  mod : Mod X.K X.mg X.base
  kind : X.env.scope.kind = .function
  glob : X.env.globals = mainGlobals
  blt : X.env.builtins = builtinsNs
  above : X.s₀.heap.objs.size ≤ X.env.locals
  inj : ∀ x y c, X.env.cells.lookup x = some c → X.env.cells.lookup y = some c → x = y
  has : ∀ x, (X.env.kindOf x = some .cell ∨ X.env.kindOf x = some .free) → ∃ c, X.env.cells.lookup x = some c
  cab : ∀ x c, X.fn x = true → X.env.cells.lookup x = some c → X.s₀.heap.objs.size ≤ c
  hd : X.calm = true → X.A.handled = none
  frames : X.A.frames = some X.stack
  stk : X.stack = X.outer ∨ (X.stack = X.env :: X.outer ∧ X.env.frame = some X.env.locals)
  exf : ∀ b ∈ X.ex, b ≠ X.env.locals ∧ ∀ x c, X.env.cells.lookup x = some c → c ≠ b
  bs : ∀ b o, X.base.get? b = some o → X.s₀.heap.get? b = some o ∧ X.H₀ b = none
  bsz : X.base.objs.size ≤ X.s₀.heap.objs.size
  noex : ∀ b o, X.base.get? b = some o → b ∉ X.ex
  exfs : ∀ b ∈ X.ex, b ∉ X.fs
  funs : X.s₀.heap.FunFrames X.base X.outer
  frf : ∀ b ∈ X.fs, X.H₀ b = none

structure Inv (X : Cx) (pins : List (Addr × Obj)) (σ : List (Option V)) (H : Hp) (s : Shared) : Prop where
  ok : X.Ok
  os : s.os = X.s₀.os
  bare : AllBare s.gens
  base : Un X.fs X.ex X.H₀ H X.s₀.heap s.heap
  loc : ∃ m, s.heap.Ns X.env.locals m ∧ ∀ (i : Nat) (x : Str) (v : V), X.N[i]? = some x → σ[i]? = some (some v) → Vis X.env.scope x → ∃ u, RelV v u ∧ Look X.env s.heap m x u
  cell : ∀ x c, X.env.cells.lookup x = some c → ∃ v, s.heap.IsCell c v
  free : H X.env.locals = none
  freeC : ∀ x c, X.env.cells.lookup x = some c → H c = none
  pin : ∀ p ∈ X.pn ++ pins, s.heap.get? p.1 = some p.2 ∧ H p.1 = none ∧ p.1 ≠ X.env.locals ∧ p.1 ∉ X.fs ∧ ∀ v, p.2.data ≠ .cell v
  hok : HOk X.prog X.w H s.heap
  len : σ.length = X.N.length

section
variable {X : Cx} {pins : List (Addr × Obj)} {σ : List (Option V)} {H H' : Hp} {s : Shared} {h' : Heap}

theorem Cx.Ok.nofr (ok : X.Ok) {b : Addr} {o : Obj} (e : X.base.get? b = some o) : b ∉ X.fs := fun hb => by
  have := (ok.funs.mem hb).1
  rw [e] at this; cases this
theorem Inv.bs (I : Inv X pins σ H s) : ∀ b o, X.base.get? b = some o → s.heap.get? b = some o ∧ H b = none := fun b o e =>
  ⟨I.base.keep b o (I.ok.bs b o e).1 (I.ok.bs b o e).2 (I.ok.nofr e) (I.ok.noex b o e), I.base.free b o (I.ok.bs b o e).1 (I.ok.bs b o e).2 (I.ok.noex b o e)⟩
theorem Inv.bk (I : Inv X pins σ H s) : ∀ b o, X.base.get? b = some o → s.heap.get? b = some o := fun b o e => (I.bs b o e).1
theorem Inv.mod (I : Inv X pins σ H s) : Mod X.K X.mg X.base := I.ok.mod
theorem Inv.kIn (I : Inv X pins σ H s) : X.K.In s.heap := I.ok.mod.kin.keeps I.bk
theorem Inv.lt (I : Inv X pins σ H s) : X.env.locals < s.heap.objs.size := let ⟨_, hn, _⟩ := I.loc; hn.lt
theorem Inv.sz (I : Inv X pins σ H s) : X.s₀.heap.objs.size ≤ s.heap.objs.size := Nat.le_trans I.ok.above (Nat.le_of_lt I.lt)
theorem Inv.nofs (I : Inv X pins σ H s) {a : Addr} (h : s.heap.objs.size ≤ a) : a ∉ X.fs := fun hb => by
  obtain ⟨_, o, ho, _⟩ := I.ok.funs.mem hb
  exact absurd (Nat.lt_of_lt_of_le (Heap.lt_size ho) (Nat.le_trans I.sz h)) (Nat.lt_irrefl _)
theorem Inv.cne (I : Inv X pins σ H s) : ∀ x c, X.env.cells.lookup x = some c → c ≠ X.env.locals := fun x c e z => by
  obtain ⟨v, o, ho, hd⟩ := I.cell x c e
  obtain ⟨m, ⟨o', es, ep, ho', hd', _⟩, _⟩ := I.loc
  rw [z, ho'] at ho; cases ho; rw [hd'] at hd; cases hd
theorem Inv.funs (I : Inv X pins σ H s) : s.heap.FunFrames X.base X.outer := by
  have all : ∀ (l : List Env), (∀ b ∈ frs l, b ∈ X.fs) → X.s₀.heap.FunFrames X.base l → s.heap.FunFrames X.base l := by
    intro l
    induction l with
    | nil => intro _ _; trivial
    | cons env r ih =>
      intro hs hl
      obtain ⟨hk, ⟨L, o, hf, hn, ho, hd⟩, hr⟩ := hl
      have hL : L ∈ X.fs := hs L (by unfold frs; rw [List.filterMap_cons, hf]; exact List.mem_cons_self)
      obtain ⟨sl, e⟩ := I.base.slot L o ho (I.ok.frf L hL) hL fun z => I.ok.exfs L z hL
      exact ⟨hk, ⟨L, _, hf, hn, e, hd⟩, ih (fun b hb => hs b (by unfold frs; rw [List.filterMap_cons, hf]; exact List.mem_cons_of_mem _ hb)) hr⟩
  exact all X.outer (fun _ hb => hb) I.ok.funs

/-- the frames that run, for a call -/
theorem Inv.stack (I : Inv X pins σ H s) : s.heap.FunFrames X.base X.stack := by
  rcases I.ok.stk with e | ⟨e, hf⟩
  · rw [e]; exact I.funs
  · rw [e]
    obtain ⟨m, hn, _⟩ := I.loc
    refine .cons (by rw [I.ok.kind]; decide) hf hn ?_ I.funs
    exact Heap.get?_none_of_le (Nat.le_trans I.ok.bsz I.ok.above)
theorem Inv.stkSub (I : Inv X pins σ H s) : ∀ b ∈ frs X.stack, b ∈ X.env.locals :: X.fs := fun b hb => by
  rcases I.ok.stk with e | ⟨e, hf⟩
  · rw [e] at hb; exact List.mem_cons_of_mem _ hb
  · rw [e] at hb
    unfold frs at hb
    rw [List.filterMap_cons, hf] at hb
    exact hb
theorem Inv.stkFree (I : Inv X pins σ H s) : ∀ b ∈ frs X.stack, H b = none := fun b hb => by
  rcases List.mem_cons.mp (I.stkSub b hb) with e | hb
  · rw [e]; exact I.free
  · obtain ⟨_, o, ho, _⟩ := I.ok.funs.mem hb
    exact I.base.free b o ho (I.ok.frf b hb) fun z => I.ok.exfs b z hb

/-- THE STEP: the untracked objects but the frame and the records at ch are kept (the callers' frames up to slots), the frame's map is kept, the new abstract heap is held -/
theorem Inv.step {g' : Array GenState} {t' : Nat} {d' : Drawn} {ch : List Addr} (I : Inv X pins σ H s)
    (hch : ∀ b ∈ ch, (b ∈ X.ex ∨ X.s₀.heap.objs.size ≤ b) ∧ b ≠ X.env.locals ∧ (∀ x c, X.env.cells.lookup x = some c → c ≠ b) ∧ ∀ p ∈ X.pn ++ pins, p.1 ≠ b)
    (keep : ∀ b o, b ≠ X.env.locals → b ∉ X.fs → b ∉ ch → s.heap.get? b = some o → H b = none → h'.get? b = some o)
    (slot : ∀ b o, b ≠ X.env.locals → b ∈ X.fs → b ∉ ch → s.heap.get? b = some o → H b = none → ∃ sl, h'.get? b = some { o with slots := sl }) (free : ∀ b o, b ∉ ch → s.heap.get? b = some o → H b = none → H' b = none)
    (there : ∀ b o, b ∉ ch → s.heap.get? b = some o → ∃ o', h'.get? b = some o')
    (tups : ∀ b xs, H b = some (.tup xs) → H' b = some (.tup xs)) (frzs : ∀ b o u, H b = some (.frz o u) → H' b = some (.frz o u)) (tbls : ∀ b ps, H b = some (.tbl ps) → ∃ more, H' b = some (.tbl (ps ++ more)))
    (ns : ∀ m, s.heap.Ns X.env.locals m → h'.Ns X.env.locals m) (hok : HOk X.prog X.w H' h') (hg : AllBare g') :
    Inv X pins σ H' { s with heap := h', gens := g', drawn := d', toks := t' } := by
  have neL : ∀ b o, X.s₀.heap.get? b = some o → b ≠ X.env.locals := fun b o e => Nat.ne_of_lt (Nat.lt_of_lt_of_le (Heap.lt_size e) I.ok.above)
  have neC : ∀ b o, X.s₀.heap.get? b = some o → b ∉ X.ex → b ∉ ch := fun b o e hx hb => by
    rcases (hch b hb).1 with z | z
    · exact hx z
    · exact absurd (Nat.lt_of_lt_of_le (Heap.lt_size e) z) (Nat.lt_irrefl _)
  have cellK : ∀ x c, X.env.cells.lookup x = some c → ∀ v, s.heap.IsCell c v → h'.IsCell c v := fun x c e v ⟨o, ho, hd⟩ => by
    have nch : c ∉ ch := fun z => (hch c z).2.2.1 x c e rfl
    by_cases hc : c ∈ X.fs
    · obtain ⟨sl, q⟩ := slot c o (I.cne x c e) hc nch ho (I.freeC x c e)
      exact ⟨_, q, hd⟩
    · exact ⟨o, keep c o (I.cne x c e) hc nch ho (I.freeC x c e), hd⟩
  refine ⟨I.ok, I.os, hg, ⟨fun b o e n hb hx => ?_, fun b o e n hb hx => ?_, fun b o e n hx => ?_, fun b o e hx => ?_, fun b xs e => tups b xs (I.base.tups b xs e), fun b o xs e => frzs b o xs (I.base.frzs b o xs e), fun b ps e => ?_⟩, ?_, fun x c e => ?_, ?_, fun x c e => ?_, fun p hp => ?_, hok, I.len⟩
  · exact keep b o (neL b o e) hb (neC b o e hx) (I.base.keep b o e n hb hx) (I.base.free b o e n hx)
  · obtain ⟨sl, e1⟩ := I.base.slot b o e n hb hx
    obtain ⟨sl', e2⟩ := slot b _ (neL b o e) hb (neC b o e hx) e1 (I.base.free b o e n hx)
    exact ⟨sl', e2⟩
  · obtain ⟨o', e1⟩ := I.base.there b o e hx
    exact free b o' (neC b o e hx) e1 (I.base.free b o e n hx)
  · obtain ⟨o', e1⟩ := I.base.there b o e hx
    exact there b o' (neC b o e hx) e1
  · obtain ⟨m1, e1⟩ := I.base.tbls b ps e
    obtain ⟨m2, e2⟩ := tbls b _ e1
    exact ⟨m1 ++ m2, by rw [e2, Array.append_assoc]⟩
  · obtain ⟨m, hn, hl⟩ := I.loc
    refine ⟨m, ns m hn, fun i x v e1 e2 e3 => ?_⟩
    obtain ⟨u, r, l⟩ := hl i x v e1 e2 e3
    refine ⟨u, r, ?_⟩
    rcases l with l | ⟨k, c, e, z⟩
    · exact .inl l
    · exact .inr ⟨k, c, e, cellK x c e _ z⟩
  · obtain ⟨v, z⟩ := I.cell x c e
    exact ⟨v, cellK x c e v z⟩
  · obtain ⟨m, ⟨o, _, _, ho, _⟩, _⟩ := I.loc
    exact free _ o (fun z => (hch _ z).2.1 rfl) ho I.free
  · obtain ⟨v, o, ho, hd⟩ := I.cell x c e
    exact free c o (fun z => (hch c z).2.2.1 x c e rfl) ho (I.freeC x c e)
  · obtain ⟨e, n, ne, nf, d⟩ := I.pin p hp
    have nch : p.1 ∉ ch := fun z => (hch p.1 z).2.2.2 p hp rfl
    exact ⟨keep p.1 p.2 ne nf nch e n, free p.1 p.2 nch e n, ne, nf, d⟩
/-- .. where the frame's own object is kept too -/
theorem Inv.un {t' : Nat} (I : Inv X pins σ H s) (u : Un X.fs [] H H' s.heap h') (hok : HOk X.prog X.w H' h') : Inv X pins σ H' { s with heap := h', toks := t' } := by
  obtain ⟨m, ⟨o, es, ep, ho, r⟩, _⟩ := id I.loc
  obtain ⟨sl, hL⟩ := u.any ho I.free (by simp)
  exact I.step (g' := s.gens) (d' := s.drawn) (ch := []) (fun _ z => nomatch z) (fun b o _ hb _ e n => u.keep b o e n hb (by simp)) (fun b o _ hb _ e n => u.slot b o e n hb (by simp)) (fun b o _ e n => u.free b o e n (by simp)) (fun b o _ e => u.there b o e (by simp)) u.tups u.frzs u.tbls (fun m' hm => by
    obtain ⟨o', es', ep', ho', r'⟩ := hm
    rw [ho] at ho'; cases ho'
    exact ⟨_, es', ep', hL, r'⟩) hok I.bare
/-- behind a call (or a comprehension's block): the slots of this frame may have changed too, the records at ch may have turned -/
theorem Inv.call {g' : Array GenState} {t' : Nat} {d' : Drawn} {ch : List Addr} (I : Inv X pins σ H s) (u : Un (frs X.stack) ch H H' s.heap h') (hok : HOk X.prog X.w H' h') (hg : AllBare g')
    (hch : ∀ b ∈ ch, (b ∈ X.ex ∨ X.s₀.heap.objs.size ≤ b) ∧ b ≠ X.env.locals ∧ (∀ x c, X.env.cells.lookup x = some c → c ≠ b) ∧ ∀ p ∈ X.pn ++ pins, p.1 ≠ b) :
    Inv X pins σ H' { s with heap := h', gens := g', drawn := d', toks := t' } := by
  obtain ⟨m, ⟨o, es, ep, ho, r⟩, _⟩ := id I.loc
  obtain ⟨sl, hL⟩ := u.any ho I.free fun z => (hch _ z).2.1 rfl
  exact I.step (ch := ch) hch (fun b o hL hb hc e n => u.keep b o e n (fun z => (List.mem_cons.mp (I.stkSub b z)).elim hL hb) hc) (fun b o _ _ hc e n => u.any e n hc) (fun b o hc e n => u.free b o e n hc) (fun b o hc e => u.there b o e hc) u.tups u.frzs u.tbls (fun m' hm => by
    obtain ⟨o', es', ep', ho', r'⟩ := hm
    rw [ho] at ho'; cases ho'
    exact ⟨_, es', ep', hL, r'⟩) hok hg
/-- an untracked record of ours (an iterator) has turned -/
theorem Inv.turned {t' : Nat} {it : Addr} (I : Inv X pins σ H s) (k : ∀ b o, b ≠ it → s.heap.get? b = some o → h'.get? b = some o) (hn : H it = none) (hL : it ≠ X.env.locals)
    (h1 : it ∈ X.ex ∨ X.s₀.heap.objs.size ≤ it) (h2 : ∀ x c, X.env.cells.lookup x = some c → c ≠ it) (h3 : ∀ p ∈ X.pn ++ pins, p.1 ≠ it) : Inv X pins σ H { s with heap := h', toks := t' } := by
  have nit : ∀ b u, H b = some u → b ≠ it := fun b u e z => by rw [z, hn] at e; cases e
  refine I.step (g' := s.gens) (d' := s.drawn) (ch := [it]) (fun b hb => ?_) (fun b o _ _ hc e _ => k b o (fun z => hc (by simp [z])) e) (fun b o _ _ hc e _ => ⟨o.slots, k b o (fun z => hc (by simp [z])) e⟩) (fun _ _ _ _ n => n)
    (fun b o hc e => ⟨o, k b o (fun z => hc (by simp [z])) e⟩) (fun _ _ e => e) (fun _ _ _ e => e) (fun b ps e => ⟨#[], by rw [e]; simp⟩) (fun m hm => ?_) (fun b u e => ?_) I.bare
  · have e : b = it := by simpa using hb
    subst e
    exact ⟨h1, hL, h2, h3⟩
  · obtain ⟨o, es, ep, ho, r⟩ := hm
    exact ⟨o, es, ep, k _ o (Ne.symm hL) ho, r⟩
  · refine (I.hok b u e).stay (fun c v hc q => k c v ?_ q) (fun _ q => q) fun _ _ q => q
    rcases hc with z | z
    · rw [z]; exact nit b u e
    · exact nit c _ z
theorem Inv.tok (I : Inv X pins σ H s) (t : Nat) : Inv X pins σ H { s with toks := t } := I.un (h' := s.heap) (t' := t) Un.refl I.hok
/-- all objects kept -/
theorem Inv.kept {t' : Nat} (I : Inv X pins σ H s) (k : ∀ b u, s.heap.get? b = some u → h'.get? b = some u) : Inv X pins σ H { s with heap := h', toks := t' } := I.un (Un.kept k) (I.hok.kept k)
/-- a new object laid and tracked -/
theorem Inv.laid {a : Addr} {o : HO} {t' : Nat} (I : Inv X pins σ H s) (k : ∀ b u, s.heap.get? b = some u → h'.get? b = some u) (hp : s.heap.objs.size ≤ a) (new : ObjOk X.prog X.w (upd H a o) h' a o) :
    Inv X pins σ (upd H a o) { s with heap := h', toks := t' } := I.un (Un.laid k hp (I.hok.fresh hp)) (I.hok.laid k hp new)
/-- an object written -/
theorem Inv.write {x e : Addr} {o : HO} {t' : Nat} (I : Inv X pins σ H s) (mu : Mut (H x)) (he : e = x ∨ H e = some (.own x)) (k : ∀ b u, b ≠ e → s.heap.get? b = some u → h'.get? b = some u) (heo : ∃ u, h'.get? e = some u)
    (new : ObjOk X.prog X.w (upd H x o) h' x o) : Inv X pins σ (upd H x o) { s with heap := h', toks := t' } := I.un (Un.write mu he k heo) (I.hok.write mu he k heo new)
theorem Inv.pins_of {pins' : List (Addr × Obj)} (I : Inv X pins σ H s) (h : ∀ p ∈ pins', s.heap.get? p.1 = some p.2 ∧ H p.1 = none ∧ p.1 ≠ X.env.locals ∧ p.1 ∉ X.fs ∧ ∀ v, p.2.data ≠ .cell v) : Inv X pins' σ H s :=
  ⟨I.ok, I.os, I.bare, I.base, I.loc, I.cell, I.free, I.freeC, fun p hp => (List.mem_append.mp hp).elim (fun z => I.pin p (List.mem_append_left _ z)) (h p), I.hok, I.len⟩

theorem nodup_ix {N : List Str} (hN : N.Nodup) {i j : Nat} {x : Str} (a : N[i]? = some x) (b : N[j]? = some x) : i = j := by
  obtain ⟨h1, e1⟩ := List.getElem?_eq_some_iff.mp a
  obtain ⟨h2, e2⟩ := List.getElem?_eq_some_iff.mp b
  exact (List.getElem_inj hN).mp (e1.trans e2.symm)

/-- a name is stored; what changed -/
theorem store_ok2 {M : Model} {A : Around} {E : Value → Shared → Prop} {i : Nat} {x : Str} {v : V} {u : Value} {Q : Unit → Shared → Prop} (I : Inv X pins σ H s) (hN : X.N.Nodup) (hi : X.N[i]? = some x) (hx : Loc X.env.scope x) (r : RelV v u)
    (h : ∀ s', Inv X pins (σ.set i (some v)) H s' → (∃ a, Heap.SameBut a s.heap s'.heap ∧ (a = X.env.locals ∨ X.env.cells.lookup x = some a)) → Q () s') (hf : X.fn x = true ∨ X.env.scope.names.lookup x = some .local := by first | exact .inl rfl | exact .inr rfl | assumption) : wpAny M A (storeName X.env x u) Q E s := by
  obtain ⟨m, hn, hl⟩ := id I.loc
  have hcls : (X.env.scope.kind == .class || (X.env.scope.kind == .module && X.env.locals != X.env.globals)) = false := by rw [I.ok.kind]; rfl
  have hiσ : i < σ.length := by rw [I.len]; exact (List.getElem?_eq_some_iff.mp hi).1
  have cne := I.cne
  have tracked : ∀ {a : Addr} {h' : Heap}, (∃ o, s.heap.get? a = some o ∧ H a = none) → Heap.SameBut a s.heap h' → HOk X.prog X.w H h' := fun {a h'} ha hs b ob e => by
    obtain ⟨_, _, hfree⟩ := ha
    refine (I.hok b ob e).stay (fun c w' hc q => (hs.2 c ?_).trans q) (fun _ q => q) fun _ _ q => q
    rintro rfl
    rcases hc with rfl | hc
    · rw [hfree] at e; cases e
    · rw [hfree] at hc; cases hc
  rcases hx with hk | hk
  · refine wpAny_storeName_local hk hn (fun h' hn' hs => ?_) hcls
    obtain ⟨oL, _, _, hoL, _⟩ := id hn
    refine h _ ⟨I.ok, I.os, I.bare, ⟨fun b o e n hb hx => ?_, fun b o e n hb hx => ?_, I.base.free, fun b o e hx => ?_, I.base.tups, I.base.frzs, I.base.tbls⟩, ⟨_, hn', fun j y v' e1 e2 e3 => ?_⟩, fun y c e => ?_, I.free, I.freeC, fun p hp => ?_, tracked ⟨oL, hoL, I.free⟩ hs, by simpa using I.len⟩ ⟨_, hs, .inl rfl⟩
    · exact (hs.2 b (Nat.ne_of_lt (Nat.lt_of_lt_of_le (Heap.lt_size e) I.ok.above))).trans (I.base.keep b o e n hb hx)
    · obtain ⟨sl, e1⟩ := I.base.slot b o e n hb hx
      exact ⟨sl, (hs.2 b (Nat.ne_of_lt (Nat.lt_of_lt_of_le (Heap.lt_size e) I.ok.above))).trans e1⟩
    · obtain ⟨o', e1⟩ := I.base.there b o e hx
      exact ⟨o', (hs.2 b (Nat.ne_of_lt (Nat.lt_of_lt_of_le (Heap.lt_size e) I.ok.above))).trans e1⟩
    · by_cases hj : j = i
      · subst hj
        rw [hi] at e1; cases e1
        rw [List.getElem?_set_self hiσ] at e2
        cases e2
        exact ⟨u, r, .inl ⟨hk, by simp⟩⟩
      · rw [List.getElem?_set_ne (Ne.symm hj)] at e2
        obtain ⟨u', r', q⟩ := hl j y v' e1 e2 e3
        refine ⟨u', r', ?_⟩
        rcases q with ⟨k, e⟩ | ⟨k, c, e, z⟩
        · refine .inl ⟨k, ?_⟩
          have : y ≠ x := fun e => hj (nodup_ix hN e1 (e ▸ hi))
          simp [this, e]
        · exact .inr ⟨k, c, e, z.sameBut hs (cne y c e)⟩
    · obtain ⟨w', z⟩ := I.cell y c e
      exact ⟨w', z.sameBut hs (cne y c e)⟩
    · obtain ⟨e, n, ne, nf, d⟩ := I.pin p hp
      exact ⟨(hs.2 p.1 ne).trans e, n, ne, nf, d⟩
  · have hfn : X.fn x = true := by
      rcases hf with z | z
      · exact z
      · rw [z] at hk; cases hk
    obtain ⟨c, hc⟩ := I.ok.has x (.inl hk)
    obtain ⟨w', z⟩ := I.cell x c hc
    refine wpAny_storeName_cell I.ok.kind hk hc z (fun h' hc' hs => ?_)
    obtain ⟨oc, hoc, hocd⟩ := id z
    refine h { s with heap := h' } ⟨I.ok, I.os, I.bare, ⟨fun b o e n hb hx => ?_, fun b o e n hb hx => ?_, I.base.free, fun b o e hx => ?_, I.base.tups, I.base.frzs, I.base.tbls⟩, ⟨m, hn.sameBut hs (Ne.symm (cne x c hc)), fun j y v' e1 e2 e3 => ?_⟩, fun y c' e => ?_, I.free, I.freeC, fun p hp => ?_, tracked ⟨oc, hoc, I.freeC x c hc⟩ hs, by simpa using I.len⟩ ⟨c, hs, .inr hc⟩
    · exact (hs.2 b (Nat.ne_of_lt (Nat.lt_of_lt_of_le (Heap.lt_size e) (I.ok.cab x c hfn hc)))).trans (I.base.keep b o e n hb hx)
    · obtain ⟨sl, e1⟩ := I.base.slot b o e n hb hx
      exact ⟨sl, (hs.2 b (Nat.ne_of_lt (Nat.lt_of_lt_of_le (Heap.lt_size e) (I.ok.cab x c hfn hc)))).trans e1⟩
    · obtain ⟨o', e1⟩ := I.base.there b o e hx
      exact ⟨o', (hs.2 b (Nat.ne_of_lt (Nat.lt_of_lt_of_le (Heap.lt_size e) (I.ok.cab x c hfn hc)))).trans e1⟩
    · by_cases hj : j = i
      · subst hj
        rw [hi] at e1; cases e1
        rw [List.getElem?_set_self hiσ] at e2
        cases e2
        exact ⟨u, r, .inr ⟨.inl hk, c, hc, hc'⟩⟩
      · rw [List.getElem?_set_ne (Ne.symm hj)] at e2
        obtain ⟨u', r', q⟩ := hl j y v' e1 e2 e3
        refine ⟨u', r', ?_⟩
        rcases q with q | ⟨k, c', e, z'⟩
        · exact .inl q
        · refine .inr ⟨k, c', e, z'.sameBut hs ?_⟩
          rintro rfl
          exact hj (nodup_ix hN e1 (I.ok.inj _ _ _ e hc ▸ hi))
    · by_cases hcc : c' = c
      · subst hcc; exact ⟨_, hc'⟩
      · obtain ⟨w2, z2⟩ := I.cell y c' e
        exact ⟨w2, z2.sameBut hs hcc⟩
    · obtain ⟨e, n, ne, nf, d⟩ := I.pin p hp
      refine ⟨(hs.2 p.1 ?_).trans e, n, ne, nf, d⟩
      intro q
      rw [q, hoc] at e
      have q' : oc = p.2 := Option.some.inj e
      exact d w' (by rw [← q']; exact hocd)
theorem store_ok {M : Model} {A : Around} {E : Value → Shared → Prop} {i : Nat} {x : Str} {v : V} {u : Value} {Q : Unit → Shared → Prop} (I : Inv X pins σ H s) (hN : X.N.Nodup) (hi : X.N[i]? = some x) (hx : Loc X.env.scope x) (r : RelV v u)
    (h : ∀ s', Inv X pins (σ.set i (some v)) H s' → Q () s') (hf : X.fn x = true ∨ X.env.scope.names.lookup x = some .local := by first | exact .inl rfl | exact .inr rfl | assumption) : wpAny M A (storeName X.env x u) Q E s :=
  store_ok2 I hN hi hx r (fun s' I' _ => h s' I') hf
/-- behind a call or a block, the state as it is -/
theorem Inv.call' {s' : Shared} {ch : List Addr} (I : Inv X pins σ H s) (ho : s'.os = s.os) (u : Un (frs X.stack) ch H H' s.heap s'.heap) (hok : HOk X.prog X.w H' s'.heap) (hg : AllBare s'.gens)
    (hch : ∀ b ∈ ch, (b ∈ X.ex ∨ X.s₀.heap.objs.size ≤ b) ∧ b ≠ X.env.locals ∧ (∀ x c, X.env.cells.lookup x = some c → c ≠ b) ∧ ∀ p ∈ X.pn ++ pins, p.1 ≠ b) : Inv X pins σ H' s' := by
  obtain ⟨h', g', d', t', o'⟩ := s'
  have e : o' = s.os := ho
  subst e
  exact I.call (g' := g') (t' := t') (d' := d') u hok hg hch
end

/-! ### the judgements -/
/-- an exception: its class, its own dict's address (where it has one), the abstract heap behind it -/
abbrev XK := Value → Option Addr → Hp → Prop
abbrev St := List (Option V)
abbrev VK := V → Hp → Prop
/-- an expression's reading; a test's; an argument list's -/
abbrev TE := St → Hp → VK → Prop
abbrev TT := St → Hp → (Bool → Hp → Prop) → Prop
abbrev TA := St → Hp → (List V → Hp → Prop) → Prop
/-- what is wanted behind a statement -/
structure Ends where
  nx : St → Hp → Prop
  rt : VK
  bk : St → Hp → Prop := fun _ _ => False
  ct : St → Hp → Prop := fun _ _ => False
abbrev TS := Ends → St → Hp → Prop

def EP (X : Cx) (pins : List (Addr × Obj)) (σ : St) (Q : VK) (u : Value) (s' : Shared) : Prop := ∃ v H', Inv X pins σ H' s' ∧ RelV v u ∧ Q v H'
def TP (X : Cx) (pins : List (Addr × Obj)) (σ : St) (Q : Bool → Hp → Prop) (b : Bool) (s' : Shared) : Prop := ∃ H', Inv X pins σ H' s' ∧ Q b H'
def AP (X : Cx) (pins : List (Addr × Obj)) (σ : St) (Q : List V → Hp → Prop) (us : List Value) (s' : Shared) : Prop := ∃ vs H', Inv X pins σ H' s' ∧ Vals vs us ∧ Q vs H'
def SP (X : Cx) (pins : List (Addr × Obj)) (D : Ends) (f : Flow) (s' : Shared) : Prop :=
  match f with
  | .next => ∃ σ' H', Inv X pins σ' H' s' ∧ D.nx σ' H'
  | .brk => ∃ σ' H', Inv X pins σ' H' s' ∧ D.bk σ' H'
  | .cont => ∃ σ' H', Inv X pins σ' H' s' ∧ D.ct σ' H'
  | .ret u => ∃ v σ' H', Inv X pins σ' H' s' ∧ RelV v u ∧ D.rt v H'

def PE (X : Cx) (e : Expr) (t : TE) : Prop :=
  ∀ (pins : List (Addr × Obj)) (s : Shared) (σ : St) (H : Hp) (Q : VK), Inv X pins σ H s → t σ H Q → wpAny (model X.prog X.w) X.A (eval e X.env) (EP X pins σ Q) X.xe s
def PT (X : Cx) (e : Expr) (t : TT) : Prop :=
  ∀ (pins : List (Addr × Obj)) (s : Shared) (σ : St) (H : Hp) (Q : Bool → Hp → Prop), Inv X pins σ H s → t σ H Q → wpAny (model X.prog X.w) X.A (isTrue e X.env (eval e X.env)) (TP X pins σ Q) X.xe s
/-- a test whatever its 'whole' is (and, or) -/
def PW (X : Cx) (e : Expr) (t : TT) : Prop :=
  ∀ (whole : Sem Value) (pins : List (Addr × Obj)) (s : Shared) (σ : St) (H : Hp) (Q : Bool → Hp → Prop), Inv X pins σ H s → t σ H Q → wpAny (model X.prog X.w) X.A (isTrue e X.env whole) (TP X pins σ Q) X.xe s
theorem PW.pt {X : Cx} {e : Expr} {t : TT} (h : PW X e t) : PT X e t := h _
/-- an argument list (no star), from the left -/
def PA (X : Cx) (es : List Expr) (t : TA) : Prop :=
  ∀ (pos : Pos) (pins : List (Addr × Obj)) (s : Shared) (σ : St) (H : Hp) (Q : List V → Hp → Prop), Inv X pins σ H s → t σ H Q → wpAny (model X.prog X.w) X.A (spliced (backTo pos (starEach es X.env))) (AP X pins σ Q) X.xe s
def PS (X : Cx) (st : Stmt) (t : TS) : Prop :=
  ∀ (pins : List (Addr × Obj)) (s : Shared) (σ : St) (H : Hp) (D : Ends), Inv X pins σ H s → t D σ H → wpAny (model X.prog X.w) X.A (exec st X.env) (SP X pins D) X.xe s
def PSs (X : Cx) (st : List Stmt) (t : TS) : Prop :=
  ∀ (pins : List (Addr × Obj)) (s : Shared) (σ : St) (H : Hp) (D : Ends), Inv X pins σ H s → t D σ H → wpAny (model X.prog X.w) X.A (execs st X.env) (SP X pins D) X.xe s
/-- weaken the end -/
theorem thn {α : Type} {t : Sem α} {Q Q' : α → Shared → Prop} {M : Model} {A : Around} {E : Value → Shared → Prop} {s : Shared} (h : wpAny M A t Q E s) (hQ : ∀ a s, Q a s → Q' a s) : wpAny M A t Q' E s := wpAny_mono h hQ fun _ _ x => x
end L2

namespace L2
open PySem PySem.Spec PyProof.Rows
section
variable {X : Cx}

/-- two expressions in a row -/
theorem bin {a b : Expr} {ta tb : TE} (ha : PE X a ta) (hb : PE X b tb) {pins : List (Addr × Obj)} {s : Shared} {σ : St} {H : Hp} {R : V → V → Hp → Prop} (I : Inv X pins σ H s) (h : ta σ H fun x H1 => tb σ H1 fun y H2 => R x y H2)
    {α : Type} {Q : α → Shared → Prop} {f : Value → Value → Sem α}
    (hf : ∀ v u s2 x y H2, Inv X pins σ H2 s2 → RelV x v → RelV y u → R x y H2 → wpAny (model X.prog X.w) X.A (f v u) Q X.xe s2) :
    wpAny (model X.prog X.w) X.A (eval a X.env) (fun v s₁ => wpAny (model X.prog X.w) X.A (eval b X.env) (fun u s₂ => wpAny (model X.prog X.w) X.A (f v u) Q X.xe s₂) X.xe s₁) X.xe s := by
  refine thn (ha pins s σ H _ I h) fun v s1 ⟨x, H1, I1, r1, q1⟩ => ?_
  refine thn (hb pins s1 σ H1 _ I1 q1) fun u s2 ⟨y, H2, I2, r2, q2⟩ => ?_
  exact hf v u s2 x y H2 I2 r1 r2 q2

/-! ### names and constants -/
def tVar (i : Nat) : TE := fun σ H Q => ∃ v, σ[i]? = some (some v) ∧ Q v H
def tC (v : V) : TE := fun _ H Q => Q v H
theorem pe_var {i : Nat} {x : Str} {pos : Pos} (hN : X.N[i]? = some x) (hv : Vis X.env.scope x) (hd : (x == ("__debug__" : Str)) = false := by decide) (hcd : (x == ("__classdict__" : Str)) = false := by decide) : PE X (.Name x pos) (tVar i) := by
  intro pins s σ H Q I h
  obtain ⟨v, e, h⟩ := h
  obtain ⟨m, hn, hl⟩ := I.loc
  obtain ⟨u, r, l⟩ := hl i x v hN e hv
  have fin : EP X pins σ Q u s := ⟨v, H, I, r, h⟩
  rcases l with ⟨hk, hm⟩ | ⟨hk, c, hc, hcell⟩
  · exact wpAny_Name (wpAny_loadName_local I.ok.kind hk hn hm fin) hd
  · rcases hk with hk | hk
    · exact wpAny_Name (wpAny_loadName_cell I.ok.kind hk hc hcell fin) hd
    · exact wpAny_Name (wpAny_loadName_free I.ok.kind hk hc hcell fin hcd) hd
theorem pe_int {i j pos} : PE X (.Constant (.int i) j pos) (tC (.int i)) := fun _ _ _ H _ I h => wpAny_Constant_int ⟨.int i, H, I.tok _, ⟨_, rfl⟩, h⟩
theorem pe_bl {b j pos} : PE X (.Constant (.bool b) j pos) (tC (.bl b)) := fun _ _ _ H _ I h => Constant_bool ⟨.bl b, H, I, rfl, h⟩
theorem pe_non {j pos} : PE X (.Constant .none j pos) (tC .non) := fun _ _ _ H _ I h => Constant_none ⟨.non, H, I, rfl, h⟩
theorem pe_str {x j pos} : PE X (.Constant (.str x) j pos) (tC (.str x)) := fun _ _ _ H _ I h => Calls.Constant_str ⟨.str x, H, I.tok _, ⟨_, rfl⟩, h⟩

/-- a global name of the def -/
def Gl (X : Cx) (x : Str) : Prop := X.env.kindOf x = some .globalImplicit
theorem ld_glob {E : Value → Shared → Prop} {pins : List (Addr × Obj)} {s : Shared} {σ : St} {H : Hp} {x : Str} {u : Value} {pos : Pos} {Q : Value → Shared → Prop} (I : Inv X pins σ H s) (hg : Gl X x) (hm : X.mg x = some u) (h : Q u s)
    (hd : (x == ("__debug__" : Str)) = false := by decide) : wpAny (model X.prog X.w) X.A (eval (.Name x pos) X.env) Q E s :=
  Calls.Name_function_global I.ok.kind hg (Calls.loadGlobal_global (by rw [I.ok.glob]; exact I.mod.glob.keeps I.bk) hm h) hd
theorem ld_blt {E : Value → Shared → Prop} {pins : List (Addr × Obj)} {s : Shared} {σ : St} {H : Hp} {x : Str} {u : Value} {pos : Pos} {Q : Value → Shared → Prop} (I : Inv X pins σ H s) (hg : Gl X x) (hm : X.mg x = none) (hv : bootBuiltins x = some u) (h : Q u s)
    (hn : x ≠ "__name__" := by decide) (hd : (x == ("__debug__" : Str)) = false := by decide) : wpAny (model X.prog X.w) X.A (eval (.Name x pos) X.env) Q E s := by
  obtain ⟨mb, h1, h2⟩ := I.mod.blt
  exact Calls.Name_function_global I.ok.kind hg (Calls.loadGlobal_builtin (by rw [I.ok.glob]; exact I.mod.glob.keeps I.bk) hm (by rw [I.ok.blt]; exact h1.keeps I.bk) ((h2 x hn).trans hv) h) hd
/-- a module's constant, a class, a function, as a value -/
theorem pe_glob {x : Str} {v : V} {u : Value} {pos : Pos} (hg : Gl X x) (hm : X.mg x = some u) (r : RelV v u) (hd : (x == ("__debug__" : Str)) = false := by decide) : PE X (.Name x pos) (tC v) :=
  fun _ _ _ H _ I h => ld_glob I hg hm ⟨v, H, I, r, h⟩ hd
theorem pe_bltn {x : Str} {v : V} {u : Value} {pos : Pos} (hg : Gl X x) (hm : X.mg x = none) (hv : bootBuiltins x = some u) (r : RelV v u) (hn : x ≠ "__name__" := by decide) (hd : (x == ("__debug__" : Str)) = false := by decide) : PE X (.Name x pos) (tC v) :=
  fun _ _ _ H _ I h => ld_blt I hg hm hv ⟨v, H, I, r, h⟩ hn hd

/-! ### arithmetic -/
variable {a b : Expr} {ta tb : TE} {pos : Pos}
/-! ### comparisons -/
def PC (X : Cx) (op : CmpOp) (a b : Expr) (t : TE) : Prop :=
  ∀ (pins : List (Addr × Obj)) (s : Shared) (σ : St) (H : Hp) (Q : VK), Inv X pins σ H s → t σ H Q →
    wpAny (model X.prog X.w) X.A (eval a X.env) (fun v s₁ => wpAny (model X.prog X.w) X.A (eval b X.env) (fun u s₂ => wpAny (model X.prog X.w) X.A (compareOp op v u) (EP X pins σ Q) X.xe s₂) X.xe s₁) X.xe s
theorem nobehind (b : Expr) {op : CmpOp} (h : op ≠ .In) (h2 : op ≠ .NotIn) : behindInMarks op b = false := by
  have e1 : (op == CmpOp.In) = false := by cases op <;> first | rfl | exact absurd rfl h
  have e2 : (op == CmpOp.NotIn) = false := by cases op <;> first | rfl | exact absurd rfl h2
  cases b <;> simp [behindInMarks, e1, e2]
/-- a comparison as a value, as a test -/
def tB (t : TE) : TT := fun σ H Q => t σ H fun x H1 => ∃ c, x = .bl c ∧ Q c H1
theorem pt_cmp {op : CmpOp} {t : TE} (h : PC X op a b t) (h1 : behindInMarks op b = false := by first | exact nobehind _ (by decide) (by decide) | rfl) : PT X (.Compare a [op] [b] pos) (tB t) := by
  intro pins s σ H Q I hw
  refine wpAny_isTrue_Compare1 (thn (h pins s σ H _ I hw) fun v s1 h1 => thn h1 fun u s2 h2 => thn h2 fun c s3 ⟨x, H1, I1, r1, q1⟩ => ?_) h1
  obtain ⟨d, rfl, q⟩ := q1
  cases r1
  exact wpAny_truthy_bool ⟨H1, I1, q⟩
/-- an expression whose value is a bool, as a test -/
theorem pt_val {e : Expr} {t : TE} (h : PE X e t) (he : ∀ whole, isTrue e X.env whole = (do let v ← whole; standAt e.pos; holding [v] (truthy v)) := by intro _; rfl) : PT X e (tB t) := by
  intro pins s σ H Q I hw
  refine isTrue_plain (thn (h pins s σ H _ I hw) fun v s1 ⟨x, H1, I1, r1, q1⟩ => ?_) (he _)
  obtain ⟨d, rfl, q⟩ := q1
  cases r1
  exact wpAny_truthy_bool ⟨H1, I1, q⟩

/-! ### and, or, not -/
variable {tA tB' : TT} {rest : List Expr}
def tAnd (t u : TT) : TT := fun σ H Q => t σ H fun c H1 => if c = true then u σ H1 Q else Q false H1
def tOr (t u : TT) : TT := fun σ H Q => t σ H fun c H1 => if c = true then Q true H1 else u σ H1 Q
def tNot (t : TT) : TT := fun σ H Q => t σ H fun c H1 => Q (!c) H1
theorem pw_and1 (ha : PT X a tA) : PW X (.BoolOp .And [a] pos) tA := by
  intro wh pins s σ H Q I h
  refine isTrue_and (thn (ha pins s σ H Q I h) fun c s1 e => ?_)
  cases c with
  | true => exact isTrue_and_nil e
  | false => exact e
theorem pw_or1 (ha : PT X a tA) : PW X (.BoolOp .Or [a] pos) tA := by
  intro wh pins s σ H Q I h
  refine isTrue_or (thn (ha pins s σ H Q I h) fun c s1 e => ?_)
  cases c with
  | false => exact isTrue_or_nil e
  | true => exact e
theorem pw_and (ha : PT X a tA) (hb : PW X (.BoolOp .And (b :: rest) pos) tB') : PW X (.BoolOp .And (a :: b :: rest) pos) (tAnd tA tB') := by
  intro wh pins s σ H Q I h
  refine isTrue_and (thn (ha pins s σ H _ I h) fun c s1 ⟨H1, I1, q1⟩ => ?_)
  cases c with
  | true => exact hb wh pins s1 σ H1 Q I1 q1
  | false => exact ⟨H1, I1, q1⟩
theorem pw_or (ha : PT X a tA) (hb : PW X (.BoolOp .Or (b :: rest) pos) tB') : PW X (.BoolOp .Or (a :: b :: rest) pos) (tOr tA tB') := by
  intro wh pins s σ H Q I h
  refine isTrue_or (thn (ha pins s σ H _ I h) fun c s1 ⟨H1, I1, q1⟩ => ?_)
  cases c with
  | true => exact ⟨H1, I1, q1⟩
  | false => exact hb wh pins s1 σ H1 Q I1 q1
theorem pt_not (ha : PT X a tA) : PT X (.UnaryOp .Not a pos) (tNot tA) := by
  intro pins s σ H Q I h
  exact isTrue_not (ha pins s σ H (fun c H1 => Q (!c) H1) I h)
/-- .. as values (bools) -/
def tAndV (ta tb : TE) : TE := fun σ H Q => ta σ H fun x H1 => ∃ c, x = .bl c ∧ if c = true then tb σ H1 Q else Q (.bl false) H1
def tOrV (ta tb : TE) : TE := fun σ H Q => ta σ H fun x H1 => ∃ c, x = .bl c ∧ if c = true then Q (.bl true) H1 else tb σ H1 Q
def tNotV (ta : TE) : TE := fun σ H Q => ta σ H fun x H1 => ∃ c, x = .bl c ∧ Q (.bl (!c)) H1
theorem pe_one {op} {t : TE} (h : PE X a t) : PE X (.BoolOp op [a] pos) t := fun pins s σ H Q I hw => BoolOp_one (h pins s σ H Q I hw)
theorem pe_and (ha : PE X a ta) (hb : PE X (.BoolOp .And (b :: rest) pos) tb) : PE X (.BoolOp .And (a :: b :: rest) pos) (tAndV ta tb) := by
  intro pins s σ H Q I h
  refine BoolOp_and (thn (ha pins s σ H _ I h) fun v s1 ⟨x, H1, I1, r1, q1⟩ => ?_)
  obtain ⟨c, rfl, q1⟩ := q1
  cases r1
  refine wpAny_truthy_bool ?_
  cases c with
  | true => exact hb pins s1 σ H1 Q I1 q1
  | false => exact ⟨.bl false, H1, I1, rfl, q1⟩
theorem pe_or (ha : PE X a ta) (hb : PE X (.BoolOp .Or (b :: rest) pos) tb) : PE X (.BoolOp .Or (a :: b :: rest) pos) (tOrV ta tb) := by
  intro pins s σ H Q I h
  refine BoolOp_or (thn (ha pins s σ H _ I h) fun v s1 ⟨x, H1, I1, r1, q1⟩ => ?_)
  obtain ⟨c, rfl, q1⟩ := q1
  cases r1
  refine wpAny_truthy_bool ?_
  cases c with
  | false => exact hb pins s1 σ H1 Q I1 q1
  | true => exact ⟨.bl true, H1, I1, rfl, q1⟩
theorem pe_not (ha : PE X a ta) : PE X (.UnaryOp .Not a pos) (tNotV ta) := by
  intro pins s σ H Q I h
  refine UnaryOp_ (thn (ha pins s σ H _ I h) fun v s1 ⟨x, H1, I1, r1, q1⟩ => ?_)
  obtain ⟨c, rfl, q1⟩ := q1
  cases r1
  exact not_of (wpAny_truthy_bool ⟨.bl (!c), H1, I1, rfl, q1⟩)
end
end L2

namespace L2
open PySem PySem.Spec PyProof.Rows

/-! ### a list, a tuple that is read: tracked, frozen, or an object of the module -/
def SqL (K : PySem.W.Frag) (H : Hp) (a : Addr) (xs : List V) : Prop :=
  Rd H a (.lst xs) ∨
    ∃ (o : Obj) (its : Array Value) (n : Nat), K.lookup a = some o ∧ o.cls = .type "list" ∧ o.dict = none ∧ o.data = .seq its n ∧ its.size ≤ sizeLine ∧ Vals xs its.toList
def SqT (K : PySem.W.Frag) (H : Hp) (a : Addr) (xs : List V) : Prop :=
  Rd H a (.tup xs) ∨
    ∃ (o : Obj) (its : Array Value) (n : Nat), K.lookup a = some o ∧ o.cls = .type "tuple" ∧ o.data = .seq its n ∧ its.size ≤ sizeLine ∧ Vals xs its.toList
def absV : Value → Option V
  | .none => some .non
  | .bool b => some (.bl b)
  | .int i _ => some (.int i)
  | .str x _ => some (.str x)
  | .bytes b _ => some (.byt b)
  | .float b _ => some (.flt b)
  | .ref a => some (.ref a)
  | .type n => some (.ty n)
  | _ => none
theorem RelV.abs {x : V} {u : Value} (r : RelV x u) : absV u = some x := by
  cases x with
  | non => cases r; rfl
  | bl _ => cases r; rfl
  | int _ => obtain ⟨t, rfl⟩ := r; rfl
  | str _ => obtain ⟨t, rfl⟩ := r; rfl
  | byt _ => obtain ⟨t, rfl⟩ := r; rfl
  | flt _ => obtain ⟨t, rfl⟩ := r; rfl
  | ref _ => cases r; rfl
  | ty _ => cases r; rfl
theorem RelV.inj {x y : V} {u : Value} (r : RelV x u) (q : RelV y u) : x = y := Option.some.inj (r.abs.symm.trans q.abs)
theorem Vals.inj : ∀ {xs ys : List V} {us : List Value}, Vals xs us → Vals ys us → xs = ys
  | _, _, _, .nil, .nil => rfl
  | _, _, _, .cons r t, .cons r' t' => by rw [r.inj r', Vals.inj t t']
section
variable {X : Cx} {pins : List (Addr × Obj)} {σ : St} {H : Hp} {s : Shared} {a : Addr} {xs ys : List V}
theorem SqL.of {K : PySem.W.Frag} (h : H a = some (.lst xs)) : SqL K H a xs := .inl (.inl h)
theorem SqT.of {K : PySem.W.Frag} (h : H a = some (.tup xs)) : SqT K H a xs := .inl (.inl h)
theorem Inv.list (I : Inv X pins σ H s) (h : SqL X.K H a xs) : ∃ its : List Value, Vals xs its ∧ PlainL s.heap a its.toArray ∧ xs.length ≤ sizeLine := by
  rcases h with h | ⟨o, its, n, hk, hc, hd, hs, hz, r⟩
  · obtain ⟨z, its, n, r, e⟩ := h.ok I.hok
    exact ⟨its, r, ⟨_, n, e, rfl, rfl, rfl⟩, z⟩
  · refine ⟨its.toList, r, ⟨o, n, I.kIn a o hk, hc, hd, by simpa using hs⟩, ?_⟩
    have e := r.length
    simp only [Array.length_toList] at e
    omega
theorem Inv.tuple (I : Inv X pins σ H s) (h : SqT X.K H a xs) : ∃ its : List Value, Vals xs its ∧ IsTup s.heap a its.toArray ∧ xs.length ≤ sizeLine := by
  rcases h with h | ⟨o, its, n, hk, hc, hs, hz, r⟩
  · obtain ⟨z, its, r, p⟩ := h.ok I.hok
    exact ⟨its, r, p, z⟩
  · refine ⟨its.toList, r, ⟨o, I.kIn a o hk, hc, n, by simpa using hs⟩, ?_⟩
    have e := r.length
    simp only [Array.length_toList] at e
    omega
theorem Inv.list_inj (I : Inv X pins σ H s) (h : SqL X.K H a xs) (h' : SqL X.K H a ys) : xs = ys := by
  obtain ⟨its, r, ⟨o, n, e, _, _, d⟩, _⟩ := I.list h
  obtain ⟨its', r', ⟨o', n', e', _, _, d'⟩, _⟩ := I.list h'
  rw [e] at e'; cases e'
  rw [d] at d'
  injection d' with d1 _
  have : its = its' := by simpa using congrArg Array.toList d1
  subst this
  exact r.inj r'
theorem Inv.tuple_inj (I : Inv X pins σ H s) (h : SqT X.K H a xs) (h' : SqT X.K H a ys) : xs = ys := by
  obtain ⟨its, r, ⟨o, e, _, n, d⟩, _⟩ := I.tuple h
  obtain ⟨its', r', ⟨o', e', _, n', d'⟩, _⟩ := I.tuple h'
  rw [e] at e'; cases e'
  rw [d] at d'
  injection d' with d1 _
  have : its = its' := by simpa using congrArg Array.toList d1
  subst this
  exact r.inj r'
end

/-! ### another wish about exceptions -/
abbrev Cx.wish (X : Cx) (E : Value → Shared → Prop) : Cx := { X with xe := E }
/-- no exception leaves -/
abbrev Cx.nox (X : Cx) : Cx := X.wish fun _ _ => False
theorem Cx.Ok.wish {X : Cx} (ok : X.Ok) (E : Value → Shared → Prop) : (X.wish E).Ok :=
  ⟨ok.mod, ok.kind, ok.glob, ok.blt, ok.above, ok.inj, ok.has, ok.cab, ok.hd, ok.frames, ok.stk, ok.exf, ok.bs, ok.bsz, ok.noex, ok.exfs, ok.funs, ok.frf⟩
theorem Cx.Ok.unwish {X : Cx} {E : Value → Shared → Prop} (ok : (X.wish E).Ok) : X.Ok :=
  ⟨ok.mod, ok.kind, ok.glob, ok.blt, ok.above, ok.inj, ok.has, ok.cab, ok.hd, ok.frames, ok.stk, ok.exf, ok.bs, ok.bsz, ok.noex, ok.exfs, ok.funs, ok.frf⟩
section
variable {X : Cx} {pins : List (Addr × Obj)} {σ : St} {H : Hp} {s : Shared} {E : Value → Shared → Prop}
theorem Inv.wish (I : Inv X pins σ H s) (E : Value → Shared → Prop) : Inv (X.wish E) pins σ H s := ⟨I.ok.wish E, I.os, I.bare, I.base, I.loc, I.cell, I.free, I.freeC, I.pin, I.hok, I.len⟩
theorem Inv.unwish (I : Inv (X.wish E) pins σ H s) : Inv X pins σ H s := ⟨I.ok.unwish, I.os, I.bare, I.base, I.loc, I.cell, I.free, I.freeC, I.pin, I.hok, I.len⟩
theorem SP.unwish {D : Ends} {f : Flow} {s' : Shared} (h : SP (X.wish E) pins D f s') : SP X pins D f s' := by
  cases f with
  | next => obtain ⟨σ', H', I, q⟩ := h; exact ⟨σ', H', I.unwish, q⟩
  | brk => obtain ⟨σ', H', I, q⟩ := h; exact ⟨σ', H', I.unwish, q⟩
  | cont => obtain ⟨σ', H', I, q⟩ := h; exact ⟨σ', H', I.unwish, q⟩
  | ret u => obtain ⟨v, σ', H', I, r, q⟩ := h; exact ⟨v, σ', H', I.unwish, r, q⟩
theorem PSs.nox {st : List Stmt} {t : TS} (h : PSs X.nox st t) : PSs X st t := fun pins s σ H D I hw =>
  wpAny_mono (h pins s σ H D (I.wish _) hw) (fun _ _ q => q.unwish) fun _ _ z => False.elim z
end

/-! ### blocks and small statements -/
section
variable {X : Cx} {st : Stmt} {rest : List Stmt} {t u : TS} {e : Expr} {te : TE} {pos : Pos}
def tNext : TS := fun D σ H => D.nx σ H
def tSeq (t u : TS) : TS := fun D σ H => t { D with nx := u D } σ H
theorem pss_nil : PSs X [] tNext := fun _ _ σ H _ I h => wpAny_execs_nil ⟨σ, H, I, h⟩
theorem pss_cons (h1 : PS X st t) (h2 : PSs X rest u) : PSs X (st :: rest) (tSeq t u) := by
  intro pins s σ H D I h
  refine wpAny_execs_cons (thn (h1 pins s σ H { D with nx := u D } I h) fun f s1 q => ?_)
  cases f with
  | next =>
    obtain ⟨σ', H', I', q⟩ := q
    exact h2 pins s1 σ' H' D I' q
  | ret v => exact q
  | brk => exact q
  | cont => exact q
theorem pss_one (h1 : PS X st t) : PSs X [st] t := by
  intro pins s σ H D I h
  refine wpAny_execs_cons (thn (h1 pins s σ H D I h) fun f s1 q => ?_)
  cases f with
  | next => exact wpAny_execs_nil q
  | ret v => exact q
  | brk => exact q
  | cont => exact q
/-- in a def's body nothing is shown -/
theorem Inv.quiet {pins : List (Addr × Obj)} {σ : St} {H : Hp} {s : Shared} (I : Inv X pins σ H s) : interactive X.env = false := by simp [interactive, I.ok.kind]
/-- an expression whose value is dropped -/
def tDrop (te : TE) : TS := fun D σ H => te σ H fun _ H1 => D.nx σ H1
theorem ps_expr (he : PE X e te) (hs : swapsWith e none pos.line X.env = pure false := by rfl) : PS X (.Expr e pos) (tDrop te) := by
  intro pins s σ H D I h
  exact wpAny_Expr_any (thn (he pins s σ H _ I h) fun v s1 ⟨x, H1, I1, r1, q1⟩ => ⟨σ, H1, I1, q1⟩) I.quiet hs
def tRet (te : TE) : TS := fun D σ H => te σ H D.rt
theorem ps_ret (he : PE X e te) : PS X (.Return (some e) pos) (tRet te) := by
  intro pins s σ H D I h
  exact wpAny_Return_some (thn (he pins s σ H _ I h) fun v s1 ⟨x, H1, I1, r1, q1⟩ => ⟨x, σ, H1, I1, r1, q1⟩)
def tIfS (c : TT) (t u : TS) : TS := fun D σ H => c σ H fun b H1 => if b = true then t D σ H1 else u D σ H1
theorem ps_if {c : Expr} {a b : List Stmt} {tc : TT} (hc : PT X c tc) (ha : PSs X a t) (hb : PSs X b u) : PS X (.If c a b pos) (tIfS tc t u) := by
  intro pins s σ H D I h
  refine wpAny_If (thn (hc pins s σ H _ I h) fun d s1 ⟨H1, I1, q1⟩ => ?_)
  cases d with
  | true => exact ha pins s1 σ H1 D I1 q1
  | false => exact hb pins s1 σ H1 D I1 q1
end

/-! ### targets -/
abbrev TG := V → St → Hp → (St → Hp → Prop) → Prop
abbrev TGs := List V → St → Hp → (St → Hp → Prop) → Prop
def PG (X : Cx) (target : Expr) (t : TG) : Prop :=
  ∀ (pins : List (Addr × Obj)) (s : Shared) (σ : St) (H : Hp) (v : V) (u : Value) (Q : St → Hp → Prop), Inv X pins σ H s → RelV v u → t v σ H Q →
    wpAny (model X.prog X.w) X.A (assign target X.env u) (fun _ s' => ∃ σ' H', Inv X pins σ' H' s' ∧ Q σ' H') X.xe s
/-- several targets, one after another -/
def PGs (X : Cx) (ts : List Expr) (t : TGs) : Prop :=
  ∀ (pins : List (Addr × Obj)) (s : Shared) (σ : St) (H : Hp) (vs : List V) (us : List Value) (Q : St → Hp → Prop), Inv X pins σ H s → Vals vs us → t vs σ H Q →
    wpAny (model X.prog X.w) X.A (assignInOrder ((assignEach ts X.env).map (·.2)) us) (fun _ s' => ∃ σ' H', Inv X pins σ' H' s' ∧ Q σ' H') X.xe s
/-- o[i] = v, by values -/
abbrev TSet := V → V → V → Hp → (Hp → Prop) → Prop
def PSet (X : Cx) (t : TSet) : Prop :=
  ∀ (pins : List (Addr × Obj)) (s : Shared) (σ : St) (H : Hp) (o i v : V) (ov iv u : Value) (Q : Hp → Prop), Inv X pins σ H s → RelV o ov → RelV i iv → RelV v u → t o i v H Q →
    wpAny (model X.prog X.w) X.A (setItem ov iv u) (fun _ s' => ∃ H', Inv X pins σ H' s' ∧ Q H') X.xe s
section
variable {X : Cx} {pos : Pos}
def gName (i : Nat) : TG := fun v σ H Q => Q (σ.set i (some v)) H
theorem pg_name {i : Nat} {x : Str} (hN : X.N.Nodup) (hi : X.N[i]? = some x) (hx : Loc X.env.scope x) (hf : X.fn x = true ∨ X.env.scope.names.lookup x = some .local := by first | exact .inl rfl | exact .inr rfl | assumption) : PG X (.Name x pos) (gName i) := by
  intro pins s σ H v u Q I r h
  exact wpAny_assign_Name (store_ok I hN hi hx r (fun s' I' => ⟨_, H, I', h⟩) hf)
def gNil : TGs := fun vs σ H Q => vs = [] ∧ Q σ H
def gCons (t : TG) (u : TGs) : TGs := fun vs σ H Q => ∃ v r, vs = v :: r ∧ t v σ H fun σ' H' => u r σ' H' Q
theorem pgs_nil : PGs X [] gNil := by
  intro pins s σ H vs us Q I r h
  obtain ⟨e, h⟩ := h
  subst e
  cases r
  exact assignInOrder_nil ⟨σ, H, I, h⟩
theorem pgs_cons {e : Expr} {es : List Expr} {t : TG} {u : TGs} (h1 : PG X e t) (h2 : PGs X es u)
    (hs : (assignEach (e :: es) X.env).map (·.2) = assign e X.env :: (assignEach es X.env).map (·.2) := by rfl) : PGs X (e :: es) (gCons t u) := by
  intro pins s σ H vs us Q I r h
  obtain ⟨v, vr, e1, h⟩ := h
  subst e1
  cases r with
  | cons r rr =>
    rw [hs]
    refine assignInOrder_cons (thn (h1 pins s σ H _ _ _ I r h) fun _ s1 ⟨σ1, H1, I1, q1⟩ => ?_)
    exact h2 pins s1 σ1 H1 _ _ Q I1 rr q1
/-- (a, b, ..) = a tuple of that length -/
def gTup (K : PySem.W.Frag) (n : Nat) (t : TGs) : TG := fun v σ H Q => ∃ a xs, v = .ref a ∧ SqT K H a xs ∧ xs.length = n ∧ t xs σ H Q
theorem pg_tup {es : List Expr} {k : Nat} {t : TGs} {n : Nat} (hc : X.calm = true) (h : PGs X es t)
    (hn : (assignEach es X.env).length = n := by rfl) (hst : (assignEach es X.env).findIdx? (·.1) = none := by rfl) : PG X (.Tuple es k pos) (gTup X.K n t) := by
  intro pins s σ H v u Q I r hw
  obtain ⟨a, xs, e1, hq, hl, hw⟩ := hw
  subst e1
  cases r
  obtain ⟨its, rv, ht, hz⟩ := I.tuple hq
  refine assign_Tuple_tuple (I.ok.hd hc) ht (by simp [hn, ← hl, rv.length]) hst fun h' hx => ?_
  have I1 : Inv X pins σ H { s with heap := h' } := I.kept (t' := s.toks) fun b o e => hx b o (Nat.ne_of_lt (Heap.lt_size e)) e
  exact h pins _ σ H xs _ Q I1 (by simpa using rv) hw
/-- o[i] = .. -/
def gSub (to ti : TE) (t : TSet) : TG := fun v σ H Q => to σ H fun o H1 => ti σ H1 fun i H2 => t o i v H2 fun H3 => Q σ H3
theorem pg_sub {o i : Expr} {to ti : TE} {t : TSet} (ho : PE X o to) (hi : PE X i ti) (hs : PSet X t)
    (ha : ∀ v, assign (.Subscript o i pos) X.env v = (do
      let ov ← holding [v] (eval o X.env)
      let iv ← holding [v, ov] (eval i X.env)
      standAt pos
      holding [v, ov, iv] (setItem ov iv v)
      release [v, ov, iv] []) := by intro _; rfl) : PG X (.Subscript o i pos) (gSub to ti t) := by
  intro pins s σ H v u Q I r h
  rw [ha]
  refine wpAny_bind (wpAny_holding (thn (ho pins s σ H _ I h) fun ov s1 ⟨x, H1, I1, r1, q1⟩ => ?_))
  refine wpAny_bind (wpAny_holding (thn (hi pins s1 σ H1 _ I1 q1) fun iv s2 ⟨y, H2, I2, r2, q2⟩ => ?_))
  refine wpAny_bind (wpAny_standAt (wpAny_bind (wpAny_holding (thn (hs pins s2 σ H2 x y v ov iv u _ I2 r1 r2 r q2) fun _ s3 ⟨H3, I3, q3⟩ => ?_))))
  exact wpAny_release ⟨σ, H3, I3, q3⟩
/-- target = value -/
def tAsg (te : TE) (g : TG) : TS := fun D σ H => te σ H fun x H1 => g x σ H1 D.nx
theorem ps_asg {tg e : Expr} {te : TE} {g : TG} (he : PE X e te) (hg : PG X tg g) (hs : swapsWithSole [tg] e pos.line X.env = pure false := by rfl) (hw : swappedStores [tg] e X.env = pure none := by rfl)
    (h1 : (assignEach [tg] X.env).map (·.2) = [assign tg X.env] := by rfl) : PS X (.Assign [tg] e pos) (tAsg te g) := by
  intro pins s σ H D I h
  refine wpAny_Assign_stores (thn (he pins s σ H _ I h) fun v s1 ⟨x, H1, I1, r1, q1⟩ => ?_) hs hw
  rw [h1]
  exact thn (hg pins s1 σ H1 x v _ I1 r1 q1) fun _ s2 q => q
/-- name = value -/
theorem ps_set {i : Nat} {x : Str} {e : Expr} {te : TE} {pos' : Pos} (hN : X.N.Nodup) (hi : X.N[i]? = some x) (hx : Loc X.env.scope x) (he : PE X e te) (hs : swapsWith e (some (.Name x pos')) pos.line X.env = pure false := by rfl) (hf : X.fn x = true ∨ X.env.scope.names.lookup x = some .local := by first | exact .inl rfl | exact .inr rfl | assumption) :
    PS X (.Assign [.Name x pos'] e pos) (tAsg te (gName i)) := by
  intro pins s σ H D I h
  refine wpAny_Assign_Name (thn (he pins s σ H _ I h) fun v s1 ⟨y, H1, I1, r1, q1⟩ => ?_) hs
  exact store_ok I1 hN hi hx r1 (fun s2 I2 => ⟨_, H1, I2, q1⟩) hf
end

/-! ### while -/
section
variable {X : Cx} {pos : Pos}
end

/-! ### what a loop or a comprehension walks -/
/-- at turn i: it yields x (the heap may grow), or it stops -/
structure It where
  go : Nat → Hp → Prop
  yld : Nat → Hp → V → Hp → Prop
  stop : Nat → Hp → Prop
/-- the iterator's own objects may turn: they are not the frame's, not pinned, younger than the entry (or a comprehension's own) -/
def FpOk (X : Cx) (pins : List (Addr × Obj)) (H : Hp) (b : Addr) : Prop :=
  H b = none ∧ b ≠ X.env.locals ∧ b ∉ X.fs ∧ (b ∈ X.ex ∨ X.s₀.heap.objs.size ≤ b) ∧ (∀ x c, X.env.cells.lookup x = some c → c ≠ b) ∧ ∀ p ∈ X.pn ++ pins, p.1 ≠ b
theorem Inv.fpOk {X : Cx} {pins : List (Addr × Obj)} {σ : St} {H H' : Hp} {s : Shared} {b : Addr} (I : Inv X pins σ H s) (hb : s.heap.objs.size ≤ b) (hn : H' b = none) : FpOk X pins H' b := by
  refine ⟨hn, Nat.ne_of_gt (Nat.lt_of_lt_of_le I.lt hb), I.nofs hb, .inr (Nat.le_trans I.sz hb), fun x c e z => ?_, fun p hp z => ?_⟩
  · obtain ⟨v, q⟩ := I.cell x c e
    exact absurd (Nat.lt_of_lt_of_le q.lt (by rw [z]; exact hb)) (Nat.lt_irrefl _)
  · exact absurd (Nat.lt_of_lt_of_le (Heap.lt_size (I.pin p hp).1) (by rw [z]; exact hb)) (Nat.lt_irrefl _)
structure Turn (P : Program) (w : World) (K : PySem.W.Frag) (tg : Expr) (J : It) (fp : List Addr) (it : Addr) (tn : Nat → Heap → Prop) : Prop where
  mem : it ∈ fp
  obj : ∀ i h, tn i h → ∀ b ∈ fp, ∃ o, h.get? b = some o ∧ ∀ v, o.data ≠ .cell v
  keep : ∀ i h h', tn i h → (∀ b ∈ fp, ∀ o, h.get? b = some o → h'.get? b = some o) → tn i h'
  item : ∀ (X : Cx), X.prog = P → X.w = w → X.K = K → X.calm = true → ∀ (i : Nat) (pins : List (Addr × Obj)) (s : Shared) (σ : St) (H : Hp) (E : Value → Shared → Prop), Inv X pins σ H s → (∀ b ∈ fp, FpOk X pins H b) → tn i s.heap → J.go i H →
    wpAny (model P w) X.A (pyNext (.ref it)) (fun r s1 => ∃ u, r = some u ∧
      wpAny (model P w) X.A (letOwnedTupleGo tg (.ref it) u) (fun _ s2 => ∃ x H', Inv X pins σ H' s2 ∧ RelV x u ∧ J.yld i H x H' ∧ tn (i + 1) s2.heap ∧ ∀ b ∈ fp, H' b = none) E s1) E s
  done : ∀ (X : Cx), X.prog = P → X.w = w → X.K = K → X.calm = true → ∀ (i : Nat) (pins : List (Addr × Obj)) (s : Shared) (σ : St) (H : Hp) (E : Value → Shared → Prop), Inv X pins σ H s → (∀ b ∈ fp, FpOk X pins H b) → tn i s.heap → J.stop i H →
    wpAny (model P w) X.A (pyNext (.ref it)) (fun r s1 => r = none ∧ Inv X pins σ H s1) E s
  self : ∀ (A : Around) (i : Nat) (s : Shared) (Q : Value → Shared → Prop) (E : Value → Shared → Prop), tn i s.heap → Q (.ref it) s → wpAny (model P w) A (pyIter (.ref it)) Q E s
abbrev TI := St → Hp → (It → Hp → Prop) → Prop
/-- an iterator has come -/
def PIE (X : Cx) (pins : List (Addr × Obj)) (σ : St) (tg : Expr) (R : It → Hp → Prop) (itv : Value) (s2 : Shared) : Prop :=
  ∃ (it : Addr) (fp : List Addr) (tn : Nat → Heap → Prop) (J : It) (H' : Hp), itv = .ref it ∧ Inv X pins σ H' s2 ∧ Turn X.prog X.w X.K tg J fp it tn ∧ tn 0 s2.heap ∧ (∀ b ∈ fp, FpOk X pins H' b) ∧ R J H'
def PI (X : Cx) (tg iter : Expr) (wi : TI) : Prop :=
  ∀ (pins : List (Addr × Obj)) (s : Shared) (σ : St) (H : Hp) (R : It → Hp → Prop), Inv X pins σ H s → wi σ H R →
    wpAny (model X.prog X.w) X.A (eval iter X.env) (fun v s1 => wpAny (model X.prog X.w) X.A (pyIter v) (PIE X pins σ tg R) X.xe s1) X.xe s

/-- the step ahead of the store is nothing for an iterator that keeps no tuple -/
theorem go_of {M : Model} {A : Around} {E : Value → Shared → Prop} {s : Shared} {tg : Expr} {it : Addr} {u : Value} {o : Obj} {n : String} {vs : Array Value} {Q : Unit → Shared → Prop} (ho : s.heap.get? it = some o) (hc : o.cls = .type n) (hd : o.data = .fields vs)
    (hn : ["enumerate", "zip", "dict_itemiterator", "dict_reverseitemiterator", "odict_iterator", "itertools.zip_longest", "itertools.pairwise"].contains n = false) (hQ : Q () s) : wpAny M A (letOwnedTupleGo tg (.ref it) u) Q E s := by
  unfold letOwnedTupleGo
  cases tg <;> first
    | exact wpAny_pure hQ
    | (cases u <;> first
        | exact wpAny_pure hQ
        | (refine wpAny_bind (wpAny_load ho ?_)
           rw [hc, hd]
           show wpAny M A (if (["enumerate", "zip", "dict_itemiterator", "dict_reverseitemiterator", "odict_iterator", "itertools.zip_longest", "itertools.pairwise"].contains n && vs[0]? == some (rawInt _)) = true then _ else _) Q E s
           rw [if_neg (by intro h; rw [hn, Bool.false_and] at h; cases h)]
           exact wpAny_pure hQ))

/-- the list at a, as it stands at each turn (a loop may append to it) -/
def Itl (K : PySem.W.Frag) (a : Addr) : It :=
  ⟨fun i H => ∃ xs x, SqL K H a xs ∧ xs[i]? = some x, fun i H x H' => H' = H ∧ ∀ xs, SqL K H a xs → xs[i]? = some x, fun i H => ∃ xs, SqL K H a xs ∧ xs.length ≤ i⟩
def Itt (K : PySem.W.Frag) (a : Addr) : It :=
  ⟨fun i H => ∃ xs x, SqT K H a xs ∧ xs[i]? = some x, fun i H x H' => H' = H ∧ ∀ xs, SqT K H a xs → xs[i]? = some x, fun i H => ∃ xs, SqT K H a xs ∧ xs.length ≤ i⟩
/-- lo, lo + 1, .. (n of them) -/
def Itr (lo : Int) (n : Nat) : It := ⟨fun i _ => i < n, fun i H x H' => H' = H ∧ x = .int (lo + i), fun i _ => n ≤ i⟩
theorem turn_list {P : Program} {w : World} {K : PySem.W.Frag} {tg : Expr} (a it : Addr) : Turn P w K tg (Itl K a) [it] it (fun i h => h.IsListIter it a i) where
  mem := by simp
  obj := fun i h st b hb => by
    have e : b = it := by simpa using hb
    subst e
    obtain ⟨o, e, c, d⟩ := st
    exact ⟨o, e, fun v z => by rw [d] at z; cases z⟩
  keep := fun i h h' st k => st.at fun o e => k it (by simp) o e
  item := by
    intro X hP hw hK hc i pins s σ H E I hf st hg
    subst hP hw hK
    obtain ⟨xs, x, hq, hx⟩ := hg
    obtain ⟨its, rv, p, hz⟩ := I.list hq
    obtain ⟨u, hu, ru⟩ := rv.get hx
    obtain ⟨f0, f1, f2, f3, f4, f5⟩ := hf it (by simp)
    refine wpAny_pyNext_list_item st p.isList (x := u) (by simpa using hu) fun h' st' sb => ?_
    have I1 : Inv X pins σ H { s with heap := h' } := I.turned (t' := s.toks) (fun b o hb e => (sb.2 b hb).trans e) f0 f1 f3 f4 f5
    obtain ⟨o, e, c, d⟩ := id st'
    exact ⟨u, rfl, go_of (s := { s with heap := h' }) e c d (by decide) ⟨x, H, I1, ru, ⟨rfl, fun ys hy => by rw [I.list_inj hy hq]; exact hx⟩, st', fun b hb => (hf b hb).1⟩⟩
  done := by
    intro X hP hw hK hc i pins s σ H E I hf st hg
    subst hP hw hK
    obtain ⟨xs, hq, hx⟩ := hg
    obtain ⟨its, rv, p, hz⟩ := I.list hq
    obtain ⟨f0, f1, f2, f3, f4, f5⟩ := hf it (by simp)
    have hl := rv.length
    exact wpAny_pyNext_list_end (I.ok.hd hc) st p.isList (by simp; omega) fun h' eb => ⟨rfl, I.turned (t' := s.toks) (fun b o hb e => eb b o hb e) f0 f1 f3 f4 f5⟩
  self := fun _ _ _ _ _ st h => wpAny_pyIter_listiter st h
theorem turn_tuple {P : Program} {w : World} {K : PySem.W.Frag} {tg : Expr} (a it : Addr) : Turn P w K tg (Itt K a) [it] it (fun i h => h.IsTupleIter it a i) where
  mem := by simp
  obj := fun i h st b hb => by
    have e : b = it := by simpa using hb
    subst e
    obtain ⟨o, e, c, d⟩ := st
    exact ⟨o, e, fun v z => by rw [d] at z; cases z⟩
  keep := fun i h h' st k => st.at fun o e => k it (by simp) o e
  item := by
    intro X hP hw hK hc i pins s σ H E I hf st hg
    subst hP hw hK
    obtain ⟨xs, x, hq, hx⟩ := hg
    obtain ⟨its, rv, p, hz⟩ := I.tuple hq
    obtain ⟨u, hu, ru⟩ := rv.get hx
    obtain ⟨f0, f1, f2, f3, f4, f5⟩ := hf it (by simp)
    refine wpAny_pyNext_tuple_item st (show s.heap.IsTuple a its.toArray from p) (x := u) (by simpa using hu) fun h' st' sb => ?_
    have I1 : Inv X pins σ H { s with heap := h' } := I.turned (t' := s.toks) (fun b o hb e => (sb.2 b hb).trans e) f0 f1 f3 f4 f5
    obtain ⟨o, e, c, d⟩ := id st'
    exact ⟨u, rfl, go_of (s := { s with heap := h' }) e c d (by decide) ⟨x, H, I1, ru, ⟨rfl, fun ys hy => by rw [I.tuple_inj hy hq]; exact hx⟩, st', fun b hb => (hf b hb).1⟩⟩
  done := by
    intro X hP hw hK hc i pins s σ H E I hf st hg
    subst hP hw hK
    obtain ⟨xs, hq, hx⟩ := hg
    obtain ⟨its, rv, p, hz⟩ := I.tuple hq
    obtain ⟨f0, f1, f2, f3, f4, f5⟩ := hf it (by simp)
    have hl := rv.length
    exact wpAny_pyNext_tuple_end (I.ok.hd hc) st (show s.heap.IsTuple a its.toArray from p) (by simp; omega) fun h' eb => ⟨rfl, I.turned (t' := s.toks) (fun b o hb e => eb b o hb e) f0 f1 f3 f4 f5⟩
  self := fun _ _ _ _ _ st h => wpAny_pyIter_tupleiter st h
theorem turn_range {P : Program} {w : World} {K : PySem.W.Frag} {tg : Expr} (it : Addr) (lo : Int) (n : Nat) : Turn P w K tg (Itr lo n) [it] it (fun i h => IsRangeIter h it (lo + (i : Nat) * 1) ((n : Int) - (i : Nat)) 1) where
  mem := by simp
  obj := fun i h st b hb => by
    have e : b = it := by simpa using hb
    subst e
    exact ⟨_, st, fun v z => by
      have z' : Data.fields _ = Data.cell v := z
      cases z'⟩
  keep := fun i h h' st k => k it (by simp) _ st
  item := by
    intro X hP hw hK hc i pins s σ H E I hf st hg
    subst hP hw hK
    obtain ⟨f0, f1, f2, f3, f4, f5⟩ := hf it (by simp)
    have W := Walks.range (prog := X.prog) (w := X.w) (I.ok.hd hc) it lo 1 n
    refine W.item i s _ _ hg st fun v h' tk hv st' kk => ?_
    obtain ⟨t, rfl⟩ := hv
    have I1 : Inv X pins σ H { s with heap := h', toks := tk } := I.turned (fun b o hb e => kk b o (by simpa using hb) e) f0 f1 f3 f4 f5
    refine ⟨_, rfl, go_of (s := { s with heap := h', toks := tk }) (n := "range_iterator") st' rfl rfl (by decide) ⟨.int (lo + i), H, I1, ⟨t, ?_⟩, ⟨rfl, rfl⟩, st', fun b hb => (hf b hb).1⟩⟩
    rw [Int.mul_one]
  done := by
    intro X hP hw hK hc i pins s σ H E I hf st hg
    subst hP hw hK
    obtain ⟨f0, f1, f2, f3, f4, f5⟩ := hf it (by simp)
    exact wpAny_pyNext_range_end (I.ok.hd hc) st (by have : n ≤ i := hg; omega) fun h' eb => ⟨rfl, I.turned (t' := s.toks) (fun b o hb e => eb b o hb e) f0 f1 f3 f4 f5⟩
  self := fun _ _ _ _ _ st h => wpAny_pyIter_rangeiter st h
end L2

namespace L2
open PySem PySem.Spec PyProof.Rows
section
variable {X : Cx} {tg : Expr}
def iList (K : PySem.W.Frag) (tl : TE) : TI := fun σ H R => tl σ H fun x H1 => ∃ a, x = .ref a ∧ (∃ xs, SqL K H1 a xs) ∧ R (Itl K a) H1
def iTup (K : PySem.W.Frag) (tl : TE) : TI := fun σ H R => tl σ H fun x H1 => ∃ a, x = .ref a ∧ (∃ xs, SqT K H1 a xs) ∧ R (Itt K a) H1
theorem pi_list {l : Expr} {tl : TE} (hl : PE X l tl) : PI X tg l (iList X.K tl) := by
  intro pins s σ H R I h
  refine thn (hl pins s σ H _ I h) fun v s1 ⟨x, H1, I1, r1, q1⟩ => ?_
  obtain ⟨a, e, ⟨xs, hq⟩, q⟩ := q1
  subst e
  cases r1
  obtain ⟨its, rv, p, hz⟩ := I1.list hq
  refine wpAny_pyIter_list p.isList ?_
  refine ⟨s1.heap.objs.size, [s1.heap.objs.size], _, _, H1, rfl, I1.kept (t' := s1.toks) fun b o e => Heap.get?_push_of_some _ e, turn_list a _, ⟨_, Heap.get?_push_size _ rfl, rfl, rfl⟩, fun b hb => ?_, q⟩
  have e : b = s1.heap.objs.size := by simpa using hb
  subst e
  exact I1.fpOk (Nat.le_refl _) (I1.hok.fresh (Nat.le_refl _))
theorem pi_tup {l : Expr} {tl : TE} (hl : PE X l tl) : PI X tg l (iTup X.K tl) := by
  intro pins s σ H R I h
  refine thn (hl pins s σ H _ I h) fun v s1 ⟨x, H1, I1, r1, q1⟩ => ?_
  obtain ⟨a, e, ⟨xs, hq⟩, q⟩ := q1
  subst e
  cases r1
  obtain ⟨its, rv, p, hz⟩ := I1.tuple hq
  refine wpAny_pyIter_tuple (show s1.heap.IsTuple a its.toArray from p) ?_
  refine ⟨s1.heap.objs.size, [s1.heap.objs.size], _, _, H1, rfl, I1.kept (t' := s1.toks) fun b o e => Heap.get?_push_of_some _ e, turn_tuple a _, ⟨_, Heap.get?_push_size _ rfl, rfl, rfl⟩, fun b hb => ?_, q⟩
  have e : b = s1.heap.objs.size := by simpa using hb
  subst e
  exact I1.fpOk (Nat.le_refl _) (I1.hok.fresh (Nat.le_refl _))
/-- a range object just made, walked -/
theorem range_it {pins : List (Addr × Obj)} {σ : St} {H : Hp} {s : Shared} {R : It → Hp → Prop} {E : Value → Shared → Prop} {lo hi : Int} {t u v : Tok} {tk : Nat} (I : Inv X pins σ H s) (h1 : -(2 ^ 62) ≤ lo) (h2 : lo < 2 ^ 62) (h3 : -(2 ^ 62) ≤ hi) (h4 : hi < 2 ^ 62)
    (q : R (Itr lo (hi - lo).toNat) H) : wpAny (model X.prog X.w) X.A (pyIter (.ref s.heap.objs.size)) (PIE X pins σ tg R) E { s with heap := s.heap.push { cls := .type "range", data := .fields #[.int lo t, .int hi u, .int 1 v] }, toks := tk } := by
  refine wpAny_pyIter_range (IsRange.new ..) (small_one h1 h2 h3 h4) ?_
  have I1 : Inv X pins σ H { s with heap := s.heap.push { cls := .type "range", data := .fields #[.int lo t, .int hi u, .int 1 v] }, toks := tk } := I.kept fun b o e => Heap.get?_push_of_some _ e
  refine ⟨(s.heap.push { cls := .type "range", data := .fields #[.int lo t, .int hi u, .int 1 v] }).objs.size, [(s.heap.push { cls := .type "range", data := .fields #[.int lo t, .int hi u, .int 1 v] }).objs.size], _, _, H, rfl,
    I1.kept (t' := tk) fun b o e => Heap.get?_push_of_some _ e, turn_range _ lo (hi - lo).toNat, ?_, fun b hb => ?_, q⟩
  · have e1 : lo + ((0 : Nat) : Int) * 1 = lo := by simp
    have e2 : (((hi - lo).toNat : Nat) : Int) - ((0 : Nat) : Int) = Builtin.Range.rangeSize lo hi 1 := by rw [rangeSize_one]; split <;> omega
    show IsRangeIter _ _ (lo + ((0 : Nat) : Int) * 1) ((((hi - lo).toNat : Nat) : Int) - ((0 : Nat) : Int)) 1
    rw [e1, e2]
    exact Heap.get?_push_size _ rfl
  · have e : b = (s.heap.push { cls := .type "range", data := .fields #[.int lo t, .int hi u, .int 1 v] }).objs.size := by simpa using hb
    subst e
    exact I1.fpOk (Nat.le_refl _) (I1.hok.fresh (Nat.le_refl _))
def iRng1 (ta : TA) : TI := fun σ H R => ta σ H fun vs H1 => ∃ j : Int, vs = [.int j] ∧ -(2 ^ 62) ≤ j ∧ j < 2 ^ 62 ∧ R (Itr 0 j.toNat) H1
theorem pi_range1 {a : Expr} {ta : TA} {p pos : Pos} (hg : Gl X "range") (hm : X.mg "range" = none) (ha : PA X [a] ta) (hs : starEach [a] X.env = [(false, eval a X.env)] := by rfl) : PI X tg (.Call (.Name "range" p) [a] [] pos) (iRng1 ta) := by
  intro pins s σ H R I h
  refine Call_ (ld_blt I hg hm boot_range (PyProof.Rows.callWith_type1 (thn (ha pos pins s σ H _ I h) fun us s1 ⟨vs, H1, I1, r1, q1⟩ => ?_) hs rfl))
  obtain ⟨j, e, q1, q2, q⟩ := q1
  subst e
  cases r1 with
  | cons r rr =>
    cases rr
    obtain ⟨t, rfl⟩ := r
    exact call_range_1 (range_it I1 (by omega) (by omega) q1 q2 (by simpa using q))
/-! ### for -/
/-- W: the invariant by the turn and a measure; N: what the body is to reach -/
def tFor (wi : TI) (g : TG) (tb : TS) : TS := fun D σ H => wi σ H fun J H1 => ∃ W : Nat → Nat → St → Hp → Prop, (∃ m, W 0 m σ H1) ∧ ∀ i m σ H, W i m σ H →
  (J.stop i H ∧ D.nx σ H) ∨ (J.go i H ∧ ∃ N : St → Hp → Prop, (∀ σ' H', N σ' H' → ∃ m', m' < m ∧ W (i + 1) m' σ' H') ∧ ∀ x H', J.yld i H x H' → g x σ H' fun σ2 H2 => tb { D with nx := N, ct := N, bk := D.nx } σ2 H2)
/-- the records at fp as they stand -/
def pinsAt (fp : List Addr) (h : Heap) : List (Addr × Obj) := fp.filterMap fun b => (h.get? b).map fun o => (b, o)
theorem mem_pinsAt {fp : List Addr} {h : Heap} {b : Addr} {o : Obj} (hb : b ∈ fp) (e : h.get? b = some o) : (b, o) ∈ pinsAt fp h := List.mem_filterMap.mpr ⟨b, hb, by rw [e]; rfl⟩
theorem of_pinsAt {fp : List Addr} {h : Heap} {p : Addr × Obj} (hp : p ∈ pinsAt fp h) : p.1 ∈ fp ∧ h.get? p.1 = some p.2 := by
  obtain ⟨b, hb, e⟩ := List.mem_filterMap.mp hp
  cases q : h.get? b with
  | none => rw [q] at e; cases e
  | some o =>
    rw [q] at e
    have e' : (b, o) = p := Option.some.inj e
    subst e'
    exact ⟨hb, q⟩
theorem Inv.pinned {pins : List (Addr × Obj)} {σ : St} {H : Hp} {s : Shared} {fp : List Addr} (I : Inv X pins σ H s) (hf : ∀ b ∈ fp, FpOk X pins H b) (ho : ∀ b ∈ fp, ∃ o, s.heap.get? b = some o ∧ ∀ v, o.data ≠ .cell v) : Inv X (pins ++ pinsAt fp s.heap) σ H s :=
  I.pins_of fun p hp => (List.mem_append.mp hp).elim (fun z => I.pin p (List.mem_append_right _ z)) fun z => by
    obtain ⟨hb, e⟩ := of_pinsAt z
    obtain ⟨f0, f1, f2, _⟩ := hf p.1 hb
    obtain ⟨o, e', d⟩ := ho p.1 hb
    rw [e] at e'; cases e'
    exact ⟨e, f0, f1, f2, d⟩
theorem Inv.unpinned {pins pl : List (Addr × Obj)} {σ : St} {H : Hp} {s : Shared} (I : Inv X (pins ++ pl) σ H s) : Inv X pins σ H s := I.pins_of fun p hp => I.pin p (List.mem_append_right _ (List.mem_append_left _ hp))
theorem ps_for {iter : Expr} {body : List Stmt} {wi : TI} {g : TG} {tb : TS} {pos : Pos} (hp : PassesOwn (model X.prog X.w) X.A X.env X.xe) (hc : X.calm = true) (hi : PI X tg iter wi) (hg : PG X tg g) (hb : PSs X body tb)
    (hs : ∀ x, foldedSetIterable iter X.env x = pure x := by intro _; rfl) : PS X (.For tg iter body [] pos) (tFor wi g tb) := by
  intro pins s σ H D I h
  refine wpAny_For (thn (hi pins s σ H _ I h) fun v s1 h1 => thn h1 fun itv s2 h2 => ?_) hs
  obtain ⟨it, fp, tn, J, H2, e, I2, T, st2, f2, W, ⟨m0, w0⟩, turn⟩ := h2
  subst e
  -- what stays true of the iterator's objects through the loop
  have stat : ∀ {H' : Hp}, (∀ b ∈ fp, H' b = none) → ∀ b ∈ fp, FpOk X pins H' b := fun hn b hb => ⟨hn b hb, (f2 b hb).2⟩
  refine codeAny_forLoop_any (fun n s' => ∃ i σ' H', Inv X pins σ' H' s' ∧ tn i s'.heap ∧ (∀ b ∈ fp, H' b = none) ∧ W i n σ' H') ?_ m0 ⟨0, σ, H2, I2, st2, fun b hb => (f2 b hb).1, w0⟩
  rintro n s3 ⟨i, σ3, H3, I3, st3, fr3, w3⟩
  rcases turn i n σ3 H3 w3 with ⟨stop, qn⟩ | ⟨go, N, hN, step⟩
  · refine wpAny_passesOwn hp (thn (T.done X rfl rfl rfl hc i pins s3 σ3 H3 X.xe I3 (stat fr3) st3 stop) fun r s4 ⟨hr, I4⟩ => ?_)
    subst hr
    exact wpAny_execs_nil ⟨σ3, H3, I4, qn⟩
  · refine wpAny_passesOwn hp (thn (T.item X rfl rfl rfl hc i pins s3 σ3 H3 X.xe I3 (stat fr3) st3 go) fun r s4 ⟨u, hr, h4⟩ => ?_)
    subst hr
    refine wpAny_passesOwn hp (thn h4 fun _ s5 ⟨x, H5, I5, r5, y5, st5, fr5⟩ => ?_)
    have I5' := I5.pinned (stat fr5) (T.obj _ _ st5)
    refine wpAny_passesOwn hp (thn (hg _ s5 σ3 H5 x u _ I5' r5 (step x H5 y5)) fun _ s6 ⟨σ6, H6, I6, q6⟩ => ?_)
    refine wpAny_passesOwn hp (thn (hb _ s6 σ6 H6 _ I6 q6) fun f s7 q7 => ?_)
    have again : ∀ {σ7 : St} {H7 : Hp}, Inv X (pins ++ pinsAt fp s5.heap) σ7 H7 s7 → N σ7 H7 → ∃ m, m < n ∧ ∃ i σ' H', Inv X pins σ' H' s7 ∧ tn i s7.heap ∧ (∀ b ∈ fp, H' b = none) ∧ W i m σ' H' := fun {σ7 H7} I7 n7 => by
      obtain ⟨m', hm, w7⟩ := hN σ7 H7 n7
      refine ⟨m', hm, i + 1, σ7, H7, I7.unpinned, T.keep _ _ _ st5 fun b hb o e => (I7.pin (b, o) (List.mem_append_right _ (List.mem_append_right _ (mem_pinsAt hb e)))).1, fun b hb => ?_, w7⟩
      obtain ⟨o, e, d⟩ := T.obj _ _ st5 b hb
      exact (I7.pin (b, o) (List.mem_append_right _ (List.mem_append_right _ (mem_pinsAt hb e)))).2.1
    cases f with
    | next => obtain ⟨σ7, H7, I7, n7⟩ := q7; exact again I7 n7
    | cont => obtain ⟨σ7, H7, I7, n7⟩ := q7; exact again I7 n7
    | brk => obtain ⟨σ7, H7, I7, q7⟩ := q7; exact ⟨σ7, H7, I7.unpinned, q7⟩
    | ret v => obtain ⟨x7, σ7, H7, I7, r7, q7⟩ := q7; exact ⟨x7, σ7, H7, I7.unpinned, r7, q7⟩
end

/-! ### the forms one uses -/
/-- over a list that the body leaves as it is -/
theorem for_list {K : PySem.W.Frag} {a : Addr} {xs : List V} {g : TG} {tb : TS} {D : Ends} {σ : St} {H : Hp} (Pv : Nat → St → Hp → Prop) (h0 : Pv 0 σ H) (hl : ∀ i σ H, i ≤ xs.length → Pv i σ H → SqL K H a xs)
    (hs : ∀ i x σ H, xs[i]? = some x → Pv i σ H → g x σ H fun σ2 H2 => tb { D with nx := Pv (i + 1), ct := Pv (i + 1), bk := D.nx } σ2 H2) (hd : ∀ σ H, Pv xs.length σ H → D.nx σ H) :
    ∃ W : Nat → Nat → St → Hp → Prop, (∃ m, W 0 m σ H) ∧ ∀ i m σ H, W i m σ H →
      ((Itl K a).stop i H ∧ D.nx σ H) ∨ ((Itl K a).go i H ∧ ∃ N : St → Hp → Prop, (∀ σ' H', N σ' H' → ∃ m', m' < m ∧ W (i + 1) m' σ' H') ∧ ∀ x H', (Itl K a).yld i H x H' → g x σ H' fun σ2 H2 => tb { D with nx := N, ct := N, bk := D.nx } σ2 H2) := by
  refine ⟨fun i m σ H => m = xs.length - i ∧ i ≤ xs.length ∧ Pv i σ H, ⟨xs.length, by simp, Nat.zero_le _, h0⟩, ?_⟩
  rintro i m σ H ⟨rfl, hi, p⟩
  have q := hl i σ H hi p
  by_cases hlt : i < xs.length
  · refine .inr ⟨⟨xs, xs[i], q, by simp [hlt]⟩, Pv (i + 1), fun σ' H' p' => ⟨xs.length - (i + 1), by omega, rfl, hlt, p'⟩, fun x H' y => ?_⟩
    obtain ⟨e, y⟩ := y
    subst e
    exact hs i x σ _ (y xs q) p
  · have e : i = xs.length := by omega
    subst e
    exact .inl ⟨⟨xs, q, Nat.le_refl _⟩, hd σ H p⟩
theorem for_range {lo : Int} {n : Nat} {g : TG} {tb : TS} {D : Ends} {σ : St} {H : Hp} (Pv : Nat → St → Hp → Prop) (h0 : Pv 0 σ H)
    (hs : ∀ i σ H, i < n → Pv i σ H → g (.int (lo + i)) σ H fun σ2 H2 => tb { D with nx := Pv (i + 1), ct := Pv (i + 1), bk := D.nx } σ2 H2) (hd : ∀ σ H, Pv n σ H → D.nx σ H) :
    ∃ W : Nat → Nat → St → Hp → Prop, (∃ m, W 0 m σ H) ∧ ∀ i m σ H, W i m σ H →
      ((Itr lo n).stop i H ∧ D.nx σ H) ∨ ((Itr lo n).go i H ∧ ∃ N : St → Hp → Prop, (∀ σ' H', N σ' H' → ∃ m', m' < m ∧ W (i + 1) m' σ' H') ∧ ∀ x H', (Itr lo n).yld i H x H' → g x σ H' fun σ2 H2 => tb { D with nx := N, ct := N, bk := D.nx } σ2 H2) := by
  refine ⟨fun i m σ H => m = n - i ∧ i ≤ n ∧ Pv i σ H, ⟨n, by simp, Nat.zero_le _, h0⟩, ?_⟩
  rintro i m σ H ⟨rfl, hi, p⟩
  by_cases hlt : i < n
  · refine .inr ⟨hlt, Pv (i + 1), fun σ' H' p' => ⟨n - (i + 1), by omega, rfl, hlt, p'⟩, fun x H' y => ?_⟩
    obtain ⟨e, y⟩ := y
    subst e y
    exact hs i σ _ hlt p
  · have e : i = n := by omega
    subst e
    exact .inl ⟨Nat.le_refl _, hd σ H p⟩
end L2

namespace L2
open PySem PySem.Spec PyProof.Rows

abbrev R2 := V → V → Hp → VK → Prop
/-- a two-place operation on values: f is binaryOp op, inplaceOp op or compareOp op -/
def OpR (X : Cx) (f : Value → Value → Sem Value) (r : R2) : Prop :=
  ∀ (pins : List (Addr × Obj)) (s : Shared) (σ : St) (H : Hp) (x y : V) (v u : Value) (Q : VK), Inv X pins σ H s → RelV x v → RelV y u → r x y H Q →
    wpAny (model X.prog X.w) X.A (f v u) (EP X pins σ Q) X.xe s
/-- a one-place operation -/
def UnR (X : Cx) (f : Value → Sem Value) (r : V → Hp → VK → Prop) : Prop :=
  ∀ (pins : List (Addr × Obj)) (s : Shared) (σ : St) (H : Hp) (x : V) (v : Value) (Q : VK), Inv X pins σ H s → RelV x v → r x H Q →
    wpAny (model X.prog X.w) X.A (f v) (EP X pins σ Q) X.xe s
/-- a call of a value that is known (a builtin, a type) with values -/
def CallR (X : Cx) (f : Value) (r : List V → Hp → VK → Prop) : Prop :=
  ∀ (pins : List (Addr × Obj)) (s : Shared) (σ : St) (H : Hp) (xs : List V) (us : List Value) (Q : VK), Inv X pins σ H s → Vals xs us → r xs H Q →
    wpAny (model X.prog X.w) X.A (call f us) (EP X pins σ Q) X.xe s
/-- a value's truth -/
def TruR (X : Cx) (r : V → Hp → (Bool → Hp → Prop) → Prop) : Prop :=
  ∀ (pins : List (Addr × Obj)) (s : Shared) (σ : St) (H : Hp) (x : V) (v : Value) (Q : Bool → Hp → Prop), Inv X pins σ H s → RelV x v → r x H Q →
    wpAny (model X.prog X.w) X.A (truthy v) (TP X pins σ Q) X.xe s

def tOp (r : R2) (ta tb : TE) : TE := fun σ H Q => ta σ H fun x H1 => tb σ H1 fun y H2 => r x y H2 Q
def tUn (r : V → Hp → VK → Prop) (ta : TE) : TE := fun σ H Q => ta σ H fun x H1 => r x H1 Q
/-- ints in, under C, and a value out -/
def rI (C : Int → Int → Prop) (g : Int → Int → V) : R2 := fun x y H Q => ∃ i j, x = .int i ∧ y = .int j ∧ C i j ∧ Q (g i j) H
def rI0 (g : Int → Int → V) : R2 := fun x y H Q => ∃ i j, x = .int i ∧ y = .int j ∧ Q (g i j) H
def rU (g : Int → V) : V → Hp → VK → Prop := fun x H Q => ∃ i, x = .int i ∧ Q (g i) H

section
variable {X : Cx} {a b c : Expr} {ta tb tc : TE} {pos : Pos}

theorem binT (ha : PE X a ta) (hb : PE X b tb) {pins : List (Addr × Obj)} {s : Shared} {σ : St} {H : Hp} {R : V → V → Hp → Prop} (I : Inv X pins σ H s)
    (h : ta σ H fun x H1 => tb σ H1 fun y H2 => R x y H2) {Q : Value → Shared → Prop} {f : Value → Value → Sem Value}
    (hf : ∀ v u s2 x y H2, Inv X pins σ H2 s2 → RelV x v → RelV y u → R x y H2 → wpAny (model X.prog X.w) X.A (f v u) Q X.xe s2) :
    wpAny (model X.prog X.w) X.A (eval a X.env) (fun v s₁ => wpAny (model X.prog X.w) X.A (eval b X.env) (fun u s₂ => wpAny (model X.prog X.w) X.A (f v u) Q X.xe s₂) X.xe s₁) X.xe s := by
  refine thn (ha pins s σ H _ I h) fun v s1 ⟨x, H1, I1, r1, q1⟩ => ?_
  refine thn (hb pins s1 σ H1 _ I1 q1) fun u s2 ⟨y, H2, I2, r2, q2⟩ => ?_
  exact hf v u s2 x y H2 I2 r1 r2 q2

theorem pe_op {op : Operator} {r : R2} (ho : OpR X (binaryOp op) r) (ha : PE X a ta) (hb : PE X b tb) : PE X (.BinOp a op b pos) (tOp r ta tb) := by
  intro pins s σ H Q I h
  exact wpAny_BinOp (binT ha hb I h fun v u s2 x y H2 I2 rx ry q => ho pins s2 σ H2 x y v u Q I2 rx ry q)
theorem pe_un {op : UnaryOp} {r : V → Hp → VK → Prop} (ho : UnR X (unaryOp op) r) (ha : PE X a ta) : PE X (.UnaryOp op a pos) (tUn r ta) := by
  intro pins s σ H Q I h
  exact UnaryOp_ (thn (ha pins s σ H _ I h) fun v s1 ⟨x, H1, I1, r1, q1⟩ => ho pins s1 σ H1 x v Q I1 r1 q1)
/-! ### ints -/
theorem opI {f : Value → Value → Sem Value} {C : Int → Int → Prop} {g : Int → Int → Int}
    (rule : ∀ (i j : Int) (t u : Tok) (s : Shared) (Q : Value → Shared → Prop) (E : Value → Shared → Prop), C i j → Q (.int (g i j) s.toks) { s with toks := s.toks + 1 } → wpAny (model X.prog X.w) X.A (f (.int i t) (.int j u)) Q E s) :
    OpR X f (rI C fun i j => .int (g i j)) := by
  intro pins s σ H x y v u Q I rx ry h
  obtain ⟨i, j, rfl, rfl, hc, q⟩ := h
  obtain ⟨t, rfl⟩ := rx
  obtain ⟨t', rfl⟩ := ry
  exact rule i j t t' s _ _ hc ⟨.int (g i j), H, I.tok _, ⟨_, rfl⟩, q⟩
theorem opI0 {f : Value → Value → Sem Value} {g : Int → Int → Int}
    (rule : ∀ (i j : Int) (t u : Tok) (s : Shared) (Q : Value → Shared → Prop) (E : Value → Shared → Prop), Q (.int (g i j) s.toks) { s with toks := s.toks + 1 } → wpAny (model X.prog X.w) X.A (f (.int i t) (.int j u)) Q E s) :
    OpR X f (rI0 fun i j => .int (g i j)) := by
  intro pins s σ H x y v u Q I rx ry h
  obtain ⟨i, j, rfl, rfl, q⟩ := h
  obtain ⟨t, rfl⟩ := rx
  obtain ⟨t', rfl⟩ := ry
  exact rule i j t t' s _ _ ⟨.int (g i j), H, I.tok _, ⟨_, rfl⟩, q⟩
theorem opB0 {f : Value → Value → Sem Value} {g : Int → Int → Bool}
    (rule : ∀ (i j : Int) (t u : Tok) (s : Shared) (Q : Value → Shared → Prop) (E : Value → Shared → Prop), Q (.bool (g i j)) s → wpAny (model X.prog X.w) X.A (f (.int i t) (.int j u)) Q E s) :
    OpR X f (rI0 fun i j => .bl (g i j)) := by
  intro pins s σ H x y v u Q I rx ry h
  obtain ⟨i, j, rfl, rfl, q⟩ := h
  obtain ⟨t, rfl⟩ := rx
  obtain ⟨t', rfl⟩ := ry
  exact rule i j t t' s _ _ ⟨.bl (g i j), H, I, rfl, q⟩

def CPow (i j : Int) : Prop := 0 ≤ j ∧ j ≤ 1000000 ∧ i.natAbs < 2 ^ 64
def CMul (i j : Int) : Prop := (-(2 ^ 64) < i ∧ i < 2 ^ 64) ∨ (-(2 ^ 64) < j ∧ j < 2 ^ 64)
theorem CMul.ok {i j : Int} (h : CMul i j) : IntMulOk i j := by
  rcases h with ⟨h1, h2⟩ | ⟨h1, h2⟩
  · exact .of_left (intBits_le_64 h1 h2)
  · exact .of_right (intBits_le_64 h1 h2)
theorem op_add : OpR X (binaryOp .Add) (rI0 fun i j => .int (i + j)) := opI0 fun _ _ _ _ _ _ _ q => add_int q
theorem op_sub : OpR X (binaryOp .Sub) (rI0 fun i j => .int (i - j)) := opI0 fun _ _ _ _ _ _ _ q => sub_int q
theorem op_mul : OpR X (binaryOp .Mult) (rI CMul fun i j => .int (i * j)) := opI fun _ _ _ _ _ _ _ hc q => mul_int q hc.ok
/-- % by a positive divisor of any size -/
theorem op_mod : OpR X (binaryOp .Mod) (rI (fun _ j => 0 < j) fun i j => .int (i % j)) := opI fun i j _ _ _ _ _ hc q => by
  have h1 : (0 : Int) < j := hc
  exact mod_int' (by omega) (by rw [Int.fmod_eq_emod_of_nonneg i (by omega)]; exact q)
theorem op_pow : OpR X (binaryOp .Pow) (rI CPow fun i j => .int (i ^ j.toNat)) := opI fun _ _ _ _ _ _ _ hc q => pow_int_small hc.1 hc.2.1 hc.2.2 q
theorem unI {f : Value → Sem Value} {g : Int → Int}
    (rule : ∀ (i : Int) (t : Tok) (s : Shared) (Q : Value → Shared → Prop) (E : Value → Shared → Prop), Q (.int (g i) s.toks) { s with toks := s.toks + 1 } → wpAny (model X.prog X.w) X.A (f (.int i t)) Q E s) :
    UnR X f (rU fun i => .int (g i)) := by
  intro pins s σ H x v Q I rx h
  obtain ⟨i, rfl, q⟩ := h
  obtain ⟨t, rfl⟩ := rx
  exact rule i t s _ _ ⟨.int (g i), H, I.tok _, ⟨_, rfl⟩, q⟩
theorem un_neg : UnR X (unaryOp .USub) (rU fun i => .int (-i)) := unI fun _ _ _ _ _ q => neg_int q
/-! ### bools among ints: n += (a < b) -/
end

/-! ### comparisons -/
/-- the scalars that == tells apart as data does -/
def scal : V → V → Bool
  | .non, .non => true | .non, .int _ => true | .int _, .non => true | .non, .bl _ => true | .bl _, .non => true | .non, .str _ => true | .str _, .non => true
  | .int _, .int _ => true | .bl _, .bl _ => true | .str _, .str _ => true | .byt _, .byt _ => true
  | .int _, .str _ => true | .str _, .int _ => true | .bl _, .str _ => true | .str _, .bl _ => true
  | _, _ => false
def rEq : R2 := fun x y H Q => scal x y = true ∧ Q (.bl (decide (x = y))) H
def rNe : R2 := fun x y H Q => scal x y = true ∧ Q (.bl (!decide (x = y))) H

theorem dec_int {i j : Int} : decide (V.int i = V.int j) = (i == j) := by
  rw [Bool.eq_iff_iff]
  simp
theorem dec_bl {i j : Bool} : decide (V.bl i = V.bl j) = (i == j) := by
  rw [Bool.eq_iff_iff]
  simp
theorem dec_str {i j : Str} : decide (V.str i = V.str j) = (i == j) := by
  rw [Bool.eq_iff_iff]
  simp
theorem dec_byt {i j : Array UInt8} : decide (V.byt i = V.byt j) = (i.toList == j.toList) := by
  rw [Bool.eq_iff_iff]
  cases i
  cases j
  simp

section
variable {X : Cx} {a b c : Expr} {ta tb tc : TE} {pos : Pos}
theorem fin_bl {pins : List (Addr × Obj)} {σ : St} {H : Hp} {s : Shared} {Q : VK} {k k' : Bool} (I : Inv X pins σ H s) (q : Q (.bl k) H) (e : k = k') : EP X pins σ Q (.bool k') s := by
  subst e
  exact ⟨.bl k, H, I, rfl, q⟩
theorem op_eq : OpR X (compareOp .Eq) rEq := by
  intro pins s σ H x y v u Q I rx ry h
  obtain ⟨hs, q⟩ := h
  cases x with
  | non =>
    cases rx
    cases y with
    | non => cases ry; exact PySem.EqNone.eq_none_none (fin_bl I q (by simp))
    | bl j => cases ry; exact PySem.EqNone.eq_none_bool (fin_bl I q (by simp))
    | int j => obtain ⟨t', rfl⟩ := ry; exact PySem.EqNone.eq_none_int (fin_bl I q (by simp))
    | str j => obtain ⟨t', rfl⟩ := ry; exact PySem.EqNone.eq_none_str (fin_bl I q (by simp))
    | _ => exact absurd (show false = true from hs) Bool.false_ne_true
  | bl i =>
    cases rx
    cases y with
    | non => cases ry; exact PySem.EqNone.eq_bool_none (fin_bl I q (by simp))
    | bl j => cases ry; exact eq_bool (fin_bl I q dec_bl)
    | str j => obtain ⟨t', rfl⟩ := ry; exact PySem.EqMixed.eq_bool_str (fin_bl I q (by simp))
    | _ => exact absurd (show false = true from hs) Bool.false_ne_true
  | int i =>
    obtain ⟨t, rfl⟩ := rx
    cases y with
    | non => cases ry; exact PySem.EqNone.eq_int_none (fin_bl I q (by simp))
    | int j => obtain ⟨t', rfl⟩ := ry; exact eq_int (fin_bl I q dec_int)
    | str j => obtain ⟨t', rfl⟩ := ry; exact PySem.EqMixed.eq_int_str (fin_bl I q (by simp))
    | _ => exact absurd (show false = true from hs) Bool.false_ne_true
  | str i =>
    obtain ⟨t, rfl⟩ := rx
    cases y with
    | non => cases ry; exact PySem.EqNone.eq_str_none (fin_bl I q (by simp))
    | bl j => cases ry; exact PySem.EqMixed.eq_str_bool (fin_bl I q (by simp))
    | int j => obtain ⟨t', rfl⟩ := ry; exact PySem.EqMixed.eq_str_int (fin_bl I q (by simp))
    | str j => obtain ⟨t', rfl⟩ := ry; exact eq_str (fin_bl I q dec_str)
    | _ => exact absurd (show false = true from hs) Bool.false_ne_true
  | byt i =>
    obtain ⟨t, rfl⟩ := rx
    cases y with
    | byt j => obtain ⟨t', rfl⟩ := ry; exact PySem.W.eq_bytes (fin_bl I q dec_byt)
    | _ => exact absurd (show false = true from hs) Bool.false_ne_true
  | _ => cases y <;> exact absurd (show false = true from hs) Bool.false_ne_true
theorem op_ne : OpR X (compareOp .NotEq) rNe := by
  intro pins s σ H x y v u Q I rx ry h
  obtain ⟨hs, q⟩ := h
  cases x with
  | non =>
    cases rx
    cases y with
    | non => cases ry; exact PySem.EqNone.ne_none_none (fin_bl I q (by simp))
    | bl j => cases ry; exact PySem.EqNone.ne_none_bool (fin_bl I q (by simp))
    | int j => obtain ⟨t', rfl⟩ := ry; exact PySem.EqNone.ne_none_int (fin_bl I q (by simp))
    | str j => obtain ⟨t', rfl⟩ := ry; exact PySem.EqNone.ne_none_str (fin_bl I q (by simp))
    | _ => exact absurd (show false = true from hs) Bool.false_ne_true
  | bl i =>
    cases rx
    cases y with
    | non => cases ry; exact PySem.EqNone.ne_bool_none (fin_bl I q (by simp))
    | bl j => cases ry; exact ne_bool (fin_bl I q (congrArg not dec_bl))
    | str j => obtain ⟨t', rfl⟩ := ry; exact PySem.EqMixed.ne_bool_str (fin_bl I q (by simp))
    | _ => exact absurd (show false = true from hs) Bool.false_ne_true
  | int i =>
    obtain ⟨t, rfl⟩ := rx
    cases y with
    | non => cases ry; exact PySem.EqNone.ne_int_none (fin_bl I q (by simp))
    | int j => obtain ⟨t', rfl⟩ := ry; exact ne_int (fin_bl I q (congrArg not dec_int))
    | str j => obtain ⟨t', rfl⟩ := ry; exact PySem.EqMixed.ne_int_str (fin_bl I q (by simp))
    | _ => exact absurd (show false = true from hs) Bool.false_ne_true
  | str i =>
    obtain ⟨t, rfl⟩ := rx
    cases y with
    | non => cases ry; exact PySem.EqNone.ne_str_none (fin_bl I q (by simp))
    | bl j => cases ry; exact PySem.EqMixed.ne_str_bool (fin_bl I q (by simp))
    | int j => obtain ⟨t', rfl⟩ := ry; exact PySem.EqMixed.ne_str_int (fin_bl I q (by simp))
    | str j => obtain ⟨t', rfl⟩ := ry; exact ne_str (fin_bl I q (congrArg not dec_str))
    | _ => exact absurd (show false = true from hs) Bool.false_ne_true
  | byt i =>
    obtain ⟨t, rfl⟩ := rx
    cases y with
    | byt j => obtain ⟨t', rfl⟩ := ry; exact PySem.W.ne_bytes (fin_bl I q (congrArg not dec_byt))
    | _ => exact absurd (show false = true from hs) Bool.false_ne_true
  | _ => cases y <;> exact absurd (show false = true from hs) Bool.false_ne_true

theorem op_lt : OpR X (compareOp .Lt) (rI0 fun i j => .bl (decide (i < j))) := opB0 fun _ _ _ _ _ _ _ q => lt_int q
theorem op_le : OpR X (compareOp .LtE) (rI0 fun i j => .bl (decide (i ≤ j))) := opB0 fun _ _ _ _ _ _ _ q => le_int q
theorem op_gt : OpR X (compareOp .Gt) (rI0 fun i j => .bl (decide (j < i))) := opB0 fun _ _ _ _ _ _ _ q => gt_int q
theorem op_ge : OpR X (compareOp .GtE) (rI0 fun i j => .bl (decide (j ≤ i))) := opB0 fun _ _ _ _ _ _ _ q => ge_int q
/-- the one string within the other -/
theorem op_in_str : OpR X (compareOp .In) (fun x y H Q => ∃ i j, x = .str i ∧ y = .str j ∧ Q (.bl (!(Builtin.Str.occurrences j i 0 j.length 1).isEmpty)) H) := by
  intro pins s σ H x y v u Q I rx ry h
  obtain ⟨i, j, rfl, rfl, q⟩ := h
  obtain ⟨t, rfl⟩ := rx
  obtain ⟨t', rfl⟩ := ry
  exact in_str (fin_bl I q rfl)

/-- is None, is not None: the right side a value none -/
theorem op_isN : OpR X (compareOp .Is) (fun x y H Q => y = .non ∧ Q (.bl (decide (x = .non))) H) := by
  intro pins s σ H x y v u Q I rx ry h
  obtain ⟨rfl, q⟩ := h
  cases ry
  refine is_none_gen (fin_bl I q ?_)
  cases x <;> first
    | (cases rx; rfl)
    | (obtain ⟨t, rfl⟩ := rx; rfl)
theorem nomark (b : Expr) {op : CmpOp} (h : op ≠ .In := by decide) (h2 : op ≠ .NotIn := by decide) : behindInMarks op b = false := by
  have e1 : (op == CmpOp.In) = false := by cases op <;> first | rfl | exact absurd rfl h
  have e2 : (op == CmpOp.NotIn) = false := by cases op <;> first | rfl | exact absurd rfl h2
  cases b <;> simp [behindInMarks, e1, e2]
/-- a comparison as a value; hm: nomark b, or (for in, not in) by with_unfolding_all rfl -/
theorem pe_cmpR {op : CmpOp} {r : R2} (ho : OpR X (compareOp op) r) (ha : PE X a ta) (hb : PE X b tb) (hm : behindInMarks op b = false) : PE X (.Compare a [op] [b] pos) (tOp r ta tb) := by
  intro pins s σ H Q I h
  exact wpAny_Compare1 (binT ha hb I h fun v u s2 x y H2 I2 rx ry q => ho pins s2 σ H2 x y v u Q I2 rx ry q) hm
/-- a reading of a value as a test -/
def tTest (t : TE) : TT := fun σ H Q => t σ H fun x H' => ∃ k, x = .bl k ∧ Q k H'
theorem pt_cmpR {op : CmpOp} {r : R2} (ho : OpR X (compareOp op) r) (ha : PE X a ta) (hb : PE X b tb) (hm : behindInMarks op b = false) : PT X (.Compare a [op] [b] pos) (tTest (tOp r ta tb)) := by
  intro pins s σ H Q I h
  refine wpAny_isTrue_Compare1 (thn (ha pins s σ H _ I h) fun v s1 ⟨x, H1, I1, r1, q1⟩ => thn (hb pins s1 σ H1 _ I1 q1) fun u s2 ⟨y, H2, I2, r2, q2⟩ =>
    thn (ho pins s2 σ H2 x y v u _ I2 r1 r2 q2) fun c s3 ⟨z, H3, I3, r3, k, e, q3⟩ => ?_) hm
  subst e
  cases r3
  exact wpAny_truthy_bool ⟨H3, I3, q3⟩
/-- a op1 b op2 c -/
def tChain (r r' : R2) (ta tb tc : TE) : TE := fun σ H Q => ta σ H fun x H1 => tb σ H1 fun y H2 => r x y H2 fun z H3 => ∃ k, z = .bl k ∧
  (if k = true then tc σ H3 fun w' H4 => r' y w' H4 Q else Q (.bl false) H3)
theorem pe_chain {op op' : CmpOp} {r r' : R2} (ho : OpR X (compareOp op) r) (ho' : OpR X (compareOp op') r') (ha : PE X a ta) (hb : PE X b tb) (hc : PE X c tc)
    (hm : lastMarks [op, op'] [b, c] = false := by with_unfolding_all rfl) : PE X (.Compare a [op, op'] [b, c] pos) (tChain r r' ta tb tc) := by
  intro pins s σ H Q I h
  refine Compare_chain (thn (ha pins s σ H _ I h) fun v s1 ⟨x, H1, I1, r1, q1⟩ => chain_link (thn (hb pins s1 σ H1 _ I1 q1) fun u s2 ⟨y, H2, I2, r2, q2⟩ =>
    thn (ho pins s2 σ H2 x y v u _ I2 r1 r2 q2) fun d s3 ⟨z, H3, I3, r3, k, e, q3⟩ => ?_)) hm
  subst e
  cases r3
  refine wpAny_truthy_bool ?_
  cases k with
  | false => exact ite_ff ⟨.bl false, H3, I3, rfl, q3⟩
  | true => exact ite_tt (chain_last (thn (hc pins s3 σ H3 _ I3 q3) fun w' s4 ⟨z', H4, I4, r4, q4⟩ => ho' pins s4 σ H4 y z' u w' Q I4 r2 r4 q4))
theorem pt_chain {op op' : CmpOp} {r r' : R2} (ho : OpR X (compareOp op) r) (ho' : OpR X (compareOp op') r') (ha : PE X a ta) (hb : PE X b tb) (hc : PE X c tc)
    (hm : lastMarks [op, op'] [b, c] = false := by with_unfolding_all rfl) : PT X (.Compare a [op, op'] [b, c] pos) (tTest (tChain r r' ta tb tc)) := by
  intro pins s σ H Q I h
  refine isTrue_chain (thn (ha pins s σ H _ I h) fun v s1 ⟨x, H1, I1, r1, q1⟩ => test_link (thn (hb pins s1 σ H1 _ I1 q1) fun u s2 ⟨y, H2, I2, r2, q2⟩ =>
    thn (ho pins s2 σ H2 x y v u _ I2 r1 r2 q2) fun d s3 ⟨z, H3, I3, r3, k, e, q3⟩ => ?_)) hm
  subst e
  cases r3
  refine wpAny_truthy_bool ?_
  cases k with
  | false =>
    obtain ⟨k', e', q'⟩ := q3
    cases e'
    exact ite_ff ⟨H3, I3, q'⟩
  | true =>
    refine ite_tt (test_last (thn (hc pins s3 σ H3 _ I3 q3) fun w' s4 ⟨z', H4, I4, r4, q4⟩ => thn (ho' pins s4 σ H4 y z' u w' _ I4 r2 r4 q4) fun d' s5 ⟨z2, H5, I5, r5, k2, e2, q5⟩ => ?_))
    subst e2
    cases r5
    exact wpAny_truthy_bool ⟨H5, I5, q5⟩

/-! ### truth -/
/-- a value's truth by the abstract heap -/
def TruV (K : PySem.W.Frag) (x : V) (H : Hp) (k : Bool) : Prop :=
  match x with
  | .non => k = false
  | .bl b => k = b
  | .int i => k = (i != 0)
  | .str y => y.length ≤ sizeLine ∧ k = ((y.length : Int) != 0)
  | .byt y => y.size ≤ sizeLine ∧ k = ((y.size : Int) != 0)
  | .ref p => (∃ xs, SqL K H p xs ∧ k = !xs.isEmpty) ∨ (∃ xs, SqT K H p xs ∧ k = !xs.isEmpty) ∨ ∃ kvs, H p = some (.dK kvs) ∧ k = !kvs.isEmpty
  | _ => False
theorem isEmpty_kv {κ : Type} {kvs : List (κ × V)} {vs : List (κ × Value)} (r : KV kvs vs) : (!vs.isEmpty) = !kvs.isEmpty := by
  cases r <;> rfl
theorem isEmpty_of {xs : List V} {its : List Value} (r : Vals xs its) : (!its.toArray.isEmpty) = !xs.isEmpty := by
  cases r <;> simp
theorem line63 : (sizeLine : Nat) < 2 ^ 63 := by rw [sizeLine_eq]; decide
theorem tru_ok : TruR X (fun x H Q => ∃ k, TruV X.K x H k ∧ Q k H) := by
  intro pins s σ H x v Q I rx h
  obtain ⟨k, e, q⟩ := h
  have hl := line63
  have hs : sizeLine = 16777216 := sizeLine_eq
  cases x with
  | non =>
    cases rx
    have e' : k = false := e
    subst e'
    exact truthy_none ⟨H, I, q⟩
  | bl b =>
    cases rx
    have e' : k = b := e
    subst e'
    exact wpAny_truthy_bool ⟨H, I, q⟩
  | int i =>
    obtain ⟨t, rfl⟩ := rx
    have e' : k = (i != 0) := e
    subst e'
    exact PySem.P.truthy_int ⟨H, I, q⟩
  | str y =>
    obtain ⟨t, rfl⟩ := rx
    obtain ⟨hy, e'⟩ : y.length ≤ sizeLine ∧ k = ((y.length : Int) != 0) := e
    subst e'
    exact PySem.P.truthy_str (by omega) ⟨H, I.tok _, q⟩
  | byt y =>
    obtain ⟨t, rfl⟩ := rx
    obtain ⟨hy, e'⟩ : y.size ≤ sizeLine ∧ k = ((y.size : Int) != 0) := e
    subst e'
    exact PySem.W.truthy_bytes (by omega) ⟨H, I.tok _, q⟩
  | ref p =>
    cases rx
    have e' : (∃ xs, SqL X.K H p xs ∧ k = !xs.isEmpty) ∨ (∃ xs, SqT X.K H p xs ∧ k = !xs.isEmpty) ∨ ∃ kvs, H p = some (.dK kvs) ∧ k = !kvs.isEmpty := e
    rcases e' with ⟨xs, hx, e'⟩ | ⟨xs, hx, e'⟩ | ⟨kvs, hx, e'⟩
    · subst e'
      obtain ⟨its, r, pl, hz⟩ := I.list hx
      have hlen := r.length
      exact wpAny_truthy_list pl.isList (by simp only [List.size_toArray]; omega) ⟨H, I.tok _, by rw [isEmpty_of r]; exact q⟩
    · subst e'
      obtain ⟨its, r, pl, hz⟩ := I.tuple hx
      have hlen := r.length
      exact truthy_tuple pl (by simp only [List.size_toArray]; omega) ⟨H, I.tok _, by rw [isEmpty_of r]; exact q⟩
    · subst e'
      obtain ⟨hz, hS, vs, r, m⟩ : kvs.length ≤ sizeLine ∧ (p == sysModules) = false ∧ ∃ vs, KV kvs vs ∧ s.heap.DictOf (mixKind X.prog X.w) p vs := I.hok p _ hx
      have hlen : kvs.length = vs.length := Paired.length r
      exact wpAny_truthy_dict hS m (by omega) ⟨H, I.tok _, by rw [isEmpty_kv r]; exact q⟩
  | _ => exact (show False from e).elim
/-! ### strs and bytes -/
theorem op_add_str : OpR X (binaryOp .Add) (fun x y H Q => ∃ i j, x = .str i ∧ y = .str j ∧ i.length + j.length ≤ sizeLine ∧ Q (.str (i ++ j)) H) := by
  intro pins s σ H x y v u Q I rx ry h
  obtain ⟨i, j, rfl, rfl, hz, q⟩ := h
  obtain ⟨t, rfl⟩ := rx
  obtain ⟨t', rfl⟩ := ry
  exact add_str (fun t' tk => ⟨.str (i ++ j), H, I.tok _, ⟨_, rfl⟩, q⟩) hz
/-! ### scalar builtins, by CallR -/
theorem vals1 {x : V} {us : List Value} (r : Vals [x] us) : ∃ u, us = [u] ∧ RelV x u := by
  cases r with
  | cons r1 r2 => cases r2; exact ⟨_, rfl, r1⟩
theorem vals2 {x y : V} {us : List Value} (r : Vals [x, y] us) : ∃ u w', us = [u, w'] ∧ RelV x u ∧ RelV y w' := by
  cases r with
  | cons r1 r2 =>
    cases r2 with
    | cons r3 r4 => cases r4; exact ⟨_, _, rfl, r1, r3⟩
theorem call_abs : CallR X (.builtin "abs") (fun xs H Q => ∃ i, xs = [.int i] ∧ Q (.int (if i < 0 then -i else i)) H) := by
  intro pins s σ H xs us Q I r h
  obtain ⟨i, rfl, q⟩ := h
  obtain ⟨u, rfl, t, rfl⟩ := vals1 r
  exact call_abs_int fun u tk => ⟨.int (if i < 0 then -i else i), H, I.tok _, ⟨_, rfl⟩, q⟩
theorem call_max2 (hc : X.calm = true) : CallR X (.builtin "max") (fun xs H Q => ∃ i j, xs = [.int i, .int j] ∧ Q (.int (if j > i then j else i)) H) := by
  intro pins s σ H xs us Q I r h
  obtain ⟨i, j, rfl, q⟩ := h
  obtain ⟨u, w', rfl, ⟨t, rfl⟩, ⟨t', rfl⟩⟩ := vals2 r
  refine max_two_ints (I.ok.hd hc) fun h' tk k => ⟨_, H, I.kept k, ?_, q⟩
  by_cases hj : j > i
  · rw [if_pos hj, if_pos hj]; exact ⟨_, rfl⟩
  · rw [if_neg hj, if_neg hj]; exact ⟨_, rfl⟩
theorem call_min2 (hc : X.calm = true) : CallR X (.builtin "min") (fun xs H Q => ∃ i j, xs = [.int i, .int j] ∧ Q (.int (if j < i then j else i)) H) := by
  intro pins s σ H xs us Q I r h
  obtain ⟨i, j, rfl, q⟩ := h
  obtain ⟨u, w', rfl, ⟨t, rfl⟩, ⟨t', rfl⟩⟩ := vals2 r
  refine min_two_ints (I.ok.hd hc) fun h' tk k => ⟨_, H, I.kept k, ?_, q⟩
  by_cases hj : j < i
  · rw [if_pos hj, if_pos hj]; exact ⟨_, rfl⟩
  · rw [if_neg hj, if_neg hj]; exact ⟨_, rfl⟩
/-- len of a str, a bytes, a list, a tuple -/
def LenV (K : PySem.W.Frag) (x : V) (H : Hp) (n : Nat) : Prop :=
  match x with
  | .str y => y.length ≤ sizeLine ∧ n = y.length
  | .byt y => y.size ≤ sizeLine ∧ n = y.size
  | .ref p => (∃ xs, SqL K H p xs ∧ n = xs.length) ∨ ∃ xs, SqT K H p xs ∧ n = xs.length
  | _ => False
theorem call_len : CallR X (.builtin "len") (fun xs H Q => ∃ x n, xs = [x] ∧ LenV X.K x H n ∧ Q (.int n) H) := by
  intro pins s σ H xs us Q I r h
  obtain ⟨x, n, rfl, e, q⟩ := h
  obtain ⟨u, rfl, rx⟩ := vals1 r
  have hl := line63
  have hs : sizeLine = 16777216 := sizeLine_eq
  cases x with
  | str y =>
    obtain ⟨t, rfl⟩ := rx
    obtain ⟨hy, e'⟩ : y.length ≤ sizeLine ∧ n = y.length := e
    subst e'
    exact len_str (by omega) ⟨.int _, H, I.tok _, ⟨_, rfl⟩, q⟩
  | byt y =>
    obtain ⟨t, rfl⟩ := rx
    obtain ⟨hy, e'⟩ : y.size ≤ sizeLine ∧ n = y.size := e
    subst e'
    exact PySem.W.len_bytes (by omega) ⟨.int _, H, I.tok _, ⟨_, rfl⟩, q⟩
  | ref p =>
    cases rx
    have e' : (∃ xs, SqL X.K H p xs ∧ n = xs.length) ∨ ∃ xs, SqT X.K H p xs ∧ n = xs.length := e
    rcases e' with ⟨xs, hx, e'⟩ | ⟨xs, hx, e'⟩
    · subst e'
      obtain ⟨its, r', pl, hz⟩ := I.list hx
      have hlen := r'.length
      exact Calls.call_len_list pl.isList (by simp only [List.size_toArray]; omega) ⟨.int xs.length, H, I.tok _, ⟨_, by simp only [List.size_toArray]; rw [hlen]⟩, q⟩
    · subst e'
      obtain ⟨its, r', pl, hz⟩ := I.tuple hx
      have hlen := r'.length
      exact len_tuple pl (by simp only [List.size_toArray]; omega) ⟨.int xs.length, H, I.tok _, ⟨_, by simp only [List.size_toArray]; rw [hlen]⟩, q⟩
  | _ => exact (show False from e).elim
end
end L2

namespace L2
open PySem PySem.Spec PyProof.Rows

/-! ### an instance, its attributes a map -/
structure ObjM (h : Heap) (x dx C : Addr) (mA : Str → Option Value) : Prop where
  obj : h.get? x = some (PySem.W.instObj C dx)
  ns : h.Ns1 dx mA
  ne : dx ≠ x

theorem lookIn_ns {h : Heap} {dx : Addr} {mA : Str → Option Value} (n : h.Ns1 dx mA) : ∃ od, h.get? dx = some od ∧ ∀ name, PySem.W.lookIn name od = some (mA name) := by
  obtain ⟨o, es, ep, ho, hd, hk, _, hm⟩ := n
  refine ⟨o, ho, fun name => ?_⟩
  have e := hm name
  unfold nsFind findBy at e
  rw [← Array.find?_toList] at e
  unfold PySem.W.lookIn
  rw [hd]
  dsimp only
  split
  · rename_i y q
    rw [q] at e
    exact congrArg some e
  · rename_i q
    rw [q] at e
    have a : es.toList.any (·.refKey) = false := by
      rw [List.any_eq_false]
      intro y hy
      obtain ⟨z, t, hkey⟩ := hk y (Array.mem_toList_iff.mp hy)
      simp [DictEntry.refKey, hkey]
    have a' : ¬ es.toList.any (·.refKey) = true := by rw [a]; exact Bool.false_ne_true
    rw [if_neg a']
    exact congrArg some e

theorem ObjM.look {h : Heap} {x dx C : Addr} {mA : Str → Option Value} (I : ObjM h x dx C mA) : ∃ od, PySem.W.InstAt h x (PySem.W.instObj C dx) C (some od) ∧ ∀ name, PySem.W.lookIn name od = some (mA name) :=
  let ⟨od, ho, hl⟩ := lookIn_ns I.ns
  ⟨od, ⟨I.obj, rfl, rfl, ho⟩, hl⟩

section
variable {prog : Program} {w : World} {A : Around} {E : Value → Shared → Prop} {s : Shared} {K : PySem.W.Frag} {x dx C f : Addr} {mA : Str → Option Value} {name : Str} {v : Value}

end

/-! ### the attributes as a list of pairs -/
theorem RelO.some_of {v : V} {o : Option Value} (r : RelO (some v) o) : ∃ u, o = some u ∧ RelV v u := by
  cases o with
  | none => exact (show False from r).elim
  | some u => exact ⟨u, rfl, r⟩
section
variable {P : Program} {w : World} {H H' : Hp} {h h' : Heap} {a C dx : Addr} {fs fs' : List (Str × V)}
theorem ins_get (hok : HOk P w H h) (e : H a = some (.ins C dx fs)) : ∃ mA, ObjM h a dx C mA ∧ (∀ f, RelO (fs.lookup f) (mA f)) ∧ PySem.Within mA (fs.map (·.1)) ∧ fs.length ≤ 1000 ∧ H dx = some (.own a) := by
  obtain ⟨d, z, ne, ob, mA, n, r, q⟩ := (show ObjOk P w H h a (.ins C dx fs) from hok a _ e)
  exact ⟨mA, ⟨ob, n, ne⟩, r, q, z, d⟩
end

/-! ### what of the text a class must have -/
structure Cls (K : PySem.W.Frag) (C : Addr) : Prop where
  pg : PySem.W.plainGet K C Str.empty = true
  hd : PySem.W.hasDictIn K C = true
  po : PySem.W.plainOver K C = true
  sa : PySem.W.findIn K (.ref C) "__setattr__" = some (some (.builtin "object.__setattr__"))
theorem Cls.get {K : PySem.W.Frag} {C : Addr} (c : Cls K C) (f : Str) : PySem.W.plainGet K C f = true := c.pg
section
variable {X : Cx} {pins : List (Addr × Obj)} {σ : St} {H : Hp} {s : Shared} {a C dx : Addr} {fs : List (Str × V)} {f : Str} {v : V} {A : Around} {E : Value → Shared → Prop}

end

/-! ### readings and rules -/
section
variable {X : Cx} {o e value : Expr} {f : Str} {pos pos' tpos : Pos} {ta tv : TE}
end

/-! ### isinstance -/
section
variable {X : Cx} {pins : List (Addr × Obj)} {σ : St} {H : Hp} {s : Shared} {A : Around} {E : Value → Shared → Prop} {Q : Value → Shared → Prop} {c : Value} {b : Bool}
/-- the type of a value, as the fragment's deciders take it; for an instance its class -/
inductive TyOf (K : PySem.W.Frag) (H : Hp) : V → Value → Prop where
  | non : TyOf K H .non (.type "NoneType")
  | bl (x : Bool) : TyOf K H (.bl x) (.type "bool")
  | int (i : Int) : TyOf K H (.int i) (.type "int")
  | str (x : Str) : TyOf K H (.str x) (.type "str")
  | flt (x : UInt64) : TyOf K H (.flt x) (.type "float")
  | lst {a : Addr} {xs : List V} (e : H a = some (.lst xs)) : TyOf K H (.ref a) (.type "list")
  | frz {a : Addr} {o : Obj} {xs : List V} (e : H a = some (.frz o (.lst xs))) : TyOf K H (.ref a) (.type "list")
  | tup {a : Addr} {xs : List V} (e : H a = some (.tup xs)) : TyOf K H (.ref a) (.type "tuple")
  | dK {a : Addr} {kvs : List (Key × V)} (e : H a = some (.dK kvs)) : TyOf K H (.ref a) (.type "dict")
  | dT {a : Addr} {kvs : List (List Key × V)} (e : H a = some (.dT kvs)) : TyOf K H (.ref a) (.type "dict")
  | ins {a C dx : Addr} {fs : List (Str × V)} (e : H a = some (.ins C dx fs)) (cl : Cls K C) (ha : PySem.W.findIn K (.ref C) "__class__" = some (some (.builtin "object.__class__")))
      (hn : PySem.W.specialIn K (.builtin "object.__class__") "__get__" = some (some (.builtin "getset_descriptor.__get__"))) (htk : PySem.W.takesIn K (.builtin "object.__class__") = some true)
      (hm : PySem.W.mroIn K C (.type "object") = some true) : TyOf K H (.ref a) (.ref C)
/-- isinstance(x, c) for one class c, a built-in or an own one: kitOne's answer -/
theorem isinst_ok {x : V} {u t : Value} (I : Inv X pins σ H s) (rx : RelV x u) (ty : TyOf X.K H x t) (e : PySem.W.kitOne X.K t c = some b) (h : ∀ tk, Q (.bool b) { s with toks := tk }) :
    wpAny (model X.prog X.w) A (call (.builtin "isinstance") [u, c]) Q E s := by
  cases ty with
  | non => cases (show u = Value.none from rx); exact PySem.W.kia_one PySem.W.kitx_none I.kIn True.intro e (fun z => nomatch z) h
  | bl y => cases (show u = Value.bool y from rx); exact PySem.W.kia_one PySem.W.kitx_bool I.kIn True.intro e (fun z => nomatch z) h
  | int i => obtain ⟨t, q⟩ := (show ∃ t, u = Value.int i t from rx); cases q; exact PySem.W.kia_one PySem.W.kitx_int I.kIn True.intro e (fun z => nomatch z) h
  | str y => obtain ⟨t, q⟩ := (show ∃ t, u = Value.str y t from rx); cases q; exact PySem.W.kia_one PySem.W.kitx_str I.kIn True.intro e (fun z => nomatch z) h
  | flt y => obtain ⟨t, q⟩ := (show ∃ t, u = Value.float y t from rx); cases q; exact PySem.W.kia_one PySem.W.kitx_float I.kIn True.intro e (fun z => nomatch z) h
  | @lst a xs ea =>
    cases (show u = Value.ref a from rx)
    obtain ⟨_, _, n, _, h1⟩ := (show ObjOk X.prog X.w H s.heap a (.lst xs) from I.hok a _ ea)
    exact PySem.W.kia_one PySem.W.kitx_list I.kIn ⟨_, h1, rfl⟩ e (fun z => nomatch z) h
  | @frz a ob xs ea =>
    cases (show u = Value.ref a from rx)
    obtain ⟨_, _, _, n, _, h1⟩ := (show ObjOk X.prog X.w H s.heap a (.frz ob (.lst xs)) from I.hok a _ ea)
    exact PySem.W.kia_one PySem.W.kitx_list I.kIn ⟨_, h1, rfl⟩ e (fun z => nomatch z) h
  | @tup a xs ea =>
    cases (show u = Value.ref a from rx)
    obtain ⟨_, _, _, p⟩ := (show ObjOk X.prog X.w H s.heap a (.tup xs) from I.hok a _ ea)
    obtain ⟨o, h1, h2, _⟩ := p
    exact PySem.W.kia_one PySem.W.kitx_tuple I.kIn ⟨o, h1, h2⟩ e (fun z => nomatch z) h
  | @dK a kvs ea =>
    cases (show u = Value.ref a from rx)
    obtain ⟨_, _, vs, _, p⟩ := (show ObjOk X.prog X.w H s.heap a (.dK kvs) from I.hok a _ ea)
    obtain ⟨o, es, ep, h1, h2, _⟩ := p
    exact PySem.W.kia_one PySem.W.kitx_dict I.kIn ⟨o, h1, h2.1⟩ e (fun z => nomatch z) h
  | @dT a kvs ea =>
    cases (show u = Value.ref a from rx)
    obtain ⟨_, _, xs, _, o, es, ep, h1, h2, _⟩ := (show ObjOk X.prog X.w H s.heap a (.dT kvs) from I.hok a _ ea)
    exact PySem.W.kia_one PySem.W.kitx_dict I.kIn ⟨o, h1, h2.1⟩ e (fun z => nomatch z) h
  | @ins a C dx fs ea cl ha hn htk hm =>
    cases (show u = Value.ref a from rx)
    obtain ⟨mA, O, _⟩ := ins_get I.hok ea
    obtain ⟨od, J, _⟩ := O.look
    exact PySem.W.kia_one (PySem.W.kitx_own (cl.get _) cl.hd ha hn htk hm) I.kIn J e (fun z => nomatch z) h
end
end L2

namespace L2
open PySem PySem.Spec PyProof.Rows

/-! ### room -/
structure Room (k : Nat) (A : Around) : Prop where
  hd : A.handled = none
  dp : A.depth + 3 * k + 5 < recursionLimit
  un : A.units + 16 * k + 200 < cLine
theorem Room.mono {j k : Nat} {A : Around} (r : Room k A) (h : j ≤ k) : Room j A := ⟨r.hd, by have := r.dp; omega, by have := r.un; omega⟩
theorem Room.deeper {k : Nat} {A : Around} (r : Room (k + 1) A) (env : Env) : Room k (A.deeper env) :=
  ⟨r.hd, by have := r.dp; show A.depth + 1 + 3 * k + 5 < _; omega, by have := r.un; show A.units + 3 + 16 * k + 200 < _; omega⟩
theorem Room.depth {k : Nat} {A : Around} (r : Room k A) : A.depth < recursionLimit := by have := r.dp; omega
theorem Room.units {k : Nat} {A : Around} (r : Room k A) : A.units + 64 < cLine := by have := r.un; omega
/-! ### argument lists and displays -/
def tNil : TA := fun _ H Q => Q [] H
def tCons (ta : TE) (tr : TA) : TA := fun σ H Q => ta σ H fun x H1 => tr σ H1 fun xs H2 => Q (x :: xs) H2
section
variable {X : Cx} {e : Expr} {es : List Expr} {te : TE} {t : TA} {pos : Pos}
theorem pa_nil : PA X [] tNil := fun _ _ _ _ H Q I h => Calls.spliced_nil ⟨[], H, I, .nil, h⟩
theorem pa_cons (ha : PE X e te) (hr : PA X es t) (hs : starEach (e :: es) X.env = (false, eval e X.env) :: starEach es X.env := by rfl) : PA X (e :: es) (tCons te t) := by
  intro pos pins s σ H Q I h
  rw [hs]
  show wpAny _ _ (spliced ((false, eval e X.env) :: backTo pos (starEach es X.env))) _ _ s
  refine Calls.spliced_cons (thn (ha pins s σ H _ I h) fun u s1 ⟨x, H1, I1, r1, q1⟩ => ?_)
  exact thn (hr pos pins s1 σ H1 _ I1 q1) fun us s2 ⟨xs, H2, I2, r2, q2⟩ => ⟨x :: xs, H2, I2, .cons r1 r2, q2⟩

/-- a tuple, a list of written items -/
def tTup (t : TA) : TE := fun σ H Q => t σ H fun xs H1 => xs.length ≤ sizeLine ∧ ∀ p, H1 p = none → Q (.ref p) (upd H1 p (.tup xs))
def tLst (t : TA) : TE := fun σ H Q => t σ H fun xs H1 => xs.length ≤ sizeLine ∧ ∀ p, H1 p = none → Q (.ref p) (upd H1 p (.lst xs))
theorem pe_tup {x1} (h : PA X es t) : PE X (.Tuple es x1 pos) (tTup t) := by
  intro pins s σ H Q I hq
  refine wpAny_Tuple_spliced (thn (h pos pins s σ H _ I hq) fun us s1 ⟨xs, H1, I1, r, z, q⟩ => ⟨by rw [← r.length]; exact z, ?_⟩)
  have hf : H1 s1.heap.objs.size = none := I1.hok.fresh (Nat.le_refl _)
  refine ⟨.ref s1.heap.objs.size, upd H1 s1.heap.objs.size (.tup xs), I1.laid (t' := s1.toks) (fun b u e => Heap.get?_push_of_some _ e) (Nat.le_refl _) ?_, rfl, q _ hf⟩
  exact ⟨z, us, r, ⟨_, Heap.get?_push_size _ rfl, rfl, _, rfl⟩⟩
theorem pe_lst (h : PA X es t) : PE X (.List es pos) (tLst t) := by
  intro pins s σ H Q I hq
  refine wpAny_List_spliced (thn (h pos pins s σ H _ I hq) fun us s1 ⟨xs, H1, I1, r, z, q⟩ => ⟨by rw [← r.length]; exact z, ?_⟩)
  have hf : H1 s1.heap.objs.size = none := I1.hok.fresh (Nat.le_refl _)
  refine ⟨.ref s1.heap.objs.size, upd H1 s1.heap.objs.size (.lst xs), I1.laid (t' := s1.toks) (fun b u e => Heap.get?_push_of_some _ e) (Nat.le_refl _) ?_, rfl, q _ hf⟩
  exact ⟨z, us, 0, r, Heap.get?_push_size _ rfl⟩
end

/-! ### what a def promises -/
/-- a def's promise: the bound arguments in the parameters' order, the heap, the wanted end, the wanted exception -/
abbrev Sp := List V → Hp → VK → XK → Prop
/-- how an exception lies behind a call (file 08 gives it): the callers' frames, abstract heap and state ahead of the call, the wish, the exception, the state -/
abbrev CXT := List Env → Hp → Shared → XK → Value → Shared → Prop

/-- the state at a call -/
structure Env0 (P : Program) (w : World) (K : PySem.W.Frag) (mg : Str → Option Value) (base : Heap) (A : Around) (outer : List Env) (s : Shared) (H : Hp) : Prop where
  frames : A.frames = some outer
  mod : Mod K mg base
  bs : ∀ b o, base.get? b = some o → s.heap.get? b = some o ∧ H b = none
  bsz : base.objs.size ≤ s.heap.objs.size
  funs : s.heap.FunFrames base outer
  frf : ∀ b ∈ frs outer, H b = none
  hok : HOk P w H s.heap
  bare : AllBare s.gens
/-- a call's end -/
def CE (outer : List Env) (P : Program) (w : World) (H : Hp) (s : Shared) (Q : VK) (u : Value) (s' : Shared) : Prop :=
  ∃ v H', s'.os = s.os ∧ AllBare s'.gens ∧ Un (frs outer) [] H H' s.heap s'.heap ∧ HOk P w H' s'.heap ∧ RelV v u ∧ Q v H'
def CR (CX : CXT) (outer : List Env) (P : Program) (w : World) (H : Hp) (s : Shared) (Q : VK) (E : XK) (r : Result) (s' : Shared) : Prop :=
  match r with
  | .ok (.ret u) => CE outer P w H s Q u s'
  | .ok _ => False
  | .error e => CX outer H s E e s'
structure FnOk (P : Program) (w : World) (K : PySem.W.Frag) (mg : Str → Option Value) (base : Heap) (CX : CXT) (k : Nat) (f : Addr) (fd : FuncData) (ps : List Str) (sp : Sp) : Prop where
  len : ∀ vs H Q E, sp vs H Q E → vs.length = ps.length
  run : ∀ (A : Around) (outer : List Env) (s : Shared) (H : Hp) (args : Args) (us : List Value) (vs : List V) (Q : VK) (E : XK), Room k A → Env0 P w K mg base A outer s H → BindsTo s fd args (ps.zip us) → Vals vs us → sp vs H Q E →
    codeAny (model P w) A (.call (.ref f) args) (CR CX outer P w H s Q E) s
section
variable {X : Cx} {pins : List (Addr × Obj)} {σ : St} {H : Hp} {s s' : Shared}
/-- from a body: what a callee wants -/
theorem Inv.env0 (I : Inv X pins σ H s) : Env0 X.prog X.w X.K X.mg X.base X.A X.stack s H :=
  ⟨I.ok.frames, I.ok.mod, I.bs, Nat.le_trans I.ok.bsz I.sz, I.stack, I.stkFree, I.hok, I.bare⟩
/-- behind a call -/
theorem Inv.after {Q : VK} {u : Value} (I : Inv X pins σ H s) (h : CE X.stack X.prog X.w H s Q u s') : EP X pins σ Q u s' := by
  obtain ⟨v, H', os, bare, un, hok, r, q⟩ := h
  obtain ⟨hh, g, d, t, os'⟩ := s'
  obtain rfl : os' = s.os := os
  exact ⟨v, H', I.call (h' := hh) (g' := g) (d' := d) (t' := t) (ch := []) un hok bare (fun b z => absurd z (by simp)), r, q⟩
end

/-! ### calls -/
/-- f(..): the written arguments, then the defaults dvs; E: what is wanted of an exception -/
def tCall (sp : Sp) (dvs : List V) (E : XK) (t : TA) : TE := fun σ H Q => t σ H fun vs H1 => sp (vs ++ dvs) H1 Q E
/-- how the parameters are bound: us the positional arguments, kw the keywords' values by name, ds the defaults that fill up -/
def Binds (K : PySem.W.Frag) (fd : FuncData) (ps : List Str) (ds : List Value) : Prop :=
  ∀ (s : Shared) (us : List Value), K.In s.heap → (us ++ ds).length = ps.length → BindsTo s fd ⟨us, []⟩ (ps.zip (us ++ ds))
/-- every parameter is given -/
theorem Binds.all {K : PySem.W.Frag} {fd : FuncData} {ps : List Str} (h : ∀ us : List Value, us.length = ps.length → bindArgs fd ⟨us, []⟩ = pure (ps.zip us)) : Binds K fd ps [] := fun s us _ hl => by
  rw [List.append_nil] at hl ⊢
  exact .of_eq (h us hl)

/-- an exception of a callee reaches what this body wants of exceptions -/
def Passes (CX : CXT) (X : Cx) (E : XK) : Prop := ∀ (pins : List (Addr × Obj)) (σ : St) (H : Hp) (s : Shared) (e : Value) (s' : Shared), Inv X pins σ H s → CX X.stack H s E e s' → X.xe e s'

section
variable {X : Cx} {CX : CXT} {k : Nat} {f C : Addr} {fd : FuncData} {ps : List Str} {sp : Sp} {dvs : List V} {ds : List Value} {E : XK} {x m : Str} {p pos apos : Pos} {e o : Expr} {es : List Expr} {ta : TE} {t : TA}

/-- the callee runs -/
theorem run_fn {pins : List (Addr × Obj)} {σ : St} {H : Hp} {s : Shared} {Q : VK} {us : List Value} {vs : List V} (F : FnOk X.prog X.w X.K X.mg X.base CX k f fd ps sp) (hr : Room k X.A) (hb : Binds X.K fd ps ds) (hd : Vals dvs ds) (hx : Passes CX X E)
    (I : Inv X pins σ H s) (r : Vals vs us) (h : sp (vs ++ dvs) H Q E) : wpAny (model X.prog X.w) X.A (call (.ref f) us) (EP X pins σ Q) X.xe s := by
  have r2 : Vals (vs ++ dvs) (us ++ ds) := r.append hd
  have hl : (us ++ ds).length = ps.length := by rw [← r2.length]; exact F.len _ _ _ _ h
  refine wpAny_call (codeAny_mono (F.run X.A X.stack s H ⟨us, []⟩ (us ++ ds) (vs ++ dvs) Q E hr I.env0 (hb s us I.kIn hl) r2 h) fun r s' hq => ?_)
  cases r with
  | error e => exact hx pins σ H s e s' I hq
  | ok fl =>
    cases fl with
    | ret u => exact I.after hq
    | next => exact False.elim hq
    | brk => exact False.elim hq
    | cont => exact False.elim hq

theorem pe_call (F : FnOk X.prog X.w X.K X.mg X.base CX k f fd ps sp) (hr : Room k X.A) (hg : Gl X x) (hm : X.mg x = some (.ref f)) (hk : PySem.W.keepIn X.K (.ref f) = true) (hb : Binds X.K fd ps ds) (hd : Vals dvs ds) (hx : Passes CX X E)
    (ha : PA X (e :: es) t) (hdb : (x == ("__debug__" : Str)) = false := by decide) (he : starEach (e :: es) X.env = (false, eval e X.env) :: starEach es X.env := by rfl) (hpl : (backTo pos (starEach es X.env)).any (·.1) = false := by rfl) :
    PE X (.Call (.Name x p) (e :: es) [] pos) (tCall sp dvs E t) := by
  intro pins s σ H Q I h
  refine wpAny_Call_Name_kw (ld_glob I hg hm ?_ hdb)
  refine PySem.W.callWith_K (h₀ := X.base) I.ok.mod.kin hk (thn (ha pos pins s σ H _ I h) fun us s1 ⟨vs, H1, I1, r, q⟩ => ⟨I1.kIn, ?_⟩) he hpl
  exact run_fn F hr hb hd hx I1 r q
theorem pe_call0 (F : FnOk X.prog X.w X.K X.mg X.base CX k f fd ps sp) (hr : Room k X.A) (hg : Gl X x) (hm : X.mg x = some (.ref f)) (hk : PySem.W.keepIn X.K (.ref f) = true) (hb : Binds X.K fd ps ds) (hd : Vals dvs ds) (hx : Passes CX X E)
    (hdb : (x == ("__debug__" : Str)) = false := by decide) : PE X (.Call (.Name x p) [] [] pos) (tCall sp dvs E tNil) := by
  intro pins s σ H Q I h
  refine wpAny_Call_Name_kw (ld_glob I hg hm ?_ hdb)
  exact PySem.W.callWith_K0 I.kIn hk (run_fn (us := []) F hr hb hd hx I .nil h)

end

/-! ### keywords -/
section
variable {X : Cx} {CX : CXT} {k : Nat} {f C : Addr} {fd : FuncData} {ps ks : List Str} {sp : Sp} {E : XK} {x m : Str} {p pos apos kpos : Pos} {e o : Expr} {es : List Expr} {kws : List Keyword} {te ta : TE} {t tk : TA} {nm : Option Str}
variable {g : List Value → List Value → List Value} {gV : List V → List V → List V}
end

/-! ### a def's body keeps its promise -/
/-- names: the parameters first -/
structure FnScope (N P : List Str) (sc : Scope) : Prop where
  kind : sc.kind = .function
  co : sc.isCoroutine = false
  gen : sc.isGenerator = false
  nd : N.Nodup
  pre : N.take P.length = P
  par : ∀ x ∈ P, sc.names.lookup x = some .local ∨ sc.names.lookup x = some .cell
  nofree : ∀ y ∈ sc.names, y.2 ≠ .free

theorem bindL_out {kindOf : Str → Option NameKind} {x : Str} : ∀ {binds : List (Str × Value)} {m : Str → Option Value}, (∀ v, (x, v) ∉ binds) → bindL kindOf binds m x = m x
  | [], _, _ => rfl
  | (n, v) :: r, m, h => by
    unfold bindL
    rw [bindL_out fun w hw => h w (List.mem_cons_of_mem _ hw)]
    split
    · have : x ≠ n := by rintro rfl; exact h v List.mem_cons_self
      simp [this]
    · rfl
theorem bindC_out {kindOf : Str → Option NameKind} {x : Str} : ∀ {binds : List (Str × Value)} {m : Str → Option Value}, (∀ v, (x, v) ∉ binds) → bindC kindOf binds m x = m x
  | [], _, _ => rfl
  | (n, v) :: r, m, h => by
    unfold bindC
    rw [bindC_out fun w hw => h w (List.mem_cons_of_mem _ hw)]
    split
    · rfl
    · have : x ≠ n := by rintro rfl; exact h v List.mem_cons_self
      simp [this]
theorem bindL_get {kindOf : Str → Option NameKind} {x : Str} {v : Value} : ∀ {P : List Str} {vs : List Value} {i : Nat} {m : Str → Option Value}, P.Nodup → P[i]? = some x → vs[i]? = some v → kindOf x = some .local →
    bindL kindOf (P.zip vs) m x = some v
  | [], _, _, _, _, h, _, _ => by simp at h
  | _ :: _, [], _, _, _, _, h, _ => by simp at h
  | p :: P, w :: vs, 0, m, nd, h1, h2, hk => by
    simp at h1 h2; subst h1; subst h2
    show bindL kindOf ((p, w) :: P.zip vs) m p = _
    unfold bindL
    rw [bindL_out fun v hv => (List.nodup_cons.mp nd).1 (List.of_mem_zip hv).1, if_pos hk]
    simp
  | p :: P, w :: vs, i + 1, m, nd, h1, h2, hk => by
    show bindL kindOf ((p, w) :: P.zip vs) m x = _
    unfold bindL
    exact bindL_get (i := i) (List.nodup_cons.mp nd).2 (by simpa using h1) (by simpa using h2) hk
theorem bindC_get {kindOf : Str → Option NameKind} {x : Str} {v : Value} : ∀ {P : List Str} {vs : List Value} {i : Nat} {m : Str → Option Value}, P.Nodup → P[i]? = some x → vs[i]? = some v → kindOf x ≠ some .local →
    bindC kindOf (P.zip vs) m x = some v
  | [], _, _, _, _, h, _, _ => by simp at h
  | _ :: _, [], _, _, _, _, h, _ => by simp at h
  | p :: P, w :: vs, 0, m, nd, h1, h2, hk => by
    simp at h1 h2; subst h1; subst h2
    show bindC kindOf ((p, w) :: P.zip vs) m p = _
    unfold bindC
    rw [bindC_out fun v hv => (List.nodup_cons.mp nd).1 (List.of_mem_zip hv).1, if_neg hk]
    simp
  | p :: P, w :: vs, i + 1, m, nd, h1, h2, hk => by
    show bindC kindOf ((p, w) :: P.zip vs) m x = _
    unfold bindC
    exact bindC_get (i := i) (List.nodup_cons.mp nd).2 (by simpa using h1) (by simpa using h2) hk

/-- the names' values at the entry -/
def start (N : List Str) (vs : List V) : St := vs.map some ++ List.replicate (N.length - vs.length) none

/-- the context of a def's body, at its entry; an exception leaves the frame, then lies as CX says -/
def cxOf (CX : CXT) (P : Program) (w : World) (K : PySem.W.Frag) (mg : Str → Option Value) (base : Heap) (N : List Str) (qual : Str) (scope : Scope) (f : Addr) (cd : Value) (A : Around) (outer : List Env) (s : Shared) (H : Hp) (E : XK) : Cx where
  prog := P
  w := w
  K := K
  mg := mg
  base := base
  A := A.deeper (envOfC qual scope s.heap.objs.size f cd)
  N := N
  s₀ := s
  H₀ := H
  env := envOfC qual scope s.heap.objs.size f cd
  outer := outer
  stack := envOfC qual scope s.heap.objs.size f cd :: outer
  ex := []
  calm := true
  fn := fun _ => true
  pn := []
  xe := fun e s' => wpAny (model P w) (A.deeper (envOfC qual scope s.heap.objs.size f cd)) (leaving (envOfC qual scope s.heap.objs.size f cd) e) (fun _ s'' => CX outer H s E e s'') (fun e' s'' => CX outer H s E e' s'') s'

theorem cell_has {sc : Scope} {n : Nat} {x : Str} (h : sc.names.lookup x = some .cell) : ∃ c, (cellsFrom n sc.names []).lookup x = some c := by
  have q := PySem.W.cellsFrom_some sc.names n [] (.inl h)
  exact Option.isSome_iff_exists.mp q

theorem inv_start {CX : CXT} {P : Program} {w : World} {K : PySem.W.Frag} {mg : Str → Option Value} {base : Heap} {N ps : List Str} {qual : Str} {scope : Scope} {f : Addr} {cd : Value} {A : Around} {outer : List Env} {s s1 : Shared} {H : Hp} {E : XK} {us : List Value} {vs : List V}
    (S : FnScope N ps scope) (hd : A.handled = none) (e0 : Env0 P w K mg base A outer s H) (hl : vs.length = ps.length) (r : Vals vs us)
    (x : InCallC s s.heap.objs.size (bindL (envOfC qual scope s.heap.objs.size f cd).kindOf (ps.zip us) fun _ => none) (cellsFrom (s.heap.objs.size + 1) scope.names []) (bindC (envOfC qual scope s.heap.objs.size f cd).kindOf (ps.zip us) fun _ => none) s1) :
    Inv (cxOf CX P w K mg base N qual scope f cd A outer s H E) [] (start N vs) H s1 := by
  have hpl : ps.length ≤ N.length := by have := congrArg List.length S.pre; rw [List.length_take] at this; omega
  obtain ⟨h1, tk, rfl, hk⟩ := x.done
  have noA : ∀ b : Addr, b ∉ (cxOf CX P w K mg base N qual scope f cd A outer s H E).ex := fun b z => absurd (show b ∈ ([] : List Addr) from z) (by simp)
  refine ⟨⟨e0.mod, S.kind, rfl, rfl, Nat.le_refl _, fun y z c h1 h2 => ?_, fun y hy => ?_, fun y c _ h => ?_, fun _ => hd, Around.frames_deeper e0.frames, .inr ⟨rfl, rfl⟩, fun b z => absurd z (noA b), e0.bs, e0.bsz, fun b _ _ => noA b, fun b z => absurd z (noA b), e0.funs, e0.frf⟩,
    rfl, e0.bare, Un.kept hk, ⟨_, x.toInCall.ns, fun i y v h1 h2 h3 => ?_⟩, fun y c h => ⟨_, x.cell y c h⟩, e0.hok.fresh (Nat.le_refl _), fun y c h => ?_, fun p hp => absurd (show p ∈ ([] : List (Addr × Obj)) from hp) (by simp), e0.hok.kept hk, ?_⟩
  · exact name_of_addr x.apart (PySem.mem_of_lookup h1) (PySem.mem_of_lookup h2)
  · have hy : scope.names.lookup y = some .cell ∨ scope.names.lookup y = some .free := hy
    rcases hy with hy | hy
    · exact cell_has hy
    · exact absurd rfl (S.nofree _ (PySem.mem_of_lookup hy))
  · exact Nat.le_of_lt (x.above y c (PySem.mem_of_lookup h))
  · have hi : i < vs.length := by
      unfold start at h2
      by_cases hi : i < vs.length
      · exact hi
      · rw [List.getElem?_append_right (by simpa using hi)] at h2
        rw [List.getElem?_replicate] at h2
        split at h2 <;> cases h2
    have ha : vs[i]? = some v := by
      unfold start at h2
      rw [List.getElem?_append_left (by simpa using hi), List.getElem?_map] at h2
      cases e : vs[i]? with
      | none => rw [e] at h2; cases h2
      | some a => rw [e] at h2; cases h2; rfl
    obtain ⟨u, hu, rv⟩ := r.get ha
    have hp : ps[i]? = some y := by
      rw [← S.pre, List.getElem?_take_of_lt (by omega)]; exact h1
    have ndP : ps.Nodup := by rw [← S.pre]; exact S.nd.sublist (List.take_sublist _ _)
    refine ⟨u, rv, ?_⟩
    rcases S.par y (List.mem_of_getElem? hp) with k | k
    · exact .inl ⟨k, bindL_get ndP hp hu k⟩
    · obtain ⟨c, e⟩ := cell_has (n := s.heap.objs.size + 1) k
      refine .inr ⟨.inl k, c, e, ?_⟩
      have q := x.cell y c e
      rw [bindC_get ndP hp hu (by show scope.names.lookup y ≠ _; rw [k]; decide)] at q
      exact q
  · exact e0.hok.fresh (Nat.le_of_lt (x.above y c (PySem.mem_of_lookup h)))
  · unfold start
    show _ = N.length
    rw [List.length_append, List.length_map, List.length_replicate]
    omega

/-- THE RULE: a def (or a method) of the text, by its body. The body's reading t is chosen for each entry; it is run at the parameters' values -/
theorem fn_of {CX : CXT} {P : Program} {w : World} {K : PySem.W.Frag} {mg : Str → Option Value} {base : Heap} {k : Nat} {f : Addr} {name qual : Str} {params : Arguments} {body : List Stmt} {scope : Scope} {dV kV doc pm cdv ct oc : Value} {an od : Option Addr}
    {osl : Array (Option Value)} {N ps : List Str} {sp : Sp} (lk : K.lookup f = some ⟨oc, od, .func (PySem.W.fnOf name qual params body scope dV kV doc pm an cdv ct), osl⟩) (hcd : PySem.W.codeIn K cdv qual = true) (S : FnScope N ps scope)
    (len : ∀ vs H Q E, sp vs H Q E → vs.length = ps.length)
    (hbody : ∀ (A : Around) (outer : List Env) (s : Shared) (H : Hp) (vs : List V) (Q : VK) (E : XK), Room k (A.deeper (envOfC qual scope s.heap.objs.size f cdv)) → sp vs H Q E →
      ∃ t, PSs (cxOf CX P w K mg base N qual scope f cdv A outer s H E) body t ∧ t { nx := fun _ H' => Q .non H', rt := Q } (start N vs) H) :
    FnOk P w K mg base CX (k + 1) f (PySem.W.fnOf name qual params body scope dV kV doc pm an cdv ct) ps sp := by
  refine ⟨len, fun A outer s H args us vs Q E hr e0 hb r hsp => ?_⟩
  have hl := len _ _ _ _ hsp
  have KX : K.In s.heap := e0.mod.kin.keeps fun b o e => (e0.bs b o e).1
  have lim : s.heap.NoLimit := e0.mod.nolimit.keeps fun b o e => (e0.bs b o e).1
  have hkind : ∀ y ∈ ps.zip us, scope.names.lookup y.1 = some .local ∨ (scope.names.lookup y.1 = some .cell ∧ ((cellsFrom (s.heap.objs.size + 1) scope.names []).lookup y.1).isSome = true) := fun ⟨n, v⟩ hy => by
    rcases S.par n (List.of_mem_zip hy).1 with q | q
    · exact .inl q
    · exact .inr ⟨q, PySem.W.cellsFrom_some _ _ _ (.inl q)⟩
  refine codeAny_call_function hr.depth (KX _ _ lk) rfl S.co S.gen rfl (PySem.W.codeRec_of KX hcd) (hb _ _ _ _ ?_)
  refine wpAny_newFunctionEnv_cells S.kind hkind fun env he s1 x => ?_
  subst he
  refine ⟨lim.keeps x.toInCall.keep, codeAny_func ?_⟩
  obtain ⟨t, ht, hq⟩ := hbody A outer s H vs Q E (hr.deeper _) hsp
  have I : Inv (cxOf CX P w K mg base N qual scope f cdv A outer s H E) [] (start N vs) H s1 := inv_start S hr.hd e0 hl r x
  refine wpAny_mono (ht [] s1 (start N vs) H _ I hq) (fun fl s' hs => ?_) fun e s' hs => hs
  have fin : ∀ {σ' : St} {H' : Hp} {v : V} {u : Value}, Inv (cxOf CX P w K mg base N qual scope f cdv A outer s H E) [] σ' H' s' → RelV v u → Q v H' → CE outer P w H s Q u s' :=
    fun {σ' H' v u} J rv q => ⟨v, H', J.os, J.bare, J.base, J.hok, rv, q⟩
  cases fl with
  | ret u =>
    obtain ⟨v, σ', H', J, rv, q⟩ := hs
    exact fin J rv q
  | next =>
    obtain ⟨σ', H', J, q⟩ := hs
    exact fin (v := V.non) (u := Value.none) J rfl q
  | brk =>
    obtain ⟨_, _, _, q⟩ := hs
    exact False.elim q
  | cont =>
    obtain ⟨_, _, _, q⟩ := hs
    exact False.elim q
end L2

namespace L2
open PySem PySem.Spec PyProof.Rows
section
variable {X : Cx} {x : Str} {p pos : Pos} {e : Expr} {es : List Expr} {t : TA} {id T : String} {r : List V → Hp → VK → Prop}

def tCB (r : List V → Hp → VK → Prop) (t : TA) : TE := fun σ H Q => t σ H fun vs H1 => r vs H1 Q
/-- f(e, ..), f a built-in function -/
theorem pe_callB (hc : CallR X (.builtin id) r) (hg : Gl X x) (hm : X.mg x = none) (hv : bootBuiltins x = some (.builtin id)) (ha : PA X (e :: es) t) (hn : x ≠ "__name__" := by decide) (hdb : (x == ("__debug__" : Str)) = false := by decide)
    (he : starEach (e :: es) X.env = (false, eval e X.env) :: starEach es X.env := by rfl) (hpl : (backTo pos (starEach es X.env)).any (·.1) = false := by rfl) : PE X (.Call (.Name x p) (e :: es) [] pos) (tCB r t) := by
  intro pins s σ H Q I h
  refine wpAny_Call_Name_kw (ld_blt I hg hm hv ?_ hn hdb)
  exact PyProof.Rows.callWith_builtin1 (thn (ha pos pins s σ H _ I h) fun us s1 ⟨vs, H1, I1, r1, q1⟩ => hc pins s1 σ H1 vs us Q I1 r1 q1) he hpl
/-- T(e, ..), T a built-in type -/
theorem pe_callTy (hc : CallR X (.type T) r) (hg : Gl X x) (hm : X.mg x = none) (hv : bootBuiltins x = some (.type T)) (ha : PA X (e :: es) t) (hn : x ≠ "__name__" := by decide) (hdb : (x == ("__debug__" : Str)) = false := by decide)
    (he : starEach (e :: es) X.env = (false, eval e X.env) :: starEach es X.env := by rfl) (hpl : (backTo pos (starEach es X.env)).any (·.1) = false := by rfl) : PE X (.Call (.Name x p) (e :: es) [] pos) (tCB r t) := by
  intro pins s σ H Q I h
  refine wpAny_Call_Name_kw (ld_blt I hg hm hv ?_ hn hdb)
  exact PyProof.Rows.callWith_type1 (thn (ha pos pins s σ H _ I h) fun us s1 ⟨vs, H1, I1, r1, q1⟩ => hc pins s1 σ H1 vs us Q I1 r1 q1) he hpl
end
end L2

namespace HT
open PySem PyProof.Rows

section
open PySem.SeqAt
open PySem.AutoSeq1 (wpAny_loadPart')
open PySem.MeetsSeq PySem.MeetsSeq2 PySem.MeetsSeq3

end

section
variable {prog : Program} {w : World} {A : Around} {E : Value → Shared → Prop} {s : Shared}

/-- t + u, t not empty -/
theorem cat_tup {t b : Addr} {vs ws : List Value} {Q : Value → Shared → Prop} (ht : IsTup s.heap t vs.toArray) (hb : IsTup s.heap b ws.toArray) (hv : vs ≠ [])
    (h1 : ws = [] → Q (.ref t) s) (h2 : ws ≠ [] → Q (.ref s.heap.objs.size) { s with heap := s.heap.push { cls := .type "tuple", data := .seq (vs ++ ws).toArray } })
    (hsz : vs.length + ws.length ≤ sizeLine) : wpAny (model prog w) A (binaryOp .Add (.ref t) (.ref b)) Q E s := by
  obtain ⟨⟨cls, dd, data, sl⟩, ho, hc, n, hd⟩ := id ht
  obtain ⟨⟨cls2, dd2, data2, sl2⟩, ho2, hc2, n2, hd2⟩ := id hb
  simp only at hc hd hc2 hd2
  subst hc hd hc2 hd2
  have e : vs.toArray ++ ws.toArray = (vs ++ ws).toArray := by simp
  by_cases hw : ws = []
  · exact concat_meets ⟨_, ho, rfl⟩ ⟨_, ho2, rfl⟩ noFill_tuple_add seq_tuple_add PySem.F.slot_tuple_add PySem.F.entry_tuple_add (PySem.F.args_tuple_add_2 _ _)
      (tuple_addW1 t b vs.toArray ws.toArray n n2 dd dd2 sl sl2 (by simpa using hv) (by simp [hw])) ⟨ho, ho2, h1 hw⟩
  · refine concat_meets ⟨_, ho, rfl⟩ ⟨_, ho2, rfl⟩ noFill_tuple_add seq_tuple_add PySem.F.slot_tuple_add PySem.F.entry_tuple_add (PySem.F.args_tuple_add_2 _ _)
      (tuple_addW2 t b vs.toArray ws.toArray n n2 dd dd2 sl sl2 (by simpa using hv) (by simpa using hw) (by rw [List.size_toArray, List.size_toArray]; exact hsz)) ⟨ho, ho2, ?_⟩
    rw [e]
    exact h2 hw

/-! ### t[a:b], not the whole -/
/-- a slice's bound as a place among n (d where it is left out) -/
def sIx (n d : Nat) : Option Int → Nat
  | none => d
  | some v => if v < 0 then (v + (n : Int)).toNat else min v.toNat n
theorem sIx_none (n d : Nat) : sIx n d none = d := rfl
theorem sIx_nat (n d k : Nat) : sIx n d (some (k : Int)) = min k n := by
  show (if (k : Int) < 0 then ((k : Int) + (n : Int)).toNat else min (k : Int).toNat n) = min k n
  rw [if_neg (by omega), Int.toNat_natCast]
theorem sIx_le (n d : Nat) (hd : d ≤ n) (o : Option Int) : sIx n d o ≤ n := by
  cases o with
  | none => exact hd
  | some v =>
    show (if v < 0 then (v + (n : Int)).toNat else min v.toNat n) ≤ n
    by_cases hv : v < 0
    · rw [if_pos hv]; omega
    · rw [if_neg hv]; exact Nat.min_le_right _ _
theorem clip_eq (v : Int) (n d : Nat) : (if v < 0 then max (v + (n : Int)) 0 else min v (n : Int)) = ((sIx n d (some v) : Nat) : Int) := by
  show (if v < 0 then max (v + (n : Int)) 0 else min v (n : Int)) = (((if v < 0 then (v + (n : Int)).toNat else min v.toNat n) : Nat) : Int)
  by_cases hv : v < 0
  · simp only [if_pos hv]; omega
  · simp only [if_neg hv]; omega
theorem adjust_gen (lo hi : Option Int) (n : Nat) : Builtin.Slice.sliceAdjust lo hi 1 (n : Int) = (((sIx n 0 lo : Nat) : Int), ((sIx n n hi : Nat) : Int)) := by
  have h1 : ¬ ((1 : Int) < 0) := by omega
  unfold Builtin.Slice.sliceAdjust
  simp only [h1, if_false]
  refine Prod.ext ?_ ?_
  · cases lo with
    | none => rfl
    | some v => exact clip_eq v n 0
  · cases hi with
    | none => rfl
    | some v => exact clip_eq v n n
theorem places_gen (i j : Nat) : Builtin.Slice.slicePlaces (i : Int) (j : Int) 1 = j - i := by
  unfold Builtin.Slice.slicePlaces
  have h1 : (1 : Int) > 0 := by omega
  simp only [h1, if_true, Int.ediv_one]
  split <;> omega
theorem slicePart_ {v : Value} {o : Option Int} {Q : Option Int → Shared → Prop} (p : IsPart v o) (h : Q o s) : wpAny (model prog w) A (Builtin.Slice.slicePartIndex v) Q E s := by
  cases p with
  | none => exact slicePart_none h
  | int i t => exact slicePart_int h
theorem sliceApplied_gen {sl : Addr} {vl vu : Value} {lo hi : Option Int} {n : Nat} {Q : Int × Int × Nat → Shared → Prop} (hs : s.heap.IsSliceOf sl vl vu .none) (pl : IsPart vl lo) (pu : IsPart vu hi)
    (h : Q (((sIx n 0 lo : Nat) : Int), 1, sIx n n hi - sIx n 0 lo) s) : wpAny (model prog w) A (Builtin.Slice.sliceApplied (.ref sl) (pure (n : Int))) Q E s := by
  obtain ⟨os, hos, hcs, hds⟩ := id hs
  unfold Builtin.Slice.sliceApplied Builtin.Slice.sliceFields
  refine wpAny_bind (wpAny_bind (wpAny_field hos hds (x := vl) rfl (wpAny_bind (wpAny_field hos hds (x := vu) rfl (wpAny_bind (wpAny_field hos hds (x := .none) rfl (wpAny_pure ?_)))))))
  refine wpAny_bind (slicePart_none ?_)
  show wpAny _ _ (if ((1 : Int) == 0) = true then _ else _) _ _ s
  rw [if_neg (by decide)]
  refine wpAny_bind (slicePart_ pl (wpAny_bind (slicePart_ pu (wpAny_bind (wpAny_pure ?_)))))
  show wpAny _ _ (match Builtin.Slice.sliceAdjust lo hi 1 (n : Int) with | (lo, hi) => pure (lo, (1 : Int), Builtin.Slice.slicePlaces lo hi 1)) _ _ s
  rw [adjust_gen lo hi n]
  show wpAny _ _ (pure (((sIx n 0 lo : Nat) : Int), (1 : Int), Builtin.Slice.slicePlaces ((sIx n 0 lo : Nat) : Int) ((sIx n n hi : Nat) : Int) 1)) _ _ s
  rw [places_gen]
  exact wpAny_pure h
theorem pick_gen (xs : Array Value) (i k : Nat) : ((List.range k).filterMap fun (m : Nat) => xs[((i : Int) + (m : Int) * 1).toNat]?).toArray = ((xs.toList.drop i).take k).toArray := by
  have e : (fun (m : Nat) => xs[((i : Int) + (m : Int) * 1).toNat]?) = fun m => xs[i + m]? := by
    funext m
    have : ((i : Int) + (m : Int) * 1).toNat = i + m := by omega
    rw [this]
  rw [e]
  have := pick_run xs i k
  rw [List.filterMap_map] at this
  have e2 : ((fun x => xs[x]?) ∘ fun x => i + x) = fun m => xs[i + m]? := rfl
  rw [e2] at this
  rw [this]

theorem getItem_tuple_cut {t sl : Addr} {items : Array Value} {vl vu : Value} {lo hi : Option Int} {Q : Value → Shared → Prop} (ht : IsTup s.heap t items) (hs : s.heap.IsSliceOf sl vl vu .none) (pl : IsPart vl lo) (pu : IsPart vu hi)
    (hw : ¬ (sIx items.size 0 lo = 0 ∧ sIx items.size items.size hi = items.size))
    (h : Q (.ref s.heap.objs.size) { s with heap := s.heap.push { cls := .type "tuple", data := .seq ((items.toList.drop (sIx items.size 0 lo)).take (sIx items.size items.size hi - sIx items.size 0 lo)).toArray } })
    (hsz : items.size ≤ sizeLine) : wpAny (model prog w) A (getItem (.ref t) (.ref sl)) Q E s := by
  have htake : sizeOk (.seq ((items.toList.drop (sIx items.size 0 lo)).take (sIx items.size items.size hi - sIx items.size 0 lo)).toArray) := by
    show ((items.toList.drop (sIx items.size 0 lo)).take (sIx items.size items.size hi - sIx items.size 0 lo)).toArray.size ≤ sizeLine
    rw [List.size_toArray, List.length_take, List.length_drop, Array.length_toList]
    omega
  have hj : sIx items.size items.size hi ≤ items.size := sIx_le _ _ (Nat.le_refl _) hi
  obtain ⟨os, hos, hcs, hds⟩ := id hs
  have hTs : s.TypeIs (.ref sl) "slice" := ⟨os, hos, hcs⟩
  unfold getItem
  try with_reducible refine wpAny_holding ?_
  first | refine wpAny_bind (wpAny_pure ?_) | skip
  refine wpAny_bind (wpAny_sequenceKey ht.typeIs (by decide) ?_)
  refine wpAny_bind (wpAny_callSpecial?_slot (name := Str.ofString "__getitem__") ht.typeIs PyProof.Rows.slot_tuple_getitem
    (wpAny_call_entry PyProof.Rows.slot_tuple_getitem ht.typeIs entry_tuple_getitem ?_ (args_tuple_getitem _ _)))
  show wpAny _ _ (Builtin.Tuple.tupleItemsOf (.ref t) >>= _) _ _ s
  refine wpAny_bind (tupleItemsOf_ ht ?_)
  refine wpAny_bind (wpAny_typeOf hTs ?_)
  rw [if_pos (by decide)]
  refine wpAny_bind (sliceApplied_gen hs pl pu ?_)
  have hno : ¬ ((((sIx items.size 0 lo : Nat) : Int) == 0 && (1 : Int) == 1 && (sIx items.size items.size hi - sIx items.size 0 lo) == items.size) = true) := by
    intro q
    rw [Bool.and_eq_true, Bool.and_eq_true] at q
    have q1 : ((sIx items.size 0 lo : Nat) : Int) = 0 := eq_of_beq q.1.1
    have q2 : sIx items.size items.size hi - sIx items.size 0 lo = items.size := eq_of_beq q.2
    exact hw ⟨by omega, by omega⟩
  show wpAny _ _ (if (((sIx items.size 0 lo : Nat) : Int) == 0 && (1 : Int) == 1 && (sIx items.size items.size hi - sIx items.size 0 lo) == items.size) = true then _ else _) _ _ s
  rw [if_neg hno, pick_gen]
  first
    | exact wpAny_bind (m := Builtin.Tuple.tupleExact _) (wpAny_newObj_type (wpAny_pure ⟨_, rfl, wpAny_pure h⟩) htake)
    | exact wpAny_bind (m := Builtin.Tuple.tupleExact _) (wpAny_newObj_type (wpAny_bind (wpAny_pure (wpAny_pure ⟨_, rfl, wpAny_pure h⟩))) htake)
    | exact wpAny_bind (wpAny_bind (m := Builtin.Tuple.tupleExact _) (wpAny_newObj_type (wpAny_pure (wpAny_pure ⟨_, rfl, wpAny_pure h⟩)) htake))
    | exact wpAny_bind (wpAny_bind (m := Builtin.Tuple.tupleExact _) (wpAny_newObj_type (wpAny_pure ⟨_, rfl, wpAny_pure h⟩) htake))
end
end HT

namespace L2
open PySem PySem.Spec PyProof.Rows

/-! ### the parts of a slice -/
abbrev TO := St → Hp → (Option Int → Hp → Prop) → Prop
/-- a slice's part (left out, or an int) -/
def PO (X : Cx) (e : Option Expr) (t : TO) : Prop :=
  ∀ (pins : List (Addr × Obj)) (s : Shared) (σ : St) (H : Hp) (Q : Option Int → Hp → Prop), Inv X pins σ H s → t σ H Q →
    wpAny (model X.prog X.w) X.A (evalPart e X.env) (fun u s' => ∃ o H', Inv X pins σ H' s' ∧ IsPart u o ∧ Q o H') X.xe s
def tNoPart : TO := fun _ H Q => Q none H
def tPart (t : TE) : TO := fun σ H Q => t σ H fun x H1 => ∃ i, x = .int i ∧ Q (some i) H1

section
variable {X : Cx} {e : Expr} {te : TE} {lo hi : Option Expr} {tl th : TO} {pos p2 : Pos}

theorem po_none : PO X none tNoPart := by
  intro pins s σ H Q I h
  rw [evalPart_none]
  exact wpAny_pure ⟨none, H, I, .none, h⟩
theorem po_some (h : PE X e te) : PO X (some e) (tPart te) := by
  intro pins s σ H Q I hw
  rw [evalPart_some]
  refine thn (h pins s σ H _ I hw) fun u s1 ⟨x, H1, I1, r1, q1⟩ => ?_
  obtain ⟨i, rfl, q⟩ := q1
  obtain ⟨t, rfl⟩ := r1
  exact ⟨some i, H1, I1, .int i t, q⟩

/-- what a slice of a value is, by values: the slice object stands at sl -/
def SlR (X : Cx) (r : V → Option Int → Option Int → Hp → VK → Prop) : Prop :=
  ∀ (pins : List (Addr × Obj)) (s : Shared) (σ : St) (H : Hp) (x : V) (v vl vu : Value) (lo hi : Option Int) (sl : Addr) (Q : VK), Inv X pins σ H s → RelV x v → s.heap.IsSliceOf sl vl vu .none → IsPart vl lo → IsPart vu hi → r x lo hi H Q →
    ∃ T id, typeLookup (.type T) "__getitem__" = pure (some (.builtin id)) ∧ s.TypeIs v T ∧ wpAny (model X.prog X.w) X.A (getItem v (.ref sl)) (EP X pins σ Q) X.xe s
def tSl (r : V → Option Int → Option Int → Hp → VK → Prop) (te : TE) (tl th : TO) : TE := fun σ H Q => te σ H fun x H1 => tl σ H1 fun l H2 => th σ H2 fun u H3 => r x l u H3 Q
/-- a[lo:hi], any a -/
theorem pe_slice {r : V → Option Int → Option Int → Hp → VK → Prop} (hr : SlR X r) (he : PE X e te) (hl : PO X lo tl) (hu : PO X hi th) : PE X (.Subscript e (.Slice lo hi none p2) pos) (tSl r te tl th) := by
  intro pins s σ H Q I h
  refine Subscript_ (thn (he pins s σ H _ I h) fun v s1 ⟨x, H1, I1, r1, q1⟩ => ?_)
  refine wpAny_Slice (thn (hl pins s1 σ H1 _ I1 q1) fun vl s2 ⟨l, H2, I2, pl, q2⟩ => thn (hu pins s2 σ H2 _ I2 q2) fun vu s3 ⟨u, H3, I3, pu, q3⟩ => ?_)
  rw [evalPart_none]
  refine wpAny_pure ?_
  have I4 : Inv X pins σ H3 { s3 with heap := s3.heap.push { cls := .type "slice", data := .fields #[vl, vu, .none] } } := I3.kept (t' := s3.toks) fun b ob q => Heap.get?_push_of_some _ q
  obtain ⟨T, id, hT, ht, hg⟩ := hr pins { s3 with heap := s3.heap.push { cls := .type "slice", data := .fields #[vl, vu, .none] } } σ H3 x v vl vu l u s3.heap.objs.size Q I4 r1 (Heap.IsSliceOf.new ..) pl pu q3
  show wpAny (model X.prog X.w) X.A (subscriptTail e (.Slice lo hi none p2) v (.ref s3.heap.objs.size)) (EP X pins σ Q) X.xe { s3 with heap := s3.heap.push { cls := .type "slice", data := .fields #[vl, vu, .none] } }
  exact tail_any (ops := [.ref s3.heap.objs.size, v]) ht hT hg (by with_unfolding_all rfl)

/-- the items of xs[lo:hi] -/
def cutV (xs : List V) (lo hi : Option Int) : List V := (xs.drop (HT.sIx xs.length 0 lo)).take (HT.sIx xs.length xs.length hi - HT.sIx xs.length 0 lo)
theorem cutV_length (xs : List V) (lo hi : Option Int) : (cutV xs lo hi).length ≤ xs.length := by
  unfold cutV
  rw [List.length_take, List.length_drop]
  omega
/-- t[lo:hi], not the whole of it (the whole would be t itself) -/
def rSlT (K : PySem.W.Frag) : V → Option Int → Option Int → Hp → VK → Prop := fun x lo hi H Q => ∃ a xs, x = .ref a ∧ SqT K H a xs ∧
  ¬ (HT.sIx xs.length 0 lo = 0 ∧ HT.sIx xs.length xs.length hi = xs.length) ∧ ∀ p, H p = none → Q (.ref p) (upd H p (.tup (cutV xs lo hi)))
theorem sl_tup : SlR X (rSlT X.K) := by
  intro pins s σ H x v vl vu lo hi sl Q I rx hs pl pu h
  obtain ⟨a, xs, rfl, hx, hw, q⟩ := h
  cases rx
  obtain ⟨its, r, ht, hz⟩ := I.tuple hx
  have hlen : its.toArray.size = xs.length := by rw [List.size_toArray]; exact r.length.symm
  refine ⟨"tuple", _, PyProof.Rows.slot_tuple_getitem.lookup, ht.typeIs, ?_⟩
  refine HT.getItem_tuple_cut ht hs pl pu (by rw [hlen]; exact hw) ?_ (by rw [hlen]; exact hz)
  rw [hlen]
  refine ⟨.ref s.heap.objs.size, _, I.laid (t' := s.toks) (o := .tup (cutV xs lo hi)) (fun b ob q => Heap.get?_push_of_some _ q) (Nat.le_refl _) ?_, rfl, q _ (I.hok.fresh (Nat.le_refl _))⟩
  exact ⟨Nat.le_trans (cutV_length xs lo hi) hz, _, (r.drop (HT.sIx xs.length 0 lo)).take (HT.sIx xs.length xs.length hi - HT.sIx xs.length 0 lo), IsTup.new _ _⟩

/-! ### t < u, t + u -/
/-- t + u, t not empty: u empty gives t itself -/
def rCatT (K : PySem.W.Frag) : R2 := fun x y H Q => ∃ a b xs ys, x = .ref a ∧ y = .ref b ∧ SqT K H a xs ∧ SqT K H b ys ∧ xs ≠ [] ∧ xs.length + ys.length ≤ sizeLine ∧
  (ys = [] → Q (.ref a) H) ∧ (ys ≠ [] → ∀ p, H p = none → Q (.ref p) (upd H p (.tup (xs ++ ys))))
theorem Vals.nil_iff {xs : List V} {us : List Value} (r : Vals xs us) : us = [] ↔ xs = [] := by
  cases r with
  | nil => simp
  | cons _ _ => simp
theorem op_catT : OpR X (binaryOp .Add) (rCatT X.K) := by
  intro pins s σ H x y v u Q I rx ry h
  obtain ⟨a, b, xs, ys, rfl, rfl, ha, hb, hx, hz, q1, q2⟩ := h
  cases rx
  cases ry
  obtain ⟨its, r1, p1, _⟩ := I.tuple ha
  obtain ⟨its2, r2, p2, _⟩ := I.tuple hb
  refine HT.cat_tup p1 p2 (fun z => hx (r1.nil_iff.mp z)) (fun z => ⟨.ref a, H, I, rfl, q1 (r2.nil_iff.mp z)⟩) (fun z => ?_) (by rw [← r1.length, ← r2.length]; exact hz)
  refine ⟨.ref s.heap.objs.size, _, I.laid (t' := s.toks) (o := .tup (xs ++ ys)) (fun b ob q => Heap.get?_push_of_some _ q) (Nat.le_refl _) ?_, rfl, q2 (fun w => z (r2.nil_iff.mpr w)) _ (I.hok.fresh (Nat.le_refl _))⟩
  exact ⟨by rw [List.length_append]; exact hz, _, r1.append r2, IsTup.new _ _⟩
end
end L2

namespace L2
open PySem PySem.Spec PyProof.Rows

/-! ### places -/
/-- the place that an index of any sign means -/
def ixN (n : Nat) (i : Int) : Option Nat := if 0 ≤ i then (if i < n then some i.toNat else none) else if -(n : Int) ≤ i then some (i + n).toNat else none
def atI {α : Type} (xs : List α) (i : Int) : Option α := (ixN xs.length i).bind fun j => xs[j]?
theorem ixN_seq {n : Nat} {i : Int} {j : Nat} (h : ixN n i = some j) : seqIndex? i n = some j ∧ j < n ∧ -(n : Int) ≤ i ∧ i < n := by
  unfold ixN at h
  by_cases h0 : 0 ≤ i
  · rw [if_pos h0] at h
    by_cases h1 : i < n
    · rw [if_pos h1] at h
      have e : i.toNat = j := Option.some.inj h
      exact ⟨by rw [seqIndex_of h0 h1, e], by omega, by omega, h1⟩
    · rw [if_neg h1] at h; cases h
  · rw [if_neg h0] at h
    by_cases h1 : -(n : Int) ≤ i
    · rw [if_pos h1] at h
      have e : (i + n).toNat = j := Option.some.inj h
      exact ⟨by rw [seqIndex_neg (by omega) h1, e], by omega, h1, by omega⟩
    · rw [if_neg h1] at h; cases h
theorem atI_get {α : Type} {xs : List α} {i : Int} {v : α} (h : atI xs i = some v) : ∃ j, seqIndex? i xs.length = some j ∧ xs[j]? = some v ∧ j < xs.length ∧ -(xs.length : Int) ≤ i ∧ i < xs.length := by
  unfold atI at h
  cases e : ixN xs.length i with
  | none => rw [e] at h; cases h
  | some j =>
    rw [e] at h
    obtain ⟨h1, h2, h3, h4⟩ := ixN_seq e
    exact ⟨j, h1, h, h2, h3, h4⟩
/-! ### what may be subscripted -/
/-- what stands as an index of a plain subscript -/
def PlainIx (b : Expr) : Prop := ∀ o i, subscripted b false o i = operate [o, i] (getItem o i)
/-- a subscript by values -/
def IxR (X : Cx) (r : R2) : Prop :=
  ∀ (value slice : Expr) (pins : List (Addr × Obj)) (s : Shared) (σ : St) (H : Hp) (x y : V) (v u : Value) (Q : VK), Inv X pins σ H s → RelV x v → RelV y u → r x y H Q →
    subscripted slice false v u = operate [v, u] (getItem v u) → wpAny (model X.prog X.w) X.A (subscriptTail value slice v u) (EP X pins σ Q) X.xe s
/-- a call of a builtin's method by values: the receiver, the arguments -/
def MtR (X : Cx) (id : String) (r : V → List V → Hp → VK → Prop) : Prop :=
  ∀ (pins : List (Addr × Obj)) (s : Shared) (σ : St) (H : Hp) (x : V) (xs : List V) (v : Value) (us : List Value) (Q : VK), Inv X pins σ H s → RelV x v → Vals xs us → r x xs H Q →
    wpAny (model X.prog X.w) X.A (call (.builtin id) (v :: us)) (EP X pins σ Q) X.xe s
section
variable {X : Cx} {a b : Expr} {ta tb : TE} {pos : Pos}
theorem IxR.or {r r' : R2} (h : IxR X r) (h' : IxR X r') : IxR X (fun x y H Q => r x y H Q ∨ r' x y H Q) := by
  intro value slice pins s σ H x y v u Q I rx ry q hs
  rcases q with q | q
  · exact h value slice pins s σ H x y v u Q I rx ry q hs
  · exact h' value slice pins s σ H x y v u Q I rx ry q hs
/-- a[b] -/
theorem pe_ix {r : R2} (hr : IxR X r) (ha : PE X a ta) (hb : PE X b tb) (hs : PlainIx b) : PE X (.Subscript a b pos) (tOp r ta tb) := by
  intro pins s σ H Q I h
  exact Subscript_ (binT ha hb I h fun v u s2 x y H2 I2 rx ry q => hr a b pins s2 σ H2 x y v u Q I2 rx ry q (hs _ _))

def rIxL (K : PySem.W.Frag) : R2 := fun x y H Q => ∃ p xs i v, x = .ref p ∧ y = .int i ∧ SqL K H p xs ∧ atI xs i = some v ∧ Q v H
def rIxT (K : PySem.W.Frag) : R2 := fun x y H Q => ∃ p xs i v, x = .ref p ∧ y = .int i ∧ SqT K H p xs ∧ atI xs i = some v ∧ Q v H
def rIxS : R2 := fun x y H Q => ∃ z i c, x = .str z ∧ y = .int i ∧ z.length ≤ sizeLine ∧ atI z.cps.toList i = some c ∧ Q (.str ⟨#[c]⟩) H
theorem ix_list : IxR X (rIxL X.K) := by
  intro value slice pins s σ H x y v u Q I rx ry h hs
  obtain ⟨p, xs, i, z, rfl, rfl, hq, he, q⟩ := h
  cases rx
  obtain ⟨t, rfl⟩ := ry
  obtain ⟨its, r, pl, hz⟩ := I.list hq
  obtain ⟨j, h1, h2, h3, h4, h5⟩ := atI_get he
  obtain ⟨w, ew, rw'⟩ := r.get h2
  have hl := r.length
  have hn := line63
  have fin : EP X pins σ Q w s := ⟨z, H, I, rw', q⟩
  by_cases h0 : 0 ≤ i
  · have hj : i.toNat = j := by
      rw [seqIndex_of h0 h5] at h1
      exact Option.some.inj h1
    exact item_listR pl.isList h0 (by omega) (by rw [hj]; simpa using ew) fin hs
  · have hj : (i + (its.toArray.size : Int)).toNat = j := by
      rw [seqIndex_neg (by omega) h4] at h1
      rw [List.size_toArray, ← hl]
      exact Option.some.inj h1
    exact subscriptTail_builtinR (x := w) pl.isList.typeIs slot_list_getitem.lookup
      (wpAny_getItem_list_neg (Q := fun r s' => r = w ∧ EP X pins σ Q r s') pl.isList (by omega) (by rw [List.size_toArray] <;> omega) (by omega) (by rw [hj]; simpa using ew) ⟨rfl, fin⟩) hs
theorem ix_tup : IxR X (rIxT X.K) := by
  intro value slice pins s σ H x y v u Q I rx ry h hs
  obtain ⟨p, xs, i, z, rfl, rfl, hq, he, q⟩ := h
  cases rx
  obtain ⟨t, rfl⟩ := ry
  obtain ⟨its, r, pl, hz⟩ := I.tuple hq
  obtain ⟨j, h1, h2, h3, h4, h5⟩ := atI_get he
  obtain ⟨w, ew, rw'⟩ := r.get h2
  have hl := r.length
  have hn := line63
  have fin : EP X pins σ Q w s := ⟨z, H, I, rw', q⟩
  exact subscriptTail_builtinR (x := w) pl.typeIs slot_tuple_getitem.lookup
    (getItem_tuple (j := j) (Q := fun r s' => r = w ∧ EP X pins σ Q r s') pl (by omega) (by omega) (by rw [List.size_toArray, ← hl]; exact h1) (by simpa using ew) ⟨rfl, fin⟩) hs
theorem ix_str : IxR X rIxS := by
  intro value slice pins s σ H x y v u Q I rx ry h hs
  obtain ⟨z, i, c, rfl, rfl, hz, he, q⟩ := h
  obtain ⟨t, rfl⟩ := rx
  obtain ⟨t', rfl⟩ := ry
  obtain ⟨j, h1, h2, h3, h4, h5⟩ := atI_get he
  have hl : z.cps.toList.length = z.length := by simp [Str.length]
  rw [hl] at h1 h4 h5
  have hn := line63
  exact tail_any (typeIs_str s z t) slot_str_getitem.lookup (getItem_str (c := c) (by
    have e1 : decide (i < -(2 ^ 63 : Int)) = false := decide_eq_false (by omega)
    have e2 : decide (i ≥ 2 ^ 63) = false := decide_eq_false (by omega)
    rw [e1, e2, Bool.or_false]) (by rw [h1]; simpa using h2) ⟨.str ⟨#[c]⟩, H, I.tok _, ⟨_, rfl⟩, q⟩) hs
/-! ### xs[i] = v, any sign -/
/-- the list's object behind a store -/
theorem mapSeq_set (its : List Value) (n j : Nat) (u : Value) : Obj.mapSeq (·.setIfInBounds j u) { cls := .type "list", data := .seq its.toArray n } = { cls := .type "list", data := .seq (its.set j u).toArray n } := by
  simp [Obj.mapSeq]
theorem Inv.lst {pins : List (Addr × Obj)} {σ : St} {H : Hp} {s : Shared} {p : Addr} {xs : List V} (I : Inv X pins σ H s) (h : H p = some (.lst xs)) :
    ∃ (its : List Value) (n : Nat), Vals xs its ∧ s.heap.get? p = some { cls := .type "list", data := .seq its.toArray n } ∧ xs.length ≤ sizeLine := by
  obtain ⟨z, its, n, r, e⟩ := I.hok p _ h
  exact ⟨its, n, r, e, z⟩
/-- the list at p is written by an update of its object -/
theorem Inv.lstUpd {pins : List (Addr × Obj)} {σ : St} {H : Hp} {s : Shared} {p : Addr} {xs ys : List V} {its its' : List Value} {n n' : Nat} {f : Obj → Obj} (I : Inv X pins σ H s) (h : H p = some (.lst xs))
    (ho : s.heap.get? p = some { cls := .type "list", data := .seq its.toArray n }) (hf : f { cls := .type "list", data := .seq its.toArray n } = { cls := .type "list", data := .seq its'.toArray n' }) (r : Vals ys its') (hz : ys.length ≤ sizeLine) (t : Nat) :
    Inv X pins σ (upd H p (.lst ys)) { s with heap := s.heap.update p f, toks := t } := by
  have e : (s.heap.update p f).get? p = some { cls := .type "list", data := .seq its'.toArray n' } := by
    rw [Heap.get?_update_self f ho (by rw [hf] <;> rfl), hf]
  refine I.write (x := p) (e := p) (by rw [h]; trivial) (.inl rfl) (fun b u hb q => (Heap.get?_update_other _ _ (Ne.symm hb)).trans q) ⟨_, e⟩ ?_
  exact ⟨hz, its', n', r, e⟩
def rSetL : V → V → V → Hp → (Hp → Prop) → Prop := fun o i v H Q => ∃ p xs k j, o = .ref p ∧ i = .int k ∧ H p = some (.lst xs) ∧ ixN xs.length k = some j ∧ Q (upd H p (.lst (xs.set j v)))
theorem set_list : PSet X rSetL := by
  intro pins s σ H o i v ov iv u Q I ro ri rv h
  obtain ⟨p, xs, k, j, rfl, rfl, hp, hj, q⟩ := h
  cases ro
  obtain ⟨t, rfl⟩ := ri
  obtain ⟨its, n, r, ho, hz⟩ := I.lst hp
  obtain ⟨h1, h2, h3, h4⟩ := ixN_seq hj
  have hl := r.length
  have hn := line63
  have I' : Inv X pins σ (upd H p (.lst (xs.set j v))) { s with heap := s.heap.update p (Obj.mapSeq (·.setIfInBounds j u)) } :=
    I.lstUpd hp ho (mapSeq_set its n j u) (r.set rv j) (by rw [List.length_set]; exact hz) s.toks
  by_cases h0 : 0 ≤ k
  · have hk : k.toNat = j := by
      rw [seqIndex_of h0 h4] at h1
      exact Option.some.inj h1
    exact PySem.W.ki_setAt ho h0 (by omega) (by rw [List.size_toArray, ← hl]; exact h4) (by rw [hk]; exact ⟨_, I', q⟩)
  · have hk : (k + (its.toArray.size : Int)).toNat = j := by
      rw [seqIndex_neg (by omega) h3] at h1
      rw [List.size_toArray, ← hl]
      exact Option.some.inj h1
    exact PySem.W.ki_setBack ho (by omega) (by rw [List.size_toArray, ← hl]; exact h3) (by omega) (by rw [hk]; exact ⟨_, I', q⟩)

/-! ### slices -/
theorem slice_bounds (lo hi : Option Int) (n : Nat) : (sliceBounds lo hi none n).1 = ((HT.sIx n 0 lo : Nat) : Int) ∧ (sliceBounds lo hi none n).2.1 = ((HT.sIx n n hi : Nat) : Int) ∧ (sliceBounds lo hi none n).2.2 = 1 := by
  refine ⟨?_, ?_, rfl⟩
  · cases lo with
    | none => simp [sliceBounds, HT.sIx]
    | some i =>
      simp only [sliceBounds, HT.sIx, Option.getD_none, show (1 : Int) > 0 by decide, if_true]
      by_cases h : i < 0
      · simp only [h, if_true] <;> omega
      · simp only [h, if_false] <;> omega
  · cases hi with
    | none => simp [sliceBounds, HT.sIx]
    | some i =>
      simp only [sliceBounds, HT.sIx, Option.getD_none, show (1 : Int) > 0 by decide, if_true]
      by_cases h : i < 0
      · simp only [h, if_true] <;> omega
      · simp only [h, if_false] <;> omega
theorem slicePick_cut (its : List Value) (lo hi : Option Int) : slicePick its.toArray lo hi none = ((its.drop (HT.sIx its.length 0 lo)).take (HT.sIx its.length its.length hi - HT.sIx its.length 0 lo)).toArray := by
  obtain ⟨h1, h2, h3⟩ := slice_bounds lo hi its.toArray.size
  unfold slicePick
  rw [h1, h2, h3]
  simp only [sliceRange_one, pick_run, List.size_toArray] <;> rfl
/-- xs[lo:hi] of a list: a new list -/
def rSlL (K : PySem.W.Frag) : V → Option Int → Option Int → Hp → VK → Prop := fun x lo hi H Q => ∃ a xs, x = .ref a ∧ SqL K H a xs ∧ ∀ p, H p = none → Q (.ref p) (upd H p (.lst (cutV xs lo hi)))
theorem sl_list : SlR X (rSlL X.K) := by
  intro pins s σ H x v vl vu lo hi sl Q I rx hs pl pu h
  obtain ⟨a, xs, rfl, hx, q⟩ := h
  cases rx
  obtain ⟨its, r, ht, hz⟩ := I.list hx
  have hlen := r.length
  refine ⟨"list", _, slot_list_getitem.lookup, ht.isList.typeIs, ?_⟩
  refine wpAny_getItem_list_slice ht.isList hs pl pu .none (by simp) ?_ (by rw [List.size_toArray] <;> omega)
  rw [slicePick_cut, ← hlen]
  refine ⟨.ref s.heap.objs.size, _, I.laid (t' := s.toks) (o := .lst (cutV xs lo hi)) (fun b ob q => Heap.get?_push_of_some _ q) (Nat.le_refl _) ?_, rfl, q _ (I.hok.fresh (Nat.le_refl _))⟩
  exact ⟨Nat.le_trans (cutV_length xs lo hi) hz, _, 0, (r.drop (HT.sIx xs.length 0 lo)).take (HT.sIx xs.length xs.length hi - HT.sIx xs.length 0 lo), Heap.get?_push_size _ rfl⟩

/-! ### in, not in: flat items -/
def flatV : V → Bool
  | .non => true
  | .bl _ => true
  | .int _ => true
  | .str _ => true
  | _ => false
/-- == of flat values -/
def eqV : V → V → Bool
  | .non, .non => true
  | .bl a, .bl b => a == b
  | .bl a, .int b => (if a then 1 else 0) == b
  | .int a, .bl b => a == (if b then 1 else 0)
  | .int a, .int b => a == b
  | .str a, .str b => a == b
  | _, _ => false
theorem eqAt_V {A : Around} {s : Shared} {y x : V} {u v : Value} (ry : RelV y u) (rx : RelV x v) (fy : flatV y = true) (fx : flatV x = true) : SeqAt.EqAt A s u v (eqV y x) := by
  cases y with
  | non =>
    cases ry
    cases x with
    | non => cases rx; exact SeqAt.EqAt.same _
    | bl b => cases rx; exact SeqAt.EqAt.none_bool b
    | int b => obtain ⟨t, rfl⟩ := rx; exact SeqAt.EqAt.none_int b t
    | str b => obtain ⟨t, rfl⟩ := rx; exact SeqAt.EqAt.none_str b t
    | _ => exact absurd (show false = true from fx) Bool.false_ne_true
  | bl a =>
    cases ry
    cases x with
    | non => cases rx; exact SeqAt.EqAt.bool_none a
    | bl b => cases rx; exact SeqAt.EqAt.bool_bool a b
    | int b => obtain ⟨t, rfl⟩ := rx; exact SeqAt.EqAt.bool_int a b t
    | str b => obtain ⟨t, rfl⟩ := rx; exact SeqAt.EqAt.bool_str a b t
    | _ => exact absurd (show false = true from fx) Bool.false_ne_true
  | int a =>
    obtain ⟨t', rfl⟩ := ry
    cases x with
    | non => cases rx; exact SeqAt.EqAt.int_none a t'
    | bl b => cases rx; exact SeqAt.EqAt.int_bool a t' b
    | int b => obtain ⟨t, rfl⟩ := rx; exact SeqAt.EqAt.int_int a t' b t
    | str b => obtain ⟨t, rfl⟩ := rx; exact SeqAt.EqAt.int_str a t' b t
    | _ => exact absurd (show false = true from fx) Bool.false_ne_true
  | str a =>
    obtain ⟨t', rfl⟩ := ry
    cases x with
    | non => cases rx; exact SeqAt.EqAt.str_none a t'
    | bl b => cases rx; exact SeqAt.EqAt.str_bool a t' b
    | int b => obtain ⟨t, rfl⟩ := rx; exact SeqAt.EqAt.str_int a t' b t
    | str b => obtain ⟨t, rfl⟩ := rx; exact SeqAt.EqAt.str_str a t' b t
    | _ => exact absurd (show false = true from fx) Bool.false_ne_true
  | _ => exact absurd (show false = true from fy) Bool.false_ne_true
/-- the items' answers, read off the values (a value's own answer does not lean on its token) -/
def eqU (x : V) (u : Value) : Bool := match u with
  | .none => eqV .non x
  | .bool b => eqV (.bl b) x
  | .int i _ => eqV (.int i) x
  | .str z _ => eqV (.str z) x
  | _ => false
theorem eqU_of {x y : V} {u : Value} (r : RelV y u) (f : flatV y = true) : eqU x u = eqV y x := by
  cases y with
  | non => cases r; rfl
  | bl b => cases r; rfl
  | int i => obtain ⟨t, rfl⟩ := r; rfl
  | str z => obtain ⟨t, rfl⟩ := r; rfl
  | _ => exact absurd (show false = true from f) Bool.false_ne_true
theorem any_eqU {x : V} : ∀ {xs : List V} {us : List Value}, Vals xs us → xs.all flatV = true → us.any (eqU x) = xs.any fun y => eqV y x
  | _, _, .nil, _ => rfl
  | y :: xs, u :: us, .cons r t, f => by
    rw [List.all_cons, Bool.and_eq_true] at f
    rw [List.any_cons, List.any_cons, eqU_of r f.1, any_eqU t f.2]
theorem mem_eqAt {A : Around} {s : Shared} {x : V} {v : Value} (rx : RelV x v) (fx : flatV x = true) : ∀ {xs : List V} {us : List Value}, Vals xs us → xs.all flatV = true → ∀ u ∈ us, SeqAt.EqAt A s u v (eqU x u)
  | _, _, .nil, _ => fun u hu => by cases hu
  | y :: xs, u :: us, .cons r t, f => fun u' hu => by
    rw [List.all_cons, Bool.and_eq_true] at f
    rcases List.mem_cons.mp hu with rfl | hu
    · rw [eqU_of r f.1]; exact eqAt_V r rx f.1 fx
    · exact mem_eqAt rx fx t f.2 u' hu
def inV (x : V) (xs : List V) : Bool := xs.any fun y => eqV y x
/-- x in a list or tuple of flat items -/
def rIn (K : PySem.W.Frag) (neg : Bool) : R2 := fun x y H Q => ∃ p xs, y = .ref p ∧ (SqL K H p xs ∨ SqT K H p xs) ∧ flatV x = true ∧ xs.all flatV = true ∧ Q (.bl (if neg then !inV x xs else inV x xs)) H
theorem op_in_seq : OpR X (compareOp .In) (rIn X.K false) := by
  intro pins s σ H x y v u Q I rx ry h
  obtain ⟨p, xs, rfl, hq, fx, fs, q⟩ := h
  cases ry
  rcases hq with hq | hq
  · obtain ⟨its, r, pl, hz⟩ := I.list hq
    refine SeqAt.in_listAt (eqU x) pl.isList (fun w hw => mem_eqAt rx fx r fs w (by simpa using hw)) ⟨.bl _, H, I, rfl, ?_⟩
    rw [show its.toArray.any (eqU x) = its.any (eqU x) by simp, any_eqU r fs]
    exact q
  · obtain ⟨its, r, pl, hz⟩ := I.tuple hq
    refine SeqAt.in_tupleAt (eqU x) pl (fun w hw => mem_eqAt rx fx r fs w (by simpa using hw)) ⟨.bl _, H, I, rfl, ?_⟩
    rw [show its.toArray.any (eqU x) = its.any (eqU x) by simp, any_eqU r fs]
    exact q
/-! ### len, list(x), tuple(x) of any list or tuple that is read -/
theorem call_list_of : CallR X (.type "list") (fun xs H Q => ∃ p ys, xs = [.ref p] ∧ (SqL X.K H p ys ∨ SqT X.K H p ys) ∧ ∀ l, H l = none → Q (.ref l) (upd H l (.lst ys))) := by
  intro pins s σ H xs us Q I r h
  obtain ⟨p, ys, rfl, hq, q⟩ := h
  obtain ⟨u, rfl, rx⟩ := vals1 r
  cases rx
  have fin : ∀ (its : List Value), Vals ys its → ys.length ≤ sizeLine → ∀ (h' : Heap) (c' : Nat), (∀ b o', s.heap.get? b = some o' → h'.get? b = some o') →
      h'.get? s.heap.objs.size = some { cls := .type "list", dict := none, data := .seq its.toArray c', slots := #[] } → EP X pins σ Q (.ref s.heap.objs.size) { s with heap := h' } := fun its r' hz h' c' kp e =>
    ⟨.ref s.heap.objs.size, _, I.laid (t' := s.toks) kp (Nat.le_refl _) (show ObjOk X.prog X.w _ h' _ (.lst ys) from ⟨hz, its, c', r', e⟩), rfl, q _ (I.hok.fresh (Nat.le_refl _))⟩
  rcases hq with hq | hq
  · obtain ⟨its, r', pl, hz⟩ := I.list hq
    have hlen := r'.length
    obtain ⟨o, ho, hc, n, hd⟩ := pl.isList
    exact call_list_seq p (.inl rfl) ho hc hd (fun h' c' kp e => fin its r' hz h' c' kp e) (by simp only [List.size_toArray] <;> omega)
  · obtain ⟨its, r', pl, hz⟩ := I.tuple hq
    have hlen := r'.length
    obtain ⟨o, ho, hc, n, hd⟩ := pl
    exact call_list_seq p (.inr rfl) ho hc hd (fun h' c' kp e => fin its r' hz h' c' kp e) (by simp only [List.size_toArray] <;> omega)
theorem call_tuple_of : CallR X (.type "tuple") (fun xs H Q => ∃ p ys, xs = [.ref p] ∧ ((SqL X.K H p ys ∧ ∀ l, H l = none → Q (.ref l) (upd H l (.tup ys))) ∨ (SqT X.K H p ys ∧ Q (.ref p) H))) := by
  intro pins s σ H xs us Q I r h
  obtain ⟨p, ys, rfl, h⟩ := h
  obtain ⟨u, rfl, rx⟩ := vals1 r
  cases rx
  rcases h with ⟨hq, q⟩ | ⟨hq, q⟩
  · obtain ⟨its, r', pl, hz⟩ := I.list hq
    have hlen := r'.length
    refine call_tuple_list pl.isList (fun h' kp => ?_) (by simp only [List.size_toArray] <;> omega)
    have I1 : Inv X pins σ H { s with heap := h' } := I.kept (t' := s.toks) kp
    have I2 : Inv X pins σ (upd H h'.objs.size (.tup ys)) { s with heap := h'.push { cls := .type "tuple", data := .seq its.toArray } } :=
      I1.laid (t' := s.toks) (fun b o e => Heap.get?_push_of_some _ e) (Nat.le_refl _) (show ObjOk X.prog X.w _ _ _ (.tup ys) from ⟨hz, its, r', IsTup.new _ _⟩)
    exact ⟨.ref h'.objs.size, _, I2, rfl, q _ (I1.hok.fresh (Nat.le_refl _))⟩
  · obtain ⟨its, r', pl, hz⟩ := I.tuple hq
    exact call_tuple_same pl ⟨.ref p, H, I, rfl, q⟩

/-! ### the call of a builtin's method: o.m(..) -/
/-- the value is of that builtin type -/
def tyV (K : PySem.W.Frag) (T : String) (x : V) (H : Hp) : Prop := match x with
  | .str _ => T = "str"
  | .int _ => T = "int"
  | .ref p => (T = "list" ∧ ∃ xs, SqL K H p xs) ∨ (T = "tuple" ∧ ∃ o, K.lookup p = some o ∧ o.cls = .type "tuple" ∧ o.dict = none) ∨
      (T = "dict" ∧ ((∃ kvs, H p = some (.dK kvs)) ∨ ∃ kvs, H p = some (.dT kvs))) ∨ (T = "set" ∧ ∃ S n, H p = some (.set S n))
  | _ => False
theorem tyV_is {pins : List (Addr × Obj)} {σ : St} {H : Hp} {s : Shared} {T : String} {x : V} {v : Value} (I : Inv X pins σ H s) (r : RelV x v) (ty : tyV X.K T x H) :
    s.TypeIs v T ∧ ∀ a, v = .ref a → ∃ ob, s.heap.get? a = some ob ∧ ob.dict = none := by
  cases x with
  | str z =>
    obtain ⟨t, rfl⟩ := r
    cases (show T = "str" from ty)
    exact ⟨typeIs_str s z t, fun _ e => nomatch e⟩
  | int i =>
    obtain ⟨t, rfl⟩ := r
    cases (show T = "int" from ty)
    exact ⟨typeIs_int s i t, fun _ e => nomatch e⟩
  | ref p =>
    cases r
    rcases ty with ⟨rfl, xs, hq⟩ | ⟨rfl, o, hk, hc, hd⟩ | ⟨rfl, hk⟩ | ⟨rfl, S, n, hk⟩
    · obtain ⟨its, _, pl, _⟩ := I.list hq
      refine ⟨pl.isList.typeIs, fun a e => ?_⟩
      cases e
      obtain ⟨o, n, e, c, hd, _⟩ := pl
      exact ⟨o, e, hd⟩
    · refine ⟨⟨o, I.kIn p o hk, hc⟩, fun a e => ?_⟩
      cases e
      exact ⟨o, I.kIn _ o hk, hd⟩
    · have z : ∃ o, s.heap.get? p = some o ∧ o.ExactDict := by
        rcases hk with ⟨kvs, hk⟩ | ⟨kvs, hk⟩
        · obtain ⟨_, _, _, _, o, _, _, e, ex, _⟩ := I.hok p _ hk
          exact ⟨o, e, ex⟩
        · obtain ⟨_, _, _, _, o, _, _, e, ex, _⟩ := I.hok p _ hk
          exact ⟨o, e, ex⟩
      obtain ⟨o, e, ex⟩ := z
      refine ⟨⟨o, e, ex.1⟩, fun a e2 => ?_⟩
      cases e2
      exact ⟨o, e, ex.2.1⟩
    · obtain ⟨o, _, _, _, e, ex, _⟩ := I.hok p _ hk
      refine ⟨⟨o, e, ex.1⟩, fun a e2 => ?_⟩
      cases e2
      exact ⟨o, e, ex.2.1⟩
  | _ => exact False.elim ty
def tBM (K : PySem.W.Frag) (T : String) (r : V → List V → Hp → VK → Prop) (to : TE) (t : TA) : TE := fun σ H Q => to σ H fun x H1 => tyV K T x H1 ∧ t σ H1 fun xs H2 => r x xs H2 Q
variable {o e : Expr} {es : List Expr} {to : TE} {t : TA} {name : Str} {apos cpos : Pos} {T id : String} {r : V → List V → Hp → VK → Prop}
theorem pe_bm (pa : PlainAttrs T) (slot : Slot T name id) (hty : typeOf (.builtin id) = pure (.type "method_descriptor")) (hm : MtR X id r) (ho : PE X o to) (ha : PA X (e :: es) t)
    (hbase : attributeBase o name X.env (eval o X.env) = eval o X.env := by rfl)
    (hfew : ((backTo cpos (starEach (e :: es) X.env)).all (fun x => !x.1) && (backToKw cpos (keywordEach [] X.env)).all (fun x => x.1.isSome)
      && decide ((e :: es).length + ([] : List Keyword).length + (if ([] : List Keyword).isEmpty then 0 else 1) < 30)) = true := by rfl)
    (hline : (apos.endLine == cpos.line) = true := by rfl) (hs : starEach (e :: es) X.env = (false, eval e X.env) :: starEach es X.env := by rfl) (hplain : (backTo cpos (starEach es X.env)).any (·.1) = false := by rfl) :
    PE X (.Call (.Attribute o name apos) (e :: es) [] cpos) (tBM X.K T r to t) := by
  intro pins s σ H Q I h
  refine wpAny_Call_method_late hbase hfew hline rfl (thn (ho pins s σ H _ I h) fun v s1 ⟨x, H1, I1, r1, ty, q1⟩ => ?_)
  obtain ⟨h1, h2⟩ := tyV_is I1 r1 ty
  refine ⟨T, id, pa, slot, hty, h1, h2, ?_⟩
  have hA := ha cpos pins s1 σ H1 _ I1 q1
  rw [hs] at hA ⊢
  refine Calls.callWith_builtin (by show (false || (backTo cpos (starEach es X.env)).any (·.1)) = false; rw [hplain] <;> rfl) (Calls.evalArgs_plain ?_)
  exact thn hA fun us s2 ⟨vs, H2, I2, r2, q2⟩ => hm pins s2 σ H2 x vs v us Q I2 r1 r2 q2
/- xs.append(e), list.index on a module's tuple .. are MtR facts of 06m -/
end
end L2

namespace L2
open PySem PySem.Spec PyProof.Rows

def MtM (X : Cx) (id : String) (r : V → List V → Hp → VK → Prop) : Prop :=
  ∀ (pins : List (Addr × Obj)) (s : Shared) (σ : St) (H : Hp) (x : V) (xs : List V) (v : Value) (us : List Value) (Q : VK), Inv X pins σ H s → RelV x v → Vals xs us → r x xs H Q →
    wpAny (model X.prog X.w) X.A (call (.builtin id) (v :: us)) (EP X pins σ Q) X.xe s

/-! ### lists of values -/
theorem Vals.one : ∀ {x : V} {us : List Value}, Vals [x] us → ∃ u, us = [u] ∧ RelV x u
  | _, _, .cons r .nil => ⟨_, rfl, r⟩
theorem Vals.rep {xs : List V} {us : List Value} (h : Vals xs us) : ∀ k : Nat, Vals (List.replicate k xs).flatten (List.replicate k us).flatten
  | 0 => .nil
  | k + 1 => by
    rw [List.replicate_succ, List.replicate_succ, List.flatten_cons, List.flatten_cons]
    exact Vals.append h (Vals.rep h k)
theorem foldl_rep (its : List Value) : ∀ (k : Nat) (acc : List Value),
    List.foldl (fun x1 x2 => x1 ++ x2) acc.toArray (List.replicate k its.toArray) = (acc ++ (List.replicate k its).flatten).toArray
  | 0, acc => by simp
  | k + 1, acc => by
    have e : acc.toArray ++ its.toArray = (acc ++ its).toArray := by simp
    have e2 : (acc ++ its) ++ (List.replicate k its).flatten = acc ++ (List.replicate (k + 1) its).flatten := by
      rw [List.replicate_succ, List.flatten_cons, List.append_assoc]
    rw [← e2, ← foldl_rep its k (acc ++ its), ← e, List.replicate_succ, List.foldl_cons]

section
variable {X : Cx} {pins : List (Addr × Obj)} {σ : St} {H : Hp} {s : Shared} {l b : Addr} {xs ys zs : List V}

/-! ### the two steps: a tracked list is rewritten, a new list is laid -/
theorem Inv.lset {its its' : List Value} {n : Nat} {f : Array Value → Array Value} {t' : Nat} (I : Inv X pins σ H s) (hH : H l = some (.lst xs))
    (e : s.heap.get? l = some { cls := .type "list", data := .seq its.toArray n }) (hf : f its.toArray = its'.toArray) (hv : Vals ys its') (hz : ys.length ≤ sizeLine) :
    Inv X pins σ (upd H l (.lst ys)) { s with heap := s.heap.update l (Obj.mapSeq f), toks := t' } := by
  have q := PySem.IsL.update e f
  rw [hf] at q
  refine I.write (x := l) (e := l) (by rw [hH]; exact trivial) (.inl rfl) (fun b' u hb hu => (Heap.get?_update_other s.heap (Obj.mapSeq f) (Ne.symm hb)).trans hu) ⟨_, q⟩ ?_
  exact ⟨hz, its', _, hv, q⟩
theorem Inv.lnew {its : List Value} {t' : Nat} (I : Inv X pins σ H s) (hv : Vals ys its) (hz : ys.length ≤ sizeLine) :
    Inv X pins σ (upd H s.heap.objs.size (.lst ys)) { s with heap := s.heap.push { cls := .type "list", data := .seq its.toArray }, toks := t' } :=
  I.laid (fun _ _ q => Heap.get?_push_of_some _ q) (Nat.le_refl _) ⟨hz, its, 0, hv, Heap.get?_push_size _ rfl⟩
theorem Inv.fresh (I : Inv X pins σ H s) : H s.heap.objs.size = none := I.hok.fresh (Nat.le_refl _)
theorem Inv.lstM (I : Inv X pins σ H s) (hH : H l = some (.lst xs)) : xs.length ≤ sizeLine ∧ ∃ (its : List Value) (n : Nat), Vals xs its ∧ xs.length = its.length ∧ s.heap.get? l = some { cls := .type "list", data := .seq its.toArray n } := by
  obtain ⟨z, its, n, r, e⟩ := I.hok l _ hH
  exact ⟨z, its, n, r, r.length, e⟩

theorem notLongL {n : Nat} (h : n ≤ sizeLine) : Builtin.List.listTooLong n = false := by
  unfold Builtin.List.listTooLong
  exact decide_eq_false (by omega)
end

section
variable {X : Cx}

/-! ### methods -/
def rAppend : V → List V → Hp → VK → Prop := fun x vs H Q => ∃ l xs y, x = .ref l ∧ vs = [y] ∧ H l = some (.lst xs) ∧ xs.length < sizeLine ∧ Q .non (upd H l (.lst (xs ++ [y])))
theorem mt_append : MtM X "list.append" rAppend := by
  intro pins s σ H x vs v us Q I rx rv h
  obtain ⟨l, xs, y, rfl, rfl, hH, hz, q⟩ := h
  cases rx
  obtain ⟨u, rfl, ru⟩ := rv.one
  obtain ⟨z, its, n, r, hl, e⟩ := I.lstM hH
  refine call_meets F.slot_list_append ⟨_, e, rfl⟩ F.entry_list_append (F.args_list_append_2 _ _) (PySem.list_append l its.toArray n u (by rw [List.size_toArray]; omega)) ⟨e, ?_⟩
  refine ⟨.non, _, I.lset (its' := its ++ [u]) hH e (by simp) (r.append (.cons ru .nil)) ?_, rfl, q⟩
  rw [List.length_append, List.length_singleton]
  omega

def rExtend : V → List V → Hp → VK → Prop := fun x vs H Q => ∃ l b xs zs, x = .ref l ∧ vs = [.ref b] ∧ H l = some (.lst xs) ∧ H b = some (.lst zs) ∧ xs.length + zs.length ≤ sizeLine ∧ Q .non (upd H l (.lst (xs ++ zs)))
theorem mt_extend : MtM X "list.extend" rExtend := by
  intro pins s σ H x vs v us Q I rx rv h
  obtain ⟨l, b, xs, zs, rfl, rfl, hH, hB, hz, q⟩ := h
  cases rx
  obtain ⟨u, rfl, ru⟩ := rv.one
  cases ru
  obtain ⟨z, its, n, r, hl, e⟩ := I.lstM hH
  obtain ⟨z2, its2, n2, r2, hl2, e2⟩ := I.lstM hB
  have hsz : its.toArray.size + its2.toArray.size ≤ sizeLine := by rw [List.size_toArray, List.size_toArray]; omega
  have hlong : ¬ (!its.toArray.isEmpty && Builtin.List.listTooLong (its.toArray.size + its2.toArray.size)) = true := by
    rw [notLongL hsz, Bool.and_false]
    exact Bool.false_ne_true
  refine call_meets F.slot_list_extend ⟨_, e, rfl⟩ F.entry_list_extend (F.args_list_extend_2 _ _)
    (AutoSeq1.list_extend_list_list_0 l its.toArray n b its2.toArray n2 hlong (by rw [List.size_toArray]; omega) (by omega)) ⟨e, e2, ?_⟩
  refine ⟨.non, _, I.lset (its' := its ++ its2) hH e (by simp) (r.append r2) ?_, rfl, q⟩
  rw [List.length_append]
  omega

/-! ### list + list, list += list, list * int -/
def rCat : R2 := fun x y H Q => ∃ l b xs zs, x = .ref l ∧ y = .ref b ∧ H l = some (.lst xs) ∧ H b = some (.lst zs) ∧ xs.length + zs.length ≤ sizeLine ∧ ∀ p, H p = none → Q (.ref p) (upd H p (.lst (xs ++ zs)))
theorem op_cat : OpR X (binaryOp .Add) rCat := by
  intro pins s σ H x y v u Q I rx ry h
  obtain ⟨l, b, xs, zs, rfl, rfl, hH, hB, hz, q⟩ := h
  cases rx
  cases ry
  obtain ⟨z, its, n, r, hl, e⟩ := I.lstM hH
  obtain ⟨z2, its2, n2, r2, hl2, e2⟩ := I.lstM hB
  refine PySem.P.add_list e e2 ?_ (by rw [List.size_toArray, List.size_toArray]; omega)
  have ea : its.toArray ++ its2.toArray = (its ++ its2).toArray := by simp
  rw [ea]
  exact ⟨.ref _, _, I.lnew (t' := s.toks) (r.append r2) (by rw [List.length_append]; omega), rfl, q _ I.fresh⟩
/-- a list times an int (a negative one is nothing) -/
def rRep : R2 := fun x y H Q => ∃ l k xs, x = .ref l ∧ y = .int k ∧ H l = some (.lst xs) ∧ -(2 ^ 63) ≤ k ∧ k < 2 ^ 63 ∧ xs.length * k.toNat ≤ sizeLine ∧
  ∀ p, H p = none → Q (.ref p) (upd H p (.lst (List.replicate k.toNat xs).flatten))
theorem len_rep {α : Type} (xs : List α) (k : Nat) : (List.replicate k xs).flatten.length = k * xs.length := by
  induction k with
  | zero => simp
  | succ k ih => rw [List.replicate_succ, List.flatten_cons, List.length_append, ih, Nat.succ_mul, Nat.add_comm]
theorem op_rep : OpR X (binaryOp .Mult) rRep := by
  intro pins s σ H x y v u Q I rx ry h
  obtain ⟨l, k, xs, rfl, rfl, hH, h1, h2, hz, q⟩ := h
  cases rx
  obtain ⟨t, rfl⟩ := ry
  obtain ⟨z, its, n, r, hl, e⟩ := I.lstM hH
  have hlen : its.toArray.size * k.toNat ≤ sizeLine := by rw [List.size_toArray, ← hl]; exact hz
  have hcap : ¬ its.toArray.size * k.toNat > (2 ^ 63 - 1) / 8 := by
    have : (sizeLine : Nat) ≤ (2 ^ 63 - 1) / 8 := by decide
    omega
  have hfit : ¬ (!Builtin.List.listFitsIndex k) = true := by
    rw [fitsIndex_both h1 h2]
    exact Bool.false_ne_true
  have hlong : ¬ Builtin.List.listTooLong (its.toArray.size * k.toNat) = true := by
    rw [notLongL hlen]
    exact Bool.false_ne_true
  have hnew : List.foldl (fun x1 x2 => x1 ++ x2) #[] (List.replicate (if its.toArray.isEmpty = true then 0 else k.toNat) its.toArray) = (List.replicate k.toNat its).flatten.toArray := by
    have f0 : ∀ m : Nat, List.foldl (fun x1 x2 => x1 ++ x2) #[] (List.replicate m its.toArray) = (List.replicate m its).flatten.toArray := fun m => by
      have := foldl_rep its m []
      rw [List.nil_append] at this
      exact this
    rw [f0]
    cases its with
    | nil => simp
    | cons a r' => rw [if_neg (by simp)]
  refine wpAny_binaryOp_repeat_ref (T := "list") (U := "int") (by decide) ⟨_, e, rfl⟩ (fun s' => typeIs_int s' k t) noFill_list_mul F.fills_int_mul F.slot_int_rmul repeat_list F.slot_int_index.lookup
    (call_meets F.slot_int_rmul (typeIs_int s k t) F.entry_int_rmul (F.args_int_rmul_2 _ _) (int___rmul___int_list k t l its.toArray n)
      ⟨e, rfl, ⟨_, e, rfl⟩, call_meets F.slot_list_mul ⟨_, e, rfl⟩ F.entry_list_mul (F.args_list_mul_2 _ _) (AutoListH.list___mul___list_int_3 l its.toArray n k t hfit hcap hlong) ⟨e, ?_⟩⟩)
  rw [hnew]
  exact ⟨.ref _, _, I.lnew (t' := s.toks) (r.rep k.toNat) (by rw [len_rep, Nat.mul_comm]; exact hz), rfl, q _ I.fresh⟩

/-! ### del xs[i] -/
end

/-! ### xs[a:b] = ys -/
section
variable {prog : Program} {w : World} {A : Around} {E : Value → Shared → Prop} {s : Shared}
set_option maxRecDepth 100000 in
end

section
variable {X : Cx}
end
end L2

namespace L2
open PySem PySem.Spec PyProof.Rows

/-! ### lists of pairs as tables -/
section
variable {κ : Type} [DecidableEq κ]
def valV (kvs : List (κ × V)) (k : κ) : Option V := (kvs.find? fun kv => decide (kv.1 = k)).map (·.2)
/-- in its place, or at the end -/
def putK (kvs : List (κ × V)) (k : κ) (v : V) : List (κ × V) :=
  if (kvs.any fun kv => decide (kv.1 = k)) = true then kvs.map (fun kv => if kv.1 = k then (kv.1, v) else kv) else kvs ++ [(k, v)]
theorem valV_pos {p : κ × V} {r : List (κ × V)} {k : κ} (e : p.1 = k) : valV (p :: r) k = some p.2 := by simp [valV, List.find?_cons, e]
theorem valV_neg {p : κ × V} {r : List (κ × V)} {k : κ} (e : ¬ p.1 = k) : valV (p :: r) k = valV r k := by simp [valV, List.find?_cons, e]
theorem valV_any (k : κ) : ∀ kvs : List (κ × V), (kvs.any fun kv => decide (kv.1 = k)) = (valV kvs k).isSome
  | [] => rfl
  | p :: r => by
    rw [List.any_cons]
    by_cases e : p.1 = k
    · simp only [valV_pos e, decide_eq_true e, Bool.true_or, Option.isSome_some]
    · rw [valV_neg e, decide_eq_false e, Bool.false_or]; exact valV_any k r
theorem length_putK (kvs : List (κ × V)) (k : κ) (v : V) : (putK kvs k v).length ≤ kvs.length + 1 := by
  unfold putK
  split
  · rw [List.length_map]; omega
  · rw [List.length_append, List.length_cons, List.length_nil]; omega
theorem putK_new {kvs : List (κ × V)} {k : κ} (v : V) (h : valV kvs k = none) : putK kvs k v = kvs ++ [(k, v)] := by
  unfold putK
  rw [valV_any, h]
  exact if_neg (by decide)

theorem RelO.getD {o : Option V} {u : Option Value} {d : V} {d' : Value} (r : RelO o u) (rd : RelV d d') : RelV (o.getD d) (u.getD d') := by
  cases o with
  | none => cases u with
    | none => exact rd
    | some _ => exact (show False from r).elim
  | some _ => cases u with
    | none => exact (show False from r).elim
    | some _ => exact r

/-- raw tables of the same keys -/
theorem KV.val {kvs : List (κ × V)} {vs : List (κ × Value)} (r : KV kvs vs) (k : κ) : RelO (valV kvs k) (valueAt vs k) := by
  unfold KV at r
  induction r with
  | nil => exact True.intro
  | @cons p q ps qs h t ih =>
    obtain ⟨h1, h2⟩ := h
    by_cases e : p.1 = k
    · have e' : q.1 = k := h1.symm.trans e
      have b : valueAt (q :: qs) k = some q.2 := by simp [valueAt, List.find?_cons, e']
      rw [valV_pos e, b]; exact h2
    · have e' : ¬ q.1 = k := fun z => e (h1.trans z)
      have b : valueAt (q :: qs) k = valueAt qs k := by simp [valueAt, List.find?_cons, e']
      rw [valV_neg e, b]; exact ih
theorem KV.any {kvs : List (κ × V)} {vs : List (κ × Value)} (r : KV kvs vs) (k : κ) : (kvs.any fun kv => decide (kv.1 = k)) = vs.any fun kv => decide (kv.1 = k) := by
  unfold KV at r
  induction r with
  | nil => rfl
  | cons h t ih => rw [List.any_cons, List.any_cons, ih, h.1]
theorem KV.repl {kvs : List (κ × V)} {vs : List (κ × Value)} (r : KV kvs vs) (k : κ) {y : V} {u : Value} (ry : RelV y u) :
    KV (kvs.map fun kv => if kv.1 = k then (kv.1, y) else kv) (vs.map fun kv => if kv.1 = k then (kv.1, u) else kv) := by
  unfold KV at r ⊢
  induction r with
  | nil => exact .nil
  | @cons p q ps qs h t ih =>
    rw [List.map_cons, List.map_cons]
    refine .cons ?_ ih
    obtain ⟨h1, h2⟩ := h
    by_cases e : p.1 = k
    · rw [if_pos e, if_pos (h1.symm.trans e)]; exact ⟨h1, ry⟩
    · rw [if_neg e, if_neg (fun z => e (h1.trans z))]; exact ⟨h1, h2⟩
theorem KV.put {kvs : List (κ × V)} {vs : List (κ × Value)} (r : KV kvs vs) (k : κ) {y : V} {u : Value} (ry : RelV y u) : KV (putK kvs k y) (stored vs k u) := by
  unfold putK stored
  rw [r.any k]
  by_cases e : (vs.any fun kv => decide (kv.1 = k)) = true
  · rw [if_pos e, if_pos e]; exact r.repl k ry
  · rw [if_neg e, if_neg e]; exact Paired.snoc r ⟨rfl, ry⟩
end


/-! ### a tracked dict, its keys ints and texts or tuples of these -/
theorem kV_is {P : Program} {w : World} {k : Key} {u : Value} (r : RelV (kV k) u) : (mixKind P w).is k u = true := by
  cases k with
  | inl i => obtain ⟨t, e⟩ := (show ∃ t, u = Value.int i t from r); subst e; exact mixKind_int P w i t
  | inr x => obtain ⟨t, e⟩ := (show ∃ t, u = Value.str x t from r); subst e; exact mixKind_str P w x t
theorem items_are {P : Program} {w : World} : ∀ {ks : List Key} {us : List Value}, Vals (ks.map kV) us → ItemsAre (mixKind P w) ks us
  | [], _, r => by rw [List.map_nil] at r; cases r; exact .nil
  | k :: ks, _, r => by
    rw [List.map_cons] at r
    cases r with
    | cons h t => exact .cons (kV_is h) (items_are t)

/-- raw entries of a dict with tuple keys -/
abbrev KT (H : Hp) : List (List Key × V) → List (List Key × Addr × Value) → Prop := Paired fun p q => p.1 = q.1 ∧ H q.2.1 = some (.tup (p.1.map kV)) ∧ RelV p.2 q.2.2
theorem KT.val {H : Hp} {kvs : List (List Key × V)} {xs : List (List Key × Addr × Value)} (r : KT H kvs xs) (k : List Key) : RelO (valV kvs k) ((atKey xs k).map (·.2)) := by
  induction r with
  | nil => exact True.intro
  | @cons p q ps qs h t ih =>
    obtain ⟨h1, _, h2⟩ := h
    by_cases e : p.1 = k
    · have e' : q.1 = k := h1.symm.trans e
      have b : atKey (q :: qs) k = some q.2 := by simp [atKey, List.find?_cons, e']
      rw [valV_pos e, b]; exact h2
    · have e' : ¬ q.1 = k := fun z => e (h1.trans z)
      have b : atKey (q :: qs) k = atKey qs k := by simp [atKey, List.find?_cons, e']
      rw [valV_neg e, b]; exact ih
section
variable {P : Program} {w : World} {H : Hp} {h : Heap} {a : Addr}
theorem rd_of {u : HO} (ok : HOk P w H h) (e : Rd H a u) : ObjOk P w H h a u := e.ok ok
theorem dk_rd {kvs : List (Key × V)} (ok : HOk P w H h) (e : Rd H a (.dK kvs)) : kvs.length ≤ sizeLine ∧ (a == sysModules) = false ∧ ∃ vs, KV kvs vs ∧ h.DictOf (mixKind P w) a vs :=
  show ObjOk P w H h a (.dK kvs) from rd_of ok e
theorem dk_of {kvs : List (Key × V)} (ok : HOk P w H h) (e : H a = some (.dK kvs)) : kvs.length ≤ sizeLine ∧ (a == sysModules) = false ∧ ∃ vs, KV kvs vs ∧ h.DictOf (mixKind P w) a vs := dk_rd ok (.inl e)
/-- a tracked tuple of ints and texts is a key -/
theorem key_of {ks : List Key} (ok : HOk P w H h) (e : H a = some (.tup (ks.map kV))) : (tupleKind (mixKind P w)).is h ks a := by
  obtain ⟨_, its, r, o, h1, h2, n, h3⟩ := (show ObjOk P w H h a (.tup (ks.map kV)) from ok a _ e)
  exact ⟨o, its.toArray, n, h1, h2, h3, by simpa using items_are r⟩
theorem dt_rd {kvs : List (List Key × V)} (ok : HOk P w H h) (e : Rd H a (.dT kvs)) : kvs.length ≤ sizeLine ∧ (a == sysModules) = false ∧
    ∃ xs, KT H kvs xs ∧ h.DictOfH (tupleKind (mixKind P w)) a xs := by
  obtain ⟨z, y, xs, r, o, es, ep, h1, h2, h3, h4, h5⟩ := (show ObjOk P w H h a (.dT kvs) from rd_of ok e)
  refine ⟨z, y, xs, r, o, es, ep, h1, h2, h3, h4, fun x hx => ?_, h5⟩
  have all : ∀ {l : List (List Key × V)} {m : List (List Key × Addr × Value)}, KT H l m → ∀ x ∈ m, (tupleKind (mixKind P w)).is h x.1 x.2.1 := by
    intro l m q
    induction q with
    | nil => intro x hx; exact nomatch hx
    | @cons p q ps qs hq t ih =>
      intro x hx
      rcases List.mem_cons.mp hx with e | hx
      · subst e
        exact key_of ok (by rw [← hq.1]; exact hq.2.1)
      · exact ih x hx
  exact all r x hx
end

/-- what the dict at a holds at the key y -/
def DGet (H : Hp) (a : Addr) (y : V) (r : Option V) : Prop :=
  (∃ kvs k, Rd H a (.dK kvs) ∧ y = kV k ∧ r = valV kvs k) ∨ ∃ kvs k b, Rd H a (.dT kvs) ∧ y = .ref b ∧ H b = some (.tup (k.map kV)) ∧ r = valV kvs k
theorem DGet.k {H : Hp} {a : Addr} {kvs : List (Key × V)} {k : Key} (e : H a = some (.dK kvs)) : DGet H a (kV k) (valV kvs k) := .inl ⟨kvs, k, .inl e, rfl, rfl⟩
section
variable {X : Cx} {pins : List (Addr × Obj)} {σ : St} {H : Hp} {s : Shared} {a : Addr} {y v : V} {u r : Value} {o : Option V} {A : Around} {E : Value → Shared → Prop}

theorem Inv.big (I : Inv X pins σ H s) : sysModules < s.heap.objs.size := by
  have h : mainGlobals < s.heap.objs.size := (I.mod.glob.keeps I.bk).lt
  exact Nat.lt_trans (by decide) h

/-- d[y], there -/
theorem d_getItem {Q : Value → Shared → Prop} (hu : A.units + 1 < cLine) (I : Inv X pins σ H s) (g : DGet H a y (some v)) (ry : RelV y u) (h : ∀ w' s', Inv X pins σ H s' → RelV v w' → Q w' s') :
    wpAny (model X.prog X.w) A (getItem (.ref a) u) Q E s := by
  rcases g with ⟨kvs, k, e, ey, l⟩ | ⟨kvs, k, b, e, ey, eb, l⟩
  · subst ey
    obtain ⟨z, hd, vs, rel, dd⟩ := dk_rd I.hok e
    obtain ⟨w', hw, rw'⟩ := RelO.some_of (v := v) (o := valueAt vs k) (by rw [l]; exact rel.val k)
    exact wpAny_getItem_of (kV_is ry) dd.mapOf hw (h w' _ (I.tok _) rw')
  · subst ey
    cases (show u = Value.ref b from ry)
    obtain ⟨z, hd, xs, rel, dd⟩ := dt_rd I.hok e
    obtain ⟨w', hw, rw'⟩ := RelO.some_of (v := v) (o := (atKey xs k).map (·.2)) (by rw [l]; exact rel.val k)
    obtain ⟨p, hp, hp2⟩ := Option.map_eq_some_iff.mp hw
    refine wpAny_getItem_heap (tupleKind_room_in1 hu) (key_of I.hok eb) dd hp ?_
    rw [hp2]
    exact h w' _ (I.tok _) rw'
/-- a dict's object is replaced -/
theorem d_write {h' : Heap} {t' : Nat} {ob : HO} (I : Inv X pins σ H s) (mu : Mut (H a)) (hs : Heap.SameBut a s.heap h') (he : ∃ q, h'.get? a = some q) (new : ObjOk X.prog X.w (upd H a ob) h' a ob) :
    Inv X pins σ (upd H a ob) { s with heap := h', toks := t' } :=
  I.write (x := a) (e := a) mu (.inl rfl) (fun b q hb z => (hs.2 b hb).trans z) he new
theorem dk_new {P : Program} {w : World} {H' : Hp} {h' : Heap} {kvs : List (Key × V)} {vs : List (Key × Value)} (z : kvs.length ≤ sizeLine) (hd : (a == sysModules) = false) (rel : KV kvs vs) (dd : h'.DictOf (mixKind P w) a vs) :
    ObjOk P w H' h' a (.dK kvs) := ⟨z, hd, vs, rel, dd⟩
end

section
variable {X : Cx} {pins : List (Addr × Obj)} {σ : St} {H : Hp} {s : Shared} {a : Addr} {kvs : List (Key × V)} {k : Key} {u : Value} {A : Around} {E : Value → Shared → Prop}
end


/-! ### readings and rules -/
/-- the element of a subscription, not a slice -/
def NoSl (i : Expr) : Prop := ∀ ov iv, subscripted i false ov iv = operate [ov, iv] (getItem ov iv)
theorem subD_of {prog : Program} {w : World} {A : Around} {E : Value → Shared → Prop} {s : Shared} {env : Env} {value slice : Expr} {pos : Pos} {T id : String} {Q : Value → Shared → Prop}
    (hl : typeLookup (.type T) "__getitem__" = pure (some (.builtin id))) (hs : NoSl slice)
    (h : wpAny (model prog w) A (eval value env) (fun o s₁ => wpAny (model prog w) A (eval slice env) (fun i s₂ => s₂.TypeIs o T ∧ wpAny (model prog w) A (getItem o i) Q E s₂) E s₁) E s) :
    wpAny (model prog w) A (eval (.Subscript value slice pos) env) Q E s := by
  refine Subscript_ (wpAny_mono h (fun o s₁ h₁ => wpAny_mono h₁ (fun i s₂ h₂ => ?_) fun _ _ x => x) fun _ _ x => x)
  obtain ⟨hT, h₂⟩ := h₂
  unfold subscriptTail
  refine wpAny_bind ?_
  rw [getitemInPython_of_ne hT.not_modules]
  refine wpAny_bind (wpAny_specialOf hT hl ?_)
  have fin : wpAny (model prog w) A (subscripted slice false o i) (fun r s₃ => wpAny (model prog w) A (letTemporaryGo value o r >>= fun _ => pure r) Q E s₃) E s₂ := by
    rw [hs o i]
    exact wpAny_operating (wpAny_mono h₂ (fun r s₃ h₃ => wpAny_bind (wpAny_letTemporaryGo (wpAny_pure h₃))) fun _ _ x => x)
  first
    | exact wpAny_pure (wpAny_bind fin)
    | exact wpAny_bind (wpAny_pure (wpAny_bind fin))
    | exact wpAny_bind fin

theorem dict_typeIs {X : Cx} {pins : List (Addr × Obj)} {σ : St} {H : Hp} {s : Shared} {a : Addr} {y : V} {o : Option V} (I : Inv X pins σ H s) (g : DGet H a y o) : s.TypeIs (.ref a) "dict" := by
  rcases g with ⟨kvs, k, e, _, _⟩ | ⟨kvs, k, b, e, _, _, _⟩
  · obtain ⟨_, _, vs, _, dd⟩ := dk_rd I.hok e
    exact dd.typeIs
  · obtain ⟨_, _, xs, _, dd⟩ := dt_rd I.hok e
    exact dd.typeIs
/-- d[y] -/
def tDGet (td ty : TE) : TE := fun σ H Q => td σ H fun x H1 => ty σ H1 fun y H2 => ∃ a v, x = .ref a ∧ DGet H2 a y (some v) ∧ Q v H2
section
variable {X : Cx} {o i e value : Expr} {pos pos' tpos : Pos} {td ty tv : TE}
theorem pe_dget (hu : X.A.units + 1 < cLine) (ho : PE X o td) (hi : PE X i ty) (hs : NoSl i) : PE X (.Subscript o i pos) (tDGet td ty) := by
  intro pins s σ H Q I h
  refine subD_of PySem.F.slot_dict_getitem.lookup hs (thn (ho pins s σ H _ I h) fun u s1 ⟨x, H1, I1, rx, q1⟩ => thn (hi pins s1 σ H1 _ I1 q1) fun iv s2 ⟨y, H2, I2, ry, a, v, ex, g, q2⟩ => ?_)
  subst ex
  obtain rfl : u = Value.ref a := rx
  exact ⟨dict_typeIs I2 g, d_getItem hu I2 g ry fun w' s3 I3 rw' => ⟨v, H2, I3, rw', q2⟩⟩
end


/-! ### displays -/
theorem dk_empty {P : Program} {w : World} {H : Hp} (h : Heap) (hb : sysModules < h.objs.size) : ObjOk P w H (h.push { cls := .type "dict", data := .dict #[] }) h.objs.size (.dK []) :=
  ⟨Nat.zero_le _, beq_eq_false_iff_ne.mpr (Ne.symm (Nat.ne_of_lt hb)), [], .nil, Heap.DictOf.new h⟩
section
variable {X : Cx} {pos : Pos}
end

/-- the pairs of a display, from the left -/
def tPairs : List (TE × TE) → St → Hp → (List (V × V) → Hp → Prop) → Prop
  | [], _, H, Q => Q [] H
  | (tk, tv) :: r, σ, H, Q => tk σ H fun x H1 => tv σ H1 fun y H2 => tPairs r σ H2 fun ps H3 => Q ((x, y) :: ps) H3
abbrev VV : List (V × V) → List (Value × Value) → Prop := Paired fun p q => RelV p.1 q.1 ∧ RelV p.2 q.2
def PPs (X : Cx) (pos : Pos) (keys : List (Option Expr)) (values : List Expr) (trs : List (TE × TE)) : Prop :=
  ∀ (pins : List (Addr × Obj)) (s : Shared) (σ : St) (H : Hp) (Q : List (V × V) → Hp → Prop), Inv X pins σ H s → tPairs trs σ H Q →
    wpAny (model X.prog X.w) X.A (evalPairs (pairTrees keys values X.env pos)) (fun vs s' => ∃ ps H', Inv X pins σ H' s' ∧ VV ps vs ∧ Q ps H') X.xe s
theorem pps_nil {X : Cx} {pos : Pos} : PPs X pos [] [] [] := fun pins s σ H Q I h => pairTrees_nil_walk ⟨[], H, I, .nil, h⟩
theorem pps_cons {X : Cx} {pos : Pos} {k v : Expr} {ks : List (Option Expr)} {vs : List Expr} {tk tv : TE} {trs : List (TE × TE)} (hk : PE X k tk) (hv : PE X v tv) (hr : PPs X pos ks vs trs) :
    PPs X pos (some k :: ks) (v :: vs) ((tk, tv) :: trs) := fun pins s σ H Q I h =>
  pairTrees_cons_walk (thn (hk pins s σ H _ I h) fun u s1 ⟨x, H1, I1, rx, q1⟩ => thn (hv pins s1 σ H1 _ I1 q1) fun w2 s2 ⟨y, H2, I2, ry, q2⟩ =>
    thn (hr pins s2 σ H2 _ I2 q2) fun ws s3 ⟨ps, H3, I3, rel, q3⟩ => ⟨(x, y) :: ps, H3, I3, .cons ⟨rx, ry⟩ rel, q3⟩)

def mergeK (kvs more : List (Key × V)) : List (Key × V) := more.foldl (fun acc kv => putK acc kv.1 kv.2) kvs
theorem KV.merge : ∀ {more : List (Key × V)} {rs : List (Key × Value)} {kvs : List (Key × V)} {vs : List (Key × Value)}, KV more rs → KV kvs vs → KV (mergeK kvs more) (merged vs rs) := by
  intro more rs kvs vs r
  unfold KV at r
  induction r generalizing kvs vs with
  | nil => intro q; exact q
  | @cons p q ps qs h t ih =>
    intro r0
    have e : KV (putK kvs p.1 p.2) (stored vs q.1 q.2) := by
      have := r0.put p.1 h.2
      rw [← h.1]; exact this
    exact ih e
theorem length_mergeK : ∀ (more kvs : List (Key × V)), (mergeK kvs more).length ≤ kvs.length + more.length
  | [], kvs => by show kvs.length ≤ kvs.length + 0; omega
  | p :: r, kvs => by
    have h1 := length_mergeK r (putK kvs p.1 p.2)
    have h2 := length_putK kvs p.1 p.2
    show (mergeK (putK kvs p.1 p.2) r).length ≤ _
    rw [List.length_cons]; omega
theorem carries_of {P : Program} {w : World} : ∀ {kvs : List (Key × V)} {ws : List (Value × Value)}, VV (kvs.map fun kv => (kV kv.1, kv.2)) ws → ∃ rs, Carries (mixKind P w) ws rs ∧ KV kvs rs
  | [], _, r => by rw [List.map_nil] at r; cases r; exact ⟨[], True.intro, .nil⟩
  | p :: kvs, _, r => by
    rw [List.map_cons] at r
    cases r with
    | @cons a b as bs h t =>
      obtain ⟨rs, c, q⟩ := carries_of (P := P) (w := w) t
      obtain ⟨b1, b2⟩ := b
      exact ⟨(p.1, b2) :: rs, ⟨kV_is h.1, rfl, c⟩, .cons ⟨rfl, h.2⟩ q⟩
/-- {k: v, ..} with keys ints and texts; the new dict stands empty while the pairs are made -/
def tDisp (trs : List (TE × TE)) : TE := fun σ H Q => ∀ p, H p = none → tPairs trs σ (upd H p (.dK [])) fun ps H2 => H2 p = some (.dK []) ∧ ∃ kvs : List (Key × V), ps = kvs.map (fun kv => (kV kv.1, kv.2)) ∧ kvs.length ≤ 15 ∧ Q (.ref p) (upd H2 p (.dK (mergeK [] kvs)))
theorem pe_disp {X : Cx} {pos : Pos} {keys : List (Option Expr)} {values : List Expr} {trs : List (TE × TE)} (h : PPs X pos keys values trs) (hall : keys.all (·.isSome) = true) (hl : keys.length = values.length) (h0 : keys ≠ [])
    (h15 : keys.length ≤ 15) : PE X (.Dict keys values pos) (tDisp trs) := by
  intro pins s σ H Q I q
  have hn := I.hok.fresh (Nat.le_refl s.heap.objs.size)
  have I1 := I.laid (a := s.heap.objs.size) (o := .dK []) (h' := s.heap.push { cls := .type "dict", data := .dict #[] }) (t' := s.toks) (fun _ _ q => Heap.get?_push_of_some _ q) (Nat.le_refl _) (dk_empty s.heap I.big)
  refine wpAny_Dict_walk (knd := mixKind X.prog X.w) hall hl h0 h15 (thn (h pins _ σ _ _ I1 (q _ hn)) fun ws s2 ⟨ps, H2, I2, rel, e, kvs, ep, lk, q2⟩ => ?_)
  subst ep
  obtain ⟨rs, c, rk⟩ := carries_of (P := X.prog) (w := X.w) rel
  obtain ⟨z, hd, vs0, r0, dd⟩ := dk_of I2.hok e
  cases r0
  refine ⟨rs, c, dd, fun h' dd' hs => ⟨.ref s.heap.objs.size, _, ?_, rfl, q2⟩⟩
  have hz : (mergeK [] kvs).length ≤ sizeLine := by
    have h1 := length_mergeK kvs []
    rw [List.length_nil] at h1
    rw [sizeLine_eq]; omega
  have he : ∃ q, h'.get? s.heap.objs.size = some q := let ⟨q, _, _, hq, _⟩ := dd'; ⟨q, hq⟩
  exact d_write I2 (by rw [e]; exact True.intro) hs he (dk_new hz hd (rk.merge .nil) dd')


/-! ### methods -/
/-- a method call o.m(e) of a built-in, with one argument: what must be seen of the text -/
structure M1 (X : Cx) (o : Expr) (m : Str) (apos : Pos) (e : Expr) (cpos : Pos) : Prop where
  base : attributeBase o m X.env (eval o X.env) = eval o X.env
  few : ((backTo cpos (starEach [e] X.env)).all (fun x => !x.1) && (backToKw cpos (keywordEach [] X.env)).all (fun x => x.1.isSome)
    && decide (([e] : List Expr).length + ([] : List Keyword).length + (if ([] : List Keyword).isEmpty then 0 else 1) < 30)) = true
  line : (apos.endLine == cpos.line) = true
  trees : backTo cpos (starEach [e] X.env) = [(false, eval e X.env)]
structure M2 (X : Cx) (o : Expr) (m : Str) (apos : Pos) (e f : Expr) (cpos : Pos) : Prop where
  base : attributeBase o m X.env (eval o X.env) = eval o X.env
  few : ((backTo cpos (starEach [e, f] X.env)).all (fun x => !x.1) && (backToKw cpos (keywordEach [] X.env)).all (fun x => x.1.isSome)
    && decide (([e, f] : List Expr).length + ([] : List Keyword).length + (if ([] : List Keyword).isEmpty then 0 else 1) < 30)) = true
  line : (apos.endLine == cpos.line) = true
  trees : backTo cpos (starEach [e, f] X.env) = [(false, eval e X.env), (false, eval f X.env)]

/-- a is a dict, whatever its keys -/
def IsD (H : Hp) (a : Addr) : Prop := (∃ kvs, Rd H a (.dK kvs)) ∨ ∃ kvs, Rd H a (.dT kvs)
theorem isD_at {X : Cx} {pins : List (Addr × Obj)} {σ : St} {H : Hp} {s : Shared} {a : Addr} (I : Inv X pins σ H s) (d : IsD H a) :
    s.TypeIs (.ref a) "dict" ∧ (∀ b, Value.ref a = .ref b → ∃ ob, s.heap.get? b = some ob ∧ ob.dict = none) ∧ (a == sysModules) = false := by
  rcases d with ⟨kvs, e⟩ | ⟨kvs, e⟩
  · obtain ⟨_, hd, vs, _, dd⟩ := dk_rd I.hok e
    refine ⟨dd.typeIs, fun b q => ?_, hd⟩
    cases q
    obtain ⟨ob, _, _, h1, h2, _⟩ := dd
    exact ⟨ob, h1, h2.2.1⟩
  · obtain ⟨_, hd, xs, _, dd⟩ := dt_rd I.hok e
    refine ⟨dd.typeIs, fun b q => ?_, hd⟩
    cases q
    obtain ⟨ob, _, _, h1, h2, _⟩ := dd
    exact ⟨ob, h1, h2.2.1⟩

section
variable {X : Cx} {pins : List (Addr × Obj)} {σ : St} {H : Hp} {s : Shared} {a : Addr} {y d : V} {u r : Value} {o : Option V} {A : Around} {E : Value → Shared → Prop}
/-- d.get(y) -/
theorem d_get1 {Q : Value → Shared → Prop} (hu : A.units + 1 < cLine) (I : Inv X pins σ H s) (g : DGet H a y o) (ry : RelV y u) (h : ∀ w' s', Inv X pins σ H s' → RelV (o.getD .non) w' → Q w' s') :
    wpAny (model X.prog X.w) A (call (.builtin "dict.get") [.ref a, u]) Q E s := by
  rcases g with ⟨kvs, k, e, ey, l⟩ | ⟨kvs, k, b, e, ey, eb, l⟩
  · subst ey
    obtain ⟨z, hd, vs, rel, dd⟩ := dk_rd I.hok e
    refine call_meetsIn PySem.F.slot_dict_get dd.typeIs PySem.F.entry_dict_get (PySem.F.args_dict_get_2 _ _) (meets_dict_get (mixKind X.prog X.w) a (kV_is ry) hd) ⟨_, dd.mapOf, h _ _ (I.tok _) ?_⟩
    rw [l]
    exact (rel.val k).getD rfl
  · subst ey
    cases (show u = Value.ref b from ry)
    obtain ⟨z, hd, xs, rel, dd⟩ := dt_rd I.hok e
    refine call_meetsIn PySem.F.slot_dict_get dd.typeIs PySem.F.entry_dict_get (PySem.F.args_dict_get_2 _ _) (meetsH_dict_get (tupleKind (mixKind X.prog X.w)) a b hd) ⟨tupleKind_room_in1 hu, k, xs, key_of I.hok eb, dd, h _ _ (I.tok _) ?_⟩
    rw [l]
    exact (rel.val k).getD rfl
/-- d.get(y, x) -/
theorem d_get2 {Q : Value → Shared → Prop} (hu : A.units + 1 < cLine) (I : Inv X pins σ H s) (g : DGet H a y o) (ry : RelV y u) (rd : RelV d r) (h : ∀ w' s', Inv X pins σ H s' → RelV (o.getD d) w' → Q w' s') :
    wpAny (model X.prog X.w) A (call (.builtin "dict.get") [.ref a, u, r]) Q E s := by
  rcases g with ⟨kvs, k, e, ey, l⟩ | ⟨kvs, k, b, e, ey, eb, l⟩
  · subst ey
    obtain ⟨z, hd, vs, rel, dd⟩ := dk_rd I.hok e
    refine call_meetsIn PySem.F.slot_dict_get dd.typeIs PySem.F.entry_dict_get (PySem.F.args_dict_get_3 _ _ _) (meets_dict_get_default (mixKind X.prog X.w) a (kV_is ry) hd r) ⟨_, dd.mapOf, h _ _ (I.tok _) ?_⟩
    rw [l]
    exact (rel.val k).getD rd
  · subst ey
    cases (show u = Value.ref b from ry)
    obtain ⟨z, hd, xs, rel, dd⟩ := dt_rd I.hok e
    refine call_meetsIn PySem.F.slot_dict_get dd.typeIs PySem.F.entry_dict_get (PySem.F.args_dict_get_3 _ _ _) (meetsH_dict_get_default (tupleKind (mixKind X.prog X.w)) a b hd r) ⟨tupleKind_room_in1 hu, k, xs, key_of I.hok eb, dd, h _ _ (I.tok _) ?_⟩
    rw [l]
    exact (rel.val k).getD rd
end

def tDGet1 (td ty : TE) : TE := fun σ H Q => td σ H fun x H1 => ∃ a, x = .ref a ∧ IsD H1 a ∧ ty σ H1 fun y H2 => ∃ o, DGet H2 a y o ∧ Q (o.getD .non) H2
def tDGet2 (td ty tx : TE) : TE := fun σ H Q => td σ H fun x H1 => ∃ a, x = .ref a ∧ IsD H1 a ∧ ty σ H1 fun y H2 => tx σ H2 fun z H3 => ∃ o, DGet H3 a y o ∧ Q (o.getD z) H3
section
variable {X : Cx} {o e f : Expr} {apos cpos : Pos} {td ty tx : TE}
theorem pe_dget1 (hu : X.A.units + 1 < cLine) (ho : PE X o td) (he : PE X e ty) (m : M1 X o "get" apos e cpos) : PE X (.Call (.Attribute o "get" apos) [e] [] cpos) (tDGet1 td ty) := by
  intro pins s σ H Q I h
  refine wpAny_Call_method m.base m.few m.line PySem.F.plainAttrs_dict PySem.F.slot_dict_get PySem.F.type_dict_get (thn (ho pins s σ H _ I h) fun u s1 ⟨x, H1, I1, rx, a, ex, d, q1⟩ => ?_)
  subst ex
  obtain rfl : u = Value.ref a := rx
  obtain ⟨t1, t2, _⟩ := isD_at I1 d
  refine ⟨t1, t2, ?_⟩
  rw [m.trees]
  refine Calls.callWith_builtin rfl (Calls.evalArgs_plain (Calls.spliced_cons (thn (he pins s1 σ H1 _ I1 q1) fun iv s2 ⟨y, H2, I2, ry, ov, g, q2⟩ => Calls.spliced_nil ?_)))
  exact d_get1 hu I2 g ry fun w' s3 I3 rw' => ⟨_, H2, I3, rw', q2⟩
theorem pe_dget2 (hu : X.A.units + 1 < cLine) (ho : PE X o td) (he : PE X e ty) (hf : PE X f tx) (m : M2 X o "get" apos e f cpos) : PE X (.Call (.Attribute o "get" apos) [e, f] [] cpos) (tDGet2 td ty tx) := by
  intro pins s σ H Q I h
  refine wpAny_Call_method m.base m.few m.line PySem.F.plainAttrs_dict PySem.F.slot_dict_get PySem.F.type_dict_get (thn (ho pins s σ H _ I h) fun u s1 ⟨x, H1, I1, rx, a, ex, d, q1⟩ => ?_)
  subst ex
  obtain rfl : u = Value.ref a := rx
  obtain ⟨t1, t2, _⟩ := isD_at I1 d
  refine ⟨t1, t2, ?_⟩
  rw [m.trees]
  refine Calls.callWith_builtin rfl (Calls.evalArgs_plain (Calls.spliced_cons (thn (he pins s1 σ H1 _ I1 q1) fun iv s2 ⟨y, H2, I2, ry, q2⟩ =>
    Calls.spliced_cons (thn (hf pins s2 σ H2 _ I2 q2) fun fv s3 ⟨z, H3, I3, rz, ov, g, q3⟩ => Calls.spliced_nil ?_))))
  exact d_get2 hu I3 g ry rz fun w' s4 I4 rw' => ⟨_, H3, I4, rw', q3⟩
end

/-! ### dict(d): a copy -/
section
variable {X : Cx} {pins : List (Addr × Obj)} {σ : St} {H : Hp} {s : Shared} {a : Addr} {kvs : List (Key × V)} {A : Around} {E : Value → Shared → Prop}
end


section
variable {X : Cx} {pins : List (Addr × Obj)} {σ : St} {H : Hp} {s : Shared} {a : Addr} {y : V} {u : Value} {A : Around} {E : Value → Shared → Prop}
end
end L2

namespace Att
open PySem PySem.W PySem.Calls PyProof.Rows

/-! ### the script -/
theorem ints_of_wellAll {P : Params} {h : Heap} : ∀ (ns : List Int) (vs : List Value), WellAll P h vs (ns.map WData.int) → IntsAre vs ns := by
  intro ns
  induction ns with
  | nil =>
    intro vs w
    rw [List.map_nil] at w
    cases w
    exact .nil
  | cons n ns ih =>
    intro vs w
    rw [List.map_cons] at w
    cases w with
    | cons a b =>
      cases a
      exact .cons _ _ (ih _ b)

theorem script_of {l : OpenLaw} {n : Nat} (hn : l.most = some n) {P : Params} {h : Heap} {args : List WData} {vals : List Value}
    (hpre : l.row.toRowW.claim.pre args = true) (hwl : WellAll P h vals args) :
    ∃ a vs ns, vals = [Value.ref a] ∧ args = [WData.list (ns.map WData.int)] ∧ h.get? a = some { cls := .type "list", data := .seq vs.toArray } ∧ IntsAre vs ns ∧ ns.length ≤ n := by
  have hsh : WShape.hasAll [] args [.list .int] = true := (pre_splitW hpre).1
  have hc : l.pre.holds [] { args := args } = true := (pre_splitW hpre).2
  obtain ⟨d, r, rfl, h1, h2⟩ := hasAllW_cons hsh
  obtain rfl := hasAllW_nil h2
  obtain ⟨xs, rfl, h3⟩ := hasW_list h1
  obtain ⟨ns, rfl⟩ := items_int h3
  have hlen : ns.length ≤ n := by
    unfold OpenLaw.pre at hc
    have h4 : (WTm.not (.lt (.lit (.int (n : Int))) (.len (.arg 0)))).holds [] { args := [.list (ns.map .int)] } = true := by
      have h4 := (holds_andW hc).1
      rw [hn] at h4
      exact h4
    have h5 := condW_of h4 (w_not (w_lt w_lit (w_len_list (w_arg rfl))))
    rw [List.length_map] at h5
    refine Nat.le_of_not_lt fun q => ?_
    have q' : (n : Int) < ((ns.length : Nat) : Int) := by omega
    first
      | (rw [decide_eq_true q'] at h5; exact absurd h5 (by decide))
      | (simp at h5; omega)
  cases hwl with
  | cons w1 w2 =>
    cases w2
    cases w1 with
    | list ho hall => exact ⟨_, _, ns, rfl, rfl, ho, ints_of_wellAll ns _ hall, hlen⟩

theorem post_true (l : OpenLaw) (args : List WData) : l.row.toRowW.claim.post args (.bool true) args = true :=
  postW_of (r := l.row.toRowW) (X := (true == true))
    (show WShape.has [] (.bool true) .bool = true by first | rfl | decide | simp [WShape.has, WShape.arms, WShape.armsAll])
    (show (WTm.eq .res (.lit (.bool true))).value [] { args := args, res := some (.bool true), after := args } = some (.bool (true == true)) from w_eq_bool (w_res rfl) w_lit) rfl

/-! ### the attachment: holds_open's last premise (the goal 'hc' behind k_head) from a wpAny of the law's body -/
/-- the same from a codeAny of the CALL (for a layer whose function contracts speak of calls) -/
theorem attach_call {l : OpenLaw} {n : Nat} {q : Program} {loose : List Str} {XP : (Str → Option Value) → Heap → Prop} {YP : World → Heap → Prop} {d : DefRec}
    (hn : l.most = some n) (hdf : d.params.defaults = [])
    (call : ∀ (w : World) (s₀ s₁ : Shared) (mg mb : Str → Option Value) (fa : Addr) (o : Obj) (pm cd doc : Value) (a : Addr) (vs : List Value) (ns : List Int),
      Ground q loose [] XP w s₀ mg mb s₁.heap → YP w s₁.heap →
      s₁.heap.get? fa = some o → o.data = .func (docDef d.name d.params d.body d.scope pm cd doc) → s₁.heap.CodeRec cd d.name → mg d.name = some (.ref fa) →
      s₁.heap.get? a = some { cls := .type "list", data := .seq vs.toArray } → IntsAre vs ns → ns.length ≤ n → s₁.gens = #[] →
      codeAny (model l.prog w) callerA (.call (.ref fa) ⟨[.ref a], []⟩) (fun r s' => r = .ok (.ret (.bool true)) ∧ OldK s₁.heap s'.heap ∧ s'.os = s₁.os ∧ AllBare s'.gens) s₁) :
    WalkO q loose XP YP l.row.toRowW d [] (fun f vs => PySem.call f vs) := by
  intro w s₀ s₁ mg mb G Y fa o pm cd doc dV kV ho hd hcd hD hmg hg args vals as hpre hlay hrd hwl hlo
  obtain rfl : dV = .none := Dflts.none hD hdf
  obtain rfl : kV = .none := Dflts.noKw hD
  obtain ⟨a, vs, ns, rfl, rfl, hobj, hints, hlen⟩ := script_of hn hpre hwl
  refine enter_call (codeAny_mono (call w s₀ s₁ mg mb fa o pm cd doc a vs ns G Y ho (fd_plain hd) hcd hmg hobj hints hlen hg) fun r s' hq => ?_)
  obtain ⟨rfl, h2, h3, h4⟩ := hq
  exact ⟨.inl ⟨.bool true, .bool true, [], rfl, fun _ => rfl, .bool true, post_true l _, fun _ => ⟨List.Pairwise.nil, fun _ hm => (nomatch hm)⟩⟩, h2, h3, h4⟩

/-! ### rules over ANY heap (no ledger) from facts about the written part K: the library's own take a ledger (News) for what they write -/
section
variable {prog : Program} {w : World} {A : Around} {E : Value → Shared → Prop} {s : Shared} {K : Frag}

/-! the whole heap as the ledger: makes every rule that writes through a ledger a rule over any heap -/
def ledger (h : Heap) (L d : Addr) : List (Addr × Obj) := (List.range h.objs.size).filterMap fun a => if a = L ∨ a = d then none else (h.get? a).map fun o => (a, o)
end
end Att

namespace L2
open PySem PySem.Spec PyProof.Rows

theorem vals_ints : ∀ {vs : List Value} {ns : List Int}, IntsAre vs ns → Vals (ns.map V.int) vs
  | _, _, .nil => .nil
  | _, _, .cons n t h => .cons ⟨t, rfl⟩ (vals_ints h)

/-- nothing is tracked but the script, known to the object (or it is an object of the module) -/
def Only (H : Hp) : Prop := ∀ b, H b = none ∨ ∃ o xs, H b = some (.frz o (.lst xs))

/-- THE HEAD: the law's promise, at the heap behind the top. F, the promise of the law's def, may use that base is part of the heap (so K.In base, base.Ns mainGlobals mg stand in Mod) -/
theorem law_call {P : Program} {w : World} {K : PySem.W.Frag} {mg mb : Str → Option Value} {CX : CXT} {k : Nat} {fa a : Addr} {fd : FuncData} {x : Str} {sp : Sp} {s₁ : Shared} {vs : List Value} {ns : List Int}
    (KX : K.In s₁.heap) (hns : s₁.heap.Ns mainGlobals mg) (hb : s₁.heap.Ns builtinsNs mb) (hbb : ∀ x : Str, x ≠ "__name__" → mb x = bootBuiltins x) (hlim : s₁.heap.NoLimit) (hg : s₁.gens = #[])
    (ha : s₁.heap.get? a = some { cls := .type "list", data := .seq vs.toArray }) (hi : IntsAre vs ns) (hl : ns.length ≤ sizeLine) (hr : Room k callerA)
    (F : ∀ base : Heap, K.In base → base.Ns mainGlobals mg → FnOk P w K mg base CX k fa fd [x] sp) (hbind : ∀ (s : Shared) (u : Value), BindsTo s fd ⟨[u], []⟩ [(x, u)])
    (hsp : ∀ H : Hp, Only H → SqL K H a (ns.map V.int) → sp [.ref a] H (fun v _ => v = .bl true) fun _ _ _ => False)
    (hCX : ∀ H e s', CX [] H s₁ (fun _ _ _ => False) e s' → False) :
    codeAny (model P w) callerA (.call (.ref fa) ⟨[.ref a], []⟩) (fun r s' => r = .ok (.ret (.bool true)) ∧ OldK s₁.heap s'.heap ∧ s'.os = s₁.os ∧ AllBare s'.gens) s₁ := by
  have rv := vals_ints hi
  have lenV := hi.length
  -- from an abstract heap in which nothing but the script may be tracked
  have core : ∀ H : Hp, Only H → SqL K H a (ns.map V.int) → HOk P w H s₁.heap → (∀ b, H b ≠ none → b = a) → (H a ≠ none → K.lookup a = none) →
      codeAny (model P w) callerA (.call (.ref fa) ⟨[.ref a], []⟩) (fun r s' => r = .ok (.ret (.bool true)) ∧ OldK s₁.heap s'.heap ∧ s'.os = s₁.os ∧ AllBare s'.gens) s₁ := by
    intro H hO hS hok hA hK
    have base_of : ∀ {b : Addr} {o : Obj}, s₁.heap.get? b = some o → H b = none → (hidT s₁.heap H).get? b = some o := fun e n => hidT_get e n
    have noA : ∀ {b : Addr} {o : Obj} {es : Array DictEntry} {ep : Nat}, s₁.heap.get? b = some o → o.data = .dict es ep → H b = none := fun {b o es ep} e d => by
      cases q : H b with
      | none => rfl
      | some u =>
        have e' : b = a := hA b (by rw [q]; simp)
        subst e'
        rw [ha] at e; cases e
        have d' : Data.seq vs.toArray _ = Data.dict es ep := d
        cases d'
    have nsK : ∀ {b : Addr} {m : Str → Option Value}, s₁.heap.Ns b m → (hidT s₁.heap H).Ns b m := fun {b m} ⟨o, es, ep, e, d, r⟩ => ⟨o, es, ep, base_of e (noA e d), d, r⟩
    have hKb : K.In (hidT s₁.heap H) := fun b o e => base_of (KX b o e) (by
      cases q : H b with
      | none => rfl
      | some u =>
        have e' : b = a := hA b (by rw [q]; simp)
        subst e'
        rw [hK (by rw [q]; simp)] at e; cases e)
    have hM : Mod K mg (hidT s₁.heap H) := ⟨hKb, nsK hns, ⟨mb, nsK hb, hbb⟩, let ⟨mc, h1, h2⟩ := hlim; ⟨mc, nsK h1, h2⟩⟩
    have e0 : Env0 P w K mg (hidT s₁.heap H) callerA [] s₁ H := ⟨rfl, hM, fun b o e => of_hidT e, Nat.le_of_eq (hidT_size _ _), trivial, fun b hb => absurd (show b ∈ ([] : List Addr) from hb) (by simp), hok, .of_eq hg⟩
    refine codeAny_mono ((F _ hKb (nsK hns)).run callerA [] s₁ H ⟨[.ref a], []⟩ [.ref a] [.ref a] _ _ hr e0 (hbind s₁ (.ref a)) (.cons rfl .nil) (hsp H hO hS)) fun r s' h => ?_
    cases r with
    | error e => exact (hCX H e s' h).elim
    | ok fl =>
      cases fl with
      | next => exact False.elim h
      | brk => exact False.elim h
      | cont => exact False.elim h
      | ret u =>
        obtain ⟨v, H', os, bare, un, hok', r', q⟩ := h
        have q' : v = .bl true := q
        subst q'
        obtain rfl : u = Value.bool true := r'
        refine ⟨rfl, OldK.of_keep fun b o e => ?_, os, bare⟩
        cases q : H b with
        | none => exact un.keep b o e q (by intro z; exact absurd (show b ∈ ([] : List Addr) from z) (by simp)) (by simp)
        | some u =>
          rcases hO b with z | ⟨ob, xs, z⟩
          · rw [q] at z; cases z
          · have z2 := un.frzs b ob _ z
            obtain ⟨e1, _⟩ := hok b _ z
            obtain ⟨e2, _⟩ := hok' b _ z2
            rw [e] at e1; cases e1
            exact e2
  cases hk : K.lookup a with
  | some o =>
    -- the script is one of the module's own objects
    have e := KX a o hk
    rw [ha] at e
    cases e
    refine core (fun _ => none) (fun _ => .inl rfl) (.inr ⟨_, vs.toArray, _, hk, rfl, rfl, rfl, by rw [List.size_toArray, lenV]; exact hl, by simpa using rv⟩) (fun b u z => by have z' : (none : Option HO) = some u := z; cases z') (fun b z => absurd rfl z) fun z => absurd rfl z
  | none =>
    refine core (fun b => if b = a then some (.frz { cls := .type "list", data := .seq vs.toArray } (.lst (ns.map V.int))) else none) (fun b => ?_) (.inl (.inr ⟨{ cls := .type "list", data := .seq vs.toArray }, if_pos rfl⟩)) (fun b u z => ?_) (fun b z => ?_) fun _ => hk
    · by_cases hb : b = a
      · exact .inr ⟨_, _, if_pos hb⟩
      · exact .inl (if_neg hb)
    · by_cases hb : b = a
      · have z' := (if_pos hb).symm.trans z
        cases z'
        subst hb
        exact ⟨ha, by rw [List.length_map]; exact hl, vs, _, rv, ha⟩
      · have z' := (if_neg hb).symm.trans z
        cases z'
    · by_cases hb : b = a
      · exact hb
      · exact absurd (if_neg hb) z
end L2

namespace L2
open PySem PySem.Spec PyProof.Rows

abbrev KOf {K : PySem.W.Frag} {h : Heap} (_ : K.In h) : PySem.W.Frag := K

/-- the goal that k_head leaves (case hc), from the law's promise. F gives the function object fd (K's own) once, then the promise over every base -/
theorem walk_of {l : PySem.W.OpenLaw} {n k : Nat} {q : Program} {loose : List Str} {XP : (Str → Option Value) → Heap → Prop} {YP : World → Heap → Prop} {d : DefRec} {K : Params → PySem.W.Frag} {CX : World → CXT} {sp : World → Sp} {x : Str}
    (hn : l.most = some n) (hn2 : n ≤ sizeLine) (hdf : d.params.defaults = []) (hr : Room k callerA)
    (hY : ∀ (w : World) (h : Heap), YP w h → (K w.params).In h)
    (F : ∀ (w : World) (mg : Str → Option Value) (fa : Addr) (h : Heap), (K w.params).In h → h.Ns mainGlobals mg → mg d.name = some (.ref fa) →
      ∃ fd : FuncData, (∀ (s : Shared) (u : Value), BindsTo s fd ⟨[u], []⟩ [(x, u)]) ∧
        ∀ base : Heap, (K w.params).In base → base.Ns mainGlobals mg → FnOk l.prog w (K w.params) mg base (CX w) k fa fd [x] (sp w))
    (hsp : ∀ (w : World) (H : Hp) (a : Addr) (ns : List Int), ns.length ≤ n → Only H → SqL (K w.params) H a (ns.map V.int) → sp w [.ref a] H (fun v _ => v = .bl true) fun _ _ _ => False)
    (hCX : ∀ (w : World) (H : Hp) (s : Shared) (e : Value) (s' : Shared), CX w [] H s (fun _ _ _ => False) e s' → False) :
    PySem.W.WalkO q loose XP YP l.row.toRowW d [] (fun f vs => PySem.call f vs) := by
  refine Att.attach_call hn hdf fun w s₀ s₁ mg mb fa o pm cd doc a vs ns G Y ho hd hcd hmg hobj hints hlen hg => ?_
  have KX := hY w _ Y
  obtain ⟨fd, hb, hF⟩ := F w mg fa _ KX G.T.g hmg
  exact law_call KX G.T.g G.T.b G.T.builtins G.T.nolimit hg hobj hints (Nat.le_trans hlen hn2) hr hF hb (fun H hO hS => hsp w H a ns hlen hO hS) fun H e s' => hCX w H s₁ e s'
end L2

/- THE LAST THEOREM (shape; LID, My.* are yours):
   My.Adr: a structure of the addresses that your layer names (classes, functions); My.Txt K t: a structure (Prop) of the equations over K;
   My.txt_mk : {K} {implicit addresses ..} (e1 : nsIn K mainGlobals "law" = some (some (.ref f))) (e2 : K.lookup f = some ⟨oc, od, .func (fnOf "law" "law" params body scope dV kV doc pm an cdv ct), sl⟩) (e3 : codeIn K cdv "law" = true) .. : ∃ t, My.Txt K t

set_option maxRecDepth 100000 in
set_option maxHeartbeats 0 in
theorem PySem.Challenge.cw_LID_holds : PySem.Challenge.rw_LID.Holds := by
  w_on; o_law; k_head; (case hw => w_witness2)
  k_fill
  refine L2.walk_of (l := PySem.Challenge.rw_LID) (n := 63) (k := 40) (x := "script") (CX := fun w => ..) (sp := fun _ => My.sp_law) rfl (by decide) rfl ⟨rfl, by decide, by decide⟩ (fun w h Y => PySem.W.kIn_of Y) ?F ?S ?C
  case F =>
    intro w mg fa h KX G hmg
    have T : ∃ t, My.Txt (L2.KOf KX) t := by
      dsimp only [L2.KOf]                          -- K must stand as «<heap const> w.params» for k_is
      refine' My.txt_mk ?e1 ?e2 ?e3 ..
      (case e1 => PySem.W.k_is)                    -- in the order: a name -> its address -> its object -> its parts
      (case e2 => PySem.W.k_is)
      ..
    obtain ⟨t, T⟩ := T
    have e0 := hmg.symm.trans (PySem.W.mg_of KX G T.law)
    cases e0                                       -- fa is the law's own address
    exact ⟨_, fun s u => .of_eq rfl, fun base kb nb => My.law_fn T kb nb⟩     -- if «.of_eq rfl» comes too early: refine' ⟨_, ?b, fun base kb nb => My.law_fn T kb nb⟩; exact fun s u => .of_eq rfl
  case S => exact fun w H a ns hl hO hS => ..
  case C => exact ..
(the tactic k_is has no namespace: write k_is) -/

/-! SHORT WORDS over the layer: a def of the text, its body, what a loop and a test want. -/
namespace L2
open PySem PySem.Spec PyProof.Rows

/-! ### the text by places -/
def defArgs (s : Stmt) : Arguments := match s with
  | .FunctionDef _ a _ _ _ _ _ _ _ _ => a
  | _ => { posonlyargs := [], args := [], vararg := none, kwonlyargs := [], kw_defaults := [], kwarg := none, defaults := [] }
def defBody (s : Stmt) : List Stmt := match s with
  | .FunctionDef _ _ b _ _ _ _ _ _ _ => b
  | _ => []
def defScope (s : Stmt) : Scope := match s with
  | .FunctionDef _ _ _ _ _ _ sc _ _ _ => sc
  | _ => { kind := .function, names := [], isGenerator := false, isCoroutine := false }

/-! ### no exception leaves a def -/
abbrev CX0 : CXT := fun _ _ _ _ _ _ => False
abbrev E0 : XK := fun _ _ _ => False
theorem pass0 {X : Cx} : Passes CX0 X E0 := fun _ _ _ _ _ _ _ h => h.elim

/-! ### a def (or method) of the text as it stands behind the top -/
structure Fun (K : PySem.W.Frag) (x qual : Str) (st : Stmt) (f : Addr) (fd : FuncData) : Prop where
  ex : ∃ (oc : Value) (od : Option Addr) (kV doc pm : Value) (an : Option Addr) (cdv ct : Value) (osl : Array (Option Value)),
    fd = PySem.W.fnOf x qual (defArgs st) (defBody st) (defScope st) .none kV doc pm an cdv ct ∧ K.lookup f = some ⟨oc, od, .func fd, osl⟩ ∧ PySem.W.codeIn K cdv qual = true
  kp : PySem.W.keepIn K (.ref f) = true
section
variable {P : Program} {w : World} {K : PySem.W.Frag} {mg : Str → Option Value} {base : Heap}
/-- THE RULE for a def: its body as a term of rules, and the reading of that term -/
theorem Fun.ok {x qual : Str} {st : Stmt} {f : Addr} {fd : FuncData} {N ps : List Str} {k : Nat} {sp : Sp} (F : Fun K x qual st f fd) (S : FnScope N ps (defScope st)) (len : ∀ vs H Q E, sp vs H Q E → vs.length = ps.length)
    (hbody : ∀ (cdv : Value) (A : Around) (outer : List Env) (s : Shared) (H : Hp) (vs : List V) (Q : VK) (E : XK), Room k (A.deeper (envOfC qual (defScope st) s.heap.objs.size f cdv)) → sp vs H Q E →
      ∃ t, PSs (cxOf CX0 P w K mg base N qual (defScope st) f cdv A outer s H E).nox (defBody st) t ∧ t { nx := fun _ H' => Q .non H', rt := Q } (start N vs) H) : FnOk P w K mg base CX0 (k + 1) f fd ps sp := by
  obtain ⟨oc, od, kV, doc, pm, an, cdv, ct, osl, rfl, lk, hcd⟩ := F.ex
  refine fn_of lk hcd S len fun A outer s H vs Q E hr hsp => ?_
  obtain ⟨t, h, q⟩ := hbody cdv A outer s H vs Q E hr hsp
  exact ⟨t, h.nox, q⟩
/-- how its arguments bind (no defaults): h is «fun _ _ _ _ _ _ us hl => match us, hl with | [_, _], _ => rfl», one _ a parameter -/
theorem Fun.binds {x qual : Str} {st : Stmt} {f : Addr} {fd : FuncData} {ps : List Str} (F : Fun K x qual st f fd)
    (h : ∀ (kV doc pm : Value) (an : Option Addr) (cdv ct : Value) (us : List Value), us.length = ps.length → bindArgs (PySem.W.fnOf x qual (defArgs st) (defBody st) (defScope st) .none kV doc pm an cdv ct) ⟨us, []⟩ = pure (ps.zip us)) : Binds K fd ps [] := by
  obtain ⟨oc, od, kV, doc, pm, an, cdv, ct, osl, rfl, lk, hcd⟩ := F.ex
  exact .all (h kV doc pm an cdv ct)
theorem fun_mk {x qual : Str} {st : Stmt} {f : Addr} {oc : Value} {od an : Option Addr} {osl : Array (Option Value)} {kV doc pm cdv ct : Value} (l : K.lookup f = some ⟨oc, od, .func (PySem.W.fnOf x qual (defArgs st) (defBody st) (defScope st) .none kV doc pm an cdv ct), osl⟩)
    (c : PySem.W.codeIn K cdv qual = true) (k : PySem.W.keepIn K (.ref f) = true) : Fun K x qual st f (PySem.W.fnOf x qual (defArgs st) (defBody st) (defScope st) .none kV doc pm an cdv ct) := ⟨⟨oc, od, kV, doc, pm, an, cdv, ct, osl, rfl, l, c⟩, k⟩
end
theorem hu_of {A : Around} {k : Nat} (hr : Room k A) : A.units + 1 < cLine := Nat.lt_of_le_of_lt (Nat.add_le_add_left (by decide : 1 ≤ 64) _) hr.units
/-! ### expressions in short: the name that stands in the i-th slot -/
section
variable {X : Cx}
theorem pv (i : Nat) {x : Str} {pos : Pos} (hN : X.N[i]? = some x := by rfl) (hv : Vis X.env.scope x := by first | exact Or.inl rfl | exact Or.inr (Or.inl rfl) | exact Or.inr (Or.inr rfl)) (hd : (x == ("__debug__" : Str)) = false := by decide)
    (hcd : (x == ("__classdict__" : Str)) = false := by decide) : PE X (.Name x pos) (tVar i) := pe_var hN hv hd hcd
end

/-! ### tests -/
theorem iteF {A B : Prop} (h : B) : if false = true then A else B := by
  rw [if_neg Bool.false_ne_true]
  exact h
theorem iteT {A B : Prop} (h : A) : if true = true then A else B := by
  rw [if_pos rfl]
  exact h
theorem iteNS {c A B : Prop} [Decidable c] (hc : c) (h : B) : if (!decide c) = true then A else B := by
  rw [decide_eq_true hc]
  exact iteF h

/-! ### heaps -/
/-- all that was tracked is as it was -/
def Same (H H' : Hp) : Prop := ∀ b o, H b = some o → H' b = some o
theorem Same.refl (H : Hp) : Same H H := fun _ _ h => h
theorem Same.trans {H H1 H2 : Hp} (a : Same H H1) (b : Same H1 H2) : Same H H2 := fun c o h => b c o (a c o h)
theorem Same.free {H H' : Hp} (e : Same H H') {l : Addr} (h : H' l = Option.none) : H l = Option.none := by
  cases q : H l with
  | none => rfl
  | some o =>
    rw [e l o q] at h
    cases h
theorem Same.seq {K : PySem.W.Frag} {H H' : Hp} {a : Addr} {xs : List V} (e : Same H H') (h : SqL K H a xs) : SqL K H' a xs := by
  rcases h with (h | ⟨o, h⟩) | h
  · exact .inl (.inl (e _ _ h))
  · exact .inl (.inr ⟨o, e _ _ h⟩)
  · exact .inr h

/-! ### a dict's pairs: keys that differ -/
section
variable {κ : Type} [DecidableEq κ]
theorem valV_in {kvs : List (κ × V)} {k : κ} {v : V} (h : valV kvs k = some v) : k ∈ kvs.map (·.1) := by
  have q : (kvs.any fun kv => decide (kv.1 = k)) = true := by
    rw [valV_any, h]
    all_goals rfl
  obtain ⟨p, hp, e⟩ := List.any_eq_true.mp q
  exact List.mem_map.mpr ⟨p, hp, of_decide_eq_true e⟩
end
end L2

end
section
set_option Elab.async false
set_option linter.all false
set_option maxRecDepth 100000
set_option maxHeartbeats 4000000
namespace L2
open PySem PySem.Spec PyProof.Rows

/-! ### comprehensions: the block -/
theorem closure_go (env : Env) : ∀ (names : List (Str × NameKind)) (acc : List (Str × Addr)),
    (∀ y ∈ names, y.2 = .free → ∃ c, env.cells.lookup y.1 = some c) →
    ∃ cl : List (Str × Addr), (forIn names acc fun (x : Str × NameKind) (r : List (Str × Addr)) => (match x with
        | (name, kind) => if (kind == NameKind.free) = true then do
            let a ← cellOf env name
            pure (ForInStep.yield ((name, a) :: r))
          else pure (ForInStep.yield r) : Sem (ForInStep (List (Str × Addr))))) = (pure cl : Sem (List (Str × Addr))) ∧
      (∀ x c, cl.lookup x = some c → acc.lookup x = some c ∨ env.cells.lookup x = some c) ∧
      (∀ x, (acc.lookup x).isSome = true ∨ (x, NameKind.free) ∈ names → (cl.lookup x).isSome = true)
  | [], acc, _ => ⟨acc, by simp, fun x c h => .inl h, fun x h => h.elim id fun z => nomatch z⟩
  | (n, k) :: r, acc, h => by
    by_cases hk : k = .free
    · subst hk
      obtain ⟨c, hc⟩ := h (n, .free) List.mem_cons_self rfl
      obtain ⟨cl, e, h1, h2⟩ := closure_go env r ((n, c) :: acc) fun y hy => h y (List.mem_cons_of_mem _ hy)
      refine ⟨cl, ?_, fun x c' z => ?_, fun x z => ?_⟩
      · rw [List.forIn_cons]
        have q : cellOf env n = pure c := by unfold cellOf; rw [hc]
        simp only [q, beq_self_eq_true, if_true, pure_bind]
        exact e
      · rcases h1 x c' z with z | z
        · rw [List.lookup_cons] at z
          by_cases hx : x = n
          · subst hx
            simp at z
            subst z
            exact .inr hc
          · have hb : (x == n) = false := by simpa using hx
            rw [hb] at z
            exact .inl z
        · exact .inr z
      · refine h2 x ?_
        rw [List.lookup_cons]
        by_cases hx : x = n
        · subst hx
          left
          simp
        · have hb : (x == n) = false := by simpa using hx
          rw [hb]
          rcases z with z | z
          · exact .inl z
          · rcases List.mem_cons.mp z with z | z
            · cases z
              exact absurd rfl hx
            · exact .inr z
    · obtain ⟨cl, e, h1, h2⟩ := closure_go env r acc fun y hy => h y (List.mem_cons_of_mem _ hy)
      refine ⟨cl, ?_, h1, fun x z => h2 x ?_⟩
      · rw [List.forIn_cons]
        have hb : (k == NameKind.free) = false := by simpa using hk
        simp only [hb, Bool.false_eq_true, if_false, pure_bind]
        exact e
      · rcases z with z | z
        · exact .inl z
        · rcases List.mem_cons.mp z with z | z
          · cases z
            exact absurd rfl hk
          · exact .inr z
theorem closure_of {scope : Scope} {env : Env} (h : ∀ y ∈ scope.names, y.2 = .free → ∃ c, env.cells.lookup y.1 = some c) :
    ∃ cl, closureFor scope env = pure cl ∧ (∀ x c, cl.lookup x = some c → env.cells.lookup x = some c) ∧ ∀ x, (x, NameKind.free) ∈ scope.names → ∃ c, cl.lookup x = some c := by
  obtain ⟨cl, e, h1, h2⟩ := closure_go env scope.names [] h
  refine ⟨cl, ?_, fun x c z => (h1 x c z).elim (fun q => by simp at q) id, fun x z => Option.isSome_iff_exists.mp (h2 x (.inr z))⟩
  unfold closureFor
  dsimp only
  rw [e]
  rfl

/-- a turn of a comprehension's loop, the step ahead of the store included -/
theorem compLoop_L {prog : Program} {w : World} {A : Around} {R : Result → Shared → Prop} {s : Shared} {elt target iter : Expr} {ifs : List Expr} {scope : Scope} {pos : Pos} {it acc : Value} {env : Env} (I : Nat → Shared → Prop)
    (turn : ∀ n s, I n s → wpAny (model prog w) A (pyNext it) (fun r s₁ => match r with
      | none => R (.ok .next) s₁
      | some v => wpAny (model prog w) A (letOwnedTupleGo target it v) (fun _ s₁' => wpAny (model prog w) A (assign target env v) (fun _ s₂ =>
          wpAny (model prog w) A (forIn ifs true fun c r => if r = true then do let ok ← isTrue c env (eval c env); pure (ForInStep.yield ok) else pure (ForInStep.yield r)) (fun ok s₃ =>
            if ok = true then wpAny (model prog w) A (eval elt env) (fun x s₄ =>
              wpAny (model prog w) A (call (.builtin "list.append") [acc, x]) (fun _ s₅ => ∃ m, m < n ∧ I m s₅) (fun _ _ => False) s₄) (fun _ _ => False) s₃
            else ∃ m, m < n ∧ I m s₃) (fun _ _ => False) s₂) (fun _ _ => False) s₁') (fun _ _ => False) s₁) (fun _ _ => False) s)
    (n : Nat) (h : I n s) :
    codeAny (model prog w) A (.compLoop (.ListComp elt [⟨target, iter, ifs, 0⟩] scope pos) 0 it acc env) R s := by
  refine codeAny_loop rfl I (fun n s hI => ?_) n h
  show wpAny _ A ((compTurn (.ListComp elt [⟨target, iter, ifs, 0⟩] scope pos) 0 it acc env).onRaise (fun x => do noteFrame x env; theTreesLotGoes x)) _ _ s
  refine wpAny_noted ?_
  rw [compTurn_list]
  refine wpAny_bind (wpAny_standAt (wpAny_bind (wpAny_mono (turn n s hI) (fun r s₁ h₁ => ?_) fun _ _ h' => h'.elim)))
  cases r with
  | none => exact wpAny_pure h₁
  | some v =>
    refine wpAny_bind (wpAny_mono h₁ (fun _ s₁' h₁' => ?_) fun _ _ h' => h'.elim)
    refine wpAny_bind (wpAny_mono h₁' (fun _ s₂ h₂ => wpAny_bind (wpAny_mono h₂ (fun ok s₃ h₃ => ?_) fun _ _ h' => h'.elim)) fun _ _ h' => h'.elim)
    cases ok with
    | false => exact wpAny_pure ⟨rfl, h₃⟩
    | true =>
      exact wpAny_bind (wpAny_bind (wpAny_mono h₃ (fun x s₄ h₄ => wpAny_bind (wpAny_mono h₄ (fun _ s₅ h₅ => wpAny_pure (wpAny_pure ⟨rfl, h₅⟩)) fun _ _ h' => h'.elim)) fun _ _ h' => h'.elim))

/-- the names of a block: its own, then the free ones, each at its place among the def's names -/
structure BkScope (N : List Str) (sc osc : Scope) (LN FN : List Str) (fr : List Nat) : Prop where
  kind : sc.kind = .function
  nocell : ∀ y ∈ sc.names, y.2 ≠ .cell
  names : ∀ x ∈ sc.names, x.2 = .local → sc.names.lookup x.1 = some .local
  free : ∀ y ∈ sc.names, y.2 = .free → osc.names.lookup y.1 = some .cell ∨ osc.names.lookup y.1 = some .free
  fnk : ∀ x ∈ FN, osc.names.lookup x = some .cell ∨ osc.names.lookup x = some .free
  fnf : ∀ x ∈ FN, sc.names.lookup x = some .free
  at' : FN.map some = fr.map fun j => N[j]?
theorem BkScope.place {N : List Str} {sc osc : Scope} {LN FN : List Str} {fr : List Nat} (S : BkScope N sc osc LN FN fr) {k : Nat} {x : Str} (e : FN[k]? = some x) : ∃ j : Nat, fr[k]? = some j ∧ N[j]? = some x := by
  have h := congrArg (fun l => l[k]?) S.at'
  simp only [List.getElem?_map, e, Option.map_some] at h
  cases q : fr[k]? with
  | none => rw [q] at h; cases h
  | some j =>
    rw [q] at h
    exact ⟨j, rfl, (Option.some.inj h).symm⟩
theorem BkScope.frl {N : List Str} {sc osc : Scope} {LN FN : List Str} {fr : List Nat} (S : BkScope N sc osc LN FN fr) : fr.length = FN.length := by
  have h := congrArg List.length S.at'
  simpa using h.symm

def bkStart (LN : List Str) (fr : List Nat) (σ : St) : St := List.replicate LN.length none ++ fr.map fun j => (σ[j]?).getD none
/-- the block's context, at the entry s (behind the iterator's making), its frame at C -/
def bkCx (X : Cx) (LN FN : List Str) (sc : Scope) (cl : List (Str × Addr)) (C : Addr) (fp : List Addr) (pins : List (Addr × Obj)) (s : Shared) (H : Hp) : Cx :=
  { X with N := LN ++ FN, s₀ := s, H₀ := H, env := compEnvC sc cl C X.env, outer := X.stack, ex := fp, fn := fun _ => false, pn := X.pn ++ pins, xe := fun _ _ => False }

theorem relabel_lookup {env : Env} : ∀ {names : List (Str × NameKind)} {x : Str} {k : NameKind},
    (names.map fun (n, k) => if (k == NameKind.free && env.scope.kind == .function && env.kindOf n == some .cell) then (n, NameKind.cell) else (n, k)).lookup x = some k →
    names.lookup x = some k ∨ (names.lookup x = some .free ∧ k = .cell)
  | [], _, _, h => by simp at h
  | (n, j) :: r, x, k, h => by
    have ih := @relabel_lookup env r x k
    have h : List.lookup x ((if (j == NameKind.free && env.scope.kind == .function && env.kindOf n == some .cell) = true then (n, NameKind.cell) else (n, j)) :: _) = some k := h
    rw [List.lookup_cons]
    by_cases hc : (j == NameKind.free && env.scope.kind == .function && env.kindOf n == some .cell) = true
    · rw [if_pos hc, List.lookup_cons] at h
      cases hx : x == n with
      | true =>
        rw [hx] at h
        simp only [Bool.and_eq_true, beq_iff_eq] at hc
        have hk : NameKind.cell = k := by simpa using h
        exact .inr ⟨by simp [hc.1.1], hk.symm⟩
      | false =>
        rw [hx] at h
        exact ih h
    · rw [if_neg hc, List.lookup_cons] at h
      cases hx : x == n with
      | true =>
        rw [hx] at h
        exact .inl h
      | false =>
        rw [hx] at h
        exact ih h

theorem bk_start {X : Cx} {pins : List (Addr × Obj)} {σ : St} {H : Hp} {s : Shared} {LN FN : List Str} {fr : List Nat} {sc : Scope} {cl : List (Str × Addr)} {C : Addr} {fp : List Addr} {h' : Heap} {tk : Nat} {m : Str → Option Value}
    (I : Inv X pins σ H s) (S : BkScope X.N sc X.env.scope LN FN fr) (hf : ∀ b ∈ fp, FpOk X pins H b) (hfs : ∀ b ∈ fp, ∃ o, s.heap.get? b = some o)
    (h1 : ∀ x c, cl.lookup x = some c → X.env.cells.lookup x = some c) (h2 : ∀ x, (x, NameKind.free) ∈ sc.names → ∃ c, cl.lookup x = some c)
    (hC : s.heap.objs.size ≤ C) (hk : ∀ b o, s.heap.get? b = some o → h'.get? b = some o) (hn : h'.Ns C m) :
    Inv (bkCx X LN FN sc cl C fp pins s H) [] (bkStart LN fr σ) H { s with heap := h', toks := tk } := by
  have hsub : ∀ b, b ∉ X.fs → b ≠ X.env.locals → b ∉ frs X.stack := fun b n1 n2 z => (List.mem_cons.mp (I.stkSub b z)).elim n2 n1
  have hlk : ∀ x k, (relabel sc X.env).names.lookup x = some k → (k = .cell ∨ k = .free) → sc.names.lookup x = some .free := fun x k e hk => by
    rcases relabel_lookup e with q | ⟨q, _⟩
    · rcases hk with rfl | rfl
      · exact absurd rfl (S.nocell _ (PySem.mem_of_lookup q))
      · exact q
    · exact q
  refine ⟨⟨I.ok.mod, ?_, I.ok.glob, I.ok.blt, hC, fun x y c e1 e2 => I.ok.inj x y c (h1 x c e1) (h1 y c e2), fun x hx => ?_, (fun x c z => absurd z (by intro z; cases z)), I.ok.hd, I.ok.frames, .inl rfl, fun b hb => ⟨?_, fun x c e z => ?_⟩, I.bs, Nat.le_trans I.ok.bsz I.sz, fun b o e hb => ?_, fun b hb => ?_, I.stack, I.stkFree⟩,
    rfl, I.bare, Un.kept hk, ⟨m, hn, fun i x v e1 e2 e3 => ?_⟩, fun x c e => ?_, ?_, fun x c e => I.freeC x c (h1 x c e), fun p hp => ?_, I.hok.kept hk, ?_⟩
  · exact S.kind
  · have hx : (relabel sc X.env).names.lookup x = some .cell ∨ (relabel sc X.env).names.lookup x = some .free := hx
    rcases hx with hx | hx
    · exact h2 x (PySem.mem_of_lookup (hlk x _ hx (.inl rfl)))
    · exact h2 x (PySem.mem_of_lookup (hlk x _ hx (.inr rfl)))
  · obtain ⟨o, e⟩ := hfs b hb
    exact Nat.ne_of_lt (Nat.lt_of_lt_of_le (Heap.lt_size e) hC)
  · exact (hf b hb).2.2.2.2.1 x c (h1 x c e) z
  · obtain ⟨_, _, _, h3, _⟩ := hf b hb
    rcases h3 with z | z
    · exact I.ok.noex b o e z
    · exact absurd (Nat.lt_of_lt_of_le (Heap.lt_size (I.ok.bs b o e).1) z) (Nat.lt_irrefl _)
  · obtain ⟨_, n1, n2, _⟩ := hf b hb
    exact hsub b n2 n1
  · -- the free names' values
    have hi : LN.length ≤ i := by
      refine Nat.le_of_not_lt fun hlt => ?_
      unfold bkStart at e2
      rw [List.getElem?_append_left (by simpa using hlt), List.getElem?_replicate] at e2
      split at e2 <;> cases e2
    have e1 : FN[i - LN.length]? = some x := by
      have e1 : (LN ++ FN)[i]? = some x := e1
      rwa [List.getElem?_append_right hi] at e1
    obtain ⟨j, ej, hj⟩ := S.place e1
    have e2 : (σ[j]?).getD none = some v := by
      unfold bkStart at e2
      rw [List.getElem?_append_right (by simpa using hi), List.length_replicate, List.getElem?_map, ej] at e2
      simpa using e2
    have e2 : σ[j]? = some (some v) := by
      cases q : σ[j]? with
      | none => rw [q] at e2; cases e2
      | some z =>
        rw [q] at e2
        exact congrArg some e2
    have hkx := S.fnk x (List.mem_of_getElem? e1)
    obtain ⟨m0, hm0, hl⟩ := I.loc
    have hv : Vis X.env.scope x := hkx.elim (fun z => .inr (.inl z)) fun z => .inr (.inr z)
    obtain ⟨u, r, l⟩ := hl j x v hj e2 hv
    refine ⟨u, r, ?_⟩
    rcases l with ⟨k1, _⟩ | ⟨_, c, ec, z⟩
    · have k1 : X.env.scope.names.lookup x = some .local := k1
      rcases hkx with q | q <;> rw [q] at k1 <;> cases k1
    · have e3 : Vis (relabel sc X.env) x := e3
      rcases e3 with q | q | q
      · -- a block's own name is none of the free ones, unless it shadows: then the kinds say local
        rcases relabel_lookup q with q' | ⟨_, q'⟩
        · rw [S.fnf x (List.mem_of_getElem? e1)] at q'
          cases q'
        · cases q'
      · obtain ⟨c', ec'⟩ := h2 x (PySem.mem_of_lookup (hlk x _ q (.inl rfl)))
        have := h1 x c' ec'
        rw [ec] at this; cases this
        exact .inr ⟨.inl q, c, ec', by obtain ⟨o, ho, hd⟩ := z; exact ⟨o, hk _ _ ho, hd⟩⟩
      · obtain ⟨c', ec'⟩ := h2 x (PySem.mem_of_lookup (hlk x _ q (.inr rfl)))
        have := h1 x c' ec'
        rw [ec] at this; cases this
        exact .inr ⟨.inr q, c, ec', by obtain ⟨o, ho, hd⟩ := z; exact ⟨o, hk _ _ ho, hd⟩⟩
  · obtain ⟨v, o, ho, hd⟩ := I.cell x c (h1 x c e)
    exact ⟨v, o, hk _ _ ho, hd⟩
  · exact I.hok.fresh hC
  · have hp : p ∈ (X.pn ++ pins) ++ [] := hp
    rw [List.append_nil] at hp
    obtain ⟨e, n, ne, nf, d⟩ := I.pin p hp
    exact ⟨hk _ _ e, n, Nat.ne_of_lt (Nat.lt_of_lt_of_le (Heap.lt_size e) hC), hsub _ nf ne, d⟩
  · unfold bkStart
    show _ = (LN ++ FN).length
    simp [S.frl]
end L2

end
section
set_option Elab.async false
set_option linter.all false
set_option maxRecDepth 100000
set_option maxHeartbeats 4000000
namespace L2
open PySem PySem.Spec PyProof.Rows

/-- the tests of a clause: none, or one -/
def PTs (X : Cx) (ifs : List Expr) (t : TT) : Prop :=
  ∀ (pins : List (Addr × Obj)) (s : Shared) (σ : St) (H : Hp) (Q : Bool → Hp → Prop), Inv X pins σ H s → t σ H Q →
    wpAny (model X.prog X.w) X.A (forIn ifs true fun c r => if r = true then do let ok ← isTrue c X.env (eval c X.env); pure (ForInStep.yield ok) else pure (ForInStep.yield r)) (TP X pins σ Q) X.xe s
def tTrue : TT := fun _ H Q => Q true H
theorem pts_nil {X : Cx} : PTs X [] tTrue := fun _ _ _ H _ I h => wpAny_tests_nil ⟨H, I, h⟩
theorem pts_one {X : Cx} {c : Expr} {t : TT} (h : PT X c t) : PTs X [c] t := fun pins s σ H Q I q => wpAny_tests_one (h pins s σ H Q I q)

theorem Un.track {fs ex : List Addr} {H H1 : Hp} {h h1 : Heap} {a : Addr} {o : HO} (u : Un fs ex H H1 h h1) (hp : h.objs.size ≤ a) (hn : H a = none) : Un fs ex H (upd H1 a o) h h1 where
  keep := u.keep
  slot := u.slot
  free := fun b ob q n hx => by
    rw [upd_ne (Nat.ne_of_lt (Nat.lt_of_lt_of_le (Heap.lt_size q) hp))]
    exact u.free b ob q n hx
  there := u.there
  tups := fun b xs q => by
    rw [upd_ne (fun z => by rw [z, hn] at q; cases q)]
    exact u.tups b xs q
  frzs := fun b ob x q => by
    rw [upd_ne (fun z => by rw [z, hn] at q; cases q)]
    exact u.frzs b ob x q
  tbls := fun b ps q => by
    rw [upd_ne (fun z => by rw [z, hn] at q; cases q)]
    exact u.tbls b ps q
theorem HOk.track {P : Program} {w : World} {H : Hp} {h : Heap} {a : Addr} {o : HO} (x : HOk P w H h) (hn : H a = none) (new : ObjOk P w (upd H a o) h a o) : HOk P w (upd H a o) h := fun b u e => by
  by_cases hb : b = a
  · subst hb
    rw [upd_same] at e
    cases e
    exact new
  · rw [upd_ne hb] at e
    refine (x b u e).stay (fun _ _ _ q => q) (fun c q => ?_) fun c xs q => ?_
    · rw [upd_ne (fun z => by rw [z, hn] at q; cases q)]
      exact q
    · rw [upd_ne (fun z => by rw [z, hn] at q; cases q)]
      exact q

section
variable {X : Cx} {tg elt iter : Expr} {ifs : List Expr} {sc : Scope} {pos : Pos} {LN FN : List Str} {fr : List Nat} {wi : TI} {g : TG} {tt : TT} {te : TE}

/-- what a comprehension wants: W by the turn, a measure, the items so far, the block's names, the heap -/
def CW (J : It) (g : TG) (tt : TT) (te : TE) (W : Nat → Nat → List V → St → Hp → Prop) (Q : VK) : Prop :=
  ∀ i m ys σ H, W i m ys σ H →
    (J.stop i H ∧ ys.length ≤ sizeLine ∧ ∀ p, H p = none → Q (.ref p) (upd H p (.lst ys))) ∨
    (J.go i H ∧ ∃ N : List V → St → Hp → Prop, (∀ ys' σ' H', N ys' σ' H' → ∃ m', m' < m ∧ W (i + 1) m' ys' σ' H') ∧
      ∀ x H2, J.yld i H x H2 → g x σ H2 fun σ2 H3 => tt σ2 H3 fun ok H4 => if ok = true then te σ2 H4 fun y H5 => ys.length < sizeLine ∧ N (ys ++ [y]) σ2 H5 else N ys σ2 H4)
def tComp (LN : List Str) (fr : List Nat) (wi : TI) (g : TG) (tt : TT) (te : TE) : TE := fun σ H Q => wi σ H fun J H1 =>
  ∃ W : Nat → Nat → List V → St → Hp → Prop, (∃ m, W 0 m [] (bkStart LN fr σ) H1) ∧ CW J g tt te W Q

theorem bk_run {pins : List (Addr × Obj)} {σ : St} {H2 : Hp} {s2 : Shared} {it : Addr} {fp : List Addr} {tn : Nat → Heap → Prop} {J : It} {cl : List (Str × Addr)} {W : Nat → Nat → List V → St → Hp → Prop} {Q : VK} {m0 : Nat}
    {R : Value → Addr → Result → Shared → Prop} {E : Value → Shared → Prop}
    (hc : X.calm = true) (S : BkScope X.N sc X.env.scope LN FN fr)
    (hg : ∀ cl C fp pins s H, PG (bkCx X LN FN sc cl C fp pins s H) tg g) (ht : ∀ cl C fp pins s H, PTs (bkCx X LN FN sc cl C fp pins s H) ifs tt) (he : ∀ cl C fp pins s H, PE (bkCx X LN FN sc cl C fp pins s H) elt te)
    (h1 : ∀ x c, cl.lookup x = some c → X.env.cells.lookup x = some c) (h2 : ∀ x, (x, NameKind.free) ∈ sc.names → ∃ c, cl.lookup x = some c)
    (I2 : Inv X pins σ H2 s2) (T : Turn X.prog X.w X.K tg J fp it tn) (st2 : tn 0 s2.heap) (f2 : ∀ b ∈ fp, FpOk X pins H2 b) (w0 : W 0 m0 [] (bkStart LN fr σ) H2) (turn : CW J g tt te W Q)
    (hR : ∀ D C s' H' ys m, s'.heap.Ns C m → Inv X pins σ (upd H' D (.lst ys)) s' → FpOk X pins (upd H' D (.lst ys)) C → Q (.ref D) (upd H' D (.lst ys)) → R (.ref D) C (.ok .next) s') :
    wpAny (model X.prog X.w) X.A (newList []) (fun acc s₃ => wpAny (model X.prog X.w) X.A (newFunctionEnv sc X.env.globals cl [] X.env.qual none .none (some X.env)) (fun cenv s₄ =>
      codeAny (model X.prog X.w) X.A (.compStart (.ListComp elt [⟨tg, iter, ifs, 0⟩] sc pos) 0 (.ref it) acc { cenv with scope := relabel sc X.env }) (R acc cenv.locals) s₄) E s₃) E s2 := by
  refine wpAny_newObj_type (wpAny_newFunctionEnv S.nocell (by intro y hy; simp at hy) (fun h₁ hns hsb => ?_) S.kind)
  dsimp only at hns hsb ⊢
  generalize hH2 : s2.heap.push { cls := .type "list", dict := none, data := .seq ([] : List Value).toArray } = G at hns hsb ⊢
  have hC : G.objs.size = s2.heap.objs.size + 1 := by rw [← hH2, Heap.size_push]
  have hDC : s2.heap.objs.size ≠ G.objs.size := by rw [hC]; exact Nat.ne_of_lt (Nat.lt_succ_self _)
  have hCle : s2.heap.objs.size ≤ G.objs.size := by rw [hC]; exact Nat.le_succ _
  have old : ∀ b o, s2.heap.get? b = some o → h₁.get? b = some o := fun b o e =>
    hsb.extBut b o (by rw [hC]; exact Nat.ne_of_lt (Nat.lt_succ_of_lt (Heap.lt_size e))) (Heap.get?_push_of_some _ (hH2 ▸ Heap.get?_push_of_some _ e))
  have hacc : h₁.PlainList s2.heap.objs.size #[] := ⟨_, hsb.extBut _ _ hDC (Heap.get?_push_of_some _ (hH2 ▸ Heap.get?_push_size _ rfl))⟩
  have hfs : ∀ b ∈ fp, ∃ o, s2.heap.get? b = some o := fun b hb => let ⟨o, e, _⟩ := T.obj 0 _ st2 b hb; ⟨o, e⟩
  have hflt : ∀ b ∈ fp, b < s2.heap.objs.size := fun b hb => let ⟨o, e⟩ := hfs b hb; Heap.lt_size e
  generalize hD : s2.heap.objs.size = D at *
  generalize hCC : G.objs.size = C at *
  have I0 := bk_start (LN := LN) (cl := cl) (C := C) (tk := s2.toks + ([] : List (Str × Value)).length) I2 S f2 hfs h1 h2 (by rw [hD]; exact hCle) old hns
  have fD : FpOk X pins H2 D := I2.fpOk (Nat.le_of_eq hD) (I2.hok.fresh (Nat.le_of_eq hD))
  -- what stays true of D and of the iterator's objects inside the block
  have stD : ∀ {pl : List (Addr × Obj)} {H' : Hp}, H' D = none → (∀ p ∈ pl, p.1 ≠ D) → FpOk (bkCx X LN FN sc cl C fp pins s2 H2) pl H' D := fun {pl H'} hn hp => by
    refine ⟨hn, hDC, fun z => ?_, .inr (Nat.le_of_eq hD), fun x c e => fD.2.2.2.2.1 x c (h1 x c e), fun p hp' => ?_⟩
    · exact (List.mem_cons.mp (I2.stkSub D z)).elim fD.2.1 fD.2.2.1
    · have hp' : p ∈ (X.pn ++ pins) ++ pl := hp'
      rcases List.mem_append.mp hp' with q | q
      · exact fD.2.2.2.2.2 p q
      · exact hp p q
  have stat : ∀ {pl : List (Addr × Obj)} {H' : Hp}, (∀ b ∈ fp, H' b = none) → (∀ p ∈ pl, p.1 = D) → ∀ b ∈ fp, FpOk (bkCx X LN FN sc cl C fp pins s2 H2) pl H' b := fun {pl H'} hn hp b hb => by
    obtain ⟨_, n1, n2, n3, n4, n5⟩ := f2 b hb
    refine ⟨hn b hb, Nat.ne_of_lt (Nat.lt_of_lt_of_le (hflt b hb) hCle), fun z => ?_, .inl hb, fun x c e => n4 x c (h1 x c e), fun p hp' => ?_⟩
    · exact (List.mem_cons.mp (I2.stkSub b z)).elim n1 n2
    · have hp' : p ∈ (X.pn ++ pins) ++ pl := hp'
      rcases List.mem_append.mp hp' with q | q
      · exact n5 p q
      · rw [hp p q]
        exact Nat.ne_of_gt (hflt b hb)
  have pinD : ∀ {s' : Shared}, ∀ p ∈ pinsAt [D] s'.heap, p.1 = D := fun p hp => by simpa using (of_pinsAt hp).1
  have key : ∀ s₄ : Shared, s₄ = { s2 with heap := h₁, toks := s2.toks + ([] : List (Str × Value)).length } →
      codeAny (model X.prog X.w) X.A (.compLoop (.ListComp elt [⟨tg, iter, ifs, 0⟩] sc pos) 0 (.ref it) (.ref D) (compEnvC sc cl C X.env)) (R (.ref D) C) s₄ := by
    rintro s₄ rfl
    refine compLoop_L (fun n s' => ∃ i ys σ' H' its, Inv (bkCx X LN FN sc cl C fp pins s2 H2) [] σ' H' s' ∧ tn i s'.heap ∧ (∀ b ∈ fp, H' b = none) ∧ W i n ys σ' H' ∧ Vals ys its ∧ s'.heap.PlainList D its.toArray ∧ H' D = none) ?_ m0
      ⟨0, [], _, H2, [], I0, T.keep _ _ _ st2 (fun b _ o e => old b o e), fun b hb => (f2 b hb).1, w0, .nil, hacc, fD.1⟩
    rintro n s3 ⟨i, ys, σ3, H3, its, I3, st3, fr3, w3, rv, pl, nD⟩
    have plo : ∃ o, s3.heap.get? D = some o ∧ ∀ v, o.data ≠ .cell v := by
      obtain ⟨k, e⟩ := pl
      exact ⟨_, e, fun v z => by cases z⟩
    have I3' : Inv (bkCx X LN FN sc cl C fp pins s2 H2) ([] ++ pinsAt [D] s3.heap) σ3 H3 s3 := I3.pinned (fp := [D]) (fun b hb => by
      obtain rfl : b = D := by simpa using hb
      exact stD nD (fun _ z => nomatch z)) (fun b hb => by
      obtain rfl : b = D := by simpa using hb
      exact plo)
    have I3' : Inv (bkCx X LN FN sc cl C fp pins s2 H2) (pinsAt [D] s3.heap) σ3 H3 s3 := I3'
    have keepD : ∀ {pl' : List (Addr × Obj)} {σ' : St} {H' : Hp} {s' : Shared}, Inv (bkCx X LN FN sc cl C fp pins s2 H2) (pinsAt [D] s3.heap ++ pl') σ' H' s' → s'.heap.PlainList D its.toArray ∧ H' D = none := fun {pl' σ' H' s'} J => by
      obtain ⟨k, e⟩ := pl
      have := J.pin (D, _) (List.mem_append_right _ (List.mem_append_left _ (mem_pinsAt (by simp) e)))
      exact ⟨⟨k, this.1⟩, this.2.1⟩
    have keepD0 : ∀ {σ' : St} {H' : Hp} {s' : Shared}, Inv (bkCx X LN FN sc cl C fp pins s2 H2) (pinsAt [D] s3.heap) σ' H' s' → s'.heap.PlainList D its.toArray ∧ H' D = none := fun {σ' H' s'} J => by
      refine keepD (pl' := []) (σ' := σ') ?_
      rw [List.append_nil]
      exact J
    rcases turn i n ys σ3 H3 w3 with ⟨stop, hlen, q⟩ | ⟨go, N, hN, step⟩
    · refine thn (T.done (bkCx X LN FN sc cl C fp pins s2 H2) rfl rfl rfl hc i (pinsAt [D] s3.heap) s3 σ3 H3 _ I3' (stat fr3 (fun p hp => pinD (s' := s3) p hp)) st3 stop) fun r s4 ⟨hr, I4⟩ => ?_
      subst hr
      obtain ⟨pl4, n4⟩ := keepD0 I4
      have u4 : Un (frs X.stack) fp H2 (upd H3 D (.lst ys)) s2.heap s4.heap := Un.track I4.base (Nat.le_of_eq hD) fD.1
      have nC : H3 C = none := I4.free
      have o4 : HOk X.prog X.w (upd H3 D (.lst ys)) s4.heap := HOk.track I4.hok n4 (by
        obtain ⟨k, e⟩ := pl4
        exact ⟨hlen, its, k, rv, e⟩)
      have J : Inv X pins σ (upd H3 D (.lst ys)) s4 := I2.call' (s' := s4) (ch := fp) I4.os u4 o4 I4.bare fun b hb => by
        obtain ⟨_, n1, n2, n3, n4, n5⟩ := f2 b hb
        exact ⟨n3, n1, n4, n5⟩
      obtain ⟨m, hm, _⟩ := I4.loc
      exact hR D C s4 H3 ys m hm J (I2.fpOk (by rw [hD]; exact hCle) (by rw [upd_ne (Ne.symm hDC)]; exact nC)) (q D n4)
    · refine thn (T.item (bkCx X LN FN sc cl C fp pins s2 H2) rfl rfl rfl hc i (pinsAt [D] s3.heap) s3 σ3 H3 _ I3' (stat fr3 (fun p hp => pinD (s' := s3) p hp)) st3 go) fun r s4 ⟨u, hr, h4⟩ => ?_
      subst hr
      refine thn h4 fun _ s5 ⟨x, H5, I5, r5, y5, st5, fr5⟩ => ?_
      have I5' := I5.pinned (stat fr5 (fun p hp => pinD (s' := s3) p hp)) (T.obj _ _ st5)
      refine thn (hg cl C fp pins s2 H2 _ s5 σ3 H5 x u _ I5' r5 (step x H5 y5)) fun _ s6 ⟨σ6, H6, I6, q6⟩ => ?_
      refine thn (ht cl C fp pins s2 H2 _ s6 σ6 H6 _ I6 q6) fun ok s7 ⟨H7, I7, q7⟩ => ?_
      have again : ∀ {s' : Shared} {H' : Hp}, Inv (bkCx X LN FN sc cl C fp pins s2 H2) (pinsAt [D] s3.heap ++ pinsAt fp s5.heap) σ6 H' s' → tn (i + 1) s'.heap ∧ ∀ b ∈ fp, H' b = none := fun {s' H'} J => by
        refine ⟨T.keep _ _ _ st5 fun b hb o e => (J.pin (b, o) (List.mem_append_right _ (List.mem_append_right _ (mem_pinsAt hb e)))).1, fun b hb => ?_⟩
        obtain ⟨o, e, d⟩ := T.obj _ _ st5 b hb
        exact (J.pin (b, o) (List.mem_append_right _ (List.mem_append_right _ (mem_pinsAt hb e)))).2.1
      have bare : ∀ {s' : Shared} {H' : Hp}, Inv (bkCx X LN FN sc cl C fp pins s2 H2) (pinsAt [D] s3.heap ++ pinsAt fp s5.heap) σ6 H' s' → Inv (bkCx X LN FN sc cl C fp pins s2 H2) [] σ6 H' s' := fun J => J.pins_of fun p hp => nomatch hp
      cases ok with
      | false =>
        rw [if_neg Bool.false_ne_true] at q7 ⊢
        obtain ⟨m', hm, w7⟩ := hN ys σ6 H7 q7
        obtain ⟨pl7, n7⟩ := keepD I7
        exact ⟨m', hm, i + 1, ys, σ6, H7, its, bare I7, (again I7).1, (again I7).2, w7, rv, pl7, n7⟩
      | true =>
        rw [if_pos rfl] at q7 ⊢
        refine thn (he cl C fp pins s2 H2 _ s7 σ6 H7 _ I7 q7) fun v s8 ⟨y, H8, I8, r8, hl8, q8⟩ => ?_
        obtain ⟨m', hm, w8⟩ := hN _ σ6 H8 q8
        obtain ⟨pl8, n8⟩ := keepD I8
        obtain ⟨t8, f8⟩ := again I8
        have hsz : its.toArray.size ≤ sizeLine := by
          have := rv.length
          rw [List.size_toArray, ← this]
          exact Nat.le_of_lt hl8
        refine wpAny_list_append_plain pl8 (fun h' pl' sb => ?_) hsz
        refine ⟨m', hm, i + 1, ys ++ [y], σ6, H8, its ++ [v], ?_, ?_, f8, w8, rv.append (.cons r8 .nil), ?_, n8⟩
        · obtain ⟨d0, d1, d2, d3, d4, d5⟩ := stD (pl := []) n8 (fun _ z => nomatch z)
          exact (bare I8).turned (t' := s8.toks) (fun b o hb e => (sb.2 b hb).trans e) d0 d1 d3 d4 d5
        · exact T.keep _ _ _ t8 fun b hb o e => (sb.2 b (Nat.ne_of_lt (hflt b hb))).trans e
        · simpa using pl'
  exact codeAny_compStart_list (key _ rfl) (T.self _ 0 _ _ _ (T.keep _ _ _ st2 fun b _ o e => old b o e) (key _ rfl))

/-- [elt for tg in iter if ..] -/
theorem pe_comp (hc : X.calm = true) (S : BkScope X.N sc X.env.scope LN FN fr) (hi : PI X tg iter wi)
    (hg : ∀ cl C fp pins s H, PG (bkCx X LN FN sc cl C fp pins s H) tg g) (ht : ∀ cl C fp pins s H, PTs (bkCx X LN FN sc cl C fp pins s H) ifs tt) (he : ∀ cl C fp pins s H, PE (bkCx X LN FN sc cl C fp pins s H) elt te)
    (hs : ∀ x, foldedSetIterable iter X.env x = pure x := by intro _; rfl) : PE X (.ListComp elt [⟨tg, iter, ifs, 0⟩] sc pos) (tComp LN fr wi g tt te) := by
  intro pins s σ H Q I h
  rw [eval_ListComp]
  obtain ⟨cl, ecl, h1, h2⟩ := closure_of (scope := sc) (env := X.env) fun y hy hk => I.ok.has y.1 (S.free y hy hk)
  refine wpAny_comprehension_free (use := none) rfl hs ecl S.kind S.names (thn (hi pins s σ H _ I h) fun v s1 q1 => thn q1 fun itv s2 q2 => ?_)
  obtain ⟨it, fp, tn, J, H2, e, I2, T, st2, f2, W, ⟨m0, w0⟩, turn⟩ := q2
  subst e
  refine bk_run (R := fun acc C => compPost (model X.prog X.w) X.A X.xe none (EP X pins σ Q) acc C) hc S hg ht he h1 h2 I2 T st2 f2 w0 turn fun D C s' H' ys m hn J fC q => ?_
  refine ⟨m, hn, fun h' sb => ⟨.ref D, _, J.turned (t' := s'.toks) (fun b o hb e => (sb.2 b hb).trans e) fC.1 fC.2.1 fC.2.2.2.1 fC.2.2.2.2.1 fC.2.2.2.2.2, rfl, q⟩⟩

/-- name = [elt for tg in iter if ..], the store ahead of the block's end -/
theorem ps_setc {i : Nat} {x : Str} {pos' pos2 : Pos} (hc : X.calm = true) (hN : X.N.Nodup) (hix : X.N[i]? = some x) (hx : X.env.scope.names.lookup x = some .local) (S : BkScope X.N sc X.env.scope LN FN fr) (hi : PI X tg iter wi)
    (hg : ∀ cl C fp pins s H, PG (bkCx X LN FN sc cl C fp pins s H) tg g) (ht : ∀ cl C fp pins s H, PTs (bkCx X LN FN sc cl C fp pins s H) ifs tt) (he : ∀ cl C fp pins s H, PE (bkCx X LN FN sc cl C fp pins s H) elt te)
    (hsw : swapsWith (.ListComp elt [⟨tg, iter, ifs, 0⟩] sc pos) (some (.Name x pos')) pos2.line X.env = pure true := by rfl)
    (hs : ∀ x, foldedSetIterable iter X.env x = pure x := by intro _; rfl) : PS X (.Assign [.Name x pos'] (.ListComp elt [⟨tg, iter, ifs, 0⟩] sc pos) pos2) (tAsg (tComp LN fr wi g tt te) (gName i)) := by
  intro pins s σ H D0 I h
  rw [exec_Assign_Name_used _ _ _ _ hsw]
  refine wpAny_bind (wpAny_standAt (wpAny_bind ?_))
  show wpAny _ X.A (do let _ ← comprehension (.ListComp elt [⟨tg, iter, ifs, 0⟩] sc pos) sc X.env _ (newList []) false (eval iter X.env) (some (assign (.Name x pos') X.env))) _ _ s
  obtain ⟨cl, ecl, h1, h2⟩ := closure_of (scope := sc) (env := X.env) fun y hy hk => I.ok.has y.1 (S.free y hy hk)
  refine wpAny_bind (wpAny_mono (wpAny_comprehension_free (use := some (assign (.Name x pos') X.env)) (Q := fun _ s' => SP X pins D0 .next s') rfl hs ecl S.kind S.names (thn (hi pins s σ H _ I h) fun v s1 q1 => thn q1 fun itv s2 q2 => ?_))
    (fun _ s' hq => wpAny_pure (wpAny_pure hq)) fun _ _ e => e)
  obtain ⟨it, fp, tn, J, H2, e, I2, T, st2, f2, W, ⟨m0, w0⟩, turn⟩ := q2
  subst e
  refine bk_run (R := fun acc C => compPost (model X.prog X.w) X.A X.xe (some (assign (.Name x pos') X.env)) (fun _ s' => SP X pins D0 .next s') acc C) hc S hg ht he h1 h2 I2 T st2 f2 w0 turn fun D C s' H' ys m hn J fC q => ?_
  show wpAny _ X.A (assign (.Name x pos') X.env (.ref D)) _ _ s'
  refine wpAny_assign_Name (store_ok2 J hN hix (.inl hx) (show RelV (.ref D) (.ref D) from rfl) (fun s'' J2 ⟨a, sb2, ha⟩ => ?_) (.inr hx))
  have nCa : C ≠ a := by
    rcases ha with z | z
    · rw [z]; exact fC.2.1
    · exact fun q => fC.2.2.2.2.1 x a z q.symm
  refine ⟨m, hn.sameBut sb2 nCa, fun h' sb => ⟨_, _, J2.turned (t' := s''.toks) (fun b o hb e => (sb.2 b hb).trans e) fC.1 fC.2.1 fC.2.2.2.1 fC.2.2.2.2.1 fC.2.2.2.2.2, q⟩⟩
end
end L2

end
section
set_option Elab.async false
set_option linter.all false
set_option maxRecDepth 100000
set_option maxHeartbeats 4000000
namespace L2
open PySem PySem.Spec PyProof.Rows

/-! ### data: what a value stands for, by tuples that never change -/
inductive D where
  | non | bl (b : Bool) | int (i : Int) | str (x : Str) | tup (ds : List D)
mutual
def Rep (H : Hp) : D → V → Prop
  | .non, v => v = .non
  | .bl b, v => v = .bl b
  | .int i, v => v = .int i
  | .str x, v => v = .str x
  | .tup ds, v => ∃ a xs, v = .ref a ∧ H a = some (.tup xs) ∧ Reps H ds xs
def Reps (H : Hp) : List D → List V → Prop
  | [], vs => vs = []
  | d :: ds, vs => ∃ v r, vs = v :: r ∧ Rep H d v ∧ Reps H ds r
end
/-- tuples stay -/
def TSame (H H' : Hp) : Prop := ∀ a xs, H a = some (.tup xs) → H' a = some (.tup xs)
theorem Same.ts {H H' : Hp} (h : Same H H') : TSame H H' := fun a xs e => h a _ e
theorem Same.new {H : Hp} {a : Addr} {o : HO} (h : H a = none) : Same H (upd H a o) := fun b u e => by rw [upd_ne (ne_of_none e h)]; exact e
/-- an object that is no tuple is written -/
theorem TSame.wr {H : Hp} {a : Addr} {o : HO} (h : ∀ xs, H a ≠ some (.tup xs)) : TSame H (upd H a o) := fun b xs e => by
  rw [upd_ne (fun z => by subst z; exact h xs e)]
  exact e
mutual
theorem Rep.mono {H H' : Hp} (t : TSame H H') : ∀ {d : D} {v : V}, Rep H d v → Rep H' d v
  | .non, _, h => by simpa [Rep] using h
  | .bl _, _, h => by simpa [Rep] using h
  | .int _, _, h => by simpa [Rep] using h
  | .str _, _, h => by simpa [Rep] using h
  | .tup ds, v, h => by
    rw [Rep] at h ⊢
    obtain ⟨a, xs, e, ha, r⟩ := h
    exact ⟨a, xs, e, t a xs ha, Reps.mono t r⟩
theorem Reps.mono {H H' : Hp} (t : TSame H H') : ∀ {ds : List D} {vs : List V}, Reps H ds vs → Reps H' ds vs
  | [], _, h => by simpa [Reps] using h
  | d :: ds, vs, h => by
    rw [Reps] at h ⊢
    obtain ⟨v, r, e, h1, h2⟩ := h
    exact ⟨v, r, e, Rep.mono t h1, Reps.mono t h2⟩
end
theorem rep_int {H : Hp} {i : Int} : Rep H (.int i) (.int i) := by rw [Rep]
theorem rep_tup {H : Hp} {a : Addr} {xs : List V} {ds : List D} (h : H a = some (.tup xs)) (r : Reps H ds xs) : Rep H (.tup ds) (.ref a) := by rw [Rep]; exact ⟨a, xs, rfl, h, r⟩
theorem reps_nil {H : Hp} : Reps H [] [] := by rw [Reps]
theorem reps_cons {H : Hp} {d : D} {ds : List D} {v : V} {vs : List V} (h : Rep H d v) (r : Reps H ds vs) : Reps H (d :: ds) (v :: vs) := by rw [Reps]; exact ⟨v, vs, rfl, h, r⟩
theorem rep_int_inv {H : Hp} {i : Int} {v : V} (h : Rep H (.int i) v) : v = .int i := by rwa [Rep] at h
theorem rep_tup_inv {H : Hp} {v : V} {ds : List D} (h : Rep H (.tup ds) v) : ∃ a xs, v = .ref a ∧ H a = some (.tup xs) ∧ Reps H ds xs := by rwa [Rep] at h
theorem reps_nil_inv {H : Hp} {vs : List V} (h : Reps H [] vs) : vs = [] := by rwa [Reps] at h
theorem reps_cons_inv {H : Hp} {d : D} {ds : List D} {vs : List V} (h : Reps H (d :: ds) vs) : ∃ v r, vs = v :: r ∧ Rep H d v ∧ Reps H ds r := by rwa [Reps] at h
theorem Reps.length {H : Hp} : ∀ {ds : List D} {vs : List V}, Reps H ds vs → ds.length = vs.length
  | [], vs, h => by rw [reps_nil_inv h]; rfl
  | d :: ds, vs, h => by
    obtain ⟨v, r, rfl, _, h2⟩ := reps_cons_inv h
    simp [Reps.length h2]
theorem Reps.get {H : Hp} : ∀ {ds : List D} {vs : List V} {i : Nat} {d : D}, Reps H ds vs → ds[i]? = some d → ∃ v, vs[i]? = some v ∧ Rep H d v
  | [], vs, i, d, h, e => by simp at e
  | d :: ds, vs, 0, d', h, e => by
    obtain ⟨v, r, rfl, h1, h2⟩ := reps_cons_inv h
    simp at e; subst e
    exact ⟨v, rfl, h1⟩
  | d :: ds, vs, i + 1, d', h, e => by
    obtain ⟨v, r, rfl, h1, h2⟩ := reps_cons_inv h
    obtain ⟨u, e1, e2⟩ := Reps.get (i := i) (d := d') h2 (by simpa using e)
    exact ⟨u, by simpa using e1, e2⟩
theorem Reps.get' {H : Hp} {ds : List D} {vs : List V} {i : Nat} {v : V} (h : Reps H ds vs) (e : vs[i]? = some v) : ∃ d, ds[i]? = some d ∧ Rep H d v := by
  have hl := h.length
  have hi : i < vs.length := (List.getElem?_eq_some_iff.mp e).1
  obtain ⟨u, e1, e2⟩ := h.get (i := i) (d := ds[i]'(by omega)) (List.getElem?_eq_getElem (by omega))
  rw [e] at e1; cases e1
  exact ⟨_, List.getElem?_eq_getElem (by omega), e2⟩
theorem Reps.append {H : Hp} : ∀ {ds es : List D} {vs ws : List V}, Reps H ds vs → Reps H es ws → Reps H (ds ++ es) (vs ++ ws)
  | [], es, vs, ws, h, r => by rw [reps_nil_inv h]; exact r
  | d :: ds, es, vs, ws, h, r => by
    obtain ⟨v, q, rfl, h1, h2⟩ := reps_cons_inv h
    exact reps_cons h1 (Reps.append h2 r)
mutual
def D.pl : D → Bool
  | .bl _ => false
  | .tup ds => D.pls ds
  | _ => true
def D.pls : List D → Bool
  | [] => true
  | d :: ds => d.pl && D.pls ds
end
mutual
def D.dep : D → Nat
  | .tup ds => D.deps ds + 1
  | _ => 0
def D.deps : List D → Nat
  | [] => 0
  | d :: ds => max d.dep (D.deps ds)
end
theorem D.pls_get : ∀ {ds : List D} {i : Nat} {d : D}, D.pls ds = true → ds[i]? = some d → d.pl = true
  | [], i, d, _, e => by simp at e
  | d :: ds, 0, d', h, e => by
    simp at e; subst e
    rw [D.pls, Bool.and_eq_true] at h
    exact h.1
  | d :: ds, i + 1, d', h, e => by
    rw [D.pls, Bool.and_eq_true] at h
    exact D.pls_get (i := i) h.2 (by simpa using e)
theorem D.deps_get : ∀ {ds : List D} {i : Nat} {d : D}, ds[i]? = some d → d.dep ≤ D.deps ds
  | [], i, d, e => by simp at e
  | d :: ds, 0, d', e => by
    simp at e; subst e
    rw [D.deps]; omega
  | d :: ds, i + 1, d', e => by
    have := D.deps_get (ds := ds) (i := i) (d := d') (by simpa using e)
    rw [D.deps]; omega
open Classical in
noncomputable def eqD (d e : D) : Bool := decide (d = e)
theorem eqD_true {d e : D} : eqD d e = true ↔ d = e := by unfold eqD; simp
theorem eqD_same {d : D} : eqD d d = true := eqD_true.mpr rfl
theorem eqD_false {d e : D} (h : d ≠ e) : eqD d e = false := by unfold eqD; simp [h]
theorem eqD_int {i j : Int} : eqD (.int i) (.int j) = (i == j) := by
  by_cases h : i = j
  · subst h; rw [eqD_same]; simp
  · rw [eqD_false (by intro z; cases z; exact h rfl)]; simp [h]
theorem eqD_str {i j : Str} : eqD (.str i) (.str j) = (i == j) := by
  by_cases h : i = j
  · subst h; rw [eqD_same]; simp
  · rw [eqD_false (by intro z; cases z; exact h rfl)]; simp [h]
def eqAtJ (ds es : List D) (f : D → D → Bool) (j : Nat) : Bool := match ds[j]?, es[j]? with | some a, some b => f a b | _, _ => false
theorem eqD_tup {ds es : List D} : ((List.range (min ds.length es.length)).all (eqAtJ ds es eqD) && ds.length == es.length) = eqD (.tup ds) (.tup es) := by
  by_cases h : ds = es
  · subst h
    rw [eqD_same]
    simp only [beq_self_eq_true, Bool.and_true, List.all_eq_true, List.mem_range]
    intro j hj
    have hj : j < ds.length := by omega
    unfold eqAtJ
    rw [List.getElem?_eq_getElem hj]
    exact eqD_same
  · rw [eqD_false (by intro z; cases z; exact h rfl)]
    by_cases hl : ds.length = es.length
    · rw [Bool.and_eq_false_iff]
      left
      rw [← Bool.not_eq_true]
      intro hall
      apply h
      refine List.ext_getElem? fun j => ?_
      by_cases hj : j < ds.length
      · have hj' : j < es.length := by omega
        have := List.all_eq_true.mp hall j (List.mem_range.mpr (by omega))
        unfold eqAtJ at this
        rw [List.getElem?_eq_getElem hj, List.getElem?_eq_getElem hj'] at this
        rw [List.getElem?_eq_getElem hj, List.getElem?_eq_getElem hj', eqD_true.mp this]
      · rw [List.getElem?_eq_none (by omega), List.getElem?_eq_none (by omega)]
    · rw [Bool.and_eq_false_iff]
      right
      simpa using hl
section
variable {X : Cx} {pins : List (Addr × Obj)} {σ : St} {H : Hp} {s : Shared}
theorem Inv.isTup (I : Inv X pins σ H s) {a : Addr} {xs : List V} (h : H a = some (.tup xs)) : ∃ its : List Value, Vals xs its ∧ s.heap.IsTuple a its.toArray := by
  obtain ⟨_, its, r, p⟩ := (show ObjOk X.prog X.w H s.heap a (.tup xs) from I.hok a _ h)
  exact ⟨its, r, p⟩
theorem eqAt_flat (I : Inv X pins σ H s) {d e : D} {x y : V} {u v : Value} {A : Around} (hd : d.dep = 0) (pd : d.pl = true) (pe : e.pl = true) (rd : Rep H d x) (re : Rep H e y) (ru : RelV x u) (rv : RelV y v) (hu : A.units < cLine) : SeqAt.EqAt A s u v (eqD d e) := by
  cases d with
  | tup ds => rw [D.dep] at hd; omega
  | bl b => simp [D.pl] at pd
  | non =>
    rw [Rep] at rd; subst rd; cases ru
    cases e with
    | bl b => simp [D.pl] at pe
    | non => rw [Rep] at re; subst re; cases rv; rw [eqD_same]; exact SeqAt.EqAt.same _
    | int b => rw [Rep] at re; subst re; obtain ⟨t, rfl⟩ := rv; rw [eqD_false (by intro z; cases z)]; exact SeqAt.EqAt.none_int b t
    | str b => rw [Rep] at re; subst re; obtain ⟨t, rfl⟩ := rv; rw [eqD_false (by intro z; cases z)]; exact SeqAt.EqAt.none_str b t
    | tup es =>
      rw [Rep] at re
      obtain ⟨a, xs, rfl, ha, _⟩ := re
      cases rv
      obtain ⟨its, _, ht⟩ := I.isTup ha
      rw [eqD_false (by intro z; cases z)]
      exact SeqAt.EqAt.none_tuple ht hu
  | int i =>
    rw [Rep] at rd; subst rd; obtain ⟨t, rfl⟩ := ru
    cases e with
    | bl b => simp [D.pl] at pe
    | non => rw [Rep] at re; subst re; cases rv; rw [eqD_false (by intro z; cases z)]; exact SeqAt.EqAt.int_none i t
    | int b => rw [Rep] at re; subst re; obtain ⟨t', rfl⟩ := rv; rw [eqD_int]; exact SeqAt.EqAt.int_int i t b t'
    | str b => rw [Rep] at re; subst re; obtain ⟨t', rfl⟩ := rv; rw [eqD_false (by intro z; cases z)]; exact SeqAt.EqAt.int_str i t b t'
    | tup es =>
      rw [Rep] at re
      obtain ⟨a, xs, rfl, ha, _⟩ := re
      cases rv
      obtain ⟨its, _, ht⟩ := I.isTup ha
      rw [eqD_false (by intro z; cases z)]
      exact SeqAt.EqAt.int_tuple i t ht hu
  | str i =>
    rw [Rep] at rd; subst rd; obtain ⟨t, rfl⟩ := ru
    cases e with
    | bl b => simp [D.pl] at pe
    | non => rw [Rep] at re; subst re; cases rv; rw [eqD_false (by intro z; cases z)]; exact SeqAt.EqAt.str_none i t
    | int b => rw [Rep] at re; subst re; obtain ⟨t', rfl⟩ := rv; rw [eqD_false (by intro z; cases z)]; exact SeqAt.EqAt.str_int i t b t'
    | str b => rw [Rep] at re; subst re; obtain ⟨t', rfl⟩ := rv; rw [eqD_str]; exact SeqAt.EqAt.str_str i t b t'
    | tup es =>
      rw [Rep] at re
      obtain ⟨a, xs, rfl, ha, _⟩ := re
      cases rv
      obtain ⟨its, _, ht⟩ := I.isTup ha
      rw [eqD_false (by intro z; cases z)]
      exact SeqAt.EqAt.str_tuple i t ht hu
mutual
theorem Rep.inj {H : Hp} : ∀ {d e : D} {v : V}, Rep H d v → Rep H e v → d = e
  | .non, .non, _, _, _ => rfl
  | .bl a, .bl b, v, h, h' => by simp only [Rep] at h h'; rw [h] at h'; cases h'; rfl
  | .int a, .int b, v, h, h' => by simp only [Rep] at h h'; rw [h] at h'; cases h'; rfl
  | .str a, .str b, v, h, h' => by simp only [Rep] at h h'; rw [h] at h'; cases h'; rfl
  | .tup ds, .tup es, v, h, h' => by
    rw [Rep] at h h'
    obtain ⟨a, xs, rfl, ha, r⟩ := h
    obtain ⟨b, ys, e, hb, r'⟩ := h'
    cases e
    rw [ha] at hb; cases hb
    rw [Reps.inj r r']
  | .non, .bl _, v, h, h' => by simp only [Rep] at h h'; rw [h] at h'; cases h'
  | .non, .int _, v, h, h' => by simp only [Rep] at h h'; rw [h] at h'; cases h'
  | .non, .str _, v, h, h' => by simp only [Rep] at h h'; rw [h] at h'; cases h'
  | .non, .tup _, v, h, h' => by simp only [Rep] at h h'; obtain ⟨_, _, e, _⟩ := h'; rw [h] at e; cases e
  | .bl _, .non, v, h, h' => by simp only [Rep] at h h'; rw [h] at h'; cases h'
  | .bl _, .int _, v, h, h' => by simp only [Rep] at h h'; rw [h] at h'; cases h'
  | .bl _, .str _, v, h, h' => by simp only [Rep] at h h'; rw [h] at h'; cases h'
  | .bl _, .tup _, v, h, h' => by simp only [Rep] at h h'; obtain ⟨_, _, e, _⟩ := h'; rw [h] at e; cases e
  | .int _, .non, v, h, h' => by simp only [Rep] at h h'; rw [h] at h'; cases h'
  | .int _, .bl _, v, h, h' => by simp only [Rep] at h h'; rw [h] at h'; cases h'
  | .int _, .str _, v, h, h' => by simp only [Rep] at h h'; rw [h] at h'; cases h'
  | .int _, .tup _, v, h, h' => by simp only [Rep] at h h'; obtain ⟨_, _, e, _⟩ := h'; rw [h] at e; cases e
  | .str _, .non, v, h, h' => by simp only [Rep] at h h'; rw [h] at h'; cases h'
  | .str _, .bl _, v, h, h' => by simp only [Rep] at h h'; rw [h] at h'; cases h'
  | .str _, .int _, v, h, h' => by simp only [Rep] at h h'; rw [h] at h'; cases h'
  | .str _, .tup _, v, h, h' => by simp only [Rep] at h h'; obtain ⟨_, _, e, _⟩ := h'; rw [h] at e; cases e
  | .tup _, .non, v, h, h' => by simp only [Rep] at h h'; obtain ⟨_, _, e, _⟩ := h; rw [h'] at e; cases e
  | .tup _, .bl _, v, h, h' => by simp only [Rep] at h h'; obtain ⟨_, _, e, _⟩ := h; rw [h'] at e; cases e
  | .tup _, .int _, v, h, h' => by simp only [Rep] at h h'; obtain ⟨_, _, e, _⟩ := h; rw [h'] at e; cases e
  | .tup _, .str _, v, h, h' => by simp only [Rep] at h h'; obtain ⟨_, _, e, _⟩ := h; rw [h'] at e; cases e
theorem Reps.inj {H : Hp} : ∀ {ds es : List D} {vs : List V}, Reps H ds vs → Reps H es vs → ds = es
  | [], [], _, _, _ => rfl
  | [], e :: es, vs, h, h' => by rw [reps_nil_inv h] at h'; obtain ⟨_, _, z, _⟩ := reps_cons_inv h'; cases z
  | d :: ds, [], vs, h, h' => by rw [reps_nil_inv h'] at h; obtain ⟨_, _, z, _⟩ := reps_cons_inv h; cases z
  | d :: ds, e :: es, vs, h, h' => by
    obtain ⟨v, r, rfl, h1, h2⟩ := reps_cons_inv h
    obtain ⟨v', r', z, h1', h2'⟩ := reps_cons_inv h'
    cases z
    rw [Rep.inj h1 h1', Reps.inj h2 h2']
end
theorem eqAt_D (I : Inv X pins σ H s) : ∀ (n : Nat) {d e : D} {x y : V} {u v : Value} {A : Around}, d.dep ≤ n → d.pl = true → e.pl = true → Rep H d x → Rep H e y → RelV x u → RelV y v → A.units + n < cLine → SeqAt.EqAt A s u v (eqD d e) := by
  intro n
  induction n with
  | zero =>
    intro d e x y u v A hn pd pe rd re ru rv hu
    exact eqAt_flat I (by omega) pd pe rd re ru rv (by omega)
  | succ n ih =>
    intro d e x y u v A hn pd pe rd re ru rv hu
    by_cases h0 : d.dep = 0
    · exact eqAt_flat I h0 pd pe rd re ru rv (by omega)
    · cases d with
      | non => simp [D.dep] at h0
      | bl _ => simp [D.dep] at h0
      | int _ => simp [D.dep] at h0
      | str _ => simp [D.dep] at h0
      | tup ds =>
        obtain ⟨a, xs, rfl, ha, r⟩ := rep_tup_inv rd
        cases ru
        obtain ⟨its, vx, ht⟩ := I.isTup ha
        cases e with
        | bl b => simp [D.pl] at pe
        | non => rw [Rep] at re; subst re; cases rv; rw [eqD_false (by intro z; cases z)]; exact SeqAt.EqAt.tuple_none ht (by omega)
        | int b => rw [Rep] at re; subst re; obtain ⟨t, rfl⟩ := rv; rw [eqD_false (by intro z; cases z)]; exact SeqAt.EqAt.tuple_int b t ht (by omega)
        | str b => rw [Rep] at re; subst re; obtain ⟨t, rfl⟩ := rv; rw [eqD_false (by intro z; cases z)]; exact SeqAt.EqAt.tuple_str b t ht (by omega)
        | tup es =>
          obtain ⟨b, ys, rfl, hb, r'⟩ := rep_tup_inv re
          cases rv
          by_cases hab : a = b
          · subst hab
            rw [Rep.inj rd re, eqD_same]
            exact SeqAt.EqAt.same _
          · obtain ⟨its', vy, ht'⟩ := I.isTup hb
            refine SeqAt.EqAt.of_refs hab ?_
            have l1 := vx.length
            have l2 := vy.length
            have l3 := r.length
            have l4 := r'.length
            have key := SeqAt.RcAt.tuples (A := A) (e := eqAtJ ds es eqD) ht ht' (by omega) fun j h1 h2 => ?_
            · rw [← eqD_tup, l3, l4, l1, l2]
              simpa using key
            · have h1' : j < its.length := by simpa using h1
              have h2' : j < its'.length := by simpa using h2
              have e1 : ds[j]? = some (ds[j]'(by omega)) := List.getElem?_eq_getElem _
              have e2 : es[j]? = some (es[j]'(by omega)) := List.getElem?_eq_getElem _
              obtain ⟨v1, q1, p1⟩ := r.get e1
              obtain ⟨v2, q2, p2⟩ := r'.get e2
              obtain ⟨u1, z1, w1⟩ := vx.get q1
              obtain ⟨u2, z2, w2⟩ := vy.get q2
              have y1 : its.toArray[j] = u1 := by
                have : its[j]? = some its[j] := List.getElem?_eq_getElem h1'
                rw [z1] at this
                simpa using (Option.some.inj this).symm
              have y2 : its'.toArray[j] = u2 := by
                have : its'[j]? = some its'[j] := List.getElem?_eq_getElem h2'
                rw [z2] at this
                simpa using (Option.some.inj this).symm
              rw [y1, y2]
              unfold eqAtJ
              rw [e1, e2]
              rw [D.dep] at hn
              have hdep := D.deps_get e1
              rw [D.pl] at pd pe
              exact ih (by omega) (D.pls_get pd e1) (D.pls_get pe e2) p1 p2 w1 w2 (by show A.units + 1 + n < cLine; omega)
end
end L2

end
section
set_option Elab.async false
set_option linter.all false
set_option maxRecDepth 100000
set_option maxHeartbeats 4000000
namespace L2
open PySem PySem.Spec PyProof.Rows
section
variable {X : Cx}
/-! ### == and != of tuples and lists, deep -/
def rEqD : R2 := fun x y H Q => ∃ ds es, Rep H (.tup ds) x ∧ Rep H (.tup es) y ∧ D.pls ds = true ∧ D.pls es = true ∧ D.deps ds ≤ 40 ∧ Q (.bl (eqD (.tup ds) (.tup es))) H
theorem items_at {X : Cx} {pins : List (Addr × Obj)} {σ : St} {H : Hp} {s : Shared} {A : Around} (I : Inv X pins σ H s) {ds es : List D} {xs ys : List V} {its its' : List Value} (vx : Vals xs its) (vy : Vals ys its') (r : Reps H ds xs) (r' : Reps H es ys) (pd : D.pls ds = true) (pe : D.pls es = true)
    (hd : D.deps ds ≤ 40) (hu : A.units + 40 < cLine) : ∀ j (h1 : j < its.toArray.size) (h2 : j < its'.toArray.size), SeqAt.EqAt A s its.toArray[j] its'.toArray[j] (eqAtJ ds es eqD j) := by
  intro j h1 h2
  have l1 := vx.length
  have l2 := vy.length
  have l3 := r.length
  have l4 := r'.length
  have h1' : j < its.length := by simpa using h1
  have h2' : j < its'.length := by simpa using h2
  have e1 : ds[j]? = some (ds[j]'(by omega)) := List.getElem?_eq_getElem _
  have e2 : es[j]? = some (es[j]'(by omega)) := List.getElem?_eq_getElem _
  obtain ⟨v1, q1, p1⟩ := r.get e1
  obtain ⟨v2, q2, p2⟩ := r'.get e2
  obtain ⟨u1, z1, w1⟩ := vx.get q1
  obtain ⟨u2, z2, w2⟩ := vy.get q2
  have y1 : its.toArray[j] = u1 := by
    have : its[j]? = some its[j] := List.getElem?_eq_getElem h1'
    rw [z1] at this
    simpa using (Option.some.inj this).symm
  have y2 : its'.toArray[j] = u2 := by
    have : its'[j]? = some its'[j] := List.getElem?_eq_getElem h2'
    rw [z2] at this
    simpa using (Option.some.inj this).symm
  rw [y1, y2]
  unfold eqAtJ
  rw [e1, e2]
  have hdep := D.deps_get e1
  exact eqAt_D I 40 (by omega) (D.pls_get pd e1) (D.pls_get pe e2) p1 p2 w1 w2 hu
theorem op_eqD (hu : X.A.units + 64 < cLine) : OpR X (compareOp .Eq) rEqD := by
  rintro pins s σ H x y v u Q I rx ry ⟨ds, es, h1, h2, pd, pe, hd, q⟩
  obtain ⟨a, xs, rfl, ha, r⟩ := rep_tup_inv h1
  obtain ⟨b, ys, rfl, hb, r'⟩ := rep_tup_inv h2
  cases rx; cases ry
  obtain ⟨its, vx, ht⟩ := I.isTup ha
  obtain ⟨its', vy, ht'⟩ := I.isTup hb
  refine SeqAt.eq_tupleAt (e := eqAtJ ds es eqD) ht ht' (by omega) (items_at (A := X.A.in1) I vx vy r r' pd pe hd (by show X.A.units + 1 + 40 < cLine; omega)) ?_
  refine fin_bl I q ?_
  rw [← eqD_tup, r.length, r'.length, vx.length, vy.length]
  simp
def rEqL (K : PySem.W.Frag) : R2 := fun x y H Q => ∃ a b xs ys ds es, x = .ref a ∧ y = .ref b ∧ SqL K H a xs ∧ SqL K H b ys ∧ Reps H ds xs ∧ Reps H es ys ∧ D.pls ds = true ∧ D.pls es = true ∧ D.deps ds ≤ 40 ∧ Q (.bl (eqD (.tup ds) (.tup es))) H
def rNeL (K : PySem.W.Frag) : R2 := fun x y H Q => ∃ a b xs ys ds es, x = .ref a ∧ y = .ref b ∧ SqL K H a xs ∧ SqL K H b ys ∧ Reps H ds xs ∧ Reps H es ys ∧ D.pls ds = true ∧ D.pls es = true ∧ D.deps ds ≤ 40 ∧ Q (.bl (!eqD (.tup ds) (.tup es))) H
theorem op_eqL (hu : X.A.units + 64 < cLine) : OpR X (compareOp .Eq) (rEqL X.K) := by
  rintro pins s σ H x y v u Q I rx ry ⟨a, b, xs, ys, ds, es, rfl, rfl, ha, hb, r, r', pd, pe, hd, q⟩
  cases rx; cases ry
  obtain ⟨its, vx, ht, _⟩ := I.list ha
  obtain ⟨its', vy, ht', _⟩ := I.list hb
  by_cases hl : its.length = its'.length
  · refine SeqAt.eq_listAt (e := eqAtJ ds es eqD) ht.isList ht'.isList (by simpa using hl) (by omega) (items_at (A := X.A.in1) I vx vy r r' pd pe hd (by show X.A.units + 1 + 40 < cLine; omega)) ?_
    refine fin_bl I q ?_
    rw [← eqD_tup, r.length, r'.length, vx.length, vy.length, hl]
    simp [hl]
  · refine SeqAt.eq_list_lengthsAt ht.isList ht'.isList (by simpa using hl) (by omega) (fin_bl I q ?_)
    refine eqD_false fun z => hl ?_
    cases z
    rw [← vx.length, ← vy.length, ← r.length, ← r'.length]
theorem op_neL (hu : X.A.units + 64 < cLine) : OpR X (compareOp .NotEq) (rNeL X.K) := by
  rintro pins s σ H x y v u Q I rx ry ⟨a, b, xs, ys, ds, es, rfl, rfl, ha, hb, r, r', pd, pe, hd, q⟩
  cases rx; cases ry
  obtain ⟨its, vx, ht, _⟩ := I.list ha
  obtain ⟨its', vy, ht', _⟩ := I.list hb
  by_cases hl : its.length = its'.length
  · refine SeqAt.RcNeAt.lists (e := eqAtJ ds es eqD) ht.isList ht'.isList (by simpa using hl) (by omega) (items_at (A := X.A.in1) I vx vy r r' pd pe hd (by show X.A.units + 1 + 40 < cLine; omega)) _ _ _ _ ?_
    refine fin_bl I q ?_
    rw [← eqD_tup, r.length, r'.length, vx.length, vy.length, hl]
    simp [hl]
  · refine SeqAt.RcNeAt.lists_lengths ht.isList ht'.isList (by simpa using hl) (by omega) _ _ _ _ (fin_bl I q ?_)
    rw [eqD_false fun z => hl ?_]
    · rfl
    · cases z
      rw [← vx.length, ← vy.length, ← r.length, ← r'.length]

/-! ### is, is not, of truths -/
theorem op_isnotB : OpR X (compareOp .IsNot) (fun x y H Q => ∃ a b, x = .bl a ∧ y = .bl b ∧ Q (.bl (a != b)) H) := by
  rintro pins s σ H x y v u Q I rx ry ⟨a, b, rfl, rfl, q⟩
  cases rx; cases ry
  exact isnot_bool ⟨.bl _, H, I, rfl, q⟩

/-! ### products and quotients of long numbers -/
def CBig (i j : Int) : Prop := i.natAbs < 2 ^ 8000 ∧ j.natAbs < 2 ^ 8000
theorem bits_big {i : Int} (h : i.natAbs < 2 ^ 8000) : Builtin.Int.intBits i ≤ 8000 := by
  unfold Builtin.Int.intBits
  by_cases h0 : i = 0
  · simp [h0]
  · have : (i == 0) = false := by simpa using h0
    rw [this]
    have := (Nat.log2_lt (show i.natAbs ≠ 0 by omega)).mpr h
    simp
    omega
theorem CBig.ok {i j : Int} (h : CBig i j) : IntMulOk i j := by
  unfold IntMulOk
  have h1 := bits_big h.1
  have h2 := bits_big h.2
  have hb : Builtin.Int.intTooBig (Builtin.Int.intBits i + Builtin.Int.intBits j) = false := by
    unfold Builtin.Int.intTooBig
    rw [decide_eq_false]
    have : (16000 : Int) ≤ bitsLine := by decide
    omega
  rw [hb]
  simp
theorem op_mulB : OpR X (binaryOp .Mult) (rI CBig fun i j => .int (i * j)) := opI fun _ _ _ _ _ _ _ hc q => mul_int q hc.ok
def CDivB (i j : Int) : Prop := 0 < j ∧ j.natAbs < 2 ^ 8000
theorem op_fdivB : OpR X (binaryOp .FloorDiv) (rI CDivB fun i j => .int (i / j)) := opI fun i j _ _ _ _ _ hc q => by
  have hj : j ≠ 0 := by have := hc.1; omega
  refine floordiv_int hj ?_ (.inl (PyProof.noPylong_of_log2 ?_))
  · rw [Int.fdiv_eq_ediv_of_nonneg _ (by have := hc.1; omega)]
    exact q
  · have := (Nat.log2_lt (show j.natAbs ≠ 0 by omega)).mpr hc.2
    omega

/-! ### sum of a list of ints -/
/-! ### isinstance of a built-in type -/
def isi (t T : String) : Bool := t == T || (t == "bool" && T == "int")
theorem kit_of {K : PySem.W.Frag} : ∀ {t T : String}, t ∈ ["int", "bool", "str", "tuple", "list", "dict", "NoneType"] → T ∈ ["int", "bool", "str", "tuple", "list", "dict"] → PySem.W.kitOne K (.type t) (.type T) = some (isi t T) := by
  intro t T ht hT
  simp only [List.mem_cons, List.mem_nil_iff, or_false] at ht hT
  rcases ht with rfl | rfl | rfl | rfl | rfl | rfl | rfl <;> rcases hT with rfl | rfl | rfl | rfl | rfl | rfl <;> with_unfolding_all rfl
/-- the type of a value by the abstract heap -/
def tyN (H : Hp) : V → Option String
  | .non => some "NoneType"
  | .bl _ => some "bool"
  | .int _ => some "int"
  | .str _ => some "str"
  | .ref a => match H a with
    | some (.lst _) => some "list"
    | some (.frz _ (.lst _)) => some "list"
    | some (.tup _) => some "tuple"
    | some (.dK _) => some "dict"
    | some (.dT _) => some "dict"
    | _ => none
  | _ => none
theorem tyN_of {K : PySem.W.Frag} {H : Hp} {x : V} {t : String} (h : tyN H x = some t) : TyOf K H x (.type t) ∧ t ∈ ["int", "bool", "str", "tuple", "list", "dict", "NoneType"] := by
  cases x with
  | non => cases h; exact ⟨.non, by simp⟩
  | bl b => cases h; exact ⟨.bl b, by simp⟩
  | int i => cases h; exact ⟨.int i, by simp⟩
  | str y => cases h; exact ⟨.str y, by simp⟩
  | ref a =>
    simp only [tyN] at h
    split at h
    · rename_i e; cases h; exact ⟨.lst e, by simp⟩
    · rename_i e; cases h; exact ⟨.frz e, by simp⟩
    · rename_i e; cases h; exact ⟨.tup e, by simp⟩
    · rename_i e; cases h; exact ⟨.dK e, by simp⟩
    · rename_i e; cases h; exact ⟨.dT e, by simp⟩
    · cases h
  | byt _ => cases h
  | flt _ => cases h
  | ty _ => cases h
def rIsi : List V → Hp → VK → Prop := fun xs H Q => ∃ x T t, xs = [x, .ty T] ∧ tyN H x = some t ∧ T ∈ ["int", "bool", "str", "tuple", "list", "dict"] ∧ Q (.bl (isi t T)) H
theorem call_isi : CallR X (.builtin "isinstance") rIsi := by
  intro pins s σ H xs us Q I r h
  obtain ⟨x, T, t, rfl, ht, hT, q⟩ := h
  cases r with
  | cons r1 r2 =>
    cases r2 with
    | cons r3 r4 =>
      cases r4
      cases r3
      obtain ⟨ty, hm⟩ := tyN_of (K := X.K) ht
      exact isinst_ok I r1 ty (kit_of hm hT) fun tk => ⟨.bl _, H, I.tok _, rfl, q⟩
end

/-! ### a def of the text, called by its name -/
structure Callee (P : Program) (w : World) (K : PySem.W.Frag) (mg : Str → Option Value) (base : Heap) (x : Str) (k : Nat) (ps : List Str) (sp : Sp) : Prop where
  ex : ∃ f fd, FnOk P w K mg base CX0 k f fd ps sp ∧ mg x = some (.ref f) ∧ PySem.W.keepIn K (.ref f) = true ∧ Binds K fd ps []
theorem pe_fn {X : Cx} {x : Str} {k : Nat} {ps : List Str} {sp : Sp} {p pos : Pos} {e : Expr} {es : List Expr} {t : TA} (C : Callee X.prog X.w X.K X.mg X.base x k ps sp) (hr : Room k X.A) (hg : Gl X x) (ha : PA X (e :: es) t) (hdb : (x == ("__debug__" : Str)) = false := by decide)
    (he : starEach (e :: es) X.env = (false, eval e X.env) :: starEach es X.env := by rfl) (hpl : (backTo pos (starEach es X.env)).any (·.1) = false := by rfl) :
    PE X (.Call (.Name x p) (e :: es) [] pos) (tCall sp [] E0 t) := by
  obtain ⟨f, fd, F, hm, hk, hb⟩ := C.ex
  exact pe_call F hr hg hm hk hb .nil pass0 ha hdb he hpl
theorem pe_fn0 {X : Cx} {x : Str} {k : Nat} {ps : List Str} {sp : Sp} {p pos : Pos} (C : Callee X.prog X.w X.K X.mg X.base x k ps sp) (hr : Room k X.A) (hg : Gl X x) (hdb : (x == ("__debug__" : Str)) = false := by decide) :
    PE X (.Call (.Name x p) [] [] pos) (tCall sp [] E0 tNil) := by
  obtain ⟨f, fd, F, hm, hk, hb⟩ := C.ex
  exact pe_call0 F hr hg hm hk hb .nil pass0 hdb

/-! ### comprehensions: the forms one uses -/
section
variable {K : PySem.W.Frag} {a : Addr} {xs : List V} {g : TG} {tt : TT} {te : TE} {Q : VK} {σ : St} {H : Hp}
/-- one more turn -/
def CN (Pv : Nat → List V → St → Hp → Prop) (i : Nat) (ys' : List V) (σ' : St) (H' : Hp) : Prop := ys'.length ≤ i + 1 ∧ Pv (i + 1) ys' σ' H'
theorem cw_of {J : It} (n : Nat) (hz : n ≤ sizeLine) (Pv : Nat → List V → St → Hp → Prop) (h0 : Pv 0 [] σ H) (hgo : ∀ i ys σ H, i < n → Pv i ys σ H → J.go i H) (hstop : ∀ ys σ H, Pv n ys σ H → J.stop n H)
    (hs : ∀ i x ys σ H H2, i < n → ys.length ≤ i → ys.length < sizeLine → Pv i ys σ H → J.yld i H x H2 → g x σ H2 fun σ2 H3 => tt σ2 H3 fun ok H4 => if ok = true then te σ2 H4 fun y H5 => ys.length < sizeLine ∧ CN Pv i (ys ++ [y]) σ2 H5 else CN Pv i ys σ2 H4)
    (hd : ∀ ys σ H, ys.length ≤ n → Pv n ys σ H → ∀ p, H p = none → Q (.ref p) (upd H p (.lst ys))) :
    ∃ W : Nat → Nat → List V → St → Hp → Prop, (∃ m, W 0 m [] σ H) ∧ CW J g tt te W Q := by
  refine ⟨fun i m ys σ H => m = n - i ∧ i ≤ n ∧ ys.length ≤ i ∧ Pv i ys σ H, ⟨n, by simp, Nat.zero_le _, Nat.le_refl _, h0⟩, ?_⟩
  rintro i m ys σ H ⟨rfl, hi, hy, p⟩
  by_cases hlt : i < n
  · exact .inr ⟨hgo i ys σ H hlt p, CN Pv i, fun ys' σ' H' p' => ⟨n - (i + 1), by omega, rfl, hlt, p'.1, p'.2⟩, fun x H2 y => hs i x ys σ H H2 hlt hy (by omega) p y⟩
  · have e : i = n := by omega
    subst e
    exact .inl ⟨hstop ys σ H p, by omega, hd ys σ H hy p⟩
theorem cw_list (hz : xs.length ≤ sizeLine) (Pv : Nat → List V → St → Hp → Prop) (h0 : Pv 0 [] σ H) (hl : ∀ i ys σ H, i ≤ xs.length → Pv i ys σ H → SqL K H a xs)
    (hs : ∀ i x ys σ H, xs[i]? = some x → ys.length ≤ i → ys.length < sizeLine → Pv i ys σ H → g x σ H fun σ2 H3 => tt σ2 H3 fun ok H4 => if ok = true then te σ2 H4 fun y H5 => ys.length < sizeLine ∧ CN Pv i (ys ++ [y]) σ2 H5 else CN Pv i ys σ2 H4)
    (hd : ∀ ys σ H, ys.length ≤ xs.length → Pv xs.length ys σ H → ∀ p, H p = none → Q (.ref p) (upd H p (.lst ys))) :
    ∃ W : Nat → Nat → List V → St → Hp → Prop, (∃ m, W 0 m [] σ H) ∧ CW (Itl K a) g tt te W Q := by
  refine cw_of xs.length hz Pv h0 (fun i ys σ H hi p => ⟨xs, xs[i], hl i ys σ H (Nat.le_of_lt hi) p, by simp [hi]⟩) (fun ys σ H p => ⟨xs, hl _ ys σ H (Nat.le_refl _) p, Nat.le_refl _⟩) (fun i x ys σ H H2 hi h1 h2 p y => ?_) hd
  obtain ⟨rfl, y⟩ := y
  exact hs i x ys σ _ (y xs (hl i ys σ _ (Nat.le_of_lt hi) p)) h1 h2 p
theorem cw_tup (hz : xs.length ≤ sizeLine) (Pv : Nat → List V → St → Hp → Prop) (h0 : Pv 0 [] σ H) (hl : ∀ i ys σ H, i ≤ xs.length → Pv i ys σ H → SqT K H a xs)
    (hs : ∀ i x ys σ H, xs[i]? = some x → ys.length ≤ i → ys.length < sizeLine → Pv i ys σ H → g x σ H fun σ2 H3 => tt σ2 H3 fun ok H4 => if ok = true then te σ2 H4 fun y H5 => ys.length < sizeLine ∧ CN Pv i (ys ++ [y]) σ2 H5 else CN Pv i ys σ2 H4)
    (hd : ∀ ys σ H, ys.length ≤ xs.length → Pv xs.length ys σ H → ∀ p, H p = none → Q (.ref p) (upd H p (.lst ys))) :
    ∃ W : Nat → Nat → List V → St → Hp → Prop, (∃ m, W 0 m [] σ H) ∧ CW (Itt K a) g tt te W Q := by
  refine cw_of xs.length hz Pv h0 (fun i ys σ H hi p => ⟨xs, xs[i], hl i ys σ H (Nat.le_of_lt hi) p, by simp [hi]⟩) (fun ys σ H p => ⟨xs, hl _ ys σ H (Nat.le_refl _) p, Nat.le_refl _⟩) (fun i x ys σ H H2 hi h1 h2 p y => ?_) hd
  obtain ⟨rfl, y⟩ := y
  exact hs i x ys σ _ (y xs (hl i ys σ _ (Nat.le_of_lt hi) p)) h1 h2 p
theorem cw_range {lo : Int} {n : Nat} (hz : n ≤ sizeLine) (Pv : Nat → List V → St → Hp → Prop) (h0 : Pv 0 [] σ H)
    (hs : ∀ i ys σ H, i < n → ys.length ≤ i → ys.length < sizeLine → Pv i ys σ H → g (.int (lo + i)) σ H fun σ2 H3 => tt σ2 H3 fun ok H4 => if ok = true then te σ2 H4 fun y H5 => ys.length < sizeLine ∧ CN Pv i (ys ++ [y]) σ2 H5 else CN Pv i ys σ2 H4)
    (hd : ∀ ys σ H, ys.length ≤ n → Pv n ys σ H → ∀ p, H p = none → Q (.ref p) (upd H p (.lst ys))) :
    ∃ W : Nat → Nat → List V → St → Hp → Prop, (∃ m, W 0 m [] σ H) ∧ CW (Itr lo n) g tt te W Q := by
  refine cw_of n hz Pv h0 (fun i ys σ H hi p => hi) (fun ys σ H p => Nat.le_refl _) (fun i x ys σ H H2 hi h1 h2 p y => ?_) hd
  obtain ⟨rfl, rfl⟩ := y
  exact hs i ys σ _ hi h1 h2 p
end
end L2

end
section
set_option Elab.async false
set_option linter.all false
set_option maxRecDepth 100000
set_option maxHeartbeats 4000000
namespace L2
open PySem PySem.Spec PyProof.Rows
/-! ### readings, step by step (each is what its word says, written so that refine finds it) -/
section
variable {σ : St} {H : Hp} {Q : VK} {v x y : V} {ta tb tc te : TE} {t u : TS} {c d : TT} {D' : Ends} {r : R2} {g : TG} {i j : Int} {n : Nat} {K : PySem.W.Frag}
theorem rd_var (e : σ[n]? = some (some v)) (h : Q v H) : tVar n σ H Q := ⟨v, e, h⟩
theorem rd_c (h : Q v H) : tC v σ H Q := h
theorem rd_op (h : ta σ H fun x H1 => tb σ H1 fun y H2 => r x y H2 Q) : tOp r ta tb σ H Q := h
theorem rd_un {r : V → Hp → VK → Prop} (h : ta σ H fun x H1 => r x H1 Q) : tUn r ta σ H Q := h
theorem rd_seq (h : t { D' with nx := u D' } σ H) : tSeq t u D' σ H := h
theorem rd_asg (h : te σ H fun x H1 => g x σ H1 D'.nx) : tAsg te g D' σ H := h
theorem rd_gname {R : St → Hp → Prop} (h : R (σ.set n (some v)) H) : gName n v σ H R := h
theorem rd_ret (h : te σ H D'.rt) : tRet te D' σ H := h
theorem rd_drop (h : te σ H fun _ H1 => D'.nx σ H1) : tDrop te D' σ H := h
theorem rd_next (h : D'.nx σ H) : tNext D' σ H := h
theorem rd_if (h : c σ H fun b H1 => if b = true then t D' σ H1 else u D' σ H1) : tIfS c t u D' σ H := h
theorem rd_test {R : Bool → Hp → Prop} (h : ta σ H fun x H' => ∃ k, x = .bl k ∧ R k H') : tTest ta σ H R := h
theorem rd_tb {R : Bool → Hp → Prop} (h : ta σ H fun x H' => ∃ k, x = .bl k ∧ R k H') : tB ta σ H R := h
theorem rd_and {R : Bool → Hp → Prop} (h : c σ H fun b H1 => if b = true then d σ H1 R else R false H1) : tAnd c d σ H R := h
theorem rd_or {R : Bool → Hp → Prop} (h : c σ H fun b H1 => if b = true then R true H1 else d σ H1 R) : tOr c d σ H R := h
theorem rd_not {R : Bool → Hp → Prop} (h : c σ H fun b H1 => R (!b) H1) : tNot c σ H R := h
theorem rd_true {R : Bool → Hp → Prop} (h : R true H) : tTrue σ H R := h
theorem rd_andV (h : ta σ H fun x H1 => ∃ c, x = .bl c ∧ if c = true then tb σ H1 Q else Q (.bl false) H1) : tAndV ta tb σ H Q := h
theorem rd_orV (h : ta σ H fun x H1 => ∃ c, x = .bl c ∧ if c = true then Q (.bl true) H1 else tb σ H1 Q) : tOrV ta tb σ H Q := h
theorem rd_notV (h : ta σ H fun x H1 => ∃ c, x = .bl c ∧ Q (.bl (!c)) H1) : tNotV ta σ H Q := h
theorem rd_chain {r r' : R2} (h : ta σ H fun x H1 => tb σ H1 fun y H2 => r x y H2 fun z H3 => ∃ k, z = .bl k ∧ (if k = true then tc σ H3 fun w' H4 => r' y w' H4 Q else Q (.bl false) H3)) : tChain r r' ta tb tc σ H Q := h
theorem rd_nil {R : List V → Hp → Prop} (h : R [] H) : tNil σ H R := h
theorem rd_cons {tr : TA} {R : List V → Hp → Prop} (h : ta σ H fun x H1 => tr σ H1 fun xs H2 => R (x :: xs) H2) : tCons ta tr σ H R := h
theorem rd_cb {rr : List V → Hp → VK → Prop} {ta : TA} (h : ta σ H fun vs H1 => rr vs H1 Q) : tCB rr ta σ H Q := h
theorem rd_call {sp : Sp} {E : XK} {ta : TA} (h : ta σ H fun vs H1 => sp (vs ++ []) H1 Q E) : tCall sp [] E ta σ H Q := h
theorem rd_I0 {f : Int → Int → V} (h : Q (f i j) H) : rI0 f (.int i) (.int j) H Q := ⟨i, j, rfl, rfl, h⟩
theorem rd_I {C : Int → Int → Prop} {f : Int → Int → V} (hc : C i j) (h : Q (f i j) H) : rI C f (.int i) (.int j) H Q := ⟨i, j, rfl, rfl, hc, h⟩
theorem rd_U {f : Int → V} (h : Q (f i) H) : rU f (.int i) H Q := ⟨i, rfl, h⟩
theorem rd_eqI (h : Q (.bl (decide (i = j))) H) : rEq (.int i) (.int j) H Q := ⟨rfl, by rw [dec_int, Bool.beq_eq_decide_eq]; exact h⟩
theorem rd_neI (h : Q (.bl (!decide (i = j))) H) : rNe (.int i) (.int j) H Q := ⟨rfl, by rw [dec_int, Bool.beq_eq_decide_eq]; exact h⟩
theorem rd_eqS {a b : Str} (h : Q (.bl (decide (a = b))) H) : rEq (.str a) (.str b) H Q := ⟨rfl, by rw [dec_str, Bool.beq_eq_decide_eq]; exact h⟩
theorem rd_neS {a b : Str} (h : Q (.bl (!decide (a = b))) H) : rNe (.str a) (.str b) H Q := ⟨rfl, by rw [dec_str, Bool.beq_eq_decide_eq]; exact h⟩
theorem rd_eqB {a b : Bool} (h : Q (.bl (decide (a = b))) H) : rEq (.bl a) (.bl b) H Q := ⟨rfl, by rw [dec_bl, Bool.beq_eq_decide_eq]; exact h⟩
theorem rd_bl {b : Bool} {R : Bool → Prop} (h : R b) : ∃ k, V.bl b = V.bl k ∧ R k := ⟨b, rfl, h⟩
theorem rd_tup {ta : TA} (h : ta σ H fun xs H1 => xs.length ≤ sizeLine ∧ ∀ p, H1 p = none → Q (.ref p) (upd H1 p (.tup xs))) : tTup ta σ H Q := h
theorem rd_lst {ta : TA} (h : ta σ H fun xs H1 => xs.length ≤ sizeLine ∧ ∀ p, H1 p = none → Q (.ref p) (upd H1 p (.lst xs))) : tLst ta σ H Q := h
theorem small_le {n : Nat} (h : n ≤ 1000) : n ≤ sizeLine := Nat.le_trans h (by decide)
/-- an item of a tuple, of a list -/
theorem rd_ixT {p : Addr} {xs : List V} (h : H p = some (.tup xs)) (e : atI xs i = some v) (q : Q v H) : rIxT K (.ref p) (.int i) H Q := ⟨p, xs, i, v, rfl, rfl, SqT.of h, e, q⟩
theorem rd_ixL {p : Addr} {xs : List V} (h : H p = some (.lst xs)) (e : atI xs i = some v) (q : Q v H) : rIxL K (.ref p) (.int i) H Q := ⟨p, xs, i, v, rfl, rfl, SqL.of h, e, q⟩
theorem rd_setL {p : Addr} {xs : List V} {k : Nat} {R : Hp → Prop} (h : H p = some (.lst xs)) (e : ixN xs.length i = some k) (q : R (upd H p (.lst (xs.set k v)))) : rSetL (.ref p) (.int i) v H R := ⟨p, xs, i, k, rfl, rfl, h, e, q⟩
theorem rd_gsub {to ti : TE} {ts : TSet} {R : St → Hp → Prop} (h : to σ H fun o H1 => ti σ H1 fun i H2 => ts o i v H2 fun H3 => R σ H3) : gSub to ti ts v σ H R := h
theorem rd_isi {x : V} {T t : String} (h : tyN H x = some t) (hT : T ∈ ["int", "bool", "str", "tuple", "list", "dict"]) (q : Q (.bl (isi t T)) H) : rIsi [x, .ty T] H Q := ⟨x, T, t, rfl, h, hT, q⟩
theorem tyN_tup {a : Addr} {xs : List V} (h : H a = some (.tup xs)) : tyN H (.ref a) = some "tuple" := by simp only [tyN, h]
theorem tyN_lst {a : Addr} {xs : List V} (h : H a = some (.lst xs)) : tyN H (.ref a) = some "list" := by simp only [tyN, h]
theorem rd_slice {rr : V → Option Int → Option Int → Hp → VK → Prop} {tl th : TO} (h : te σ H fun x H1 => tl σ H1 fun l H2 => th σ H2 fun u H3 => rr x l u H3 Q) : tSl rr te tl th σ H Q := h
theorem rd_nopart {R : Option Int → Hp → Prop} (h : R none H) : tNoPart σ H R := h
theorem rd_part {R : Option Int → Hp → Prop} (h : ta σ H fun x H1 => ∃ i, x = .int i ∧ R (some i) H1) : tPart ta σ H R := h
theorem rd_int {R : Int → Prop} (h : R i) : ∃ k, V.int i = V.int k ∧ R k := ⟨i, rfl, h⟩
theorem rd_bm {T : String} {rr : V → List V → Hp → VK → Prop} {ta' : TA} (h : ta σ H fun x H1 => tyV K T x H1 ∧ ta' σ H1 fun xs H2 => rr x xs H2 Q) : tBM K T rr ta ta' σ H Q := h
theorem rd_append {l : Addr} {xs : List V} (h : H l = some (.lst xs)) (hz : xs.length < sizeLine) (q : Q .non (upd H l (.lst (xs ++ [y])))) : rAppend (.ref l) [y] H Q := ⟨l, xs, y, rfl, rfl, h, hz, q⟩
theorem rd_comp {LN : List Str} {fr : List Nat} {wi : TI} (h : wi σ H fun J H1 => ∃ W : Nat → Nat → List V → St → Hp → Prop, (∃ m, W 0 m [] (bkStart LN fr σ) H1) ∧ CW J g c te W Q) : tComp LN fr wi g c te σ H Q := h
def itK (K : PySem.W.Frag) (R : It → Hp → Prop) (x : V) (H1 : Hp) : Prop := ∃ a, x = .ref a ∧ (∃ xs, SqT K H1 a xs) ∧ R (Itt K a) H1
def ilK (K : PySem.W.Frag) (R : It → Hp → Prop) (x : V) (H1 : Hp) : Prop := ∃ a, x = .ref a ∧ (∃ xs, SqL K H1 a xs) ∧ R (Itl K a) H1
def irK (R : It → Hp → Prop) (vs : List V) (H1 : Hp) : Prop := ∃ j : Int, vs = [.int j] ∧ -(2 ^ 62) ≤ j ∧ j < 2 ^ 62 ∧ R (Itr 0 j.toNat) H1
theorem rd_itup {R : It → Hp → Prop} {tl : TE} (h : tl σ H (itK K R)) : iTup K tl σ H R := h
theorem rd_ilist {R : It → Hp → Prop} {tl : TE} (h : tl σ H (ilK K R)) : iList K tl σ H R := h
theorem rd_irng {R : It → Hp → Prop} {ta' : TA} (h : ta' σ H (irK R)) : iRng1 ta' σ H R := h
theorem itK_rep {R : It → Hp → Prop} {x : V} {ds : List D} (h : Rep H (.tup ds) x) (q : ∀ a xs, x = .ref a → H a = some (.tup xs) → Reps H ds xs → R (Itt K a) H) : itK K R x H := by
  obtain ⟨a, xs, rfl, ha, r⟩ := rep_tup_inv h
  exact ⟨a, rfl, ⟨xs, SqT.of ha⟩, q a xs rfl ha r⟩
theorem ilK_of {R : It → Hp → Prop} {a : Addr} {xs : List V} (h : SqL K H a xs) (q : R (Itl K a) H) : ilK K R (.ref a) H := ⟨a, rfl, ⟨xs, h⟩, q⟩
theorem irK_of {R : It → Hp → Prop} {j : Int} (h1 : -(2 ^ 62) ≤ j) (h2 : j < 2 ^ 62) (q : R (Itr 0 j.toNat) H) : irK R [.int j] H := ⟨j, rfl, h1, h2, q⟩
theorem rd_gtup {tg : TGs} {a : Addr} {xs : List V} {R : St → Hp → Prop} (h : H a = some (.tup xs)) (hl : xs.length = n) (q : tg xs σ H R) : gTup K n tg (.ref a) σ H R := ⟨a, xs, rfl, SqT.of h, hl, q⟩
theorem rd_gcons {tg : TGs} {vs : List V} {R : St → Hp → Prop} (h : g v σ H fun σ' H' => tg vs σ' H' R) : gCons g tg (v :: vs) σ H R := ⟨v, vs, rfl, h⟩
theorem rd_gnil {R : St → Hp → Prop} (h : R σ H) : gNil [] σ H R := ⟨rfl, h⟩
theorem rd_for {wi : TI} (h : wi σ H fun J H1 => ∃ W : Nat → Nat → St → Hp → Prop, (∃ m, W 0 m σ H1) ∧ ∀ i m σ H, W i m σ H →
  (J.stop i H ∧ D'.nx σ H) ∨ (J.go i H ∧ ∃ N : St → Hp → Prop, (∀ σ' H', N σ' H' → ∃ m', m' < m ∧ W (i + 1) m' σ' H') ∧ ∀ x H', J.yld i H x H' → g x σ H' fun σ2 H2 => t { D' with nx := N, ct := N, bk := D'.nx } σ2 H2)) : tFor wi g t D' σ H := h
theorem rd_len {p : Addr} {ys : List V} (h : H p = some (.tup ys)) (q : Q (.int ys.length) H) : ∃ x n, [V.ref p] = [x] ∧ LenV K x H n ∧ Q (.int n) H := ⟨_, _, rfl, .inr ⟨ys, SqT.of h, rfl⟩, q⟩
end
end L2

end
section
set_option Elab.async false
set_option linter.all false
set_option maxRecDepth 100000
set_option maxHeartbeats 4000000
namespace L2
open PySem PySem.Spec PyProof.Rows
theorem bt_abs : bootBuiltins "abs" = some (.builtin "abs") := by decide +kernel
theorem bt_len : bootBuiltins "len" = some (.builtin "len") := by decide +kernel
theorem bt_isinstance : bootBuiltins "isinstance" = some (.builtin "isinstance") := by decide +kernel
theorem bt_max : bootBuiltins "max" = some (.builtin "max") := by decide +kernel
theorem bt_min : bootBuiltins "min" = some (.builtin "min") := by decide +kernel
theorem bt_all : bootBuiltins "all" = some (.builtin "all") := by decide +kernel
theorem bt_int : bootBuiltins "int" = some (.type "int") := by decide +kernel
theorem bt_bool : bootBuiltins "bool" = some (.type "bool") := by decide +kernel
theorem bt_tuple : bootBuiltins "tuple" = some (.type "tuple") := by decide +kernel
theorem bt_list : bootBuiltins "list" = some (.type "list") := by decide +kernel
theorem bt_str : bootBuiltins "str" = some (.type "str") := by decide +kernel
theorem bt_zip : bootBuiltins "zip" = some (.type "zip") := by decide +kernel
def bkOk (N : List Str) (sc osc : Scope) (FN : List Str) (fr : List Nat) : Bool :=
  decide (sc.kind = .function) && sc.names.all (fun y => decide (y.2 ≠ .cell)) && sc.names.all (fun y => decide (y.2 = .local → sc.names.lookup y.1 = some .local)) &&
  sc.names.all (fun y => decide (y.2 = .free → osc.names.lookup y.1 = some .cell ∨ osc.names.lookup y.1 = some .free)) &&
  FN.all (fun x => decide (osc.names.lookup x = some .cell ∨ osc.names.lookup x = some .free)) && FN.all (fun x => decide (sc.names.lookup x = some .free)) && decide (FN.map some = fr.map fun j => N[j]?)
theorem bk_of {N : List Str} {sc osc : Scope} {LN FN : List Str} {fr : List Nat} (h : bkOk N sc osc FN fr = true) : BkScope N sc osc LN FN fr := by
  unfold bkOk at h
  simp only [Bool.and_eq_true, List.all_eq_true, decide_eq_true_eq] at h
  obtain ⟨⟨⟨⟨⟨⟨h1, h2⟩, h3⟩, h4⟩, h5⟩, h6⟩, h7⟩ := h
  exact ⟨h1, h2, h3, h4, h5, h6, h7⟩
section
variable {X : Cx}
def rIxA (K : PySem.W.Frag) : R2 := fun x y H Q => rIxL K x y H Q ∨ rIxT K x y H Q
theorem ix_any : IxR X (rIxA X.K) := ix_list.or ix_tup
theorem rd_ixaT {K : PySem.W.Frag} {H : Hp} {p : Addr} {xs : List V} {i : Int} {v : V} {Q : VK} (h : H p = some (.tup xs)) (e : atI xs i = some v) (q : Q v H) : rIxA K (.ref p) (.int i) H Q := .inr (rd_ixT h e q)
theorem rd_ixaL {K : PySem.W.Frag} {H : Hp} {p : Addr} {xs : List V} {i : Int} {v : V} {Q : VK} (h : H p = some (.lst xs)) (e : atI xs i = some v) (q : Q v H) : rIxA K (.ref p) (.int i) H Q := .inl (rd_ixL h e q)
theorem atI_at {α : Type} {xs : List α} {i : Int} {n : Nat} {v : α} (hi : i = (n : Int)) (h : xs[n]? = some v) : atI xs i = some v := by
  subst hi
  have hl : n < xs.length := (List.getElem?_eq_some_iff.mp h).1
  unfold atI ixN
  rw [if_pos (by omega), if_pos (by omega)]
  simpa using h
/-- an item of what stands for a tuple -/
theorem rd_ixR {K : PySem.W.Frag} {H : Hp} {x : V} {ds : List D} {i : Int} {n : Nat} {d : D} {Q : VK} (h : Rep H (.tup ds) x) (hi : i = (n : Int)) (e : ds[n]? = some d) (q : ∀ v, Rep H d v → Q v H) : rIxA K x (.int i) H Q := by
  obtain ⟨a, xs, rfl, ha, r⟩ := rep_tup_inv h
  obtain ⟨v, ev, rv⟩ := r.get e
  exact rd_ixaT ha (atI_at hi ev) (q v rv)
theorem rd_ixI {K : PySem.W.Frag} {H : Hp} {x : V} {ds : List D} {i : Int} {n : Nat} {k : Int} {Q : VK} (h : Rep H (.tup ds) x) (hi : i = (n : Int)) (e : ds[n]? = some (.int k)) (q : Q (.int k) H) : rIxA K x (.int i) H Q :=
  rd_ixR h hi e fun v r => by rw [rep_int_inv r]; exact q
theorem tyN_rep {H : Hp} {x : V} {ds : List D} (h : Rep H (.tup ds) x) : tyN H x = some "tuple" := by
  obtain ⟨a, xs, rfl, ha, r⟩ := rep_tup_inv h
  exact tyN_tup ha
theorem lenV_rep {K : PySem.W.Frag} {H : Hp} {x : V} {ds : List D} {Q : VK} (h : Rep H (.tup ds) x) (q : Q (.int ds.length) H) : ∃ y n, [x] = [y] ∧ LenV K y H n ∧ Q (.int n) H := by
  obtain ⟨a, xs, rfl, ha, r⟩ := rep_tup_inv h
  exact rd_len ha (by rw [← r.length]; exact q)
def rLen (K : PySem.W.Frag) : List V → Hp → VK → Prop := fun xs H Q => ∃ x n, xs = [x] ∧ LenV K x H n ∧ Q (.int n) H
theorem call_len' : CallR X (.builtin "len") (rLen X.K) := call_len
theorem rd_lenR {K : PySem.W.Frag} {H : Hp} {x : V} {ds : List D} {Q : VK} (h : Rep H (.tup ds) x) (q : Q (.int ds.length) H) : rLen K [x] H Q := lenV_rep h q
theorem rd_lenL' {K : PySem.W.Frag} {H : Hp} {p : Addr} {ys : List V} {Q : VK} (h : SqL K H p ys) (q : Q (.int ys.length) H) : rLen K [.ref p] H Q := ⟨_, _, rfl, .inl ⟨ys, h, rfl⟩, q⟩
def rAbs : List V → Hp → VK → Prop := fun xs H Q => ∃ i, xs = [.int i] ∧ Q (.int (if i < 0 then -i else i)) H
theorem call_abs' : CallR X (.builtin "abs") rAbs := call_abs
theorem rd_abs {H : Hp} {i : Int} {Q : VK} (q : Q (.int (if i < 0 then -i else i)) H) : rAbs [.int i] H Q := ⟨i, rfl, q⟩
def rMax : List V → Hp → VK → Prop := fun xs H Q => ∃ i j, xs = [.int i, .int j] ∧ Q (.int (if j > i then j else i)) H
theorem call_max' (hc : X.calm = true) : CallR X (.builtin "max") rMax := call_max2 hc
theorem rd_max {H : Hp} {i j : Int} {Q : VK} (q : Q (.int (if j > i then j else i)) H) : rMax [.int i, .int j] H Q := ⟨i, j, rfl, q⟩
def rMin : List V → Hp → VK → Prop := fun xs H Q => ∃ i j, xs = [.int i, .int j] ∧ Q (.int (if j < i then j else i)) H
theorem call_min' (hc : X.calm = true) : CallR X (.builtin "min") rMin := call_min2 hc
theorem rd_min {H : Hp} {i j : Int} {Q : VK} (q : Q (.int (if j < i then j else i)) H) : rMin [.int i, .int j] H Q := ⟨i, j, rfl, q⟩
def rTupOf (K : PySem.W.Frag) : List V → Hp → VK → Prop := fun xs H Q => ∃ p ys, xs = [.ref p] ∧ ((SqL K H p ys ∧ ∀ l, H l = none → Q (.ref l) (upd H l (.tup ys))) ∨ (SqT K H p ys ∧ Q (.ref p) H))
theorem call_tup' : CallR X (.type "tuple") (rTupOf X.K) := call_tuple_of
theorem rd_tupL {K : PySem.W.Frag} {H : Hp} {p : Addr} {ys : List V} {Q : VK} (h : SqL K H p ys) (q : ∀ l, H l = none → Q (.ref l) (upd H l (.tup ys))) : rTupOf K [.ref p] H Q := ⟨p, ys, rfl, .inl ⟨h, q⟩⟩
def rLstOf (K : PySem.W.Frag) : List V → Hp → VK → Prop := fun xs H Q => ∃ p ys, xs = [.ref p] ∧ (SqL K H p ys ∨ SqT K H p ys) ∧ ∀ l, H l = none → Q (.ref l) (upd H l (.lst ys))
theorem call_lst' : CallR X (.type "list") (rLstOf X.K) := call_list_of
theorem rd_lstOf {K : PySem.W.Frag} {H : Hp} {p : Addr} {ys : List V} {Q : VK} (h : SqL K H p ys ∨ SqT K H p ys) (q : ∀ l, H l = none → Q (.ref l) (upd H l (.lst ys))) : rLstOf K [.ref p] H Q := ⟨p, ys, rfl, h, q⟩
def rIsnotB : R2 := fun x y H Q => ∃ a b, x = .bl a ∧ y = .bl b ∧ Q (.bl (a != b)) H
theorem op_isnotB' : OpR X (compareOp .IsNot) rIsnotB := op_isnotB
theorem rd_isnotB {a b : Bool} {H : Hp} {Q : VK} (q : Q (.bl (a != b)) H) : rIsnotB (.bl a) (.bl b) H Q := ⟨a, b, rfl, rfl, q⟩
theorem mk_le {n : Nat} (h : Nat.ble n 1000 = true) : n ≤ sizeLine := small_le (Nat.le_of_ble_eq_true h)
end
/-! ### the same, the written part named -/
section
variable {X : Cx} {K : PySem.W.Frag} {pos : Pos}
theorem k_ix (h : X.K = K) : IxR X (rIxA K) := h ▸ ix_any
theorem k_len (h : X.K = K) : CallR X (.builtin "len") (rLen K) := h ▸ call_len'
theorem k_tupOf (h : X.K = K) : CallR X (.type "tuple") (rTupOf K) := h ▸ call_tup'
theorem k_lstOf (h : X.K = K) : CallR X (.type "list") (rLstOf K) := h ▸ call_lst'
theorem k_sl (h : X.K = K) : SlR X (rSlL K) := h ▸ sl_list
theorem k_eqL (h : X.K = K) (hu : X.A.units + 64 < cLine) : OpR X (compareOp .Eq) (rEqL K) := h ▸ op_eqL hu
theorem k_neL (h : X.K = K) (hu : X.A.units + 64 < cLine) : OpR X (compareOp .NotEq) (rNeL K) := h ▸ op_neL hu
theorem k_in (h : X.K = K) : OpR X (compareOp .In) (rIn K false) := h ▸ op_in_seq
theorem k_pi_list {tg l : Expr} {tl : TE} (h : X.K = K) (hl : PE X l tl) : PI X tg l (iList K tl) := h ▸ pi_list hl
theorem k_pi_tup {tg l : Expr} {tl : TE} (h : X.K = K) (hl : PE X l tl) : PI X tg l (iTup K tl) := h ▸ pi_tup hl
theorem k_pg_tup {es : List Expr} {k : Nat} {t : TGs} {n : Nat} (h : X.K = K) (hc : X.calm = true) (hg : PGs X es t)
    (hn : (assignEach es X.env).length = n := by rfl) (hst : (assignEach es X.env).findIdx? (·.1) = none := by rfl) : PG X (.Tuple es k pos) (gTup K n t) := h ▸ pg_tup hc hg hn hst
variable {o e : Expr} {es : List Expr} {to : TE} {t : TA} {name : Str} {apos cpos : Pos} {T id : String} {r : V → List V → Hp → VK → Prop}
theorem k_bm (h : X.K = K) (pa : PlainAttrs T) (slot : Slot T name id) (hty : typeOf (.builtin id) = pure (.type "method_descriptor")) (hm : MtR X id r) (ho : PE X o to) (ha : PA X (e :: es) t)
    (hbase : attributeBase o name X.env (eval o X.env) = eval o X.env := by rfl)
    (hfew : ((backTo cpos (starEach (e :: es) X.env)).all (fun x => !x.1) && (backToKw cpos (keywordEach [] X.env)).all (fun x => x.1.isSome)
      && decide ((e :: es).length + ([] : List Keyword).length + (if ([] : List Keyword).isEmpty then 0 else 1) < 30)) = true := by rfl)
    (hline : (apos.endLine == cpos.line) = true := by rfl) (hs : starEach (e :: es) X.env = (false, eval e X.env) :: starEach es X.env := by rfl) (hplain : (backTo cpos (starEach es X.env)).any (·.1) = false := by rfl) :
    PE X (.Call (.Attribute o name apos) (e :: es) [] cpos) (tBM K T r to t) := h ▸ pe_bm pa slot hty hm ho ha hbase hfew hline hs hplain
end
end L2

end
section
set_option Elab.async false
set_option linter.all false
set_option maxRecDepth 100000
set_option maxHeartbeats 4000000
namespace L2
open PySem PySem.Spec PyProof.Rows
/-! ### defs of the text by their names, and promises by the number of arguments -/
structure TopFn (K : PySem.W.Frag) (mg : Str → Option Value) (x : Str) (st : Stmt) (ps : List Str) : Prop where
  ex : ∃ f fd, Fun K x x st f fd ∧ mg x = some (.ref f) ∧ Binds K fd ps []
section
variable {P : Program} {w : World} {K : PySem.W.Frag} {mg : Str → Option Value} {base : Heap} {x : Str} {st : Stmt} {ps N : List Str} {sp : Sp} {k : Nat}
theorem TopFn.callee (T : TopFn K mg x st ps) (h : ∀ f fd, Fun K x x st f fd → FnOk P w K mg base CX0 k f fd ps sp) : Callee P w K mg base x k ps sp := by
  obtain ⟨f, fd, F, hm, hb⟩ := T.ex
  exact ⟨f, fd, h f fd F, hm, F.kp, hb⟩
def sp0 (b : Hp → VK → Prop) : Sp := fun vs H Q _ => vs = [] ∧ b H Q
def sp1 (b : V → Hp → VK → Prop) : Sp := fun vs H Q _ => ∃ x, vs = [x] ∧ b x H Q
def sp2 (b : V → V → Hp → VK → Prop) : Sp := fun vs H Q _ => ∃ x y, vs = [x, y] ∧ b x y H Q
def sp3 (b : V → V → V → Hp → VK → Prop) : Sp := fun vs H Q _ => ∃ x y z, vs = [x, y, z] ∧ b x y z H Q
def sp4 (b : V → V → V → V → Hp → VK → Prop) : Sp := fun vs H Q _ => ∃ x y z u, vs = [x, y, z, u] ∧ b x y z u H Q
def sp5 (b : V → V → V → V → V → Hp → VK → Prop) : Sp := fun vs H Q _ => ∃ x y z u v, vs = [x, y, z, u, v] ∧ b x y z u v H Q
theorem use0 {b : Hp → VK → Prop} {H : Hp} {Q : VK} {E : XK} (h : b H Q) : sp0 b [] H Q E := ⟨rfl, h⟩
theorem use1 {b : V → Hp → VK → Prop} {x : V} {H : Hp} {Q : VK} {E : XK} (h : b x H Q) : sp1 b [x] H Q E := ⟨x, rfl, h⟩
theorem use2 {b : V → V → Hp → VK → Prop} {x y : V} {H : Hp} {Q : VK} {E : XK} (h : b x y H Q) : sp2 b [x, y] H Q E := ⟨x, y, rfl, h⟩
theorem use3 {b : V → V → V → Hp → VK → Prop} {x y z : V} {H : Hp} {Q : VK} {E : XK} (h : b x y z H Q) : sp3 b [x, y, z] H Q E := ⟨x, y, z, rfl, h⟩
theorem use4 {b : V → V → V → V → Hp → VK → Prop} {x y z u : V} {H : Hp} {Q : VK} {E : XK} (h : b x y z u H Q) : sp4 b [x, y, z, u] H Q E := ⟨x, y, z, u, rfl, h⟩
theorem use5 {b : V → V → V → V → V → Hp → VK → Prop} {x y z u v : V} {H : Hp} {Q : VK} {E : XK} (h : b x y z u v H Q) : sp5 b [x, y, z, u, v] H Q E := ⟨x, y, z, u, v, rfl, h⟩
def GoalB (P : Program) (w : World) (K : PySem.W.Frag) (mg : Str → Option Value) (base : Heap) (N : List Str) (x : Str) (st : Stmt) (f : Addr) (cdv : Value) (A : Around) (outer : List Env) (s : Shared) (H : Hp) (vs : List V) (Q : VK) (E : XK) : Prop :=
  ∃ t, PSs (cxOf CX0 P w K mg base N x (defScope st) f cdv A outer s H E).nox (defBody st) t ∧ t { nx := fun _ H' => Q .non H', rt := Q } (start N vs) H
theorem TopFn.ok0 {b : Hp → VK → Prop} (T : TopFn K mg x st []) (S : FnScope N [] (defScope st))
    (h : ∀ (f : Addr) (cdv : Value) (A : Around) (outer : List Env) (s : Shared) (H : Hp) (Q : VK) (E : XK), Room k (A.deeper (envOfC x (defScope st) s.heap.objs.size f cdv)) → b H Q → GoalB P w K mg base N x st f cdv A outer s H [] Q E) : Callee P w K mg base x (k + 1) [] (sp0 b) :=
  T.callee fun f fd F => F.ok S (fun vs H Q E ⟨e, _⟩ => by rw [e]; rfl) fun cdv A outer s H vs Q E hr hsp => by
    obtain ⟨rfl, hb⟩ := hsp
    exact h f cdv A outer s H Q E hr hb
theorem TopFn.ok1 {a1 : Str} {b : V → Hp → VK → Prop} (T : TopFn K mg x st [a1]) (S : FnScope N [a1] (defScope st))
    (h : ∀ (f : Addr) (cdv : Value) (A : Around) (outer : List Env) (s : Shared) (H : Hp) (v1 : V) (Q : VK) (E : XK), Room k (A.deeper (envOfC x (defScope st) s.heap.objs.size f cdv)) → b v1 H Q → GoalB P w K mg base N x st f cdv A outer s H [v1] Q E) : Callee P w K mg base x (k + 1) [a1] (sp1 b) :=
  T.callee fun f fd F => F.ok S (fun vs H Q E ⟨_, e, _⟩ => by rw [e]; rfl) fun cdv A outer s H vs Q E hr hsp => by
    obtain ⟨v1, rfl, hb⟩ := hsp
    exact h f cdv A outer s H v1 Q E hr hb
theorem TopFn.ok2 {a1 a2 : Str} {b : V → V → Hp → VK → Prop} (T : TopFn K mg x st [a1, a2]) (S : FnScope N [a1, a2] (defScope st))
    (h : ∀ (f : Addr) (cdv : Value) (A : Around) (outer : List Env) (s : Shared) (H : Hp) (v1 v2 : V) (Q : VK) (E : XK), Room k (A.deeper (envOfC x (defScope st) s.heap.objs.size f cdv)) → b v1 v2 H Q → GoalB P w K mg base N x st f cdv A outer s H [v1, v2] Q E) : Callee P w K mg base x (k + 1) [a1, a2] (sp2 b) :=
  T.callee fun f fd F => F.ok S (fun vs H Q E ⟨_, _, e, _⟩ => by rw [e]; rfl) fun cdv A outer s H vs Q E hr hsp => by
    obtain ⟨v1, v2, rfl, hb⟩ := hsp
    exact h f cdv A outer s H v1 v2 Q E hr hb
theorem TopFn.ok3 {a1 a2 a3 : Str} {b : V → V → V → Hp → VK → Prop} (T : TopFn K mg x st [a1, a2, a3]) (S : FnScope N [a1, a2, a3] (defScope st))
    (h : ∀ (f : Addr) (cdv : Value) (A : Around) (outer : List Env) (s : Shared) (H : Hp) (v1 v2 v3 : V) (Q : VK) (E : XK), Room k (A.deeper (envOfC x (defScope st) s.heap.objs.size f cdv)) → b v1 v2 v3 H Q → GoalB P w K mg base N x st f cdv A outer s H [v1, v2, v3] Q E) : Callee P w K mg base x (k + 1) [a1, a2, a3] (sp3 b) :=
  T.callee fun f fd F => F.ok S (fun vs H Q E ⟨_, _, _, e, _⟩ => by rw [e]; rfl) fun cdv A outer s H vs Q E hr hsp => by
    obtain ⟨v1, v2, v3, rfl, hb⟩ := hsp
    exact h f cdv A outer s H v1 v2 v3 Q E hr hb
theorem TopFn.ok4 {a1 a2 a3 a4 : Str} {b : V → V → V → V → Hp → VK → Prop} (T : TopFn K mg x st [a1, a2, a3, a4]) (S : FnScope N [a1, a2, a3, a4] (defScope st))
    (h : ∀ (f : Addr) (cdv : Value) (A : Around) (outer : List Env) (s : Shared) (H : Hp) (v1 v2 v3 v4 : V) (Q : VK) (E : XK), Room k (A.deeper (envOfC x (defScope st) s.heap.objs.size f cdv)) → b v1 v2 v3 v4 H Q → GoalB P w K mg base N x st f cdv A outer s H [v1, v2, v3, v4] Q E) : Callee P w K mg base x (k + 1) [a1, a2, a3, a4] (sp4 b) :=
  T.callee fun f fd F => F.ok S (fun vs H Q E ⟨_, _, _, _, e, _⟩ => by rw [e]; rfl) fun cdv A outer s H vs Q E hr hsp => by
    obtain ⟨v1, v2, v3, v4, rfl, hb⟩ := hsp
    exact h f cdv A outer s H v1 v2 v3 v4 Q E hr hb
theorem TopFn.ok5 {a1 a2 a3 a4 a5 : Str} {b : V → V → V → V → V → Hp → VK → Prop} (T : TopFn K mg x st [a1, a2, a3, a4, a5]) (S : FnScope N [a1, a2, a3, a4, a5] (defScope st))
    (h : ∀ (f : Addr) (cdv : Value) (A : Around) (outer : List Env) (s : Shared) (H : Hp) (v1 v2 v3 v4 v5 : V) (Q : VK) (E : XK), Room k (A.deeper (envOfC x (defScope st) s.heap.objs.size f cdv)) → b v1 v2 v3 v4 v5 H Q → GoalB P w K mg base N x st f cdv A outer s H [v1, v2, v3, v4, v5] Q E) : Callee P w K mg base x (k + 1) [a1, a2, a3, a4, a5] (sp5 b) :=
  T.callee fun f fd F => F.ok S (fun vs H Q E ⟨_, _, _, _, _, e, _⟩ => by rw [e]; rfl) fun cdv A outer s H vs Q E hr hsp => by
    obtain ⟨v1, v2, v3, v4, v5, rfl, hb⟩ := hsp
    exact h f cdv A outer s H v1 v2 v3 v4 v5 Q E hr hb
theorem go_body {f : Addr} {cdv : Value} {A : Around} {outer : List Env} {s : Shared} {H : Hp} {vs : List V} {Q : VK} {E : XK} {t : TS} (σ : St) (hσ : start N vs = σ) (h : PSs (cxOf CX0 P w K mg base N x (defScope st) f cdv A outer s H E).nox (defBody st) t)
    (q : t { nx := fun _ H' => Q .non H', rt := Q } σ H) : GoalB P w K mg base N x st f cdv A outer s H vs Q E := ⟨t, h, by rw [hσ]; exact q⟩
end
end L2
namespace L2
open PySem PySem.Spec PyProof.Rows
theorem ite_yes {b : Bool} {A B : Prop} (h : b = true) (q : A) : if b = true then A else B := by subst h; exact iteT q
theorem ite_dn {c A B : Prop} [Decidable c] (h : ¬ c) (q : B) : if decide c = true then A else B := by rw [decide_eq_false h]; exact iteF q
theorem ite_dy {c A B : Prop} [Decidable c] (h : c) (q : A) : if decide c = true then A else B := by rw [decide_eq_true h]; exact iteT q
theorem ite_ny {c A B : Prop} [Decidable c] (h : ¬ c) (q : A) : if (!decide c) = true then A else B := by rw [decide_eq_false h]; exact iteT q
theorem ite_dd {c A B : Prop} [Decidable c] (h : c → A) (q : ¬ c → B) : if decide c = true then A else B := by
  by_cases e : c
  · exact ite_dy e (h e)
  · exact ite_dn e (q e)
theorem ite_nd {c A B : Prop} [Decidable c] (h : ¬ c → A) (q : c → B) : if (!decide c) = true then A else B := by
  by_cases e : c
  · exact iteNS e (q e)
  · exact ite_ny e (h e)
/-- a form as data -/
def pairD (p : Int × Int) : D := .tup [.int p.1, .int p.2]
end L2
namespace L2
theorem small_le' {n : Nat} (h : n ≤ 1000000) : n ≤ PySem.sizeLine := Nat.le_trans h (by rw [PySem.sizeLine_eq]; decide)
end L2
namespace L2
theorem iteNT {A B : Prop} (h : B) : if (!true) = true then A else B := iteF h
theorem iteNF {A B : Prop} (h : A) : if (!false) = true then A else B := iteT h
end L2
namespace L2
open PySem
theorem cutV_ints (ns : List Int) (lo hi : Option Int) : ∃ ms : List Int, cutV (ns.map V.int) lo hi = ms.map V.int ∧ ms.length ≤ ns.length := by
  refine ⟨(ns.drop (HT.sIx (ns.map V.int).length 0 lo)).take (HT.sIx (ns.map V.int).length (ns.map V.int).length hi - HT.sIx (ns.map V.int).length 0 lo), ?_, ?_⟩
  · unfold cutV
    rw [List.map_take, List.map_drop]
  · rw [List.length_take, List.length_drop]
    omega
theorem rd_slL {K : PySem.W.Frag} {H : Hp} {a : Addr} {xs : List V} {lo hi : Option Int} {Q : VK} (h : SqL K H a xs) (q : ∀ p, H p = none → Q (.ref p) (upd H p (.lst (cutV xs lo hi)))) : rSlL K (.ref a) lo hi H Q := ⟨a, xs, rfl, h, q⟩
theorem rd_cat {H : Hp} {l b : Addr} {xs zs : List V} {Q : VK} (h1 : H l = some (.lst xs)) (h2 : H b = some (.lst zs)) (hl : xs.length + zs.length ≤ sizeLine) (q : ∀ p, H p = none → Q (.ref p) (upd H p (.lst (xs ++ zs)))) : rCat (.ref l) (.ref b) H Q := ⟨l, b, xs, zs, rfl, rfl, h1, h2, hl, q⟩
theorem ints_get {ns : List Int} {i : Nat} {x : V} (h : (ns.map V.int)[i]? = some x) : ∃ z, x = .int z ∧ ns[i]? = some z := by
  rw [List.getElem?_map] at h
  obtain ⟨z, e, rfl⟩ := Option.map_eq_some_iff.mp h
  exact ⟨z, rfl, e⟩
theorem upd_old {H : Hp} {a b : Addr} {o u : HO} (h : H b = some u) (hn : H a = none) : upd H a o b = some u := by rw [upd_ne (ne_of_none h hn)]; exact h
def spLaw (K : PySem.W.Frag) : Sp := sp1 fun x H Q => ∃ (a : Addr) (ns : List Int), x = .ref a ∧ SqL K H a (ns.map V.int) ∧ ns.length ≤ 63 ∧ ∀ H', Q (.bl true) H'
theorem spLaw_of {K : PySem.W.Frag} {H : Hp} {a : Addr} {ns : List Int} {E : XK} (hl : ns.length ≤ 63) (hS : SqL K H a (ns.map V.int)) : spLaw K [.ref a] H (fun v _ => v = .bl true) E := ⟨_, rfl, a, ns, rfl, hS, hl, fun _ => rfl⟩
theorem Fun.law {P : Program} {w : World} {K : PySem.W.Frag} {mg : Str → Option Value} {base : Heap} {st : Stmt} {f : Addr} {fd : FuncData} {N : List Str} {k : Nat} (F : Fun K "law" "law" st f fd) (S : FnScope N ["script"] (defScope st))
    (h : ∀ (cdv : Value) (A : Around) (outer : List Env) (s : Shared) (H : Hp) (a : Addr) (ns : List Int) (Q : VK) (E : XK), Room k (A.deeper (PyProof.Rows.envOfC "law" (defScope st) s.heap.objs.size f cdv)) → SqL K H a (ns.map V.int) → ns.length ≤ 63 → (∀ H', Q (.bl true) H') →
      GoalB P w K mg base N "law" st f cdv A outer s H [.ref a] Q E) : FnOk P w K mg base CX0 (k + 1) f fd ["script"] (spLaw K) :=
  F.ok S (fun vs H Q E ⟨_, e, _⟩ => by rw [e]; rfl) fun cdv A outer s H vs Q E hr hsp => by
    obtain ⟨_, rfl, a, ns, rfl, h1, h2, h3⟩ := hsp
    exact h cdv A outer s H a ns Q E hr h1 h2 h3
end L2
namespace L2
theorem ten60 : (10 : Int) ^ (60 : Int).toNat = 1000000000000000000000000000000000000000000000000000000000000 := by decide +kernel
theorem cpow60 : CPow 10 60 := ⟨by decide, by decide, by decide⟩
theorem big_of {x : Int} (h : x.natAbs ≤ 10 ^ 70) : x.natAbs < 2 ^ 8000 := Nat.lt_of_le_of_lt h (by decide +kernel)
theorem cbig_of {x y : Int} (h : x.natAbs ≤ 10 ^ 70) (h2 : y.natAbs ≤ 10 ^ 70) : CBig x y := ⟨big_of h, big_of h2⟩
theorem cdivb_of {x y : Int} (h : 0 < y) (h2 : y.natAbs ≤ 10 ^ 70) : CDivB x y := ⟨h, big_of h2⟩
end L2

end
section
set_option Elab.async false
set_option linter.all false
set_option maxRecDepth 100000
set_option maxHeartbeats 4000000
namespace L2
open PySem
/-! ### the law's bag of numbers -/
def bagL (l : Addr) (i m st c : Int) : List V := [.ref l, .int i, .int m, .int st, .int c]
structure BagAt (H : Hp) (b l : Addr) : Prop where
  ex : ∃ (xs : List Int) (i : Nat) (m st c : Int), H b = some (.lst (bagL l i m st c)) ∧ H l = some (.lst (xs.map V.int)) ∧ i ≤ xs.length ∧ (0 ≤ m ∧ m ≤ 10 ^ 60) ∧ (0 ≤ st ∧ st < 2147483647) ∧ (∀ x ∈ xs, 0 ≤ x ∧ x ≤ 10 ^ 60) ∧ xs.length ≤ 63
/-- all but b stays -/
def BSame (b : Addr) (H H' : Hp) : Prop := ∀ a o, a ≠ b → H a = some o → H' a = some o
theorem BSame.refl (b : Addr) (H : Hp) : BSame b H H := fun _ _ _ h => h
theorem BSame.trans {b : Addr} {H H1 H2 : Hp} (x : BSame b H H1) (y : BSame b H1 H2) : BSame b H H2 := fun a o n h => y a o n (x a o n h)
theorem BSame.of {b : Addr} {H H' : Hp} (s : Same H H') : BSame b H H' := fun a o _ h => s a o h
theorem BSame.wr {b : Addr} {H : Hp} {o : HO} : BSame b H (upd H b o) := fun a u n h => by rw [upd_ne n]; exact h
theorem BagAt.lst {H : Hp} {b l : Addr} (B : BagAt H b l) : ∃ xs, H b = some (.lst xs) := let ⟨_, _, _, _, _, h, _⟩ := B.ex; ⟨_, h⟩
/-- tuples are none of the bag's -/
theorem BSame.ts {b l : Addr} {H H' : Hp} (x : BSame b H H') (B : BagAt H b l) : TSame H H' := fun a xs e => by
  obtain ⟨ys, hb⟩ := B.lst
  refine x a _ (fun z => ?_) e
  subst z
  rw [hb] at e
  cases e
theorem BagAt.mono {H H' : Hp} {b l : Addr} (B : BagAt H b l) (s : Same H H') : BagAt H' b l := by
  obtain ⟨xs, i, m, st, c, h1, h2, r⟩ := B.ex
  exact ⟨xs, i, m, st, c, s _ _ h1, s _ _ h2, r⟩
/-- another object is written -/
theorem BagAt.wr {H : Hp} {b l q : Addr} {o : HO} (B : BagAt H b l) (h1 : b ≠ q) (h2 : l ≠ q) : BagAt (upd H q o) b l := by
  obtain ⟨xs, i, m, st, c, e1, e2, r⟩ := B.ex
  exact ⟨xs, i, m, st, c, by rw [upd_ne h1]; exact e1, by rw [upd_ne h2]; exact e2, r⟩
theorem BagAt.ne {H : Hp} {b l q : Addr} (B : BagAt H b l) (h : H q = none) : b ≠ q ∧ l ≠ q := by
  obtain ⟨xs, i, m, st, c, e1, e2, r⟩ := B.ex
  exact ⟨ne_of_none e1 h, ne_of_none e2 h⟩
theorem BSame.wrNew {b q : Addr} {H H1 : Hp} {o : HO} (x : BSame b H H1) (h : H q = none) : BSame b H (upd H1 q o) := fun a u n e => by
  rw [upd_ne (ne_of_none e h)]
  exact x a u n e
theorem BSame.free {b q : Addr} {H H1 : Hp} (x : BSame b H H1) (n : q ≠ b) (h : H1 q = none) : H q = none := by
  cases e : H q with
  | none => rfl
  | some o =>
    rw [x q o n e] at h
    cases h
theorem BSame.to {b : Addr} {H H1 H2 : Hp} (x : BSame b H H1) (y : Same H1 H2) : BSame b H H2 := x.trans (BSame.of y)
theorem atI_mem {ms : List Int} {i : Int} (h0 : 0 ≤ i) (h1 : i < ms.length) : ∃ v ∈ ms, atI (ms.map V.int) i = some (.int v) := by
  have hi : i.toNat < ms.length := by omega
  refine ⟨ms[i.toNat], List.getElem_mem hi, atI_at (n := i.toNat) (by omega) ?_⟩
  rw [List.getElem?_map, List.getElem?_eq_getElem hi]
  rfl
/-- one draw: what it asks and what it gives -/
def drawB (x y : V) (H : Hp) (Q : VK) : Prop := ∃ b l n, x = .ref b ∧ y = .int n ∧ (0 < n ∧ n ≤ 10 ^ 65) ∧ BagAt H b l ∧ ∀ r H', 0 ≤ r → r < n → BagAt H' b l → BSame b H H' → Q (.int r) H'
def sp_draw : Sp := sp2 drawB
def sp_number : Sp := sp1 fun x H Q => ∃ b l, x = .ref b ∧ BagAt H b l ∧ ∀ r H', r.natAbs ≤ 10 ^ 60 → BagAt H' b l → BSame b H H' → Q (.int r) H'
def sp_bag (K : PySem.W.Frag) : Sp := sp1 fun x H Q => ∃ (a : Addr) (ns : List Int), x = .ref a ∧ SqL K H a (ns.map V.int) ∧ ns.length ≤ 63 ∧ ∀ b l H', H b = none → Same H H' → BagAt H' b l → Q (.ref b) H'
theorem reps_of_ints {H : Hp} : ∀ (ns : List Int), Reps H (ns.map D.int) (ns.map V.int)
  | [] => reps_nil
  | n :: ns => reps_cons rep_int (reps_of_ints ns)
theorem pls_ints : ∀ (ns : List Int), D.pls (ns.map D.int) = true
  | [] => rfl
  | n :: ns => by rw [List.map_cons, D.pls, pls_ints ns]; rfl
theorem deps_ints : ∀ (ns : List Int), D.deps (ns.map D.int) = 0
  | [] => rfl
  | n :: ns => by rw [List.map_cons, D.deps, deps_ints ns]; rfl
end L2

end
section
set_option Elab.async false
set_option linter.all false
set_option maxRecDepth 100000
set_option maxHeartbeats 4000000
namespace L3
open PySem PyProof.Rows
/-! ### timsort over any keys that are ordered by a number -/
class KOrd where
  kd : SortKind
  good : Keyed → Prop
  kv : Keyed → Int
abbrev oneType' [KOrd] : SortKind := KOrd.kd
def IntK [KOrd] (x : Keyed) : Prop := KOrd.good x
def kvl [KOrd] (x : Keyed) : Int := KOrd.kv x
def K [KOrd] (xs : Array Keyed) (i : Nat) : Int := match xs[i]? with
  | some q => kvl q
  | none => 0
class KLt [KOrd] (P : Program) (W : World) (A : Around) (E : Value → Shared → Prop) (z : Shared) : Prop where
  lt : ∀ {u : SortSt} {x y : Keyed} {Q : Option Bool → SortSt → Prop}, kindOf u = oneType' → IntK x → IntK y → Q (some (decide (kvl x < kvl y))) u → wpS (model P W) A E z (lt' x y) Q u
section
variable [KOrd]
end
/-! ### the search by doubling steps -/
section
variable [KOrd] {P : Program} {W : World} {A : Around} {E : Value → Shared → Prop} {z : Shared} [KLt P W A E z]
end
end L3

end
section
set_option Elab.async false
set_option linter.all false
set_option maxRecDepth 100000
set_option maxHeartbeats 4000000
namespace L3
open PySem PyProof.Rows
variable [KOrd]
/-! ### two rising lists laid together -/
section
variable {a b out : List Keyed} {ia ib : Nat}
end
section
variable {P : Program} {W : World} {A : Around} {E : Value → Shared → Prop} {z : Shared} [KLt P W A E z]
/-- what a merge leaves as it is -/
structure Fr (u v : SortSt) : Prop where
  kind : kindOf v = kindOf u
  arr : arrOf v = arrOf u
  pend : pendingOf v = pendingOf u
  failed : failedOf v = failedOf u
end

/-! ### arrays as lists -/
/-! ### the merge from the low end -/
section
variable {a b out : Array Keyed} {ia ib : Nat}
end
section
variable {P : Program} {W : World} {A : Around} {E : Value → Shared → Prop} {z : Shared} [KLt P W A E z]
end
end L3

end
section
set_option Elab.async false
set_option linter.all false
set_option maxRecDepth 100000
set_option maxHeartbeats 4000000
namespace L3
open PySem PyProof.Rows
variable [KOrd]
/-! ### the merge from the high end -/
section
variable {a b out : List Keyed} {na nb : Nat}
end
section
variable {a b out : Array Keyed} {na nb : Nat}
end
section
variable {P : Program} {W : World} {A : Around} {E : Value → Shared → Prop} {z : Shared} [KLt P W A E z]
end
end L3

end
section
set_option Elab.async false
set_option linter.all false
set_option maxRecDepth 100000
set_option maxHeartbeats 4000000
namespace L3
open PySem PyProof.Rows
variable [KOrd]
/-! ### runs laid together in the array -/
section
variable {P : Program} {W : World} {A : Around} {E : Value → Shared → Prop} {z : Shared} [KLt P W A E z]
end
end L3

end
section
set_option Elab.async false
set_option linter.all false
set_option maxRecDepth 100000
set_option maxHeartbeats 4000000
namespace L3
open PySem PyProof.Rows
variable [KOrd]
/-! ### runs found and lengthened, wherever they begin -/
section
variable {P : Program} {W : World} {A : Around} {E : Value → Shared → Prop} {z : Shared} [KLt P W A E z] {a₀ : Array Keyed} {p : Array (Nat × Nat × Nat)}
end
end L3

end
section
set_option Elab.async false
set_option linter.all false
set_option maxRecDepth 100000
set_option maxHeartbeats 4000000
namespace L3
open PySem PyProof.Rows
variable [KOrd]
section
variable {P : Program} {W : World} {A : Around} {E : Value → Shared → Prop} {z : Shared} [KLt P W A E z] {a₀ : Array Keyed} {p : Array (Nat × Nat × Nat)}
end
/-! ### the stack of runs -/
end L3

end
section
set_option Elab.async false
set_option linter.all false
set_option maxRecDepth 100000
set_option maxHeartbeats 4000000
namespace L3
open PySem PyProof.Rows
variable [KOrd]
section
variable {u v : SortSt} {sa n : Nat}
end
section
variable {P : Program} {W : World} {A : Around} {E : Value → Shared → Prop} {z : Shared} [KLt P W A E z] {a₀ : Array Keyed}
end
end L3

end
section
set_option Elab.async false
set_option linter.all false
set_option maxRecDepth 100000
set_option maxHeartbeats 4000000
namespace L2
open PySem PySem.Spec PyProof.Rows
/-! ### list.sort of ints, by what its runs do -/
section
variable {P : Program} {W : World} {A : Around} {E : Value → Shared → Prop} {z : Shared}
end
theorem Un.track' {fs ex : List Addr} {H H1 : Hp} {h h1 : Heap} {a : Addr} {o : HO} (u : Un fs ex H H1 h h1) (hne : ∀ b o, h.get? b = some o → b ≠ a) (hn : H a = none) : Un fs ex H (upd H1 a o) h h1 where
  keep := u.keep
  slot := u.slot
  free := fun b ob q n hx => by
    rw [upd_ne (hne b ob q)]
    exact u.free b ob q n hx
  there := u.there
  tups := fun b xs q => by
    rw [upd_ne (fun z => by rw [z, hn] at q; cases q)]
    exact u.tups b xs q
  frzs := fun b ob x q => by
    rw [upd_ne (fun z => by rw [z, hn] at q; cases q)]
    exact u.frzs b ob x q
  tbls := fun b ps q => by
    rw [upd_ne (fun z => by rw [z, hn] at q; cases q)]
    exact u.tbls b ps q
theorem ObjOk.there {P : Program} {w : World} {H : Hp} {h : Heap} {a : Addr} {o : HO} (x : ObjOk P w H h a o) : ∃ ob, h.get? a = some ob := by
  cases o with
  | lst xs => obtain ⟨_, _, _, _, e⟩ := x; exact ⟨_, e⟩
  | tup xs => obtain ⟨_, _, _, ob, e, _⟩ := x; exact ⟨_, e⟩
  | dK kvs => obtain ⟨_, _, _, _, o, _, _, e, _⟩ := x; exact ⟨_, e⟩
  | dT kvs => obtain ⟨_, _, _, _, o, _, _, e, _⟩ := x; exact ⟨_, e⟩
  | set S n => obtain ⟨o, _, _, _, e, _⟩ := x; exact ⟨_, e⟩
  | ins C dx fs => obtain ⟨_, _, _, e, _⟩ := x; exact ⟨_, e⟩
  | own y => exact x
  | xd fs => obtain ⟨_, ⟨o, _, _, e, _⟩, _⟩ := x; exact ⟨_, e⟩
  | rng lo hi => obtain ⟨_, _, _, e⟩ := x; exact ⟨_, e⟩
  | frz ob u => obtain ⟨e, _⟩ := x; exact ⟨_, e⟩
  | tbl ps => exact ⟨_, x⟩
  | met f y => exact ⟨_, x⟩
  | ext φ => obtain ⟨_, e, _⟩ := x; exact e
/-! ### sorted(d), d a dict whose keys are ints -/
theorem KV.at' {κ : Type} : ∀ {kvs : List (κ × V)} {vs : List (κ × Value)} {j : Nat} {k : κ} {x : Value}, KV kvs vs → vs[j]? = some (k, x) → ∃ p, kvs[j]? = some p ∧ p.1 = k
  | _, _, j, k, x, .nil, e => by simp at e
  | p :: _, q :: _, 0, k, x, .cons r _, e => by
    simp at e
    subst e
    exact ⟨p, rfl, r.1⟩
  | p :: ps, q :: qs, j + 1, k, x, .cons _ t, e => by
    obtain ⟨p', e1, e2⟩ := KV.at' (j := j) (kvs := ps) (vs := qs) t (by simpa using e)
    exact ⟨p', by simpa using e1, e2⟩
end L2
namespace L2
open PySem
/-! ### the numbers by words: a dict of ints -/
end L2
namespace L2
open PySem
theorem rd_dget2 {td ty tx : TE} {σ : St} {H : Hp} {Q : VK} (h : td σ H fun x H1 => ∃ a, x = .ref a ∧ IsD H1 a ∧ ty σ H1 fun y H2 => tx σ H2 fun z H3 => ∃ o, DGet H3 a y o ∧ Q (o.getD z) H3) : tDGet2 td ty tx σ H Q := h
theorem rd_dget {td ty : TE} {σ : St} {H : Hp} {Q : VK} (h : td σ H fun x H1 => ty σ H1 fun y H2 => ∃ a v, x = .ref a ∧ DGet H2 a y (some v) ∧ Q v H2) : tDGet td ty σ H Q := h
end L2
namespace L2
open PySem
end L2

end
section
set_option Elab.async false
set_option linter.all false
set_option maxRecDepth 100000
set_option maxHeartbeats 4000000
namespace L3
open PySem
/-! ### the places of a set's table rise -/
/-! ### any order of a list -/
end L3

end
section
set_option Elab.async false
set_option linter.all false
set_option maxRecDepth 100000
set_option maxHeartbeats 4000000
namespace L3
open PySem PyProof.Rows
/-! ### a set of ints, its table known -/
section
variable {P : Program} {w : World} {A : Around} {E : Value → Shared → Prop} {s : Shared}
end
section
variable {P : Program} {w : World} {A : Around} {R : Result → Shared → Prop} {I : Addr} {fp wr : List Addr} {G : Array GenState → Array GenState → Prop} {n : Nat} {Pv : Nat → Value → Prop} {St : Nat → Shared → Prop}
end
section
variable {P : Program} {w : World} {A : Around} {E : Value → Shared → Prop} {s : Shared}
end
end L3

end
section
set_option Elab.async false
set_option linter.all false
set_option maxRecDepth 100000
set_option maxHeartbeats 4000000
namespace L3
open PySem
section
variable {M : Model} {A : Around} {E : Value → Shared → Prop} {s : Shared}
end
end L3

end
section
set_option Elab.async false
set_option linter.all false
set_option maxRecDepth 100000
set_option maxHeartbeats 4000000
namespace L3
open PySem
section
variable {P : Program} {w : World} {A : Around} {E : Value → Shared → Prop} {s : Shared} {it a : Addr} {S : Int → Bool} {led : Bool} {o : Obj} {es : Array (Int × Value)} {ep : Nat} {t : SetTable}
/-! ### what setNext tells -/
/-! ### walks over the set, in whatever order -/
end
end L3

end
section
set_option Elab.async false
set_option linter.all false
set_option maxRecDepth 100000
set_option maxHeartbeats 4000000
namespace L3
open PySem PyProof.Rows
section
variable {P : Program} {w : World} {A : Around} {E : Value → Shared → Prop} {s : Shared}
/-! ### the things of a list, each once -/
def dd (ns : List Int) : List Int := firstMet (fun i => ns.getD i 0) ns.length
end
end L3

end
section
set_option Elab.async false
set_option linter.all false
set_option maxRecDepth 100000
set_option maxHeartbeats 4000000
namespace L2
open PySem PySem.Spec PyProof.Rows
/-! ### is None -/
def rIsN : R2 := fun x y H Q => y = .non ∧ Q (.bl (decide (x = .non))) H
theorem op_isN' {X : Cx} : OpR X (compareOp .Is) rIsN := op_isN
theorem rd_isN {x : V} {H : Hp} {Q : VK} (q : Q (.bl (decide (x = .non))) H) : rIsN x .non H Q := ⟨rfl, q⟩
/-! ### parts of a list -/
theorem sIx_nat (n d k : Nat) : HT.sIx n d (some (k : Int)) = min k n := by
  simp only [HT.sIx]
  rw [if_neg (by omega)]
  simp
theorem cut_to {xs : List V} {k : Nat} (h : k ≤ xs.length) : cutV xs none (some (k : Int)) = xs.take k := by
  unfold cutV
  have e1 : HT.sIx xs.length 0 none = 0 := rfl
  have e2 : HT.sIx xs.length xs.length (some (k : Int)) = k := by
    rw [sIx_nat]
    omega
  rw [e1, e2]
  simp
theorem cut_from {xs : List V} {k : Nat} (h : k ≤ xs.length) : cutV xs (some (k : Int)) none = xs.drop k := by
  unfold cutV
  have e1 : HT.sIx xs.length 0 (some (k : Int)) = k := by
    rw [sIx_nat]
    omega
  have e2 : HT.sIx xs.length xs.length none = xs.length := rfl
  rw [e1, e2]
  simp [List.take_of_length_le]
theorem Reps.take {H : Hp} : ∀ {ds : List D} {vs : List V} (n : Nat), Reps H ds vs → Reps H (ds.take n) (vs.take n)
  | _, _, 0, _ => by simp; exact reps_nil
  | [], vs, n + 1, h => by rw [reps_nil_inv h]; simp; exact reps_nil
  | d :: ds, vs, n + 1, h => by
    obtain ⟨v, r, rfl, h1, h2⟩ := reps_cons_inv h
    exact reps_cons h1 (Reps.take n h2)
theorem Reps.drop {H : Hp} : ∀ {ds : List D} {vs : List V} (n : Nat), Reps H ds vs → Reps H (ds.drop n) (vs.drop n)
  | _, _, 0, h => h
  | [], vs, n + 1, h => by rw [reps_nil_inv h]; simp; exact reps_nil
  | d :: ds, vs, n + 1, h => by
    obtain ⟨v, r, rfl, h1, h2⟩ := reps_cons_inv h
    exact Reps.drop n h2
/-! ### xs[::-1] -/
section
variable {X : Cx}
end
/-! ### set(list of ints), sorted(set) -/
section
variable {X : Cx}
end
/-! ### lists that are rising -/
theorem rd_neNil {K : PySem.W.Frag} {H : Hp} {a b : Addr} {xs : List V} {ds : List D} {Q : VK} (h1 : SqL K H a xs) (r : Reps H ds xs) (pd : D.pls ds = true) (hd : D.deps ds ≤ 40) (h2 : H b = some (.lst [])) (q : Q (.bl (!decide (ds = []))) H) : rNeL K (.ref a) (.ref b) H Q := by
  refine ⟨a, b, xs, [], ds, [], rfl, rfl, h1, SqL.of h2, r, reps_nil, pd, rfl, hd, ?_⟩
  have e : eqD (.tup ds) (.tup []) = decide (ds = []) := by
    by_cases h : ds = []
    · subst h
      rw [eqD_same]
      simp
    · rw [eqD_false (by intro z; cases z; exact h rfl)]
      simp [h]
  rw [e]
  exact q
theorem rd_eqLI {K : PySem.W.Frag} {H : Hp} {a b : Addr} {ns ms : List Int} {Q : VK} (h1 : SqL K H a (ns.map V.int)) (h2 : SqL K H b (ms.map V.int)) (q : Q (.bl (decide (ns = ms))) H) : rEqL K (.ref a) (.ref b) H Q := by
  refine ⟨a, b, _, _, ns.map D.int, ms.map D.int, rfl, rfl, h1, h2, reps_of_ints ns, reps_of_ints ms, pls_ints _, pls_ints _, by rw [deps_ints]; omega, ?_⟩
  have e : eqD (.tup (ns.map D.int)) (.tup (ms.map D.int)) = decide (ns = ms) := by
    by_cases h : ns = ms
    · subst h
      rw [eqD_same]
      simp
    · rw [eqD_false ?_]
      · simp [h]
      · intro z
        injection z with z
        exact h (List.map_inj_right (fun x y e => by injection e) |>.mp z)
  rw [e]
  exact q
end L2

end
section
set_option Elab.async false
set_option linter.all false
set_option maxRecDepth 100000
set_option maxHeartbeats 4000000
namespace L2
open PySem PySem.Spec PyProof.Rows
/-! ### for over the signs of a text -/
def Its (x : Str) : It := ⟨fun i _ => i < x.cps.size, fun i H v H' => H' = H ∧ ∃ c, x.cps[i]? = some c ∧ v = .str ⟨#[c]⟩, fun i _ => x.cps.size ≤ i⟩
theorem turn_str {P : Program} {w : World} {K : PySem.W.Frag} {tg : Expr} (x : Str) (t : Tok) (it : Addr) : Turn P w K tg (Its x) [it] it (fun i h => h.IsStrIter it "str_ascii_iterator" x t i) where
  mem := by simp
  obj := fun i h st b hb => by
    have e : b = it := by simpa using hb
    subst e
    obtain ⟨o, e, c, d⟩ := st
    exact ⟨o, e, fun v z => by rw [d] at z; cases z⟩
  keep := fun i h h' st k => by
    obtain ⟨o, e, c, d⟩ := st
    exact ⟨o, k it (by simp) o e, c, d⟩
  item := by
    intro X hP hw hK hc i pins s σ H E I hf st hg
    subst hP hw hK
    have hg : i < x.cps.size := hg
    obtain ⟨f0, f1, f2, f3, f4, f5⟩ := hf it (by simp)
    have hx : x.cps[i]? = some x.cps[i] := Array.getElem?_eq_getElem hg
    refine wpAny_pyNext_ascii_item st hx fun h' st' sb => ?_
    have I1 : Inv X pins σ H { s with heap := h', toks := s.toks + 1 } := I.turned (t' := s.toks + 1) (fun b o hb e => (sb.2 b hb).trans e) f0 f1 f3 f4 f5
    obtain ⟨o, e, c, d⟩ := id st'
    exact ⟨_, rfl, go_of (s := { s with heap := h', toks := s.toks + 1 }) e c d (by decide) ⟨.str ⟨#[x.cps[i]]⟩, H, I1, ⟨_, rfl⟩, ⟨rfl, _, hx, rfl⟩, st', fun b hb => (hf b hb).1⟩⟩
  done := by
    intro X hP hw hK hc i pins s σ H E I hf st hg
    subst hP hw hK
    have hg : x.cps.size ≤ i := hg
    obtain ⟨f0, f1, f2, f3, f4, f5⟩ := hf it (by simp)
    exact wpAny_pyNext_ascii_end (I.ok.hd hc) st (Array.getElem?_eq_none hg) fun h' eb => ⟨rfl, I.turned (t' := s.toks) (fun b o hb e => eb b o hb e) f0 f1 f3 f4 f5⟩
  self := fun _ _ _ _ _ st h => wpAny_pyIter_striter_ascii st h
section
variable {X : Cx} {tg : Expr}
def iStr (tl : TE) : TI := fun σ H R => tl σ H fun x H1 => ∃ z, x = .str z ∧ z.cps.all (· < 128) = true ∧ R (Its z) H1
theorem pi_str {l : Expr} {tl : TE} (hl : PE X l tl) : PI X tg l (iStr tl) := by
  intro pins s σ H R I h
  refine thn (hl pins s σ H _ I h) fun v s1 ⟨x, H1, I1, r1, q1⟩ => ?_
  obtain ⟨z, e, ha, q⟩ := q1
  subst e
  obtain ⟨t, rfl⟩ := r1
  refine wpAny_pyIter_ascii ha ?_
  refine ⟨s1.heap.objs.size, [s1.heap.objs.size], _, _, H1, rfl, I1.kept (t' := s1.toks) fun b o e => Heap.get?_push_of_some _ e, turn_str z t _, ⟨_, Heap.get?_push_size _ rfl, rfl, rfl⟩, fun b hb => ?_, q⟩
  have e : b = s1.heap.objs.size := by simpa using hb
  subst e
  exact I1.fpOk (Nat.le_refl _) (I1.hok.fresh (Nat.le_refl _))
end
theorem rd_istr {σ : St} {H : Hp} {R : It → Hp → Prop} {tl : TE} (h : tl σ H fun x H1 => ∃ z, x = .str z ∧ z.cps.all (· < 128) = true ∧ R (Its z) H1) : iStr tl σ H R := h
theorem for_str {z : Str} {g : TG} {tb : TS} {D' : Ends} {σ : St} {H : Hp} (Pv : Nat → St → Hp → Prop) (h0 : Pv 0 σ H)
    (hs : ∀ i c σ H, z.cps[i]? = some c → Pv i σ H → g (.str ⟨#[c]⟩) σ H fun σ2 H2 => tb { D' with nx := Pv (i + 1), ct := Pv (i + 1), bk := D'.nx } σ2 H2) (hd : ∀ σ H, Pv z.cps.size σ H → D'.nx σ H) :
    ∃ W : Nat → Nat → St → Hp → Prop, (∃ m, W 0 m σ H) ∧ ∀ i m σ H, W i m σ H →
      ((Its z).stop i H ∧ D'.nx σ H) ∨ ((Its z).go i H ∧ ∃ N : St → Hp → Prop, (∀ σ' H', N σ' H' → ∃ m', m' < m ∧ W (i + 1) m' σ' H') ∧ ∀ x H', (Its z).yld i H x H' → g x σ H' fun σ2 H2 => tb { D' with nx := N, ct := N, bk := D'.nx } σ2 H2) := by
  refine ⟨fun i m σ H => m = z.cps.size - i ∧ i ≤ z.cps.size ∧ Pv i σ H, ⟨z.cps.size, by simp, Nat.zero_le _, h0⟩, ?_⟩
  rintro i m σ H ⟨rfl, hi, p⟩
  by_cases hlt : i < z.cps.size
  · refine .inr ⟨hlt, Pv (i + 1), fun σ' H' p' => ⟨z.cps.size - (i + 1), by omega, rfl, hlt, p'⟩, ?_⟩
    rintro x H' ⟨rfl, c, hc, rfl⟩
    exact hs i c σ _ hc p
  · have e : i = z.cps.size := by omega
    subst e
    exact .inl ⟨Nat.le_refl _, hd σ H p⟩
end L2

end
section
set_option Elab.async false
set_option linter.all false
set_option maxRecDepth 100000
set_option maxHeartbeats 4000000
namespace L2
open PySem PySem.Spec PyProof.Rows
/-! ### list(d): the keys of a dict, in their order -/
def rLstD : List V → Hp → VK → Prop := fun xs H Q => ∃ (a : Addr) (kvs : List (Key × V)), xs = [.ref a] ∧ H a = some (.dK kvs) ∧ ∀ p, H p = none → Q (.ref p) (upd H p (.lst (kvs.map fun q => kV q.1)))
theorem key_rel {k : Key} {v : Value} (h : keyIs k v = true) : RelV (kV k) v := by
  cases k with
  | inl i =>
    obtain ⟨t, rfl⟩ := Value.isInt_shape (k := i) (v := v) h
    exact ⟨t, rfl⟩
  | inr x =>
    obtain ⟨t, rfl⟩ := Value.isStrOf_shape (x := x) (v := v) h
    exact ⟨t, rfl⟩
theorem vals_by : ∀ {xs : List V} {us : List Value}, us.length = xs.length → (∀ (j : Nat) u, us[j]? = some u → ∃ x, xs[j]? = some x ∧ RelV x u) → Vals xs us
  | [], [], _, _ => .nil
  | x :: xs, [], h, _ => by cases h
  | [], u :: us, h, _ => by cases h
  | x :: xs, u :: us, h, k => by
    obtain ⟨y, e, r⟩ := k 0 u rfl
    cases e
    exact .cons r (vals_by (by simpa using h) fun j v e => by
      obtain ⟨y', e', r'⟩ := k (j + 1) v (by simpa using e)
      exact ⟨y', by simpa using e', r'⟩)
theorem call_listD {X : Cx} (hc : X.calm = true) : CallR X (.type "list") rLstD := by
  intro pins s σ H xs us Q I r h
  obtain ⟨a, kvs, rfl, ha, q⟩ := h
  obtain ⟨u, rfl, ru⟩ := vals1 r
  cases ru
  obtain ⟨hz, hS, vs, kv, hd⟩ := (show ObjOk X.prog X.w H s.heap a (.dK kvs) from I.hok a _ ha)
  obtain ⟨ep, hat⟩ := hd.dictAt
  have hlen : kvs.length = vs.length := Paired.length kv
  refine PySem.W.kdl_call (PySem.W.kdl_dict (knd := mixKind X.prog X.w) (kvs := vs) (ep := ep) hS) (I.ok.hd hc) hat (by omega) fun h' tk acc c' keep hat' hacc => ?_
  have hal : acc.toList.length = vs.length := by rw [Array.length_toList]; exact hacc.1
  have hv : Vals (kvs.map fun q => kV q.1) acc.toList := vals_by (by rw [List.length_map]; omega) fun j u e => by
    obtain ⟨k, x, e1, e2⟩ := hacc.2 j u (by rw [← Array.getElem?_toList]; exact e)
    obtain ⟨p, ep1, ep2⟩ := KV.at' kv e1
    exact ⟨kV k, by rw [List.getElem?_map, ep1, Option.map_some, ep2], key_rel e2⟩
  have hne : ∀ b o, s.heap.get? b = some o → b ≠ s.heap.objs.size := fun b o e => Nat.ne_of_lt (Heap.lt_size e)
  have hH : H s.heap.objs.size = none := by
    cases e : H s.heap.objs.size with
    | none => rfl
    | some o =>
      obtain ⟨o', e'⟩ := (I.hok _ o e).there
      exact absurd rfl (hne _ o' e')
  refine ⟨.ref s.heap.objs.size, upd H s.heap.objs.size (.lst (kvs.map fun q => kV q.1)), I.un (Un.track' (Un.kept keep) hne hH) (HOk.track (I.hok.kept keep) hH ⟨by rw [List.length_map]; omega, acc.toList, c', hv, ?_⟩), rfl, q _ hH⟩
  simpa using hat'
end L2

end
section
set_option Elab.async false
set_option linter.all false
set_option maxRecDepth 100000
set_option maxHeartbeats 4000000
namespace L2
open PySem PySem.Spec PyProof.Rows
theorem k_pi_str {X : Cx} {K : PySem.W.Frag} {tg l : Expr} {tl : TE} (h : X.K = K) (hl : PE X l tl) : PI X tg l (iStr tl) := pi_str hl
theorem k_catT {X : Cx} {K : PySem.W.Frag} (h : X.K = K) : OpR X (binaryOp .Add) (rCatT K) := h ▸ op_catT
/-! ### rows of a program, as data -/
def lettersL : List (Str × Str) := [("put", "pi"), ("copy", "pp"), ("plus", "ppp"), ("less", "ppp"), ("times", "ppc"), ("take", "p"), ("tell", "p"), ("jump", "t"), ("zero", "pt"), ("below", "pt"), ("call", "pfq"), ("back", "p")]
def lettersKV : List (Key × V) := lettersL.map fun q => (Sum.inr q.1, V.str q.2)
/-- a part of a row by its letter -/
def PartI (boxes many ns : Int) (c : Str) (n : Int) : Prop := (c = "p" → 0 ≤ n ∧ n < boxes) ∧ (c = "t" → 0 ≤ n ∧ n < many) ∧ (c = "f" → 0 ≤ n ∧ n < ns) ∧ (c = "c" → -99 ≤ n ∧ n ≤ 99) ∧ n.natAbs ≤ 10 ^ 60
def PartG (sg : List (Int × Int)) (boxes many : Int) (ps : List D) (c : Str) (d : D) : Prop :=
  (c ≠ "q" ∧ ∃ n, d = .int n ∧ PartI boxes many sg.length c n) ∨
  (c = "q" ∧ ∃ (args : List Int) (f : Nat) (tk : Int × Int), ps[1]? = some (.int f) ∧ sg[f]? = some tk ∧ d = .tup (args.map D.int) ∧ (args.length : Int) = tk.1 ∧ ∀ q ∈ args, 0 ≤ q ∧ q < boxes)
structure RowG (sg : List (Int × Int)) (boxes many : Int) (w ls : Str) (ps : List D) : Prop where
  tab : (w, ls) ∈ lettersL
  len : ps.length = ls.cps.size
  parts : ∀ (i c : Nat), ls.cps[i]? = some c → ∃ d, ps[i]? = some d ∧ PartG sg boxes many ps ⟨#[c]⟩ d
def rowD (r : Str × List D) : D := .tup (.str r.1 :: r.2)
def RowOk (sg : List (Int × Int)) (boxes many : Int) (r : Str × List D) : Prop := ∃ ls, RowG sg boxes many r.1 ls r.2
structure RowsOk (sg : List (Int × Int)) (boxes many : Int) (rs : List (Str × List D)) : Prop where
  len : (rs.length : Int) = many
  all : ∀ r ∈ rs, RowOk sg boxes many r
  last : ∃ r, rs[rs.length - 1]? = some r ∧ (r.1 = "back" ∨ r.1 = "jump")
structure SgOk (sg : List (Int × Int)) : Prop where
  pos : 0 < sg.length
  few : sg.length ≤ 6
  first : ∃ bx, sg[0]? = some (0, bx)
  all : ∀ q ∈ sg, 0 ≤ q.1 ∧ q.1 ≤ 4 ∧ q.1 ≤ q.2 ∧ 1 ≤ q.2 ∧ q.2 ≤ 8
theorem only_ascii : ∀ q ∈ lettersL, q.2.cps.all (· < 128) = true := by decide +kernel
def qOk (q : Str × Str) (i : Nat) : Bool := decide ((⟨#[q.2.cps.getD i 0]⟩ : Str) = "q" → i = 2 ∧ 1 < q.2.cps.size ∧ (⟨#[q.2.cps.getD 1 0]⟩ : Str) = "f")
theorem q_all : (lettersL.all fun q => (List.range q.2.cps.size).all (qOk q)) = true := by decide +kernel
theorem q_at {w ls : Str} (h : (w, ls) ∈ lettersL) {i c : Nat} (e : ls.cps[i]? = some c) (hq : (⟨#[c]⟩ : Str) = "q") : i = 2 ∧ ∃ c', ls.cps[1]? = some c' ∧ (⟨#[c']⟩ : Str) = "f" := by
  have hi := (Array.getElem?_eq_some_iff.mp e).1
  have h1 := List.all_eq_true.mp q_all _ h
  have h2 := List.all_eq_true.mp h1 i (List.mem_range.mpr hi)
  have hc : ls.cps.getD i 0 = c := by
    rw [Array.getElem?_eq_getElem hi] at e
    simp [Array.getD, hi]
    exact Option.some.inj e
  unfold qOk at h2
  rw [decide_eq_true_eq] at h2
  dsimp only at h2
  rw [hc] at h2
  obtain ⟨a, b, d⟩ := h2 hq
  exact ⟨a, _, Array.getElem?_eq_getElem b, by simpa [Array.getD, b] using d⟩
theorem letters_val {w ls : Str} (h : (w, ls) ∈ lettersL) : valV lettersKV (Sum.inr w : Key) = some (V.str ls) := by
  have hk : ∀ q ∈ lettersL, (lettersL.find? fun p => decide (p.1 = q.1)) = some q := by decide +kernel
  have e := hk _ h
  unfold valV lettersKV
  rw [List.find?_map]
  have e2 : ((fun kv : Key × V => decide (kv.1 = Sum.inr w)) ∘ fun q : Str × Str => ((Sum.inr q.1 : Key), V.str q.2)) = fun p : Str × Str => decide (p.1 = w) := by
    funext p
    simp
  rw [e2, e]
  rfl
theorem merge_new : ∀ (more acc : List (Key × V)), ((acc ++ more).map (·.1)).Nodup → mergeK acc more = acc ++ more
  | [], acc, _ => by rw [List.append_nil]; rfl
  | q :: more, acc, h => by
    have hv : valV acc q.1 = none := by
      cases e : valV acc q.1 with
      | none => rfl
      | some v =>
        have hm := valV_in e
        rw [List.map_append, List.map_cons] at h
        exact absurd rfl ((List.nodup_append.mp h).2.2 q.1 hm q.1 List.mem_cons_self)
    show mergeK (putK acc q.1 q.2) more = acc ++ q :: more
    rw [putK_new _ hv, merge_new more (acc ++ [(q.1, q.2)]) (by simpa using h)]
    simp
theorem merge_letters : mergeK [] lettersKV = lettersKV := merge_new lettersKV [] (by decide +kernel)
theorem tPairs_c {σ : St} : ∀ (l : List (V × V)) {H : Hp} {Q : List (V × V) → Hp → Prop}, Q l H → tPairs (l.map fun q => (tC q.1, tC q.2)) σ H Q
  | [], _, _, h => h
  | (x, y) :: l, H, Q, h => tPairs_c l (Q := fun ps H3 => Q ((x, y) :: ps) H3) h
/-! ### a program in the heap: a list of tuples, each with a list of rows -/
abbrev PDef := Int × Int × List (Str × List D)
def DefAt (av : List Addr) (H : Hp) (d : PDef) (v : V) : Prop := ∃ t q ys, v = .ref t ∧ H t = some (.tup [.int d.1, .int d.2.1, .ref q]) ∧ H q = some (.lst ys) ∧ q ∉ av ∧ Reps H (d.2.2.map rowD) ys
def DefsAt (av : List Addr) (H : Hp) : List PDef → List V → Prop
  | [], vs => vs = []
  | d :: ds, vs => ∃ v r, vs = v :: r ∧ DefAt av H d v ∧ DefsAt av H ds r
/-- lists of rows but the avoided ones stay, and all tuples -/
theorem DefAt.by {av : List Addr} {H H' : Hp} {d : PDef} {v : V} (h : DefAt av H d v) (s : ∀ a xs, a ∉ av → H a = some (.lst xs) → H' a = some (.lst xs)) (t : TSame H H') : DefAt av H' d v := by
  obtain ⟨a, q, ys, rfl, h1, h2, n, r⟩ := h
  exact ⟨a, q, ys, rfl, t _ _ h1, s _ _ n h2, n, r.mono t⟩
theorem DefsAt.by {av : List Addr} {H H' : Hp} (s : ∀ a xs, a ∉ av → H a = some (.lst xs) → H' a = some (.lst xs)) (t : TSame H H') : ∀ {ds : List PDef} {vs : List V}, DefsAt av H ds vs → DefsAt av H' ds vs
  | [], _, h => h
  | d :: ds, vs, h => by
    obtain ⟨v, r, e, h1, h2⟩ := h
    exact ⟨v, r, e, h1.by s t, DefsAt.by s t h2⟩
theorem DefsAt.bs {av : List Addr} {b l : Addr} {H H' : Hp} {ds : List PDef} {vs : List V} (h : DefsAt av H ds vs) (s : BSame b H H') (B : BagAt H b l) (m : b ∈ av) : DefsAt av H' ds vs :=
  h.by (fun a xs n e => s _ _ (fun z => n (z ▸ m)) e) (s.ts B)
theorem DefsAt.mono {av : List Addr} {H H' : Hp} {ds : List PDef} {vs : List V} (h : DefsAt av H ds vs) (s : Same H H') : DefsAt av H' ds vs := h.by (fun a xs _ e => s _ _ e) s.ts
theorem DefsAt.wr {av : List Addr} {H : Hp} {q : Addr} {xs : List V} {o : HO} {ds : List PDef} {vs : List V} (h : DefsAt av H ds vs) (m : q ∈ av) (e : H q = some (.lst xs)) : DefsAt av (upd H q o) ds vs :=
  h.by (fun a ys n z => by rw [upd_ne (fun w : a = q => n (w ▸ m))]; exact z) (TSame.wr fun zs z => by rw [e] at z; cases z)
theorem DefsAt.append {av : List Addr} {H : Hp} : ∀ {ds es : List PDef} {vs ws : List V}, DefsAt av H ds vs → DefsAt av H es ws → DefsAt av H (ds ++ es) (vs ++ ws)
  | [], es, vs, ws, h, r => by
    have h : vs = [] := h
    rw [h]
    exact r
  | d :: ds, es, vs, ws, h, r => by
    obtain ⟨v, q, rfl, h1, h2⟩ := h
    exact ⟨v, q ++ ws, rfl, h1, DefsAt.append h2 r⟩
theorem DefsAt.length {av : List Addr} {H : Hp} : ∀ {ds : List PDef} {vs : List V}, DefsAt av H ds vs → ds.length = vs.length
  | [], vs, h => by
    have h : vs = [] := h
    rw [h]; rfl
  | d :: ds, vs, h => by
    obtain ⟨v, q, rfl, h1, h2⟩ := h
    simp [DefsAt.length h2]
theorem DefsAt.get {av : List Addr} {H : Hp} : ∀ {ds : List PDef} {vs : List V} {i : Nat} {v : V}, DefsAt av H ds vs → vs[i]? = some v → ∃ d, ds[i]? = some d ∧ DefAt av H d v
  | [], vs, i, v, h, e => by
    have h : vs = [] := h
    rw [h] at e
    simp at e
  | d :: ds, vs, 0, v, h, e => by
    obtain ⟨u, q, rfl, h1, h2⟩ := h
    simp at e
    subst e
    exact ⟨d, rfl, h1⟩
  | d :: ds, vs, i + 1, v, h, e => by
    obtain ⟨u, q, rfl, h1, h2⟩ := h
    obtain ⟨d', e1, e2⟩ := DefsAt.get h2 (i := i) (v := v) (by simpa using e)
    exact ⟨d', by simpa using e1, e2⟩
theorem le3 {w ls : Str} (h : (w, ls) ∈ lettersL) : ls.cps.size ≤ 3 := by
  have hk : ∀ q ∈ lettersL, q.2.cps.size ≤ 3 := by decide +kernel
  exact hk _ h
theorem rd_meet {c : TT} {t u t2 : TS} {D' : Ends} {σ : St} {H : Hp} (I : St → Hp → Prop) (hI : ∀ σ' H', I σ' H' → t2 D' σ' H') (h : ∀ N : St → Hp → Prop, (∀ σ' H', I σ' H' → N σ' H') → tIfS c t u { D' with nx := N } σ H) : tSeq (tIfS c t u) t2 D' σ H :=
  h (t2 D') hI
/-- as the law makes them -/
structure ProgOk (sg : List (Int × Int)) (ds : List PDef) : Prop where
  sgs : SgOk sg
  heads : ds.map (fun d => (d.1, d.2.1)) = sg
  rows : ∀ d ∈ ds, ∃ many, 1 ≤ many ∧ many ≤ 30 ∧ RowsOk sg d.2.1 many d.2.2
end L2

end
section
set_option Elab.async false
set_option linter.all false
set_option maxRecDepth 100000
set_option maxHeartbeats 4000000
namespace L2
open PySem PySem.Spec PyProof.Rows
/-! ### methods and classes of the text -/
section
variable {X : Cx} {C : Addr} {x m : Str} {k : Nat} {ps : List Str} {sp : Sp} {o e : Expr} {es : List Expr} {ta : TE} {t : TA} {apos pos p : Pos}
theorem pe_cint {n : Int} (hg : Gl X x) (h : ∃ t, X.mg x = some (.int n t)) (hd : (x == ("__debug__" : Str)) = false := by decide) : PE X (.Name x pos) (tC (.int n)) := by
  obtain ⟨t, h⟩ := h
  exact pe_glob hg h ⟨t, rfl⟩ hd
end
section
variable {P : Program} {w : World} {K : PySem.W.Frag} {mg : Str → Option Value} {base : Heap} {x m qual : Str} {st : Stmt} {ps N : List Str} {sp : Sp} {k : Nat} {C : Addr}
end
/-! ### readings -/
section
variable {σ : St} {H : Hp} {Q : VK} {K : PySem.W.Frag} {ta tv : TE} {f m : Str} {C a dx : Addr} {fs : List (Str × V)} {v : V}
end
end L2

end
section
set_option Elab.async false
set_option linter.all false
set_option maxRecDepth 100000
set_option maxHeartbeats 4000000
namespace L2
open PySem PySem.Spec PyProof.Rows
/-! ### a dict of the text's own: words, and for each a tuple of texts -/
def CTup (K : PySem.W.Frag) (a : Addr) (xs : List V) : Prop := ∃ (o : Obj) (its : Array Value) (n : Nat), K.lookup a = some o ∧ o.cls = .type "tuple" ∧ o.data = .seq its n ∧ its.size ≤ sizeLine ∧ Vals xs its.toList
theorem CTup.sq {K : PySem.W.Frag} {a : Addr} {xs : List V} (h : CTup K a xs) (H : Hp) : SqT K H a xs := .inr h
def entC (w : World) (q : Str × Tok × Addr) : DictEntry := ⟨hashStr w q.1, .str q.1 q.2.1, .ref q.2.2⟩
def CDat (K : PySem.W.Frag) (w : World) (a : Addr) (tb : List (Str × List Str)) : Prop :=
  (a == sysModules) = false ∧ (tb.map (·.1)).Nodup ∧ ∃ (rows : List (Str × Tok × Addr)) (ep : Nat), K.lookup a = some { cls := .type "dict", data := .dict (rows.map (entC w)).toArray ep } ∧
    Paired (fun (p : Str × List Str) (q : Str × Tok × Addr) => p.1 = q.1 ∧ CTup K q.2.2 (p.2.map V.str)) tb rows
theorem cd_find {K : PySem.W.Frag} {tb : List (Str × List Str)} {rows : List (Str × Tok × Addr)} (h : Paired (fun (p : Str × List Str) (q : Str × Tok × Addr) => p.1 = q.1 ∧ CTup K q.2.2 (p.2.map V.str)) tb rows) (x : Str) :
    (tb.lookup x = none ∧ valueAt (rows.map fun q => ((Sum.inr q.1 : Key), Value.ref q.2.2)) (Sum.inr x) = none) ∨ ∃ ks a, tb.lookup x = some ks ∧ CTup K a (ks.map V.str) ∧ valueAt (rows.map fun q => ((Sum.inr q.1 : Key), Value.ref q.2.2)) (Sum.inr x) = some (.ref a) := by
  induction h with
  | nil => exact .inl ⟨rfl, rfl⟩
  | @cons p q ps qs hq t ih =>
    obtain ⟨p1, p2⟩ := p
    obtain ⟨q1, qt, qa⟩ := q
    obtain ⟨e, c⟩ := hq
    dsimp only at e c
    subst e
    by_cases z : x = p1
    · subst z
      refine .inr ⟨p2, qa, by simp [List.lookup], c, ?_⟩
      simp [valueAt]
    · have z1 : (x == p1) = false := by simpa using z
      have z2 : ¬ p1 = x := fun w => z w.symm
      have e1 : List.lookup x ((p1, p2) :: ps) = List.lookup x ps := by simp [List.lookup, z1]
      have e2 : valueAt (((p1, qt, qa) :: qs).map fun q => ((Sum.inr q.1 : Key), Value.ref q.2.2)) (Sum.inr x) = valueAt (qs.map fun q => ((Sum.inr q.1 : Key), Value.ref q.2.2)) (Sum.inr x) := by
        simp [valueAt, z2]
      rw [e1, e2]
      exact ih
theorem cd_pairs {P : Program} {w : World} : ∀ (rows : List (Str × Tok × Addr)), Pairs (mixKind P w) (rows.map (entC w)) (rows.map fun q => ((Sum.inr q.1 : Key), Value.ref q.2.2))
  | [] => .nil
  | q :: rows => by
    rw [List.map_cons, List.map_cons]
    exact .cons (mixKind_str P w q.1 q.2.1) rfl (cd_pairs rows)
theorem CDat.dict {P : Program} {w : World} {K : PySem.W.Frag} {h : Heap} {a : Addr} {tb : List (Str × List Str)} (c : CDat K w a tb) (hk : K.In h) : ∃ vs, h.DictOf (mixKind P w) a vs ∧
    ∀ x, (tb.lookup x = none ∧ valueAt vs (Sum.inr x) = none) ∨ ∃ ks b, tb.lookup x = some ks ∧ CTup K b (ks.map V.str) ∧ valueAt vs (Sum.inr x) = some (.ref b) := by
  obtain ⟨hs, nd, rows, ep, hl, pr⟩ := c
  refine ⟨rows.map fun q => ((Sum.inr q.1 : Key), Value.ref q.2.2), ⟨_, _, ep, hk a _ hl, ⟨rfl, rfl, rfl⟩, rfl, ?_, by simpa using cd_pairs rows, ?_⟩, cd_find pr⟩
  · intro e he
    have he : e ∈ rows.map (entC w) := by simpa using he
    obtain ⟨q, hq, rfl⟩ := List.mem_map.mp he
    exact ⟨.inr q.1, mixKind_str P w q.1 q.2.1, rfl⟩
  · have e : rows.map (·.1) = tb.map (·.1) := by
      clear hl nd
      induction pr with
      | nil => rfl
      | cons hq t ih => rw [List.map_cons, List.map_cons, ih, hq.1]
    rw [List.map_map]
    have : (rows.map (·.1)).Nodup := e ▸ nd
    have e2 : rows.map ((fun x : Key × Value => x.1) ∘ fun q : Str × Tok × Addr => ((Sum.inr q.1 : Key), Value.ref q.2.2)) = (rows.map (·.1)).map Sum.inr := by rw [List.map_map]; rfl
    rw [e2]
    exact List.Pairwise.map _ (fun a b z z' => z (Sum.inr.inj z')) this
def IsCD (K : PySem.W.Frag) (w : World) (mg : Str → Option Value) (x : Str) (tb : List (Str × List Str)) : Prop := ∃ a, mg x = some (.ref a) ∧ CDat K w a tb
def tCD (K : PySem.W.Frag) (w : World) (tb : List (Str × List Str)) : TE := fun _ H Q => ∀ a, CDat K w a tb → Q (.ref a) H
def rInCD (K : PySem.W.Frag) (w : World) (tb : List (Str × List Str)) : R2 := fun x y H Q => ∃ a k, x = .str k ∧ y = .ref a ∧ CDat K w a tb ∧ Q (.bl (tb.lookup k).isSome) H
def tCDGet (K : PySem.W.Frag) (w : World) (tb : List (Str × List Str)) (td ty : TE) : TE := fun σ H Q => td σ H fun x H1 => ty σ H1 fun y H2 => ∃ a k ks, x = .ref a ∧ CDat K w a tb ∧ y = .str k ∧ tb.lookup k = some ks ∧ ∀ b, (∀ H', SqT K H' b (ks.map V.str)) → Q (.ref b) H2
section
variable {X : Cx} {o i e value : Expr} {pos pos' tpos : Pos} {td ty tv : TE} {x : Str} {K : PySem.W.Frag} {w : World} {tb : List (Str × List Str)}
theorem pe_cd (hg : Gl X x) (h : IsCD K w X.mg x tb) (hd : (x == ("__debug__" : Str)) = false := by decide) : PE X (.Name x pos) (tCD K w tb) := by
  obtain ⟨a, h, r⟩ := h
  intro pins s σ H Q I q
  exact pe_glob (v := .ref a) hg h rfl hd pins s σ H Q I (q a r)
theorem op_inCD (hK : X.K = K) (hw : X.w = w) : OpR X (compareOp .In) (rInCD K w tb) := by
  subst hK; subst hw
  intro pins s σ H x y v u Q I rx ry h
  obtain ⟨a, k, rfl, rfl, c, q⟩ := h
  obtain rfl : u = Value.ref a := ry
  obtain ⟨vs, dd, hf⟩ := c.dict (P := X.prog) I.kIn
  refine wpAny_in_of (kV_is (k := Sum.inr k) rx) c.1 dd.mapOf ?_
  refine ⟨.bl (tb.lookup k).isSome, H, I.tok _, ?_, q⟩
  rcases hf k with ⟨e1, e2⟩ | ⟨ks, b, e1, _, e2⟩
  · rw [e1, e2]; rfl
  · rw [e1, e2]; rfl
theorem pe_cdget (hK : X.K = K) (hw : X.w = w) (ho : PE X o td) (hi : PE X i ty) (hs : NoSl i) : PE X (.Subscript o i pos) (tCDGet K w tb td ty) := by
  subst hK; subst hw
  intro pins s σ H Q I h
  refine subD_of PySem.F.slot_dict_getitem.lookup hs (thn (ho pins s σ H _ I h) fun u s1 ⟨x, H1, I1, rx, q1⟩ => thn (hi pins s1 σ H1 _ I1 q1) fun iv s2 ⟨y, H2, I2, ry, a, k, ks, ex, c, ey, l, q2⟩ => ?_)
  subst ex; subst ey
  obtain rfl : u = Value.ref a := rx
  obtain ⟨vs, dd, hf⟩ := c.dict (P := X.prog) I2.kIn
  refine ⟨dd.typeIs, ?_⟩
  rcases hf k with ⟨e1, e2⟩ | ⟨ks', b, e1, ct, e2⟩
  · rw [l] at e1; cases e1
  · rw [l] at e1; cases e1
    exact wpAny_getItem_of (kV_is (k := Sum.inr k) ry) dd.mapOf e2 ⟨.ref b, H2, I2.tok _, rfl, q2 b fun H' => ct.sq H'⟩
end
theorem rd_cd {K : PySem.W.Frag} {w : World} {tb : List (Str × List Str)} {σ : St} {H : Hp} {Q : VK} (h : ∀ a, CDat K w a tb → Q (.ref a) H) : tCD K w tb σ H Q := h
theorem rd_inCD {K : PySem.W.Frag} {w : World} {tb : List (Str × List Str)} {a : Addr} {k : Str} {H : Hp} {Q : VK} (c : CDat K w a tb) (h : Q (.bl (tb.lookup k).isSome) H) : rInCD K w tb (.str k) (.ref a) H Q := ⟨a, k, rfl, rfl, c, h⟩
def cdK (K : PySem.W.Frag) (w : World) (tb : List (Str × List Str)) (Q : VK) (x y : V) (H2 : Hp) : Prop := ∃ a k ks, x = .ref a ∧ CDat K w a tb ∧ y = .str k ∧ tb.lookup k = some ks ∧ ∀ b, (∀ H', SqT K H' b (ks.map V.str)) → Q (.ref b) H2
theorem rd_cdget {K : PySem.W.Frag} {w : World} {tb : List (Str × List Str)} {td ty : TE} {σ : St} {H : Hp} {Q : VK} (h : td σ H fun x H1 => ty σ H1 fun y H2 => cdK K w tb Q x y H2) : tCDGet K w tb td ty σ H Q := h
theorem cdK_of {K : PySem.W.Frag} {w : World} {tb : List (Str × List Str)} {a : Addr} {k : Str} {ks : List Str} {H : Hp} {Q : VK} (c : CDat K w a tb) (l : tb.lookup k = some ks) (h : ∀ b, (∀ H', SqT K H' b (ks.map V.str)) → Q (.ref b) H) : cdK K w tb Q (.ref a) (.str k) H := ⟨a, k, ks, rfl, c, rfl, l, h⟩
def disp3K (p : Addr) (Q : VK) (ps : List (V × V)) (H2 : Hp) : Prop := H2 p = some (.dK []) ∧ ∃ kvs : List (Key × V), ps = kvs.map (fun kv => (kV kv.1, kv.2)) ∧ kvs.length ≤ 15 ∧ Q (.ref p) (upd H2 p (.dK (mergeK [] kvs)))
theorem rd_disp3 {tk tv tk2 tv2 tk3 tv3 : TE} {σ : St} {H : Hp} {Q : VK} (h : ∀ p, H p = none → tk σ (upd H p (.dK [])) fun x H1 => tv σ H1 fun y H2 => tk2 σ H2 fun x2 H3 => tv2 σ H3 fun y2 H4 => tk3 σ H4 fun x3 H5 => tv3 σ H5 fun y3 H6 => disp3K p Q [(x, y), (x2, y2), (x3, y3)] H6) : tDisp [(tk, tv), (tk2, tv2), (tk3, tv3)] σ H Q := h
theorem disp3_of {p : Addr} {Q : VK} {k1 k2 k3 : Str} {y1 y2 y3 : V} {H2 : Hp} (h : H2 p = some (.dK [])) (n : [(Sum.inr k1 : Key), Sum.inr k2, Sum.inr k3].Nodup) (q : Q (.ref p) (upd H2 p (.dK [(Sum.inr k1, y1), (Sum.inr k2, y2), (Sum.inr k3, y3)]))) : disp3K p Q [(.str k1, y1), (.str k2, y2), (.str k3, y3)] H2 :=
  ⟨h, [(Sum.inr k1, y1), (Sum.inr k2, y2), (Sum.inr k3, y3)], rfl, by show 3 ≤ 15; decide, by rw [merge_new _ _ (by simpa using n)]; exact q⟩
theorem rd_dispG {trs : List (TE × TE)} {σ : St} {H : Hp} {Q : VK} (h : ∀ p, H p = none → tPairs trs σ (upd H p (.dK [])) (disp3K p Q)) : tDisp trs σ H Q := h
theorem rd_pcons {tk tv : TE} {r : List (TE × TE)} {σ : St} {H : Hp} {Q : List (V × V) → Hp → Prop} (h : tk σ H fun x H1 => tv σ H1 fun y H2 => tPairs r σ H2 fun ps H3 => Q ((x, y) :: ps) H3) : tPairs ((tk, tv) :: r) σ H Q := h
theorem rd_pnil {σ : St} {H : Hp} {Q : List (V × V) → Hp → Prop} (h : Q [] H) : tPairs [] σ H Q := h
theorem disp_of {p : Addr} {Q : VK} {H2 : Hp} {ps : List (V × V)} (kvs : List (Key × V)) (e : ps = kvs.map fun kv => (kV kv.1, kv.2)) (h : H2 p = some (.dK [])) (n : (kvs.map (·.1)).Nodup) (h15 : kvs.length ≤ 15) (q : Q (.ref p) (upd H2 p (.dK kvs))) : disp3K p Q ps H2 :=
  ⟨h, kvs, e, h15, by rw [merge_new _ _ (by simpa using n)]; exact q⟩
theorem rd_dget1 {td ty : TE} {σ : St} {H : Hp} {Q : VK} (h : td σ H fun x H1 => ∃ a, x = .ref a ∧ IsD H1 a ∧ ty σ H1 fun y H2 => ∃ o, DGet H2 a y o ∧ Q (o.getD .non) H2) : tDGet1 td ty σ H Q := h
/-- PARTS of rows.py -/
def partsT : List (Str × List Str) := [("put", ["box", "number"]), ("copy", ["box", "box"]), ("plus", ["box", "box", "box"]), ("less", ["box", "box", "box"]), ("times", ["box", "box", "factor"]), ("take", ["box"]), ("tell", ["box"]), ("jump", ["row"]), ("zero", ["box", "row"]), ("below", ["box", "row"]), ("call", ["box", "def", "boxes"]), ("back", ["box"])]
end L2

end
section
set_option Elab.async false
set_option linter.all false
set_option maxRecDepth 100000
set_option maxHeartbeats 4000000
namespace L2
open PySem PySem.Spec PyProof.Rows
/-! ### for over zip of two lists -/
section
variable {X : Cx} {pins : List (Addr × Obj)} {σ : St} {H : Hp} {s : Shared} {h' : Heap}
/-- some untracked records of ours have turned -/
theorem Inv.turnedL {t' : Nat} {fp : List Addr} (I : Inv X pins σ H s) (k : ∀ b o, b ∉ fp → s.heap.get? b = some o → h'.get? b = some o) (hf : ∀ b ∈ fp, FpOk X pins H b) : Inv X pins σ H { s with heap := h', toks := t' } := by
  have nit : ∀ b u, H b = some u → b ∉ fp := fun b u e z => by rw [(hf b z).1] at e; cases e
  refine I.step (g' := s.gens) (d' := s.drawn) (ch := fp) (fun b hb => ?_) (fun b o _ _ hc e _ => k b o hc e) (fun b o _ _ hc e _ => ⟨o.slots, k b o hc e⟩) (fun _ _ _ _ n => n)
    (fun b o hc e => ⟨o, k b o hc e⟩) (fun _ _ e => e) (fun _ _ _ e => e) (fun b ps e => ⟨#[], by rw [e]; simp⟩) (fun m hm => ?_) (fun b u e => ?_) I.bare
  · obtain ⟨f0, f1, f2, f3, f4, f5⟩ := hf b hb
    exact ⟨f3, f1, f4, f5⟩
  · obtain ⟨o, es, ep, ho, r⟩ := hm
    exact ⟨o, es, ep, k _ o (fun z => (hf _ z).2.1 rfl) ho, r⟩
  · refine (I.hok b u e).stay (fun c v hc q => k c v ?_ q) (fun _ q => q) fun _ _ q => q
    rcases hc with z | z
    · rw [z]; exact nit b u e
    · exact nit c _ z
theorem get_push {h : Heap} {o u : Obj} {b : Addr} (ho : o.isFreed = false) (e : (h.push o).get? b = some u) : h.get? b = some u ∨ (b = h.objs.size ∧ u = o) := by
  have hb := Heap.lt_size e
  rw [Heap.size_push] at hb
  by_cases hbe : b = h.objs.size
  · subst hbe
    rw [Heap.get?_push_size h ho] at e
    exact .inr ⟨rfl, (Option.some.inj e).symm⟩
  · have hlt : b < h.objs.size := Nat.lt_of_le_of_ne (Nat.le_of_lt_succ hb) hbe
    left
    rw [← e]
    unfold Heap.get? Heap.push
    simp [Array.getElem?_push_lt, hlt, Array.getElem?_eq_getElem hlt]
end
theorem zip_apart (n l1 l2 : Nat) (h1 : l1 < n) (h2 : l2 < n) : ZipApart (n + 4) (n + 2) (n + 3) n (n + 1) l1 l2 := by
  constructor <;> exact fun z => by
    have z' := congrArg (fun x : Nat => x) z
    omega
section
variable {X : Cx} {tg : Expr}
end
end L2

end
section
set_option Elab.async false
set_option linter.all false
set_option maxRecDepth 100000
set_option maxHeartbeats 4000000
namespace L3
open PySem Builtin Builtin.Str
/-! ### zip of two tuples -/
theorem tupIter_at {h h' : Heap} {a l : Addr} {i : Nat} (x : h.IsTupleIter a l i) (e : ∀ o, h.get? a = some o → h'.get? a = some o) : h'.IsTupleIter a l i := let ⟨o, ho, r⟩ := x; ⟨o, e _ ho, r⟩
section
variable {prog : Program} {w : World} {A : Around} {E : Value → Shared → Prop} {s : Shared}
/-- the next one of a tuple -/
theorem nextT {it t : Addr} {i : Nat} {items : Array Value} {x : Value} {Q : Value → Shared → Prop} (hit : s.heap.IsTupleIter it t i) (ht : s.heap.IsTuple t items) (hx : items[i]? = some x)
    (hQ : ∀ h', h'.IsTupleIter it t (i + 1) → Heap.SameBut it s.heap h' → Q x { s with heap := h' }) : wpAny (model prog w) A (Builtin.SmallTypes.nextOf (.ref it)) Q E s := by
  obtain ⟨o, ho, hc, hd⟩ := id hit
  obtain ⟨ol, hol, _, nl, hdl⟩ := ht
  unfold Builtin.SmallTypes.nextOf
  refine wpAny_bind (wpAny_callSpecial?_slot (name := Str.ofString "__next__") hit.typeIs F.slot_tuple_iterator_next (wpAny_call_entry F.slot_tuple_iterator_next hit.typeIs F.entry_tuple_iterator_next ?_ (F.args_tuple_iterator_next_1 _)))
  show wpAny _ _ (field (.ref it) 0 >>= _) _ _ s
  refine wpAny_bind (wpAny_field ho hd (x := .ref t) rfl ?_)
  show wpAny _ _ (if (Value.ref t == Value.none) = true then _ else _) _ _ s
  rw [if_neg (show ¬ ((Value.ref t == Value.none) = true) from Bool.false_ne_true)]
  show wpAny _ _ (field (.ref it) 1 >>= _) _ _ s
  refine wpAny_bind (wpAny_field ho hd (x := .int i 0) rfl ?_)
  show wpAny _ _ (seqItems? (.ref t) >>= _) _ _ s
  refine wpAny_bind (wpAny_seqItems hol hdl ?_)
  simp only [Int.toNat_natCast, hx]
  refine wpAny_bind (wpAny_setField ho hd (by simp) (wpAny_pure ⟨x, rfl, wpAny_pure (hQ _ ?_ (Heap.SameBut.update ..))⟩))
  exact ⟨_, Heap.get?_update_self _ ho (Obj.isFreed_of_fields (Obj.data_mapFields hd _)), (Obj.cls_mapFields ..).trans hc, by rw [Obj.data_mapFields hd]; simp [rawInt]⟩
theorem nextT_end {it t : Addr} {i : Nat} {items : Array Value} {Q : Value → Shared → Prop} (hh : A.handled = none) (hit : s.heap.IsTupleIter it t i) (ht : s.heap.IsTuple t items) (hx : items[i]? = none)
    (hE : ∀ h' e, Heap.ExtBut it s.heap h' → (∃ o, h'.get? e = some o ∧ o.cls = .type "StopIteration") → E (.ref e) { s with heap := h' }) : wpAny (model prog w) A (Builtin.SmallTypes.nextOf (.ref it)) Q E s := by
  obtain ⟨o, ho, hc, hd⟩ := id hit
  obtain ⟨ol, hol, _, nl, hdl⟩ := ht
  unfold Builtin.SmallTypes.nextOf
  refine wpAny_bind (wpAny_callSpecial?_slot (name := Str.ofString "__next__") hit.typeIs F.slot_tuple_iterator_next (wpAny_call_entry F.slot_tuple_iterator_next hit.typeIs F.entry_tuple_iterator_next ?_ (F.args_tuple_iterator_next_1 _)))
  show wpAny _ _ (field (.ref it) 0 >>= _) _ _ s
  refine wpAny_bind (wpAny_field ho hd (x := .ref t) rfl ?_)
  show wpAny _ _ (if (Value.ref t == Value.none) = true then _ else _) _ _ s
  rw [if_neg (show ¬ ((Value.ref t == Value.none) = true) from Bool.false_ne_true)]
  show wpAny _ _ (field (.ref it) 1 >>= _) _ _ s
  refine wpAny_bind (wpAny_field ho hd (x := .int i 0) rfl ?_)
  show wpAny _ _ (seqItems? (.ref t) >>= _) _ _ s
  refine wpAny_bind (wpAny_seqItems hol hdl ?_)
  simp only [Int.toNat_natCast, hx]
  refine wpAny_bind (wpAny_rule (wpAny_bind (wpAny_setField ho hd (by simp) ?_)))
  show wpAny _ _ (newExc (.type "StopIteration") [] >>= _) _ _ _
  refine wpAny_bind ?_
  simp only [newExc, newTuple]
  refine wpAny_bind (wpAny_newObj_type ?_ (by size_fits))
  refine wpAny_bind (m := firstArgMember _ _) (wpAny_of_eq (a := Value.none) (by first | rfl | (simp only [firstArgMember]; rfl)) ?_)
  refine wpAny_newObj_type ?_ (by size_fits)
  simp only [raiseNew]
  refine wpAny_bind (wpAny_handled ?_)
  first | rw [show A.in1.handled = none from hh] | rw [hh]
  refine wpAny_bind (wpAny_pure (wpAny_throw ?_))
  exact hE _ _ (((Heap.SameBut.update ..).extBut.push _).push _) ⟨_, Heap.get?_push_size _ rfl, rfl⟩
theorem zipT_item {z TI TO i1 i2 l1 l2 : Addr} {k1 k2 : Nat} {xs ys : Array Value} {x y a b : Value} {Q : Value → Shared → Prop} (D : ZipApart z TI TO i1 i2 l1 l2)
    (hz : IsZip s.heap z TI TO .none) (hTI : IsPair s.heap TI (.ref i1) (.ref i2)) (hTO : IsPair s.heap TO a b)
    (h1 : s.heap.IsTupleIter i1 l1 k1) (h2 : s.heap.IsTupleIter i2 l2 k2) (hl1 : s.heap.IsTuple l1 xs) (hl2 : s.heap.IsTuple l2 ys) (hx : xs[k1]? = some x) (hy : ys[k2]? = some y)
    (hQ : ∀ h', IsZip h' z TI TO (rawInt s.heap.objs.size) → IsPair h' TO x y → h'.IsTupleIter i1 l1 (k1 + 1) → h'.IsTupleIter i2 l2 (k2 + 1) → IsPair h' s.heap.objs.size x y → h'.objs.size = s.heap.objs.size + 1 →
      (∀ c o, c ≠ z → c ≠ TO → c ≠ i1 → c ≠ i2 → s.heap.get? c = some o → h'.get? c = some o) → Q (.ref s.heap.objs.size) { s with heap := h' }) :
    wpAny (model prog w) A (Builtin.«zip.__next__» ⟨[.ref z], []⟩) (fun fin s' => ∃ v, fin = .done (.ret v) ∧ Q v s') E s := by
  show wpAny _ _ (field (.ref z) 2 >>= _) _ _ _
  refine wpAny_bind (wpAny_field hz rfl (x := .bool false) rfl ?_)
  show wpAny _ _ (field (.ref z) 3 >>= _) _ _ _
  refine wpAny_bind (wpAny_field hz rfl (x := .ref TI) rfl ?_)
  refine wpAny_bind (wpAny_seqItems hTI rfl ?_)
  show wpAny _ _ (Builtin.SmallTypes.ownedTupleIsFree (.ref z) >>= _) _ _ _
  refine wpAny_bind ?_
  unfold Builtin.SmallTypes.ownedTupleIsFree
  refine wpAny_bind (wpAny_field hz rfl (x := .none) rfl (wpAny_pure ?_))
  simp only [if_true]
  refine wpAny_bind (wpAny_rule ?_)
  refine wpAny_bind (wpAny_field hz rfl (x := .ref TO) rfl ?_)
  refine wpAny_bind (wpAny_setField_rec hz (by simp) fun ha hza hsa => ?_)
  replace hza : IsZip ha z TI TO .ellipsis := hza
  refine wpAny_bind ?_
  simp only [List.zipIdx_cons, List.zipIdx_nil, List.forIn_cons, List.forIn_nil]
  refine wpAny_bind (wpAny_bind (wpAny_onRaise ?_))
  show wpAny _ _ (Builtin.SmallTypes.nextOf (.ref i1) >>= _) _ _ _
  refine wpAny_bind (nextT (h1.extBut hsa.extBut D.i1z) (hl1.extBut hsa.extBut D.l1z) hx fun hb h1b hsb => wpAny_pure ?_)
  have tb : IsPair hb TO a b := hsb.extBut _ _ D.TOi1 (hsa.extBut _ _ D.TOz hTO)
  refine wpAny_bind (wpAny_seqItems tb rfl ?_)
  refine wpAny_bind (wpAny_updateSeq_pair tb fun hc tc hsc => ?_)
  replace tc : IsPair hc TO x b := tc
  refine wpAny_bind (wpAny_letGo (wpAny_pure ?_))
  refine wpAny_bind (wpAny_bind (wpAny_onRaise ?_))
  show wpAny _ _ (Builtin.SmallTypes.nextOf (.ref i2) >>= _) _ _ _
  refine wpAny_bind (nextT (((h2.extBut hsa.extBut D.i2z).extBut hsb.extBut D.i12.symm).extBut hsc.extBut D.TOi2.symm) (((hl2.extBut hsa.extBut D.l2z).extBut hsb.extBut D.l2i1).extBut hsc.extBut D.l2TO) hy fun hd h2d hsd => wpAny_pure ?_)
  have td : IsPair hd TO x b := hsd.extBut _ _ D.TOi2 tc
  refine wpAny_bind (wpAny_seqItems td rfl ?_)
  refine wpAny_bind (wpAny_updateSeq_pair td fun he te hse => ?_)
  replace te : IsPair he TO x y := te
  refine wpAny_bind (wpAny_letGo (wpAny_pure (wpAny_pure ?_)))
  refine wpAny_bind (wpAny_seqItems te rfl ?_)
  refine wpAny_bind (wpAny_newTuple ?_)
  have hsz : he.objs.size = s.heap.objs.size := by rw [hse.1, hsd.1, hsc.1, hsb.1, hsa.1]
  have ze : IsZip he z TI TO .ellipsis := hse.extBut _ _ D.TOz.symm (hsd.extBut _ _ D.i2z.symm (hsc.extBut _ _ D.TOz.symm (hsb.extBut _ _ D.i1z.symm hza)))
  have ke : ∀ c o, c ≠ z → c ≠ TO → c ≠ i1 → c ≠ i2 → s.heap.get? c = some o → he.get? c = some o := fun c o c1 c2 c3 c4 e =>
    hse.extBut _ _ c2 (hsd.extBut _ _ c4 (hsc.extBut _ _ c2 (hsb.extBut _ _ c3 (hsa.extBut _ _ c1 e))))
  have h1e : he.IsTupleIter i1 l1 (k1 + 1) := ((h1b.extBut hsc.extBut D.TOi1.symm).extBut hsd.extBut D.i12).extBut hse.extBut D.TOi1.symm
  have h2e : he.IsTupleIter i2 l2 (k2 + 1) := h2d.extBut hse.extBut D.TOi2.symm
  have hzlt : z < he.objs.size := Heap.lt_size ze
  show wpAny _ _ (Builtin.SmallTypes.ownedTupleHandOut (.ref z) (.ref he.objs.size) >>= _) _ _ _
  refine wpAny_bind ?_
  unfold Builtin.SmallTypes.ownedTupleHandOut
  have zf : IsZip (he.push { cls := .type "tuple", data := .seq #[x, y] }) z TI TO .ellipsis := Heap.get?_push_of_some _ ze
  refine wpAny_bind (wpAny_setField_rec zf (by simp) fun hg zg hsg => ?_)
  replace zg : IsZip hg z TI TO (rawInt he.objs.size) := zg
  refine wpAny_setField_rec zg (by simp) fun hi zi hsi => ?_
  replace zi : IsZip hi z TI TO (rawInt he.objs.size) := zi
  have up : ∀ c o, c ≠ z → he.get? c = some o → hi.get? c = some o := fun c o c1 e => hsi.extBut _ _ c1 (hsg.extBut _ _ c1 (Heap.get?_push_of_some _ e))
  have hT : IsPair hi he.objs.size x y := hsi.extBut _ _ (Nat.ne_of_gt hzlt) (hsg.extBut _ _ (Nat.ne_of_gt hzlt) (Heap.get?_push_size _ rfl))
  have hz8 : hi.objs.size = he.objs.size + 1 := by rw [hsi.1, hsg.1, Heap.size_push]
  rw [hsz] at zi hT hz8
  refine wpAny_pure ⟨_, rfl, ?_⟩
  show Q (.ref he.objs.size) _
  rw [hsz]
  exact hQ hi zi (up _ _ D.TOz te) (tupIter_at h1e fun o e => up _ o D.i1z e) (tupIter_at h2e fun o e => up _ o D.i2z e) hT hz8 fun c o c1 c2 c3 c4 e => up c o c1 (ke c o c1 c2 c3 c4 e)
theorem zipT_end {z TI TO i1 i2 l1 l2 : Addr} {k1 k2 : Nat} {xs ys : Array Value} {a b : Value} {Q : Fin → Shared → Prop} (hh : A.handled = none) (D : ZipApart z TI TO i1 i2 l1 l2)
    (hz : IsZip s.heap z TI TO .none) (hTI : IsPair s.heap TI (.ref i1) (.ref i2)) (hTO : IsPair s.heap TO a b)
    (h1 : s.heap.IsTupleIter i1 l1 k1) (h2 : s.heap.IsTupleIter i2 l2 k2) (hl1 : s.heap.IsTuple l1 xs) (hl2 : s.heap.IsTuple l2 ys) (hend : xs[k1]? = none ∨ ys[k2]? = none)
    (hE : ∀ h' e, (∀ c o, c ≠ z → c ≠ TO → c ≠ i1 → c ≠ i2 → s.heap.get? c = some o → h'.get? c = some o) → (∃ o, h'.get? e = some o ∧ o.cls = .type "StopIteration") → E (.ref e) { s with heap := h' }) :
    wpAny (model prog w) A (Builtin.«zip.__next__» ⟨[.ref z], []⟩) Q E s := by
  show wpAny _ _ (field (.ref z) 2 >>= _) _ _ _
  refine wpAny_bind (wpAny_field hz rfl (x := .bool false) rfl ?_)
  show wpAny _ _ (field (.ref z) 3 >>= _) _ _ _
  refine wpAny_bind (wpAny_field hz rfl (x := .ref TI) rfl ?_)
  refine wpAny_bind (wpAny_seqItems hTI rfl ?_)
  show wpAny _ _ (Builtin.SmallTypes.ownedTupleIsFree (.ref z) >>= _) _ _ _
  refine wpAny_bind ?_
  unfold Builtin.SmallTypes.ownedTupleIsFree
  refine wpAny_bind (wpAny_field hz rfl (x := .none) rfl (wpAny_pure ?_))
  simp only [if_true]
  refine wpAny_bind (wpAny_rule ?_)
  refine wpAny_bind (wpAny_field hz rfl (x := .ref TO) rfl ?_)
  refine wpAny_bind (wpAny_setField_rec hz (by simp) fun ha hza hsa => ?_)
  replace hza : IsZip ha z TI TO .ellipsis := hza
  refine wpAny_bind ?_
  simp only [List.zipIdx_cons, List.zipIdx_nil, List.forIn_cons, List.forIn_nil]
  refine wpAny_bind (wpAny_bind (wpAny_onRaise ?_))
  show wpAny _ _ (Builtin.SmallTypes.nextOf (.ref i1) >>= _) _ _ _
  cases hx : xs[k1]? with
  | none =>
    refine wpAny_bind (nextT_end hh (h1.extBut hsa.extBut D.i1z) (hl1.extBut hsa.extBut D.l1z) hx fun hb e hsb he => ?_)
    obtain ⟨oe, hoe, hce⟩ := he
    have zb : IsZip hb z TI TO .ellipsis := hsb _ _ D.i1z.symm hza
    have hez : e ≠ z := fun x => by subst x; rw [zb] at hoe; cases hoe; simp at hce
    refine wpAny_setField_rec zb (by simp) fun hc _ hsc => hE hc e (fun c o c1 _ c3 _ x => hsc.extBut _ _ c1 (hsb _ _ c3 (hsa.extBut _ _ c1 x))) ⟨oe, hsc.extBut _ _ hez hoe, hce⟩
  | some x =>
    have hy : ys[k2]? = none := by rcases hend with h | h; rw [hx] at h; cases h; exact h
    refine wpAny_bind (nextT (h1.extBut hsa.extBut D.i1z) (hl1.extBut hsa.extBut D.l1z) hx fun hb h1b hsb => wpAny_pure ?_)
    have tb : IsPair hb TO a b := hsb.extBut _ _ D.TOi1 (hsa.extBut _ _ D.TOz hTO)
    refine wpAny_bind (wpAny_seqItems tb rfl ?_)
    refine wpAny_bind (wpAny_updateSeq_pair tb fun hc tc hsc => ?_)
    refine wpAny_bind (wpAny_letGo (wpAny_pure ?_))
    refine wpAny_bind (wpAny_bind (wpAny_onRaise ?_))
    show wpAny _ _ (Builtin.SmallTypes.nextOf (.ref i2) >>= _) _ _ _
    refine wpAny_bind (nextT_end hh (((h2.extBut hsa.extBut D.i2z).extBut hsb.extBut D.i12.symm).extBut hsc.extBut D.TOi2.symm) (((hl2.extBut hsa.extBut D.l2z).extBut hsb.extBut D.l2i1).extBut hsc.extBut D.l2TO) hy fun hd e hsd he => ?_)
    obtain ⟨oe, hoe, hce⟩ := he
    have zd : IsZip hd z TI TO .ellipsis := hsd _ _ D.i2z.symm (hsc.extBut _ _ D.TOz.symm (hsb.extBut _ _ D.i1z.symm hza))
    have hez : e ≠ z := fun x => by subst x; rw [zd] at hoe; cases hoe; simp at hce
    refine wpAny_setField_rec zd (by simp) fun he _ hse => hE he e (fun c o c1 c2 c3 c4 x => hse.extBut _ _ c1 (hsd _ _ c4 (hsc.extBut _ _ c2 (hsb.extBut _ _ c3 (hsa.extBut _ _ c1 x))))) ⟨oe, hse.extBut _ _ hez hoe, hce⟩
theorem next_zipT {z TI TO i1 i2 l1 l2 : Addr} {k1 k2 : Nat} {xs ys : Array Value} {x y a b : Value} {Q : Option Value → Shared → Prop} (D : ZipApart z TI TO i1 i2 l1 l2)
    (hz : IsZip s.heap z TI TO .none) (hTI : IsPair s.heap TI (.ref i1) (.ref i2)) (hTO : IsPair s.heap TO a b)
    (h1 : s.heap.IsTupleIter i1 l1 k1) (h2 : s.heap.IsTupleIter i2 l2 k2) (hl1 : s.heap.IsTuple l1 xs) (hl2 : s.heap.IsTuple l2 ys) (hx : xs[k1]? = some x) (hy : ys[k2]? = some y)
    (hQ : ∀ h', IsZip h' z TI TO (rawInt s.heap.objs.size) → IsPair h' TO x y → h'.IsTupleIter i1 l1 (k1 + 1) → h'.IsTupleIter i2 l2 (k2 + 1) → IsPair h' s.heap.objs.size x y → h'.objs.size = s.heap.objs.size + 1 →
      (∀ c o, c ≠ z → c ≠ TO → c ≠ i1 → c ≠ i2 → s.heap.get? c = some o → h'.get? c = some o) → Q (some (.ref s.heap.objs.size)) { s with heap := h' }) :
    wpAny (model prog w) A (pyNext (.ref z)) Q E s := by
  have hT : s.TypeIs (.ref z) "zip" := ⟨_, hz, rfl⟩
  unfold pyNext
  exact wpAny_bind (wpAny_attempt (wpAny_callSpecial?_slot (name := Str.ofString "__next__") hT F.slot_zip_next (wpAny_call_entry F.slot_zip_next hT F.entry_zip_next
      (zipT_item D hz hTI hTO h1 h2 hl1 hl2 hx hy fun h' a1 a2 a3 a4 a5 a6 a7 => wpAny_pure (hQ h' a1 a2 a3 a4 a5 a6 a7)) (F.args_zip_next_1 _))))
theorem next_zipT_end {z TI TO i1 i2 l1 l2 : Addr} {k1 k2 : Nat} {xs ys : Array Value} {a b : Value} {Q : Option Value → Shared → Prop} (hh : A.handled = none) (D : ZipApart z TI TO i1 i2 l1 l2)
    (hz : IsZip s.heap z TI TO .none) (hTI : IsPair s.heap TI (.ref i1) (.ref i2)) (hTO : IsPair s.heap TO a b)
    (h1 : s.heap.IsTupleIter i1 l1 k1) (h2 : s.heap.IsTupleIter i2 l2 k2) (hl1 : s.heap.IsTuple l1 xs) (hl2 : s.heap.IsTuple l2 ys) (hend : xs[k1]? = none ∨ ys[k2]? = none)
    (hQ : ∀ h', (∀ c o, c ≠ z → c ≠ TO → c ≠ i1 → c ≠ i2 → s.heap.get? c = some o → h'.get? c = some o) → Q none { s with heap := h' }) : wpAny (model prog w) A (pyNext (.ref z)) Q E s := by
  have hT : s.TypeIs (.ref z) "zip" := ⟨_, hz, rfl⟩
  unfold pyNext
  refine wpAny_bind (wpAny_attempt (wpAny_callSpecial?_slot (name := Str.ofString "__next__") hT F.slot_zip_next (wpAny_call_entry F.slot_zip_next hT F.entry_zip_next (zipT_end hh D hz hTI hTO h1 h2 hl1 hl2 hend fun h' e hk he => ?_) (F.args_zip_next_1 _))))
  obtain ⟨o, ho, hc⟩ := he
  refine wpAny_bind (wpAny_isInstance (T := "StopIteration") (b := true) ⟨o, ho, hc⟩ isSubtype_stop ?_)
  exact wpAny_pure (hQ _ hk)
end
abbrev zT1 (h : Heap) (l1 : Addr) : Heap := h.push { cls := .type "tuple_iterator", data := .fields #[.ref l1, .int 0 0] }
abbrev zT2 (h : Heap) (l1 l2 : Addr) : Heap := (zT1 h l1).push { cls := .type "tuple_iterator", data := .fields #[.ref l2, .int 0 0] }
abbrev zT3 (h : Heap) (l1 l2 : Addr) : Heap := (zT2 h l1 l2).push { cls := .type "tuple", data := .seq #[.ref h.objs.size, .ref (zT1 h l1).objs.size] }
abbrev zT4 (h : Heap) (l1 l2 : Addr) : Heap := (zT3 h l1 l2).push { cls := .type "tuple", data := .seq #[.none, .none] }
abbrev zT5 (h : Heap) (l1 l2 : Addr) : Heap := (zT4 h l1 l2).push { cls := .type "zip", data := .fields #[.none, .bool false, .bool false, .ref (zT2 h l1 l2).objs.size, .ref (zT3 h l1 l2).objs.size] }
theorem zipT_new (l1 l2 : Addr) (xs ys : Array Value) :
    Meets (Builtin.«zip.__new__» ⟨[.type "zip", .ref l1, .ref l2], []⟩) (fun _ R s => s.heap.IsTuple l1 xs ∧ s.heap.IsTuple l2 ys ∧ R (.ok (.ret (.ref (zT4 s.heap l1 l2).objs.size))) { s with heap := zT5 s.heap l1 l2 }) :=
  .of_wp fun prog w A R s h => by
    obtain ⟨hp, g, d, tk, os⟩ := s; obtain ⟨hl1, hl2, h⟩ := h
    have hsub : isSubtype (.type "zip") (.type "zip") = pure true := by rw [isSubtype_type]; kernel_rfl
    have hL1 : Heap.IsTuple (Shared.heap ⟨hp, g, d, tk, os⟩) l1 xs := hl1
    have hL2 : Heap.IsTuple (Shared.heap ⟨hp.push { cls := .type "tuple_iterator", data := .fields #[.ref l1, .int 0 0] }, g, d, tk, os⟩) l2 ys := Heap.IsTuple.push hl2 _
    wp_walk using wpAny_pyIter_tuple hL1, wpAny_pyIter_tuple hL2
    exact ⟨_, rfl, h⟩
theorem call_zipT {prog : Program} {w : World} {A : Around} {E : Value → Shared → Prop} {s : Shared} {l1 l2 : Addr} {xs ys : Array Value} {Q : Value → Shared → Prop} (hl1 : s.heap.IsTuple l1 xs) (hl2 : s.heap.IsTuple l2 ys)
    (h : ∀ h', IsZip h' (s.heap.objs.size + 4) (s.heap.objs.size + 2) (s.heap.objs.size + 3) .none → IsPair h' (s.heap.objs.size + 2) (.ref s.heap.objs.size) (.ref (s.heap.objs.size + 1)) →
      IsPair h' (s.heap.objs.size + 3) .none .none → h'.IsTupleIter s.heap.objs.size l1 0 → h'.IsTupleIter (s.heap.objs.size + 1) l2 0 →
      (∀ c o, s.heap.get? c = some o → h'.get? c = some o) → Q (.ref (s.heap.objs.size + 4)) { s with heap := h' }) :
    wpAny (model prog w) A (call (.type "zip") [.ref l1, .ref l2]) Q E s := by
  refine callType_new F.called_zip (by decide) (F.typeCall_zip_2 _ _) (F.newCall_zip_2 _ _) (fun obj => F.args_object_init_3 obj _ _) F.entry_zip_new (zipT_new l1 l2 xs ys) ⟨hl1, hl2, ?_⟩
  have z1 : (zT1 s.heap l1).objs.size = s.heap.objs.size + 1 := Heap.size_push ..
  have z2 : (zT2 s.heap l1 l2).objs.size = s.heap.objs.size + 2 := by rw [Heap.size_push, z1]
  have z3 : (zT3 s.heap l1 l2).objs.size = s.heap.objs.size + 3 := by rw [Heap.size_push, z2]
  have z4 : (zT4 s.heap l1 l2).objs.size = s.heap.objs.size + 4 := by rw [Heap.size_push, z3]
  have g5 : (zT5 s.heap l1 l2).get? (zT4 s.heap l1 l2).objs.size = some _ := Heap.get?_push_size _ rfl
  have g4 : (zT5 s.heap l1 l2).get? (zT3 s.heap l1 l2).objs.size = some _ := Heap.get?_push_of_some _ (Heap.get?_push_size _ rfl)
  have g3 : (zT5 s.heap l1 l2).get? (zT2 s.heap l1 l2).objs.size = some _ := Heap.get?_push_of_some _ (Heap.get?_push_of_some _ (Heap.get?_push_size _ rfl))
  have g2 : (zT5 s.heap l1 l2).get? (zT1 s.heap l1).objs.size = some _ := Heap.get?_push_of_some _ (Heap.get?_push_of_some _ (Heap.get?_push_of_some _ (Heap.get?_push_size _ rfl)))
  have g1 : (zT5 s.heap l1 l2).get? s.heap.objs.size = some _ := Heap.get?_push_of_some _ (Heap.get?_push_of_some _ (Heap.get?_push_of_some _ (Heap.get?_push_of_some _ (Heap.get?_push_size _ rfl))))
  show _ ∧ _
  rw [z2, z3, z4] at g5
  rw [z1, z2] at g3
  rw [z3] at g4
  rw [z1] at g2
  rw [z4]
  exact ⟨⟨_, g5, rfl⟩, h _ g5 g3 g4 ⟨_, g1, rfl, rfl⟩ ⟨_, g2, rfl, rfl⟩ fun c o x => Heap.get?_push_of_some _ (Heap.get?_push_of_some _ (Heap.get?_push_of_some _ (Heap.get?_push_of_some _ (Heap.get?_push_of_some _ x))))⟩
end L3

end
section
set_option Elab.async false
set_option linter.all false
set_option maxRecDepth 100000
set_option maxHeartbeats 4000000
namespace L2
open PySem PySem.Spec PyProof.Rows
/-! ### for and comprehensions over zip of two tuples -/
def ItzT (K : PySem.W.Frag) (l1 l2 : Addr) : It := ⟨fun i H => ∃ xs ys x y, SqT K H l1 xs ∧ SqT K H l2 ys ∧ xs[i]? = some x ∧ ys[i]? = some y,
  fun i H v H' => ∃ T x y, (∀ xs, SqT K H l1 xs → xs[i]? = some x) ∧ (∀ ys, SqT K H l2 ys → ys[i]? = some y) ∧ H T = none ∧ v = .ref T ∧ H' = upd H T (.tup [x, y]),
  fun i H => ∃ xs ys, SqT K H l1 xs ∧ SqT K H l2 ys ∧ (xs.length ≤ i ∨ ys.length ≤ i)⟩
theorem turn_zipT {P : Program} {w : World} {K : PySem.W.Frag} {elts : List Expr} {x1} {pos : Pos} {z TI TO i1 i2 l1 l2 : Addr} (D : ZipApart z TI TO i1 i2 l1 l2) :
    Turn P w K (.Tuple elts x1 pos) (ItzT K l1 l2) [z, TI, TO, i1, i2] z (fun i h => IsZip h z TI TO .none ∧ IsPair h TI (.ref i1) (.ref i2) ∧ (∃ a b, IsPair h TO a b) ∧ h.IsTupleIter i1 l1 i ∧ h.IsTupleIter i2 l2 i) where
  mem := by simp
  obj := fun i h st b hb => by
    obtain ⟨a1, a2, ⟨a, b', a3⟩, ⟨o1, e1, c1, d1⟩, ⟨o2, e2, c2, d2⟩⟩ := st
    simp only [List.mem_cons, List.not_mem_nil, or_false] at hb
    rcases hb with rfl | rfl | rfl | rfl | rfl
    · exact ⟨_, a1, fun v z => by cases z⟩
    · exact ⟨_, a2, fun v z => by cases z⟩
    · exact ⟨_, a3, fun v z => by cases z⟩
    · exact ⟨_, e1, fun v z => by rw [d1] at z; cases z⟩
    · exact ⟨_, e2, fun v z => by rw [d2] at z; cases z⟩
  keep := fun i h h' st k => by
    obtain ⟨a1, a2, ⟨a, b', a3⟩, a4, a5⟩ := st
    exact ⟨k z (by simp) _ a1, k TI (by simp) _ a2, ⟨a, b', k TO (by simp) _ a3⟩, L3.tupIter_at a4 fun o e => k i1 (by simp) o e, L3.tupIter_at a5 fun o e => k i2 (by simp) o e⟩
  item := by
    intro X hP hw hK hc i pins s σ H E I hf st hg
    subst hP hw hK
    obtain ⟨xs, ys, x, y, hq1, hq2, hx, hy⟩ := hg
    obtain ⟨its1, rv1, p1, hz1⟩ := I.tuple hq1
    obtain ⟨its2, rv2, p2, hz2⟩ := I.tuple hq2
    obtain ⟨u1, hu1, ru1⟩ := rv1.get hx
    obtain ⟨u2, hu2, ru2⟩ := rv2.get hy
    obtain ⟨a1, a2, ⟨a, b', a3⟩, a4, a5⟩ := st
    refine L3.next_zipT D a1 a2 a3 a4 a5 p1 p2 (x := u1) (y := u2) (by simpa using hu1) (by simpa using hu2) fun h' b1 b2 b3 b4 b5 b6 b7 => ?_
    refine ⟨_, rfl, wpAny_letOwnedTupleGo_zip (s := { s with heap := h' }) b1 fun h2 c1 c2 => ?_⟩
    have hT : H s.heap.objs.size = none := I.hok.fresh (Nat.le_refl _)
    have I1 : Inv X pins σ (upd H s.heap.objs.size (.tup [x, y])) { s with heap := s.heap.push { cls := .type "tuple", data := .seq #[u1, u2] }, toks := s.toks } :=
      I.laid (t' := s.toks) (fun b u e => Heap.get?_push_of_some _ e) (Nat.le_refl _) ⟨by show 2 ≤ sizeLine; decide, [u1, u2], .cons ru1 (.cons ru2 .nil), ⟨_, Heap.get?_push_size _ rfl, rfl, _, rfl⟩⟩
    have lt : ∀ {c o}, s.heap.get? c = some o → c ≠ s.heap.objs.size := fun e => Nat.ne_of_lt (Heap.lt_size e)
    have ne : ∀ b ∈ [z, TI, TO, i1, i2], b ≠ s.heap.objs.size := fun b hb => by
      obtain ⟨o1, e1, _⟩ := a4
      obtain ⟨o2, e2, _⟩ := a5
      simp only [List.mem_cons, List.not_mem_nil, or_false] at hb
      rcases hb with rfl | rfl | rfl | rfl | rfl
      · exact lt a1
      · exact lt a2
      · exact lt a3
      · exact lt e1
      · exact lt e2
    have f1 : ∀ b ∈ [z, TI, TO, i1, i2], upd H s.heap.objs.size (.tup [x, y]) b = none := fun b hb => by rw [upd_ne (ne b hb)]; exact (hf b hb).1
    have hTz : s.heap.objs.size ≠ z := (ne z (by simp)).symm
    have I2 := I1.turnedL (h' := h2) (t' := s.toks) (fp := [z, TI, TO, i1, i2]) (fun b o hb e => by
      simp only [List.mem_cons, List.not_mem_nil, or_false, not_or] at hb
      obtain ⟨n1, n2, n3, n4, n5⟩ := hb
      rcases get_push rfl e with e | ⟨rfl, rfl⟩
      · exact c2.extBut _ _ n1 (b7 b o n1 n3 n4 n5 e)
      · exact c2.extBut _ _ hTz b5) fun b hb => ⟨f1 b hb, (hf b hb).2⟩
    refine ⟨.ref s.heap.objs.size, _, I2, rfl, ⟨_, x, y, fun xs' h => by rw [I.tuple_inj h hq1]; exact hx, fun ys' h => by rw [I.tuple_inj h hq2]; exact hy, hT, rfl, rfl⟩, ?_, f1⟩
    exact ⟨c1, c2.extBut _ _ D.TIz (b7 _ _ D.TIz D.TITO D.TIi1 D.TIi2 a2), ⟨_, _, c2.extBut _ _ D.TOz b2⟩, b3.extBut c2.extBut D.i1z, b4.extBut c2.extBut D.i2z⟩
  done := by
    intro X hP hw hK hc i pins s σ H E I hf st hg
    subst hP hw hK
    obtain ⟨xs, ys, hq1, hq2, hend⟩ := hg
    obtain ⟨its1, rv1, p1, hz1⟩ := I.tuple hq1
    obtain ⟨its2, rv2, p2, hz2⟩ := I.tuple hq2
    have hl1 := rv1.length
    have hl2 := rv2.length
    obtain ⟨a1, a2, ⟨a, b', a3⟩, a4, a5⟩ := st
    refine L3.next_zipT_end (I.ok.hd hc) D a1 a2 a3 a4 a5 p1 p2 (by simp; omega) fun h' hk => ⟨rfl, I.turnedL (t' := s.toks) (fp := [z, TI, TO, i1, i2]) (fun b o hb e => ?_) hf⟩
    simp only [List.mem_cons, List.not_mem_nil, or_false, not_or] at hb
    exact hk b o hb.1 hb.2.2.1 hb.2.2.2.1 hb.2.2.2.2 e
  self := fun _ _ _ _ _ st h => wpAny_pyIter_zip st.1 h
section
variable {X : Cx} {tg : Expr}
def iZipT (K : PySem.W.Frag) (ta : TA) : TI := fun σ H R => ta σ H fun vs H1 => ∃ l1 l2, vs = [.ref l1, .ref l2] ∧ (∃ xs, SqT K H1 l1 xs) ∧ (∃ ys, SqT K H1 l2 ys) ∧ R (ItzT K l1 l2) H1
theorem pi_zipT {a b : Expr} {ta : TA} {p pos pos' : Pos} {elts : List Expr} {x1} (hg : Gl X "zip") (hm : X.mg "zip" = none) (ha : PA X [a, b] ta) (hs : starEach [a, b] X.env = [(false, eval a X.env), (false, eval b X.env)] := by rfl) (hs2 : starEach [b] X.env = [(false, eval b X.env)] := by rfl) :
    PI X (.Tuple elts x1 pos') (.Call (.Name "zip" p) [a, b] [] pos) (iZipT X.K ta) := by
  intro pins s σ H R I h
  refine Call_ (ld_blt I hg hm bt_zip (PyProof.Rows.callWith_type1 (thn (ha pos pins s σ H _ I h) fun us s1 ⟨vs, H1, I1, r1, q1⟩ => ?_) (by rw [hs, hs2]) (by rw [hs2]; rfl)))
  obtain ⟨l1, l2, e, ⟨xs, q1⟩, ⟨ys, q2⟩, q⟩ := q1
  subst e
  cases r1 with
  | cons r rr =>
    cases rr with
    | cons r' rr =>
      cases rr
      cases r
      cases r'
      obtain ⟨its1, rv1, p1, hz1⟩ := I1.tuple q1
      obtain ⟨its2, rv2, p2, hz2⟩ := I1.tuple q2
      have hl1 : l1 < s1.heap.objs.size := by obtain ⟨o, e, _⟩ := p1; exact Heap.lt_size e
      have hl2 : l2 < s1.heap.objs.size := by obtain ⟨o, e, _⟩ := p2; exact Heap.lt_size e
      refine L3.call_zipT p1 p2 fun h' a1 a2 a3 a4 a5 a7 => ?_
      have I2 : Inv X pins σ H1 { s1 with heap := h' } := I1.kept (t' := s1.toks) a7
      refine wpAny_pyIter_zip (s := { s1 with heap := h' }) a1 ?_
      refine ⟨s1.heap.objs.size + 4, [s1.heap.objs.size + 4, s1.heap.objs.size + 2, s1.heap.objs.size + 3, s1.heap.objs.size, s1.heap.objs.size + 1], _, _, H1, rfl, I2, turn_zipT (l1 := l1) (l2 := l2) ?_, ⟨a1, a2, ⟨_, _, a3⟩, a4, a5⟩, fun b hb => ?_, q⟩
      · exact zip_apart _ l1 l2 hl1 hl2
      · have hb' : s1.heap.objs.size ≤ b := by
          simp only [List.mem_cons, List.not_mem_nil, or_false] at hb
          rcases hb with rfl | rfl | rfl | rfl | rfl
          · exact Nat.le_add_right _ _
          · exact Nat.le_add_right _ _
          · exact Nat.le_add_right _ _
          · exact Nat.le_refl _
          · exact Nat.le_add_right _ _
        exact I1.fpOk hb' (I1.hok.fresh hb')
end
theorem k_pi_zipT {X : Cx} {K : PySem.W.Frag} {a b : Expr} {ta : TA} {p pos pos' : Pos} {elts : List Expr} {x1} (h : X.K = K) (hg : Gl X "zip") (hm : X.mg "zip" = none) (ha : PA X [a, b] ta) (hs : starEach [a, b] X.env = [(false, eval a X.env), (false, eval b X.env)] := by rfl) (hs2 : starEach [b] X.env = [(false, eval b X.env)] := by rfl) :
    PI X (.Tuple elts x1 pos') (.Call (.Name "zip" p) [a, b] [] pos) (iZipT K ta) := h ▸ pi_zipT hg hm ha hs hs2
def izT (K : PySem.W.Frag) (R : It → Hp → Prop) (vs : List V) (H1 : Hp) : Prop := ∃ l1 l2, vs = [.ref l1, .ref l2] ∧ (∃ xs, SqT K H1 l1 xs) ∧ (∃ ys, SqT K H1 l2 ys) ∧ R (ItzT K l1 l2) H1
theorem rd_izipT {K : PySem.W.Frag} {σ : St} {H : Hp} {R : It → Hp → Prop} {ta : TA} (h : ta σ H (izT K R)) : iZipT K ta σ H R := h
theorem izT_of {K : PySem.W.Frag} {H : Hp} {R : It → Hp → Prop} {l1 l2 : Addr} {xs ys : List V} (h1 : SqT K H l1 xs) (h2 : SqT K H l2 ys) (q : R (ItzT K l1 l2) H) : izT K R [.ref l1, .ref l2] H := ⟨l1, l2, rfl, ⟨xs, h1⟩, ⟨ys, h2⟩, q⟩
theorem cw_zipT {K : PySem.W.Frag} {l1 l2 : Addr} {us vs : List V} {g : TG} {tt : TT} {te : TE} {Q : VK} {σ : St} {H : Hp} (hxy : us.length = vs.length) (hz : us.length ≤ sizeLine) (Pv : Nat → List V → St → Hp → Prop) (h0 : Pv 0 [] σ H)
    (hl : ∀ i ys σ H, i ≤ us.length → Pv i ys σ H → SqT K H l1 us ∧ SqT K H l2 vs)
    (hs : ∀ i x y T ys σ H, us[i]? = some x → vs[i]? = some y → H T = none → ys.length ≤ i → ys.length < sizeLine → Pv i ys σ H → g (.ref T) σ (upd H T (.tup [x, y])) fun σ2 H3 => tt σ2 H3 fun ok H4 => if ok = true then te σ2 H4 fun y H5 => ys.length < sizeLine ∧ CN Pv i (ys ++ [y]) σ2 H5 else CN Pv i ys σ2 H4)
    (hd : ∀ ys σ H, ys.length ≤ us.length → Pv us.length ys σ H → ∀ p, H p = none → Q (.ref p) (upd H p (.lst ys))) :
    ∃ W : Nat → Nat → List V → St → Hp → Prop, (∃ m, W 0 m [] σ H) ∧ CW (ItzT K l1 l2) g tt te W Q := by
  refine cw_of us.length hz Pv h0 (fun i ys σ H hi p => ?_) (fun ys σ H p => ?_) (fun i x ys σ H H2 hi h1 h2 p y => ?_) hd
  · obtain ⟨q1, q2⟩ := hl i ys σ H (Nat.le_of_lt hi) p
    exact ⟨us, vs, us[i], vs[i]'(hxy ▸ hi), q1, q2, by simp [hi], by simp [hxy ▸ hi]⟩
  · obtain ⟨q1, q2⟩ := hl _ ys σ H (Nat.le_refl _) p
    exact ⟨us, vs, q1, q2, .inl (Nat.le_refl _)⟩
  · obtain ⟨q1, q2⟩ := hl i ys σ H (Nat.le_of_lt hi) p
    obtain ⟨T, x, y, e1, e2, e3, rfl, rfl⟩ := y
    exact hs i x y T ys σ H (e1 us q1) (e2 vs q2) e3 h1 h2 p
end L2

end
section
set_option Elab.async false
set_option linter.all false
set_option maxRecDepth 100000
set_option maxHeartbeats 4000000
namespace L2
open PySem PySem.Spec PyProof.Rows
section
variable {X : Cx}
end
end L2

end
section
set_option Elab.async false
set_option linter.all false
set_option maxRecDepth 100000
set_option maxHeartbeats 4000000
namespace L2
open PySem PySem.Spec PyProof.Rows
section
variable {X : Cx}
/-! ### all of a list of truths -/
def rAll (K : PySem.W.Frag) : List V → Hp → VK → Prop := fun xs H Q => ∃ (a : Addr) (bs : List Bool), xs = [.ref a] ∧ SqL K H a (bs.map V.bl) ∧ Q (.bl (bs.all id)) H
theorem all_range (bs : List Bool) : (List.range bs.length).all (fun i => bs.getD i false) = bs.all id := by
  rw [Bool.eq_iff_iff, List.all_eq_true, List.all_eq_true]
  constructor
  · intro h b hb
    obtain ⟨j, hj, rfl⟩ := List.getElem_of_mem hb
    have := h j (List.mem_range.mpr hj)
    simpa [hj] using this
  · intro h j hj
    have hj := List.mem_range.mp hj
    have := h bs[j] (List.getElem_mem hj)
    simpa [hj] using this
theorem call_allB (hc : X.calm = true) : CallR X (.builtin "all") (rAll X.K) := by
  intro pins s σ H xs us Q I r h
  obtain ⟨a, bs, rfl, ha, q⟩ := h
  obtain ⟨u, rfl, ru⟩ := vals1 r
  cases ru
  obtain ⟨its, vx, ht, _⟩ := I.list ha
  have hlen := vx.length
  rw [List.length_map] at hlen
  have hlt : a < s.heap.objs.size := by obtain ⟨_, e, _⟩ := ht.isList; exact Heap.lt_size e
  refine call_all_walk (wpAny_pyIter_list ht.isList ?_)
  refine ⟨_, _, _, _, _, _, fun i => bs.getD i false, rfl, Walks.list (A := X.A.in1) (I.ok.hd hc) _ a (Nat.ne_of_lt hlt) its.toArray, ⟨⟨_, Heap.get?_push_size _ rfl, rfl, rfl⟩, ht.isList.push _⟩, ?_, fun h' tk hk => ?_⟩
  · intro i v s' Q' E' hv hq
    have hv' : its[i]? = some v := by simpa using hv
    have hi := (List.getElem?_eq_some_iff.mp hv').1
    have hib : i < bs.length := by omega
    obtain ⟨u', eu, ru⟩ := vx.get (i := i) (x := .bl bs[i]) (by rw [List.getElem?_map, List.getElem?_eq_getElem hib]; rfl)
    rw [hv'] at eu
    cases eu
    cases ru
    have e : bs.getD i false = bs[i] := by simp [hib]
    have hq : Q' (bs.getD i false) s' := hq
    rw [e] at hq
    exact wpAny_truthy_bool hq
  · have hsz : its.toArray.size = bs.length := by simp; omega
    rw [hsz, all_range]
    refine ⟨.bl _, H, I.kept fun b o e => ?_, rfl, q⟩
    refine hk b o (fun hm => ?_) (Heap.get?_push_of_some _ e)
    have : b = s.heap.objs.size := by simpa using hm
    rw [this] at e
    exact absurd (Heap.lt_size e) (Nat.lt_irrefl _)
theorem k_all {K : PySem.W.Frag} (h : X.K = K) (hc : X.calm = true) : CallR X (.builtin "all") (rAll K) := h ▸ call_allB hc
end
end L2

end
section
set_option Elab.async false
set_option linter.all false
set_option maxRecDepth 100000
set_option maxHeartbeats 4000000
namespace L2
open PySem PySem.Spec PyProof.Rows
section
variable {X : Cx} {pos : Pos}
end
end L2

end
section
set_option Elab.async false
set_option linter.all false
set_option maxRecDepth 100000
set_option maxHeartbeats 4000000
namespace L2
open PySem PySem.Spec PyProof.Rows
section
variable {X : Cx} {pos : Pos} {es : List Expr} {te : TE} {t : TA}
theorem pa_consT {l : List Expr} {k : Nat} (ha : PE X (.Tuple l k pos) te) (hr : PA X es t) : PA X (.Tuple l k pos :: es) (tCons te t) := pa_cons ha hr rfl
theorem pa_consB {a b : Expr} {op : Operator} (ha : PE X (.BinOp a op b pos) te) (hr : PA X es t) : PA X (.BinOp a op b pos :: es) (tCons te t) := pa_cons ha hr rfl
theorem pa_consC {f : Expr} {as : List Expr} {ks} (ha : PE X (.Call f as ks pos) te) (hr : PA X es t) : PA X (.Call f as ks pos :: es) (tCons te t) := pa_cons ha hr rfl
theorem pa_consM {e : Expr} {gs} {sc} (ha : PE X (.ListComp e gs sc pos) te) (hr : PA X es t) : PA X (.ListComp e gs sc pos :: es) (tCons te t) := pa_cons ha hr rfl
theorem pa_consS {a b : Expr} (ha : PE X (.Subscript a b pos) te) (hr : PA X es t) : PA X (.Subscript a b pos :: es) (tCons te t) := pa_cons ha hr rfl
theorem pa_consN {x : Str} (ha : PE X (.Name x pos) te) (hr : PA X es t) : PA X (.Name x pos :: es) (tCons te t) := pa_cons ha hr rfl
theorem pa_consK {c : Const} {k : Nat} (ha : PE X (.Constant c k pos) te) (hr : PA X es t) : PA X (.Constant c k pos :: es) (tCons te t) := pa_cons ha hr rfl
theorem pa_consU {a : Expr} {op : UnaryOp} (ha : PE X (.UnaryOp op a pos) te) (hr : PA X es t) : PA X (.UnaryOp op a pos :: es) (tCons te t) := pa_cons ha hr rfl
theorem ps_setL {l : List Expr} {p : Pos} {i : Nat} {x : Str} {pos' : Pos} (hN : X.N.Nodup) (hi : X.N[i]? = some x) (hx : Loc X.env.scope x) (he : PE X (.List l p) te) (hf : X.fn x = true ∨ X.env.scope.names.lookup x = some .local := by first | exact .inl rfl | exact .inr rfl | assumption) : PS X (.Assign [.Name x pos'] (.List l p) pos) (tAsg te (gName i)) := ps_set hN hi hx he rfl hf
theorem ps_setT {l : List Expr} {k : Nat} {p : Pos} {i : Nat} {x : Str} {pos' : Pos} (hN : X.N.Nodup) (hi : X.N[i]? = some x) (hx : Loc X.env.scope x) (he : PE X (.Tuple l k p) te) (hf : X.fn x = true ∨ X.env.scope.names.lookup x = some .local := by first | exact .inl rfl | exact .inr rfl | assumption) : PS X (.Assign [.Name x pos'] (.Tuple l k p) pos) (tAsg te (gName i)) := ps_set hN hi hx he rfl hf
theorem ps_setB {a b : Expr} {op : Operator} {p : Pos} {i : Nat} {x : Str} {pos' : Pos} (hN : X.N.Nodup) (hi : X.N[i]? = some x) (hx : Loc X.env.scope x) (he : PE X (.BinOp a op b p) te) (hf : X.fn x = true ∨ X.env.scope.names.lookup x = some .local := by first | exact .inl rfl | exact .inr rfl | assumption) : PS X (.Assign [.Name x pos'] (.BinOp a op b p) pos) (tAsg te (gName i)) := ps_set hN hi hx he rfl hf
theorem ps_setC {f : Expr} {as : List Expr} {ks} {p : Pos} {i : Nat} {x : Str} {pos' : Pos} (hN : X.N.Nodup) (hi : X.N[i]? = some x) (hx : Loc X.env.scope x) (he : PE X (.Call f as ks p) te) (hf : X.fn x = true ∨ X.env.scope.names.lookup x = some .local := by first | exact .inl rfl | exact .inr rfl | assumption) : PS X (.Assign [.Name x pos'] (.Call f as ks p) pos) (tAsg te (gName i)) := ps_set hN hi hx he rfl hf
theorem ps_setS {a b : Expr} {p : Pos} {i : Nat} {x : Str} {pos' : Pos} (hN : X.N.Nodup) (hi : X.N[i]? = some x) (hx : Loc X.env.scope x) (he : PE X (.Subscript a b p) te) (hf : X.fn x = true ∨ X.env.scope.names.lookup x = some .local := by first | exact .inl rfl | exact .inr rfl | assumption) : PS X (.Assign [.Name x pos'] (.Subscript a b p) pos) (tAsg te (gName i)) := ps_set hN hi hx he rfl hf
end
end L2

end
section
set_option Elab.async false
set_option linter.all false
set_option maxRecDepth 100000
set_option maxHeartbeats 4000000
namespace L2
open PySem
/-! ### rows, programs and runs, as data -/
inductive Rw where
  | put (p n : Int) | copy (p q : Int) | plus (p q r : Int) | less (p q r : Int) | times (p q n : Int) | take (p : Int) | tell (p : Int) | jump (t : Int) | zero (p t : Int) | below (p t : Int) | call (p f : Int) (qs : List Int) | back (p : Int)
def Rw.row : Rw → Str × List D
  | .put p n => ("put", [.int p, .int n])
  | .copy p q => ("copy", [.int p, .int q])
  | .plus p q r => ("plus", [.int p, .int q, .int r])
  | .less p q r => ("less", [.int p, .int q, .int r])
  | .times p q n => ("times", [.int p, .int q, .int n])
  | .take p => ("take", [.int p])
  | .tell p => ("tell", [.int p])
  | .jump t => ("jump", [.int t])
  | .zero p t => ("zero", [.int p, .int t])
  | .below p t => ("below", [.int p, .int t])
  | .call p f qs => ("call", [.int p, .int f, .tup (qs.map D.int)])
  | .back p => ("back", [.int p])
structure Df where
  takes : Int
  boxes : Int
  rows : List Rw
inductive En where
  | back (n : Int) | dry (f at' : Int) | deep (f at' : Int)
def En.d : Option En → D
  | none => .non
  | some (.back n) => .tup [.str "back", .int n]
  | some (.dry f a) => .tup [.str "dry", .int f, .int a]
  | some (.deep f a) => .tup [.str "deep", .int f, .int a]
abbrev Fr := Int × Int × List Int
structure HS where
  frames : List Fr
  left : List Int
  news : List Int
  gone : Int
  fin : Option En
/-! ### where they stand in the heap -/
def rowsD (rs : List Rw) : List D := rs.map fun r => rowD r.row
def DfAt (own : List Addr) (H : Hp) (d : Df) (v : V) : Prop := ∃ t q ys, v = .ref t ∧ H t = some (.tup [.int d.takes, .int d.boxes, .ref q]) ∧ H q = some (.lst ys) ∧ q ∉ own ∧ Reps H (rowsD d.rows) ys
def PgAt (own : List Addr) (H : Hp) (P : List Df) (pp : Addr) : Prop := ∃ vs, H pp = some (.lst vs) ∧ pp ∉ own ∧ vs.length = P.length ∧ ∀ (i : Nat) (d : Df) (v : V), P[i]? = some d → vs[i]? = some v → DfAt own H d v
end L2

end
section
set_option Elab.async false
set_option linter.all false
set_option maxRecDepth 100000
set_option maxHeartbeats 4000000
namespace L2
open PySem
/-! ### the fields of a hand -/
def hflds (a b c d e f : V) : List (Str × V) := [("program", a), ("frames", b), ("news", c), ("gone", d), ("left", e), ("end", f)]
section
variable {a b c d e f v : V}
end
/-! ### the objects of a hand -/
def AllAt (H : Hp) (l : List (Addr × HO)) : Prop := ∀ e ∈ l, H e.1 = some e.2
abbrev FZ := (Addr × Addr) × Fr
def frObj (z : FZ) : List (Addr × HO) := [(z.1.1, .lst [.int z.2.1, .int z.2.2.1, .ref z.1.2]), (z.1.2, .lst (z.2.2.2.map V.int))]
def hObjs (C p dx pp pf pn pl : Addr) (fz : List FZ) (h : HS) (ve : V) : List (Addr × HO) :=
  [(p, .ins C dx (hflds (.ref pp) (.ref pf) (.ref pn) (.int h.gone) (.ref pl) ve)), (pf, .lst (fz.map fun z => V.ref z.1.1)), (pn, .lst (h.news.map V.int)), (pl, .lst (h.left.map V.int))] ++ fz.flatMap frObj
def ownA (p pf pn pl : Addr) (fz : List FZ) : List Addr := [p, pf, pn, pl] ++ fz.flatMap fun z => [z.1.1, z.1.2]
structure HA (C p dx pp pf pn pl : Addr) (fz : List FZ) (H : Hp) (P : List Df) (h : HS) (ve : V) : Prop where
  all : AllAt H (hObjs C p dx pp pf pn pl fz h ve)
  nd : (ownA p pf pn pl fz).Nodup
  en : Rep H (En.d h.fin) ve
  pg : PgAt (ownA p pf pn pl fz) H P pp
  fr : fz.map (·.2) = h.frames
section
variable {C p dx pp pf pn pl : Addr} {fz : List FZ} {H : Hp} {P : List Df} {h : HS} {ve : V}
end
end L2

end
section
set_option Elab.async false
set_option linter.all false
set_option maxRecDepth 100000
set_option maxHeartbeats 4000000
namespace L2
open PySem
theorem atI_neg1 {α : Type} {l : List α} {x : α} : atI (l ++ [x]) (-1) = some x := by
  unfold atI ixN
  rw [if_neg (by omega), if_pos (by simp; omega)]
  simp
  rw [show (-1 + ((l.length : Int) + 1)).toNat = l.length by omega]
  simp
section
variable {C p dx pp pf pn pl : Addr} {fz : List FZ} {z : FZ} {H : Hp} {P : List Df} {h : HS} {ve : V}
end
end L2

end
section
set_option Elab.async false
set_option linter.all false
set_option maxRecDepth 100000
set_option maxHeartbeats 4000000
namespace L2
open PySem PySem.Spec PyProof.Rows
/-! ### == and != of two programs that are alike -/
section
variable {X : Cx} {pins : List (Addr × Obj)} {σ : St} {H : Hp} {s : Shared}
end
section
variable {X : Cx}
end
/-! ### two programs -/
end L2

end
section
set_option Elab.async false
set_option linter.all false
set_option maxRecDepth 100000
set_option maxHeartbeats 4000000
namespace L2
open PySem
/-! ### a hand that goes stays one -/
section
variable {P : List Df} {h : HS}
end
end L2

end
section
set_option Elab.async false
set_option linter.all false
set_option maxRecDepth 100000
set_option maxHeartbeats 4000000
namespace L2
open PySem
/-! ### what is kept: the objects at kp, and all tuples -/
section
variable {kp own : List Addr} {H0 H H' : Hp}
/-- an owner stays apart from what is there -/
theorem apart {own own' oth : List Addr} (new : ∀ x ∈ own', x ∈ own ∨ H x = none) (d : ∀ x ∈ oth, x ∉ own) (al : ∀ x ∈ oth, H x ≠ none) : ∀ x ∈ oth, x ∉ own' := fun x hx m => by
  rcases new x m with h | h
  · exact d x hx h
  · exact al x hx h
end
section
variable {kp own : List Addr} {H0 H H' : Hp} {P : List Df} {pp : Addr}
end
end L2

end
section
set_option Elab.async false
set_option linter.all false
set_option maxRecDepth 100000
set_option maxHeartbeats 4000000
namespace L2
open PySem PySem.Spec PyProof.Rows
/-! ### two values that are alike, lists and tuples in one another: == tells True, != False -/
section
variable {X : Cx} {pins : List (Addr × Obj)} {σ : St} {H : Hp} {s : Shared}
end
/-! ### what is alike -/
section
variable {H : Hp}
end
end L2

end
section
set_option Elab.async false
set_option linter.all false
set_option maxRecDepth 100000
set_option maxHeartbeats 4000000
namespace L2
open PySem
/-! ### a walk: what is new since H0 (lists L, data R); of the old objects only those at ow may change -/
section
variable {ow : List Addr} {H0 H H' : Hp} {L L' l1 l2 : List (Addr × HO)} {R R' : List (List D × List V)} {Q : VK} {a q : Addr} {o : HO} {xs ys vs : List V} {ds : List D} {d : D} {v : V}
end
/-! ### with the law's bag -/
section
variable {b l : Addr} {H0 H H' : Hp} {L L' l1 l2 : List (Addr × HO)} {R R' : List (List D × List V)} {Q : VK} {E : XK} {a q : Addr} {o : HO} {xs ys vs : List V} {ds : List D} {d : D} {v : V}
end
theorem rd_lenT' {K : PySem.W.Frag} {H : Hp} {p : Addr} {ys : List V} {Q : VK} (h : SqT K H p ys) (q : Q (.int ys.length) H) : rLen K [.ref p] H Q := ⟨_, _, rfl, .inr ⟨ys, h, rfl⟩, q⟩
section
variable {ow : List Addr} {b l : Addr} {K : PySem.W.Frag} {H0 H H' : Hp} {L L' l1 l2 : List (Addr × HO)} {R R' : List (List D × List V)} {Q : VK} {E : XK} {a q p : Addr} {o : HO} {xs ys zs vs : List V} {ds : List D} {d : D} {v : V}
end
/-! ### slices of tuples -/
theorem k_slT {X : Cx} {K : PySem.W.Frag} (h : X.K = K) : SlR X (rSlT K) := h ▸ sl_tup
theorem rd_slT1 {K : PySem.W.Frag} {H : Hp} {a : Addr} {x : V} {xs : List V} {Q : VK} (h : H a = some (.tup (x :: xs))) (q : ∀ p, H p = none → Q (.ref p) (upd H p (.tup xs))) : rSlT K (.ref a) (some 1) none H Q := by
  refine ⟨a, x :: xs, rfl, SqT.of h, fun z => ?_, fun p hp => ?_⟩
  · have := z.1
    simp [HT.sIx] at this
  · have e : cutV (x :: xs) (some 1) none = xs := cut_from (xs := x :: xs) (k := 1) (by simp)
    rw [e]; exact q p hp
end L2

end
section
set_option Elab.async false
set_option linter.all false
set_option maxRecDepth 100000
set_option maxHeartbeats 4000000

namespace My
open PySem L2
def top (i : Nat) : Stmt := PySem.Challenge.pw_midlanes_k12_formed.main.body.getD i (.Pass ⟨0, 0, 0, 0⟩)
abbrev s_is_whole : Stmt := top 1
abbrev s_formed : Stmt := top 9
abbrev s_head_fits : Stmt := top 10
abbrev s_rows_fit : Stmt := top 11
abbrev s_row_fits : Stmt := top 12
abbrev s_part_fits : Stmt := top 13
abbrev s__law_bag : Stmt := top 15
abbrev s__law_draw : Stmt := top 16
abbrev s__law_number : Stmt := top 17
abbrev s__law_letters : Stmt := top 18
abbrev s__law_part : Stmt := top 19
abbrev s__law_row : Stmt := top 20
abbrev s__law_rows : Stmt := top 21
abbrev s__law_signs : Stmt := top 22
abbrev s__law_program : Stmt := top 23
abbrev s__law_pick : Stmt := top 24
abbrev s__law_bound : Stmt := top 25
abbrev s__law_bent_args : Stmt := top 26
abbrev s__law_bent_row : Stmt := top 27
abbrev s__law_bent_rows : Stmt := top 28
abbrev s__law_bent_defs : Stmt := top 29
abbrev s__law_bent : Stmt := top 30
abbrev s__law_part_good : Stmt := top 31
abbrev s__law_row_good : Stmt := top 32
abbrev s__law_formed : Stmt := top 33
abbrev s__law_copy : Stmt := top 34
abbrev s__law_alike : Stmt := top 35
abbrev s_law : Stmt := top 36

structure Blt (mg : Str → Option Value) : Prop where
  b_abs : mg "abs" = none
  b_all : mg "all" = none
  b_bool : mg "bool" = none
  b_int : mg "int" = none
  b_isinstance : mg "isinstance" = none
  b_len : mg "len" = none
  b_list : mg "list" = none
  b_max : mg "max" = none
  b_min : mg "min" = none
  b_range : mg "range" = none
  b_str : mg "str" = none
  b_tuple : mg "tuple" = none
  b_zip : mg "zip" = none
structure Glb (K : PySem.W.Frag) (w : World) (mg : Str → Option Value) : Prop where
  c_MOST_BOXES : ∃ t, mg "MOST_BOXES" = some (.int 8 t)
  c_MOST_DEFS : ∃ t, mg "MOST_DEFS" = some (.int 6 t)
  c_MOST_FACTOR : ∃ t, mg "MOST_FACTOR" = some (.int 99 t)
  c_MOST_ROWS : ∃ t, mg "MOST_ROWS" = some (.int 30 t)
  c_MOST_TAKES : ∃ t, mg "MOST_TAKES" = some (.int 4 t)
  c_PARTS : IsCD K w mg "PARTS" partsT

local macro_rules | `(tactic| walk_at "rd1") => `(tactic| (first | ((with_reducible refine' rd_var ?e ?_); (case e => exact rfl)) | with_reducible refine rd_c ?_ | with_reducible refine rd_op ?_ | with_reducible refine rd_un ?_ | with_reducible refine rd_seq ?_ | with_reducible refine rd_asg ?_ | with_reducible refine rd_gname ?_ | with_reducible refine rd_ret ?_ | with_reducible refine rd_drop ?_ | with_reducible refine rd_next ?_ | with_reducible refine rd_if ?_ | with_reducible refine rd_test ?_ | with_reducible refine rd_tb ?_ | with_reducible refine rd_and ?_ | with_reducible refine rd_or ?_ | with_reducible refine rd_not ?_ | with_reducible refine rd_true ?_ | with_reducible refine rd_andV ?_ | with_reducible refine rd_orV ?_ | with_reducible refine rd_notV ?_ | with_reducible refine rd_ifE ?_ | with_reducible refine rd_chain ?_ | with_reducible refine rd_nil ?_ | with_reducible refine rd_cons ?_ | with_reducible refine rd_cb ?_ | with_reducible refine rd_call ?_ | with_reducible refine rd_I0 ?_ | with_reducible refine rd_U ?_ | with_reducible refine rd_eqI ?_ | with_reducible refine rd_neI ?_ | with_reducible refine rd_eqS ?_ | with_reducible refine rd_neS ?_ | with_reducible refine rd_eqB ?_ | with_reducible refine rd_neB ?_ | with_reducible refine rd_bl ?_ | with_reducible refine rd_int ?_ | with_reducible refine rd_tup ?_ | with_reducible refine rd_lst ?_ | with_reducible refine rd_gsub ?_ | with_reducible refine rd_slice ?_ | with_reducible refine rd_nopart ?_ | with_reducible refine rd_part ?_ | with_reducible refine rd_bm ?_ | with_reducible refine rd_bm0 ?_ | with_reducible refine rd_comp ?_ | with_reducible refine rd_itup ?_ | with_reducible refine rd_ilist ?_ | with_reducible refine rd_irng ?_ | with_reducible refine rd_gcons ?_ | with_reducible refine rd_gnil ?_ | with_reducible refine rd_for ?_ | with_reducible refine rd_abs ?_ | with_reducible refine rd_max ?_ | with_reducible refine rd_min ?_ | with_reducible refine rd_intB ?_ | with_reducible refine rd_dput ?_ | with_reducible refine rd_dget2 ?_ | with_reducible refine rd_dget ?_ | with_reducible refine rd_fld ?_ | with_reducible refine rd_sfld ?_ | with_reducible refine rd_meth ?_ | with_reducible refine rd_make ?_ | with_reducible refine rd_isN ?_ | with_reducible refine rd_notN ?_ | with_reducible refine rd_izip ?_ | with_reducible refine rd_izipT ?_ | with_reducible refine rd_pcons ?_ | with_reducible refine rd_pnil ?_ | with_reducible refine rd_dget1 ?_ | with_reducible refine rd_cdget ?_ | with_reducible refine iteNT ?_ | with_reducible refine iteNF ?_ | with_reducible refine iteF ?_ | with_reducible refine iteT ?_))
local macro_rules | `(tactic| walk_at "rd") => `(tactic| (repeat walk_at "rd1"))
local macro_rules | `(tactic| walk_at "mk") => `(tactic| refine ⟨mk_le rfl, ?_⟩)

section
variable {P : Program} {w : World} {K : PySem.W.Frag} {mg : Str → Option Value} {base : Heap}
/-- what a part is here: a number, or a tuple of numbers -/
def PartD : Nat → D → Prop
  | _, .int _ => True
  | _ + 1, .tup ds => ds.length ≤ 1000 ∧ ∀ d ∈ ds, ∃ n, d = .int n
  | _, _ => False
def cntOf (bx rw df : Int) (k : Str) : Int := if k = "box" then bx else if k = "row" then rw else df
def intFits (bx rw df : Int) (k : Str) (n : Int) : Bool := if k = "number" then true else if k = "factor" then decide (-99 ≤ n) && decide (n ≤ 99) else decide (0 ≤ n) && decide (n < cntOf bx rw df k)
def boxFits (bx rw df : Int) : D → Bool
  | .int n => intFits bx rw df "box" n
  | _ => false
def partFits (bx rw df : Int) (k : Str) : D → Bool
  | .tup ds => decide (k = "boxes") && ds.all (boxFits bx rw df)
  | .int n => !decide (k = "boxes") && intFits bx rw df k n
  | _ => false
def kindsL : List Str := ["box", "number", "factor", "row", "def", "boxes"]
def countsKV (bx rw df : Int) : List (Key × V) := [(.inr "box", .int bx), (.inr "row", .int rw), (.inr "def", .int df)]
theorem counts_get {bx rw df : Int} {k : Str} (h : k ∈ kindsL) (n1 : k ≠ "number") (n2 : k ≠ "factor") (n3 : k ≠ "boxes") : valV (countsKV bx rw df) (Sum.inr k : Key) = some (.int (cntOf bx rw df k)) := by
  simp only [kindsL, List.mem_cons, List.not_mem_nil, or_false] at h
  rcases h with rfl | rfl | rfl | rfl | rfl | rfl
  · rfl
  · exact absurd rfl n1
  · exact absurd rfl n2
  · with_unfolding_all rfl
  · with_unfolding_all rfl
  · exact absurd rfl n3
theorem isw_tup : (isi "tuple" "int" && !isi "tuple" "bool") = false := by decide +kernel
theorem isw_int : (isi "int" "int" && !isi "int" "bool") = true := by decide +kernel
def sp_is_whole : Sp := sp1 fun x H Q => ∃ t, tyN H x = some t ∧ Q (.bl (isi t "int" && !isi t "bool")) H
theorem sc_is_whole : FnScope ["thing"] ["thing"] (defScope s_is_whole) := ⟨rfl, rfl, rfl, by decide +kernel, rfl, by decide +kernel, by decide +kernel⟩
theorem c_is_whole (B : Blt mg) (T_is_whole : TopFn K mg "is_whole" s_is_whole ["thing"]) : Callee P w K mg base "is_whole" 1 ["thing"] sp_is_whole := by
  refine T_is_whole.ok1 sc_is_whole fun f cdv A outer s H v1 Q E hr h => ?_
  have nd := sc_is_whole.nd
  obtain ⟨t, ht, k⟩ := h
  refine' go_body [some v1] rfl ?hb ?hg
  case hb =>
   refine' pss_one ?zb
   case zb =>
    refine' ps_ret ?zc
    case zc =>
     refine' pe_and ?zd ?ze
     case zd => exact (pe_callB call_isi (by rfl) B.b_isinstance bt_isinstance (pa_consN (pv 0) (pa_consN (pe_bltn (v := .ty "int") (by rfl) B.b_int bt_int rfl) pa_nil)))
     case ze =>
      refine' pe_one ?zf
      case zf =>
       refine' pe_not ?zg
       case zg =>
        refine' pe_callB ?zh ?zi ?zj ?zk ?zl
        case zh => exact call_isi
        case zi => exact (by rfl)
        case zj => exact B.b_isinstance
        case zk => exact bt_isinstance
        case zl => exact (pa_consN (pv 0) (pa_consN (pe_bltn (v := .ty "bool") (by rfl) B.b_bool bt_bool rfl) pa_nil))
  walk_at "rd"
  refine rd_isi ht (by simp) ⟨_, rfl, ?_⟩
  cases e : isi t "int" with
  | false =>
    rw [e] at k
    exact iteF k
  | true =>
    rw [e] at k
    refine iteT ?_
    walk_at "rd"
    refine rd_isi ht (by simp) ⟨_, rfl, ?_⟩
    simpa using k
def spPart (n : Nat) : Sp := sp3 fun x y c H Q => ∃ m d k a bx rw df, n = m + 1 ∧ Rep H d x ∧ PartD m d ∧ y = .str k ∧ k ∈ kindsL ∧ c = .ref a ∧ H a = some (.dK (countsKV bx rw df)) ∧ ∀ H', Same H H' → Q (.bl (partFits bx rw df k d)) H'
theorem sc_part_fits : FnScope ["part", "kind", "counts"] ["part", "kind", "counts"] (defScope s_part_fits) := ⟨rfl, rfl, rfl, by decide +kernel, rfl, by decide +kernel, by decide +kernel⟩
theorem part_0 (T_part_fits : TopFn K mg "part_fits" s_part_fits ["part", "kind", "counts"]) : Callee P w K mg base "part_fits" 1 ["part", "kind", "counts"] (spPart 0) :=
  T_part_fits.ok3 sc_part_fits fun f cdv A outer s H v1 v2 v3 Q E hr h => by
    obtain ⟨m, d, k, a, bx, rw, df, e, _⟩ := h
    cases e
theorem part_step {n lev : Nat} (B : Blt mg) (G : Glb K w mg) (T_part_fits : TopFn K mg "part_fits" s_part_fits ["part", "kind", "counts"]) (Cis_whole : Callee P w K mg base "is_whole" 1 ["thing"] sp_is_whole) (hlev : 1 ≤ lev) (Cpart_fits : Callee P w K mg base "part_fits" lev ["part", "kind", "counts"] (spPart n)) : Callee P w K mg base "part_fits" (lev + 1) ["part", "kind", "counts"] (spPart (n + 1)) := by
  refine T_part_fits.ok3 sc_part_fits fun f cdv A outer s H v1 v2 v3 Q E hr h => ?_
  have nd := sc_part_fits.nd
  have hu1 := hu_of hr
  obtain ⟨m, d, kd, a, bx, rw, df, e, rd, pd, rfl, hk, rfl, ha, k⟩ := h
  obtain rfl : n = m := by omega
  refine' go_body [some v1, some (.str kd), some (.ref a)] rfl ?hb ?hg
  case hb =>
   refine' pss_cons ?zm ?zn
   case zm =>
    refine' ps_if ?zo ?zp ?zq
    case zo => exact (pt_cmpR op_eq (pv 1) pe_str (nomark _))
    case zp =>
     refine' pss_one ?zr
     case zr =>
      refine' ps_ret ?zs
      case zs =>
       refine' pe_and ?zt ?zu
       case zt =>
        refine' pe_callB ?zv ?zw ?zx ?zy ?zz
        case zv => exact call_isi
        case zw => exact (by rfl)
        case zx => exact B.b_isinstance
        case zy => exact bt_isinstance
        case zz => exact (pa_consN (pv 0) (pa_consN (pe_bltn (v := .ty "tuple") (by rfl) B.b_tuple bt_tuple rfl) pa_nil))
       case zu =>
        refine' pe_one ?zba
        case zba =>
         refine' pe_callB ?zbb ?zbc ?zbd ?zbe ?zbf
         case zbb => exact (k_all (K := K) rfl rfl)
         case zbc => exact (by rfl)
         case zbd => exact B.b_all
         case zbe => exact bt_all
         case zbf =>
          refine' pa_consM ?zbg ?zbh
          case zbg =>
           refine' pe_comp (LN := ["q"]) (FN := ["counts"]) (fr := [2]) ?zbi ?zbj ?zbk ?zbl ?zbm ?zbn
           case zbi => exact rfl
           case zbj => exact (bk_of (by rfl))
           case zbk => exact (k_pi_tup (K := K) rfl (pv 0))
           case zbl =>
            intro cl C fp pins s H
            exact (pg_name (i := 0) (show ((["q"] : List Str) ++ (["counts"] : List Str)).Nodup by decide +kernel) rfl (Or.inl rfl))
           case zbm =>
            intro cl C fp pins s H
            exact pts_nil
           case zbn =>
            intro cl C fp pins s H
            exact (pe_fn Cpart_fits (hr.mono (by first | decide | omega)) (by rfl) (pa_consN (pv 0) (pa_consK pe_str (pa_consN (pv 1) pa_nil))))
          case zbh => exact pa_nil
    case zq => exact pss_nil
   case zn =>
    refine' pss_cons ?zbo ?zbp
    case zbo => exact (ps_if (pt_not (pt_val (pe_fn Cis_whole (hr.mono (by first | decide | omega)) (by rfl) (pa_consN (pv 0) pa_nil)))) (pss_one (ps_ret pe_bl)) pss_nil)
    case zbp =>
     refine' pss_cons ?zbq ?zbr
     case zbq => exact (ps_if (pt_cmpR op_eq (pv 1) pe_str (nomark _)) (pss_one (ps_ret pe_bl)) pss_nil)
     case zbr =>
      refine' pss_cons ?zbs ?zbt
      case zbs =>
       refine' ps_if ?zbu ?zbv ?zbw
       case zbu => exact (pt_cmpR op_eq (pv 1) pe_str (nomark _))
       case zbv => exact (pss_one (ps_ret (pe_chain op_le op_le (pe_un un_neg (pe_cint (by rfl) G.c_MOST_FACTOR)) (pv 0) (pe_cint (by rfl) G.c_MOST_FACTOR))))
       case zbw => exact pss_nil
      case zbt => exact (pss_one (ps_ret (pe_chain op_le op_lt pe_int (pv 0) (pe_dget hu1 (pv 2) (pv 1) (fun _ _ => rfl)))))
  walk_at "rd"
  refine ite_dd (fun e => ?_) (fun nb => ?_)
  · subst e
    walk_at "rd"
    cases d with
    | non => simp [PartD] at pd
    | bl _ => simp [PartD] at pd
    | str _ => simp [PartD] at pd
    | int n =>
      obtain rfl := rep_int_inv rd
      refine rd_isi rfl (by simp) ⟨_, rfl, iteF ?_⟩
      simpa [partFits] using k H (Same.refl _)
    | tup ds =>
      cases n with
      | zero => simp [PartD] at pd
      | succ n =>
        obtain ⟨hl, hd⟩ := pd
        obtain ⟨t, xs, rfl, ht, rx⟩ := rep_tup_inv rd
        have hlen := rx.length
        refine rd_isi (t := "tuple") (by simp [tyN, ht]) (by simp) ⟨_, rfl, iteT ?_⟩
        walk_at "rd"
        refine itK_rep rd fun t' xs' e' ht' rx' => ?_
        cases e'
        rw [ht] at ht'
        cases ht'
        refine cw_tup (xs := xs) (small_le' (by omega)) (fun i ys σ H1 => (∃ x1, σ = [x1, some (.ref a)]) ∧ Same H H1 ∧ ys = ((ds.take i).map (boxFits bx rw df)).map V.bl) ⟨⟨none, rfl⟩, Same.refl _, rfl⟩ (fun i ys σ H1 _ ⟨_, s1, _⟩ => SqT.of (s1 _ _ ht)) ?_ ?_
        · rintro i x ys σ H1 hx hle hlt ⟨⟨x1, rfl⟩, s1, rfl⟩
          obtain ⟨d, ed, rd'⟩ := rx.get' hx
          obtain ⟨q, rfl⟩ := hd d (List.mem_of_getElem? ed)
          obtain rfl := rep_int_inv rd'
          walk_at "rd"
          refine use3 ⟨n, .int q, "box", a, bx, rw, df, rfl, rep_int, by cases n <;> simp [PartD], rfl, by decide +kernel, rfl, s1 _ _ ha, fun H2 s2 => ?_⟩
          refine ⟨hlt, by simpa using hle, ⟨_, rfl⟩, s1.trans s2, ?_⟩
          rw [List.take_add_one, ed]
          have nb : ¬ ("box" : Str) = "boxes" := by decide +kernel
          simp [partFits, boxFits, nb]
        · rintro ys σ H1 hyl ⟨⟨x1, rfl⟩, s1, rfl⟩ pa hpa
          rw [← hlen, List.take_length]
          walk_at "rd"
          refine ⟨pa, ds.map (boxFits bx rw df), rfl, SqL.of upd_same, ?_⟩
          have := k _ (s1.trans (Same.new (o := .lst ((ds.map (boxFits bx rw df)).map V.bl)) hpa))
          simpa [partFits] using this
  · walk_at "rd"
    cases d with
    | non => simp [PartD] at pd
    | bl _ => simp [PartD] at pd
    | str _ => simp [PartD] at pd
    | tup ds =>
      obtain ⟨t, xs, rfl, ht, rx⟩ := rep_tup_inv rd
      refine use1 ⟨"tuple", by simp [tyN, ht], ?_⟩
      rw [isw_tup]
      walk_at "rd"
      have := k H (Same.refl _)
      simpa [partFits, nb] using this
    | int i =>
      obtain rfl := rep_int_inv rd
      refine use1 ⟨"int", rfl, ?_⟩
      rw [isw_int]
      walk_at "rd"
      have k := k H (Same.refl _)
      simp only [partFits, intFits, nb, decide_false, Bool.not_false, Bool.true_and] at k
      refine ite_dd (fun e => ?_) (fun n1 => ?_)
      · walk_at "rd"
        rw [if_pos e] at k
        exact k
      · rw [if_neg n1] at k
        walk_at "rd"
        refine ite_dd (fun e => ?_) (fun n2 => ?_)
        · rw [if_pos e] at k
          walk_at "rd"
          refine ite_dd (fun h1 => ?_) (fun h1 => ?_)
          · walk_at "rd"
            simpa [h1] using k
          · simpa [h1] using k
        · rw [if_neg n2] at k
          walk_at "rd"
          refine ite_dd (fun h1 => ?_) (fun h1 => ?_)
          · walk_at "rd"
            refine ⟨a, _, rfl, .inl ⟨_, Sum.inr kd, .inl ha, rfl, (counts_get hk n1 n2 nb).symm⟩, ?_⟩
            walk_at "rd"
            simpa [h1] using k
          · simpa [h1] using k

end
end My

end
section
set_option Elab.async false
set_option linter.all false
set_option maxRecDepth 100000
set_option maxHeartbeats 4000000

namespace My
open PySem L2
local macro_rules | `(tactic| walk_at "rd1") => `(tactic| (first | ((with_reducible refine' rd_var ?e ?_); (case e => exact rfl)) | with_reducible refine rd_c ?_ | with_reducible refine rd_op ?_ | with_reducible refine rd_un ?_ | with_reducible refine rd_seq ?_ | with_reducible refine rd_asg ?_ | with_reducible refine rd_gname ?_ | with_reducible refine rd_ret ?_ | with_reducible refine rd_drop ?_ | with_reducible refine rd_next ?_ | with_reducible refine rd_if ?_ | with_reducible refine rd_test ?_ | with_reducible refine rd_tb ?_ | with_reducible refine rd_and ?_ | with_reducible refine rd_or ?_ | with_reducible refine rd_not ?_ | with_reducible refine rd_true ?_ | with_reducible refine rd_andV ?_ | with_reducible refine rd_orV ?_ | with_reducible refine rd_notV ?_ | with_reducible refine rd_ifE ?_ | with_reducible refine rd_chain ?_ | with_reducible refine rd_nil ?_ | with_reducible refine rd_cons ?_ | with_reducible refine rd_cb ?_ | with_reducible refine rd_call ?_ | with_reducible refine rd_I0 ?_ | with_reducible refine rd_U ?_ | with_reducible refine rd_eqI ?_ | with_reducible refine rd_neI ?_ | with_reducible refine rd_eqS ?_ | with_reducible refine rd_neS ?_ | with_reducible refine rd_eqB ?_ | with_reducible refine rd_neB ?_ | with_reducible refine rd_bl ?_ | with_reducible refine rd_int ?_ | with_reducible refine rd_tup ?_ | with_reducible refine rd_lst ?_ | with_reducible refine rd_gsub ?_ | with_reducible refine rd_slice ?_ | with_reducible refine rd_nopart ?_ | with_reducible refine rd_part ?_ | with_reducible refine rd_bm ?_ | with_reducible refine rd_bm0 ?_ | with_reducible refine rd_comp ?_ | with_reducible refine rd_itup ?_ | with_reducible refine rd_ilist ?_ | with_reducible refine rd_irng ?_ | with_reducible refine rd_gcons ?_ | with_reducible refine rd_gnil ?_ | with_reducible refine rd_for ?_ | with_reducible refine rd_abs ?_ | with_reducible refine rd_max ?_ | with_reducible refine rd_min ?_ | with_reducible refine rd_intB ?_ | with_reducible refine rd_dput ?_ | with_reducible refine rd_dget2 ?_ | with_reducible refine rd_dget ?_ | with_reducible refine rd_fld ?_ | with_reducible refine rd_sfld ?_ | with_reducible refine rd_meth ?_ | with_reducible refine rd_make ?_ | with_reducible refine rd_isN ?_ | with_reducible refine rd_notN ?_ | with_reducible refine rd_izip ?_ | with_reducible refine rd_izipT ?_ | with_reducible refine rd_pcons ?_ | with_reducible refine rd_pnil ?_ | with_reducible refine rd_dget1 ?_ | with_reducible refine rd_cdget ?_ | with_reducible refine iteNT ?_ | with_reducible refine iteNF ?_ | with_reducible refine iteF ?_ | with_reducible refine iteT ?_))
local macro_rules | `(tactic| walk_at "rd") => `(tactic| (repeat walk_at "rd1"))
local macro_rules | `(tactic| walk_at "mk") => `(tactic| refine ⟨mk_le rfl, ?_⟩)

section
variable {P : Program} {w : World} {K : PySem.W.Frag} {mg : Str → Option Value} {base : Heap}
def takesOf (ds : List PDef) (g : Int) : Int := ((ds[g.toNat]?).map (·.1)).getD 0
def callFits (ds : List PDef) (r : Str × List D) : Bool := match r.2 with
  | [_, .int g, .tup qs] => decide ((qs.length : Int) = takesOf ds g)
  | _ => false
def zipFits (bx rw df : Int) (ps : List D) (ks : List Str) : Bool := (ps.zip ks).all fun q => partFits bx rw df q.2 q.1
def rowFits (bx rw : Int) (ds : List PDef) (r : Str × List D) : Bool := match partsT.lookup r.1 with
  | none => false
  | some ks => decide (r.2.length = ks.length) && zipFits bx rw ds.length r.2 ks && (!decide (r.1 = "call") || callFits ds r)
theorem parts_kinds {k : Str} {ks : List Str} (h : partsT.lookup k = some ks) : ∀ x ∈ ks, x ∈ kindsL := by
  have hm : (k, ks) ∈ partsT := by
    have : ∀ (l : List (Str × List Str)), l.lookup k = some ks → (k, ks) ∈ l := by
      intro l
      induction l with
      | nil => intro h; cases h
      | cons q l ih =>
        intro h
        obtain ⟨a, b⟩ := q
        rw [List.lookup_cons] at h
        split at h
        · next e => cases h; rw [beq_iff_eq.mp e]; exact List.mem_cons_self
        · exact List.mem_cons_of_mem _ (ih h)
    exact this _ h
  have hk : ∀ q ∈ partsT, ∀ x ∈ q.2, x ∈ kindsL := by decide +kernel
  exact hk _ hm
theorem parts_len {k : Str} {ks : List Str} (h : partsT.lookup k = some ks) : ks.length ≤ 3 := by
  have hm : ∀ (l : List (Str × List Str)), l.lookup k = some ks → (∀ q ∈ l, q.2.length ≤ 3) → ks.length ≤ 3 := by
    intro l
    induction l with
    | nil => intro h; cases h
    | cons q l ih =>
      intro h hl
      obtain ⟨a, b⟩ := q
      rw [List.lookup_cons] at h
      split at h
      · cases h; exact hl _ List.mem_cons_self
      · exact ih h fun q hq => hl q (List.mem_cons_of_mem _ hq)
  exact hm _ h (by decide +kernel)
def kCall : List Str := ["box", "def", "boxes"]
theorem parts_call {ks : List Str} (lk : partsT.lookup (("call" : Str)) = some ks) : ks = kCall := by
  have : partsT.lookup (("call" : Str)) = some kCall := by decide +kernel
  rw [this] at lk
  exact (Option.some.inj lk).symm
def sp_row_fits : Sp := sp3 fun x y c H Q => ∃ p vs ds r a bx rw, x = .ref p ∧ H p = some (.lst vs) ∧ DefsAt [] H ds vs ∧ Rep H (rowD r) y ∧ (∀ d ∈ r.2, PartD 1 d) ∧ r.2.length ≤ 1000 ∧ c = .ref a ∧ H a = some (.dK (countsKV bx rw (ds.length : Int))) ∧ ∀ H', Same H H' → Q (.bl (rowFits bx rw ds r)) H'
theorem sc_row_fits : FnScope ["program", "row", "counts", "kinds"] ["program", "row", "counts"] (defScope s_row_fits) := ⟨rfl, rfl, rfl, by decide +kernel, rfl, by decide +kernel, by decide +kernel⟩
theorem c_row_fits (B : Blt mg) (G : Glb K w mg) (T_row_fits : TopFn K mg "row_fits" s_row_fits ["program", "row", "counts"]) (Cpart_fits : Callee P w K mg base "part_fits" 3 ["part", "kind", "counts"] (spPart 2)) : Callee P w K mg base "row_fits" 4 ["program", "row", "counts"] sp_row_fits := by
  refine T_row_fits.ok3 sc_row_fits fun f cdv A outer s H v1 v2 v3 Q E hr h => ?_
  have nd := sc_row_fits.nd
  obtain ⟨p, vs, ds, r, a, bx, rw, rfl, hp, D0, rr, hpd, hl, rfl, ha, k⟩ := h
  obtain ⟨wd, ps⟩ := r
  refine' go_body [some (.ref p), some v2, some (.ref a), none] rfl ?hb ?hg
  case hb =>
   refine' pss_cons ?zb ?zc
   case zb =>
    refine' ps_if ?zd ?ze ?zf
    case zd =>
     refine' pt_not ?zg
     case zg =>
      refine' PW.pt ?zh
      case zh =>
       refine' pw_and ?zi ?zj
       case zi =>
        refine' pt_val ?zk
        case zk =>
         refine' pe_callB ?zl ?zm ?zn ?zo ?zp
         case zl => exact call_isi
         case zm => exact (by rfl)
         case zn => exact B.b_isinstance
         case zo => exact bt_isinstance
         case zp => exact (pa_consN (pv 1) (pa_consN (pe_bltn (v := .ty "tuple") (by rfl) B.b_tuple bt_tuple rfl) pa_nil))
       case zj =>
        refine' pw_and ?zq ?zr
        case zq => exact (pt_cmpR op_gt (pe_callB (k_len (K := K) rfl) (by rfl) B.b_len bt_len (pa_consN (pv 1) pa_nil)) pe_int (nomark _))
        case zr =>
         refine' pw_and ?zs ?zt
         case zs =>
          refine' pt_val ?zu
          case zu =>
           refine' pe_callB ?zv ?zw ?zx ?zy ?zz
           case zv => exact call_isi
           case zw => exact (by rfl)
           case zx => exact B.b_isinstance
           case zy => exact bt_isinstance
           case zz => exact (pa_consS (pe_ix (k_ix (K := K) rfl) (pv 1) pe_int (fun _ _ => rfl)) (pa_consN (pe_bltn (v := .ty "str") (by rfl) B.b_str bt_str rfl) pa_nil))
         case zt =>
          refine' pw_and1 ?zba
          case zba =>
           refine' pt_cmpR ?zbb ?zbc ?zbd ?zbe
           case zbb => exact (op_inCD (K := K) (w := w) (tb := partsT) rfl rfl)
           case zbc => exact (pe_ix (k_ix (K := K) rfl) (pv 1) pe_int (fun _ _ => rfl))
           case zbd => exact (pe_cd (K := K) (w := w) (by rfl) G.c_PARTS)
           case zbe => exact (by with_unfolding_all rfl)
    case ze => exact (pss_one (ps_ret pe_bl))
    case zf => exact pss_nil
   case zc =>
    refine' pss_cons ?zbf ?zbg
    case zbf =>
     refine' ps_setS (i := 3) ?zbh ?zbi ?zbj ?zbk
     case zbh => exact nd
     case zbi => exact rfl
     case zbj => exact (Or.inl rfl)
     case zbk =>
      refine' pe_cdget (K := K) (w := w) (tb := partsT) ?zbl ?zbm ?zbn ?zbo ?zbp
      case zbl => exact rfl
      case zbm => exact rfl
      case zbn => exact (pe_cd (K := K) (w := w) (by rfl) G.c_PARTS)
      case zbo => exact (pe_ix (k_ix (K := K) rfl) (pv 1) pe_int (fun _ _ => rfl))
      case zbp => exact (fun _ _ => rfl)
    case zbg =>
     refine' pss_cons ?zbq ?zbr
     case zbq =>
      refine' ps_if ?zbs ?zbt ?zbu
      case zbs =>
       refine' pt_cmpR ?zbv ?zbw ?zbx ?zby
       case zbv => exact op_ne
       case zbw => exact (pe_callB (k_len (K := K) rfl) (by rfl) B.b_len bt_len (pa_consN (pv 1) pa_nil))
       case zbx => exact (pe_op op_add (pe_callB (k_len (K := K) rfl) (by rfl) B.b_len bt_len (pa_consN (pv 3) pa_nil)) pe_int)
       case zby => exact (nomark _)
      case zbt => exact (pss_one (ps_ret pe_bl))
      case zbu => exact pss_nil
     case zbr =>
      refine' pss_cons ?zbz ?zca
      case zbz =>
       refine' ps_if ?zcb ?zcc ?zcd
       case zcb =>
        refine' pt_not ?zce
        case zce =>
         refine' pt_val ?zcf
         case zcf =>
          refine' pe_callB ?zcg ?zch ?zci ?zcj ?zck
          case zcg => exact (k_all (K := K) rfl rfl)
          case zch => exact (by rfl)
          case zci => exact B.b_all
          case zcj => exact bt_all
          case zck =>
           refine' pa_consM ?zcl ?zcm
           case zcl =>
            refine' pe_comp (LN := ["part", "kind"]) (FN := ["counts"]) (fr := [2]) ?zcn ?zco ?zcp ?zcq ?zcr ?zcs
            case zcn => exact rfl
            case zco => exact (bk_of (by rfl))
            case zcp => exact (k_pi_zipT (K := K) rfl (by rfl) B.b_zip (pa_consS (pe_slice (k_slT (K := K) rfl) (pv 1) (po_some pe_int) po_none) (pa_consN (pv 3) pa_nil)))
            case zcq =>
             intro cl C fp pins s H
             refine' k_pg_tup (K := K) (n := 2) ?zct ?zcu ?zcv
             case zct => exact rfl
             case zcu => exact rfl
             case zcv =>
              refine' pgs_cons ?zcw ?zcx
              case zcw => exact (pg_name (i := 0) (show ((["part", "kind"] : List Str) ++ (["counts"] : List Str)).Nodup by decide +kernel) rfl (Or.inl rfl))
              case zcx => exact (pgs_cons (pg_name (i := 1) (show ((["part", "kind"] : List Str) ++ (["counts"] : List Str)).Nodup by decide +kernel) rfl (Or.inl rfl)) pgs_nil)
            case zcr =>
             intro cl C fp pins s H
             exact pts_nil
            case zcs =>
             intro cl C fp pins s H
             exact (pe_fn Cpart_fits (hr.mono (by first | decide | omega)) (by rfl) (pa_consN (pv 0) (pa_consN (pv 1) (pa_consN (pv 2) pa_nil))))
           case zcm => exact pa_nil
       case zcc => exact (pss_one (ps_ret pe_bl))
       case zcd => exact pss_nil
      case zca =>
       refine' pss_one ?zcy
       case zcy =>
        refine' ps_ret ?zcz
        case zcz =>
         refine' pe_or ?zda ?zdb
         case zda => exact (pe_cmpR op_ne (pe_ix (k_ix (K := K) rfl) (pv 1) pe_int (fun _ _ => rfl)) pe_str (nomark _))
         case zdb =>
          refine' pe_one ?zdc
          case zdc =>
           refine' pe_cmpR ?zdd ?zde ?zdf ?zdg
           case zdd => exact op_eq
           case zde => exact (pe_callB (k_len (K := K) rfl) (by rfl) B.b_len bt_len (pa_consS (pe_ix (k_ix (K := K) rfl) (pv 1) pe_int (fun _ _ => rfl)) pa_nil))
           case zdf =>
            refine' pe_ix ?zdh ?zdi ?zdj ?zdk
            case zdh => exact (k_ix (K := K) rfl)
            case zdi => exact (pe_ix (k_ix (K := K) rfl) (pv 0) (pe_ix (k_ix (K := K) rfl) (pv 1) pe_int (fun _ _ => rfl)) (fun _ _ => rfl))
            case zdj => exact pe_int
            case zdk => exact (fun _ _ => rfl)
           case zdg => exact (nomark _)
  walk_at "rd"
  refine rd_isi (tyN_rep rr) (by simp) (rd_bl (iteT ?_))
  walk_at "rd"
  refine rd_lenR rr ?_
  walk_at "rd"
  refine ite_dy (by simp) ?_
  walk_at "rd"
  refine rd_ixR (n := 0) rr rfl rfl fun u ru => ?_
  obtain rfl : u = .str wd := by rwa [Rep] at ru
  walk_at "rd"
  refine rd_isi rfl (by simp) (rd_bl (iteT ?_))
  walk_at "rd"
  refine rd_ixR (n := 0) rr rfl rfl fun u ru => ?_
  obtain rfl : u = .str wd := by rwa [Rep] at ru
  refine rd_cd fun pc cd => rd_inCD cd ?_
  cases lk : partsT.lookup wd with
  | none =>
    rw [Option.isSome_none]
    walk_at "rd"
    have := k H (Same.refl _)
    simpa [rowFits, lk] using this
  | some ks =>
    rw [Option.isSome_some]
    walk_at "rd"
    refine rd_cd fun pc' cd' => ?_
    walk_at "rd"
    refine rd_ixR (n := 0) rr rfl rfl fun u ru => ?_
    obtain rfl : u = .str wd := by rwa [Rep] at ru
    refine cdK_of cd' lk fun b hb => ?_
    have h3 := parts_len lk
    walk_at "rd"
    refine rd_lenR rr ?_
    walk_at "rd"
    refine rd_lenT' (hb _) ?_
    walk_at "rd"
    refine ite_nd (fun ne => ?_) (fun e => ?_)
    · walk_at "rd"
      have k := k H (Same.refl _)
      have ne : ¬ ps.length = ks.length := fun z => ne (by simp [z])
      simpa [rowFits, lk, ne] using k
    · have el : ps.length = ks.length := by simp at e; omega
      obtain ⟨t, xs0, rfl, ht, rx0⟩ := rep_tup_inv (show Rep H (.tup (.str wd :: ps)) v2 from rr)
      obtain ⟨u, xs, rfl, _, rx⟩ := reps_cons_inv rx0
      have hxl := rx.length
      walk_at "rd"
      refine rd_slT1 ht fun p1 hp1 => ?_
      have s1 := Same.new (o := .tup xs) hp1
      have h1 : upd H p1 (.tup xs) p1 = some (.tup xs) := upd_same
      generalize upd H p1 (.tup xs) = H1 at s1 h1
      walk_at "rd"
      refine izT_of (SqT.of h1) (hb _) ?_
      refine cw_zipT (us := xs) (vs := ks.map V.str) (by simp; omega) (small_le' (by omega)) (fun i ys σ Hy => (∃ x1 x2, σ = [x1, x2, some (.ref a)]) ∧ Same H1 Hy ∧ ys = (((ps.zip ks).take i).map fun q => partFits bx rw (ds.length : Int) q.2 q.1).map V.bl) ⟨⟨none, none, rfl⟩, Same.refl _, rfl⟩ (fun i ys σ Hy _ ⟨_, s2, _⟩ => ⟨SqT.of (s2 _ _ h1), hb _⟩) ?_ ?_
      · rintro i x y T ys σ Hy hx hy hT hle hlt ⟨⟨x1, x2, rfl⟩, s2, rfl⟩
        obtain ⟨d, ed, rd'⟩ := rx.get' hx
        rw [List.getElem?_map] at hy
        obtain ⟨kd, ek, rfl⟩ := Option.map_eq_some_iff.mp hy
        have sT := Same.new (o := .tup [x, V.str kd]) hT
        have eT : upd Hy T (.tup [x, V.str kd]) T = some (.tup [x, V.str kd]) := upd_same
        generalize upd Hy T (.tup [x, V.str kd]) = Hz at sT eT
        refine rd_gtup eT rfl ?_
        walk_at "rd"
        refine use3 ⟨1, d, kd, a, bx, rw, _, rfl, rd'.mono ((s1.trans s2).trans sT).ts, hpd d (List.mem_of_getElem? ed), rfl, parts_kinds lk kd (List.mem_of_getElem? ek), rfl, sT _ _ (s2 _ _ (s1 _ _ ha)), fun H2 s3 => ?_⟩
        refine ⟨hlt, by simpa using hle, ⟨_, _, rfl⟩, (s2.trans sT).trans s3, ?_⟩
        have ez : (ps.zip ks)[i]? = some (d, kd) := by rw [List.getElem?_zip_eq_some]; exact ⟨ed, ek⟩
        rw [List.take_add_one, ez]
        simp
      · rintro ys σ Hy hyl ⟨⟨x1, x2, rfl⟩, s2, rfl⟩ pa hpa
        have etk : (ps.zip ks).take xs.length = ps.zip ks := List.take_of_length_le (by simp; omega)
        rw [etk]
        have s3 := Same.new (o := .lst (((ps.zip ks).map fun q => partFits bx rw (ds.length : Int) q.2 q.1).map V.bl)) hpa
        have e3 : upd Hy pa (.lst (((ps.zip ks).map fun q => partFits bx rw (ds.length : Int) q.2 q.1).map V.bl)) pa = some (.lst (((ps.zip ks).map fun q => partFits bx rw (ds.length : Int) q.2 q.1).map V.bl)) := upd_same
        generalize upd Hy pa (.lst (((ps.zip ks).map fun q => partFits bx rw (ds.length : Int) q.2 q.1).map V.bl)) = H3 at s3 e3
        have s03 := ((s1.trans s2).trans s3)
        have k := k H3 s03
        walk_at "rd"
        refine ⟨pa, (ps.zip ks).map fun q => partFits bx rw (ds.length : Int) q.2 q.1, rfl, SqL.of e3, ?_⟩
        have ez : ((ps.zip ks).map fun q => partFits bx rw (ds.length : Int) q.2 q.1).all id = zipFits bx rw ds.length ps ks := by
          simp [zipFits, List.all_map]
        rw [ez]
        refine ⟨_, rfl, ?_⟩
        cases hz : zipFits bx rw ds.length ps ks with
        | false =>
          walk_at "rd"
          simpa [rowFits, lk, el, hz] using k
        | true =>
          walk_at "rd"
          have rr3 : Rep H3 (.tup (.str wd :: ps)) (.ref t) := Rep.mono s03.ts rr
          refine rd_ixR (n := 0) rr3 rfl rfl fun u ru => ?_
          obtain rfl : u = .str wd := by rwa [Rep] at ru
          walk_at "rd"
          refine ite_nd (fun nc => ?_) (fun ec => ?_)
          · simpa [rowFits, lk, el, hz, nc] using k
          · subst ec
            obtain rfl := parts_call lk
            match ps, el, hz, hpd, rr3, k with
            | [d1, d2, d3], _, hz, hpd, rr3, k =>
              have hz0 := hz
              simp only [zipFits, kCall, List.zip_cons_cons, List.zip_nil_right, List.all_cons, List.all_nil, Bool.and_true, Bool.and_eq_true] at hz
              obtain ⟨_, z2, z3⟩ := hz
              have nd' : ¬ ("def" : Str) = "boxes" := by decide +kernel
              have n1 : ¬ ("def" : Str) = "number" := by decide +kernel
              have n2 : ¬ ("def" : Str) = "factor" := by decide +kernel
              have n3 : ¬ ("def" : Str) = "box" := by decide +kernel
              have n4 : ¬ ("def" : Str) = "row" := by decide +kernel
              have hd2 : ∃ g : Int, d2 = .int g ∧ 0 ≤ g ∧ g < ds.length := by
                cases d2 with
                | int g => simp [partFits, intFits, cntOf, nd', n1, n2, n3, n4] at z2; exact ⟨g, rfl, z2.1, z2.2⟩
                | tup _ => simp [partFits, nd'] at z2
                | non => simp [partFits] at z2
                | bl _ => simp [partFits] at z2
                | str _ => simp [partFits] at z2
              have hd3 : ∃ qs, d3 = .tup qs := by
                cases d3 with
                | tup qs => exact ⟨qs, rfl⟩
                | int g => simp [partFits] at z3
                | non => simp [partFits] at z3
                | bl _ => simp [partFits] at z3
                | str _ => simp [partFits] at z3
              obtain ⟨g, rfl, g0, g1⟩ := hd2
              obtain ⟨qs, rfl⟩ := hd3
              walk_at "rd"
              refine rd_ixR (n := 3) rr3 rfl rfl fun u ru => ?_
              walk_at "rd"
              refine rd_lenR ru ?_
              walk_at "rd"
              refine rd_ixI (n := 2) rr3 rfl rfl ?_
              walk_at "rd"
              have hdl := D0.length
              have hg : g.toNat < vs.length := by omega
              obtain ⟨dd, ed, DA⟩ := D0.get (i := g.toNat) (v := vs[g.toNat]) (List.getElem?_eq_getElem hg)
              refine rd_ixaL (s03 _ _ hp) (atI_at (n := g.toNat) (by omega) (List.getElem?_eq_getElem hg)) ?_
              walk_at "rd"
              obtain ⟨at_, q, ys, ev, hat, _⟩ := DA
              rw [ev]
              refine rd_ixaT (s03 _ _ hat) rfl ?_
              walk_at "rd"
              have et : takesOf ds g = dd.1 := by simp [takesOf, ed]
              have ec : rowFits bx rw ds ("call", [d1, .int g, .tup qs]) = decide ((qs.length : Int) = dd.1) := by
                simp [rowFits, lk, callFits, et, kCall]
                exact fun _ => hz0
              rw [ec] at k
              exact k

end
end My

end
section
set_option Elab.async false
set_option linter.all false
set_option maxRecDepth 100000
set_option maxHeartbeats 4000000

namespace My
open PySem L2
local macro_rules | `(tactic| walk_at "rd1") => `(tactic| (first | ((with_reducible refine' rd_var ?e ?_); (case e => exact rfl)) | with_reducible refine rd_c ?_ | with_reducible refine rd_op ?_ | with_reducible refine rd_un ?_ | with_reducible refine rd_seq ?_ | with_reducible refine rd_asg ?_ | with_reducible refine rd_gname ?_ | with_reducible refine rd_ret ?_ | with_reducible refine rd_drop ?_ | with_reducible refine rd_next ?_ | with_reducible refine rd_if ?_ | with_reducible refine rd_test ?_ | with_reducible refine rd_tb ?_ | with_reducible refine rd_and ?_ | with_reducible refine rd_or ?_ | with_reducible refine rd_not ?_ | with_reducible refine rd_true ?_ | with_reducible refine rd_andV ?_ | with_reducible refine rd_orV ?_ | with_reducible refine rd_notV ?_ | with_reducible refine rd_ifE ?_ | with_reducible refine rd_chain ?_ | with_reducible refine rd_nil ?_ | with_reducible refine rd_cons ?_ | with_reducible refine rd_cb ?_ | with_reducible refine rd_call ?_ | with_reducible refine rd_I0 ?_ | with_reducible refine rd_U ?_ | with_reducible refine rd_eqI ?_ | with_reducible refine rd_neI ?_ | with_reducible refine rd_eqS ?_ | with_reducible refine rd_neS ?_ | with_reducible refine rd_eqB ?_ | with_reducible refine rd_neB ?_ | with_reducible refine rd_bl ?_ | with_reducible refine rd_int ?_ | with_reducible refine rd_tup ?_ | with_reducible refine rd_lst ?_ | with_reducible refine rd_gsub ?_ | with_reducible refine rd_slice ?_ | with_reducible refine rd_nopart ?_ | with_reducible refine rd_part ?_ | with_reducible refine rd_bm ?_ | with_reducible refine rd_bm0 ?_ | with_reducible refine rd_comp ?_ | with_reducible refine rd_itup ?_ | with_reducible refine rd_ilist ?_ | with_reducible refine rd_irng ?_ | with_reducible refine rd_gcons ?_ | with_reducible refine rd_gnil ?_ | with_reducible refine rd_for ?_ | with_reducible refine rd_abs ?_ | with_reducible refine rd_max ?_ | with_reducible refine rd_min ?_ | with_reducible refine rd_intB ?_ | with_reducible refine rd_dput ?_ | with_reducible refine rd_dget2 ?_ | with_reducible refine rd_dget ?_ | with_reducible refine rd_fld ?_ | with_reducible refine rd_sfld ?_ | with_reducible refine rd_meth ?_ | with_reducible refine rd_make ?_ | with_reducible refine rd_isN ?_ | with_reducible refine rd_notN ?_ | with_reducible refine rd_izip ?_ | with_reducible refine rd_izipT ?_ | with_reducible refine rd_pcons ?_ | with_reducible refine rd_pnil ?_ | with_reducible refine rd_dget1 ?_ | with_reducible refine rd_cdget ?_ | with_reducible refine iteNT ?_ | with_reducible refine iteNF ?_ | with_reducible refine iteF ?_ | with_reducible refine iteT ?_))
local macro_rules | `(tactic| walk_at "rd") => `(tactic| (repeat walk_at "rd1"))
local macro_rules | `(tactic| walk_at "mk") => `(tactic| refine ⟨mk_le rfl, ?_⟩)

section
variable {P : Program} {w : World} {K : PySem.W.Frag} {mg : Str → Option Value} {base : Heap}
def defFits (ds : List PDef) (d : PDef) : Bool := (d.2.2.all (rowFits d.2.1 d.2.2.length ds)) && (match d.2.2.getLast? with | some r => decide (r.1 = "jump") || decide (r.1 = "back") | none => false)
/-- what the law's programs are like, spoilt or not -/
structure PgD (ds : List PDef) : Prop where
  len : ds.length ≤ 1000
  rows : ∀ d ∈ ds, d.2.2.length ≤ 1000
  part : ∀ d ∈ ds, ∀ r ∈ d.2.2, r.2.length ≤ 1000 ∧ ∀ p ∈ r.2, PartD 1 p
theorem inJB {x : Str} : inV (.str x) [.str "jump", .str "back"] = (decide (x = "jump") || decide (x = "back")) := by
  simp only [inV, eqV, List.any_cons, List.any_nil, Bool.or_false]
  rw [Bool.eq_iff_iff]
  simp
  constructor
  · rintro (z | z)
    · exact .inl z.symm
    · exact .inr z.symm
  · rintro (z | z)
    · exact .inl z.symm
    · exact .inr z.symm
def sp_rows_fit : Sp := sp2 fun x y H Q => ∃ p vs ds g d, x = .ref p ∧ y = .int (g : Nat) ∧ H p = some (.lst vs) ∧ DefsAt [] H ds vs ∧ PgD ds ∧ ds[g]? = some d ∧ d.2.2 ≠ [] ∧ ∀ H', Same H H' → Q (.bl (defFits ds d)) H'
theorem sc_rows_fit : FnScope ["program", "f", "rows", "counts"] ["program", "f"] (defScope s_rows_fit) := ⟨rfl, rfl, rfl, by decide +kernel, rfl, by decide +kernel, by decide +kernel⟩
theorem c_rows_fit (B : Blt mg) (G : Glb K w mg) (T_rows_fit : TopFn K mg "rows_fit" s_rows_fit ["program", "f"]) (Crow_fits : Callee P w K mg base "row_fits" 4 ["program", "row", "counts"] sp_row_fits) : Callee P w K mg base "rows_fit" 5 ["program", "f"] sp_rows_fit := by
  refine T_rows_fit.ok2 sc_rows_fit fun f cdv A outer s H v1 v2 Q E hr h => ?_
  have nd := sc_rows_fit.nd
  have hu1 := hu_of hr
  obtain ⟨p, vs, ds, g, d, rfl, rfl, hp, D0, PD, ed, hne, k⟩ := h
  refine' go_body [some (.ref p), some (.int g), none, none] rfl ?hb ?hg
  case hb =>
   refine' pss_cons ?zb ?zc
   case zb => exact (ps_setS (i := 2) nd rfl (Or.inl rfl) (pe_ix (k_ix (K := K) rfl) (pe_ix (k_ix (K := K) rfl) (pv 0) (pv 1) (fun _ _ => rfl)) pe_int (fun _ _ => rfl)))
   case zc =>
    refine' pss_cons ?zd ?ze
    case zd =>
     refine' ps_set (i := 3) ?zf ?zg ?zh ?zi
     case zf => exact nd
     case zg => exact rfl
     case zh => exact (Or.inr rfl)
     case zi =>
      refine' pe_disp ?zj ?zk ?zl ?zm ?zn
      case zj =>
       refine' pps_cons ?zo ?zp ?zq
       case zo => exact pe_str
       case zp => exact (pe_ix (k_ix (K := K) rfl) (pe_ix (k_ix (K := K) rfl) (pv 0) (pv 1) (fun _ _ => rfl)) pe_int (fun _ _ => rfl))
       case zq =>
        refine' pps_cons ?zr ?zs ?zt
        case zr => exact pe_str
        case zs => exact (pe_callB (k_len (K := K) rfl) (by rfl) B.b_len bt_len (pa_consN (pv 2) pa_nil))
        case zt => exact (pps_cons pe_str (pe_callB (k_len (K := K) rfl) (by rfl) B.b_len bt_len (pa_consN (pv 0) pa_nil)) pps_nil)
      case zk => exact rfl
      case zl => exact rfl
      case zm => exact (List.cons_ne_nil _ _)
      case zn => exact (Nat.le_of_ble_eq_true rfl)
    case ze =>
     refine' pss_cons ?zu ?zv
     case zu =>
      refine' ps_if ?zw ?zx ?zy
      case zw =>
       refine' pt_not ?zz
       case zz =>
        refine' pt_val ?zba
        case zba =>
         refine' pe_callB ?zbb ?zbc ?zbd ?zbe ?zbf
         case zbb => exact (k_all (K := K) rfl rfl)
         case zbc => exact (by rfl)
         case zbd => exact B.b_all
         case zbe => exact bt_all
         case zbf =>
          refine' pa_consM ?zbg ?zbh
          case zbg =>
           refine' pe_comp (LN := ["row"]) (FN := ["program", "counts"]) (fr := [0, 3]) ?zbi ?zbj ?zbk ?zbl ?zbm ?zbn
           case zbi => exact rfl
           case zbj => exact (bk_of (by rfl))
           case zbk => exact (k_pi_list (K := K) rfl (pv 2))
           case zbl =>
            intro cl C fp pins s H
            exact (pg_name (i := 0) (show ((["row"] : List Str) ++ (["program", "counts"] : List Str)).Nodup by decide +kernel) rfl (Or.inl rfl))
           case zbm =>
            intro cl C fp pins s H
            exact pts_nil
           case zbn =>
            intro cl C fp pins s H
            exact (pe_fn Crow_fits (hr.mono (by first | decide | omega)) (by rfl) (pa_consN (pv 1) (pa_consN (pv 0) (pa_consN (pv 2) pa_nil))))
          case zbh => exact pa_nil
      case zx => exact (pss_one (ps_ret pe_bl))
      case zy => exact pss_nil
     case zv =>
      refine' pss_one ?zbo
      case zbo =>
       refine' ps_ret ?zbp
       case zbp =>
        refine' pe_cmpR ?zbq ?zbr ?zbs ?zbt
        case zbq => exact (k_in (K := K) rfl)
        case zbr => exact (pe_ix (k_ix (K := K) rfl) (pe_ix (k_ix (K := K) rfl) (pv 2) (pe_un un_neg pe_int) (fun _ _ => rfl)) pe_int (fun _ _ => rfl))
        case zbs => exact (pe_tup (pa_consK pe_str (pa_consK pe_str pa_nil)))
        case zbt => exact (by with_unfolding_all rfl)
  walk_at "rd"
  have hlv := D0.length
  have hg := (List.getElem?_eq_some_iff.mp ed).1
  obtain ⟨dd, ed', DA⟩ := D0.get (i := g) (v := vs[g]) (List.getElem?_eq_getElem (by omega))
  rw [ed] at ed'
  cases ed'
  obtain ⟨t, q, ys, ev, hat, hq, _, ry⟩ := DA
  have hyl := ry.length
  rw [List.length_map] at hyl
  have hmem : d ∈ ds := List.mem_of_getElem? ed
  have hr0 := PD.rows d hmem
  have evs : vs[g]? = some (.ref t) := by rw [List.getElem?_eq_getElem (by omega), ev]
  refine rd_ixaL hp (atI_at rfl evs) ?_
  walk_at "rd"
  refine rd_ixaT hat rfl ?_
  walk_at "rd"
  refine rd_disp3 fun pc hpc => ?_
  have s0 := Same.new (o := .dK []) hpc
  have e0 : upd H pc (.dK []) pc = some (.dK []) := upd_same
  have ne0 : ∀ o : HO, upd (upd H pc (.dK [])) pc o = upd H pc o := fun o => upd_upd
  walk_at "rd"
  refine rd_ixaL (s0 _ _ hp) (atI_at rfl evs) ?_
  walk_at "rd"
  refine rd_ixaT (s0 _ _ hat) rfl ?_
  walk_at "rd"
  refine rd_lenL' (SqL.of (s0 _ _ hq)) ?_
  walk_at "rd"
  refine rd_lenL' (SqL.of (s0 _ _ hp)) ?_
  refine disp3_of e0 (by decide +kernel) ?_
  rw [upd_upd, ← hyl, ← hlv]
  have s1 := Same.new (o := .dK (countsKV d.2.1 (d.2.2.length : Int) (ds.length : Int))) hpc
  have e1 : upd H pc (.dK (countsKV d.2.1 (d.2.2.length : Int) (ds.length : Int))) pc = some (.dK (countsKV d.2.1 (d.2.2.length : Int) (ds.length : Int))) := upd_same
  show _
  unfold countsKV at s1 e1
  generalize upd H pc (.dK [((Sum.inr "box" : Key), V.int d.2.1), (Sum.inr "row", V.int (d.2.2.length : Int)), (Sum.inr "def", V.int (ds.length : Int))]) = H1 at s1 e1 ⊢
  walk_at "rd"
  refine ilK_of (SqL.of (s1 _ _ hq)) ?_
  refine cw_list (xs := ys) (small_le' (by omega)) (fun i zs σ Hy => (∃ x1, σ = [x1, some (.ref p), some (.ref pc)]) ∧ Same H1 Hy ∧ zs = ((d.2.2.take i).map (rowFits d.2.1 d.2.2.length ds)).map V.bl) ⟨⟨none, rfl⟩, Same.refl _, rfl⟩ (fun i zs σ Hy _ ⟨_, s2, _⟩ => SqL.of (s2 _ _ (s1 _ _ hq))) ?_ ?_
  · rintro i x zs σ Hy hx hle hlt ⟨⟨x1, rfl⟩, s2, rfl⟩
    obtain ⟨rD, er, rr⟩ := ry.get' hx
    rw [List.getElem?_map] at er
    obtain ⟨r, er', rfl⟩ := Option.map_eq_some_iff.mp er
    have s02 := s1.trans s2
    obtain ⟨pl, pp⟩ := PD.part d hmem r (List.mem_of_getElem? er')
    walk_at "rd"
    refine use3 ⟨p, vs, ds, r, pc, d.2.1, d.2.2.length, rfl, s02 _ _ hp, D0.mono s02, rr.mono s02.ts, pp, pl, rfl, s2 _ _ e1, fun H2 s3 => ?_⟩
    refine ⟨hlt, by simpa using hle, ⟨_, rfl⟩, s2.trans s3, ?_⟩
    rw [List.take_add_one, er']
    simp
  · rintro zs σ Hy hzl ⟨⟨x1, rfl⟩, s2, rfl⟩ pa hpa
    rw [← hyl, List.take_length]
    have s3 := Same.new (o := .lst ((d.2.2.map (rowFits d.2.1 d.2.2.length ds)).map V.bl)) hpa
    have e3 : upd Hy pa (.lst ((d.2.2.map (rowFits d.2.1 d.2.2.length ds)).map V.bl)) pa = some (.lst ((d.2.2.map (rowFits d.2.1 d.2.2.length ds)).map V.bl)) := upd_same
    generalize upd Hy pa (.lst ((d.2.2.map (rowFits d.2.1 d.2.2.length ds)).map V.bl)) = H3 at s3 e3
    have s03 := (s1.trans s2).trans s3
    walk_at "rd"
    refine ⟨pa, d.2.2.map (rowFits d.2.1 d.2.2.length ds), rfl, SqL.of e3, ?_⟩
    have ez : (d.2.2.map (rowFits d.2.1 d.2.2.length ds)).all id = d.2.2.all (rowFits d.2.1 d.2.2.length ds) := by simp [List.all_map]
    rw [ez]
    refine ⟨_, rfl, ?_⟩
    obtain ⟨rs, r, er⟩ : ∃ rs r, d.2.2 = rs ++ [r] := ⟨d.2.2.dropLast, d.2.2.getLast hne, (List.dropLast_concat_getLast hne).symm⟩
    cases hz : d.2.2.all (rowFits d.2.1 d.2.2.length ds) with
    | false =>
      walk_at "rd"
      have k := k H3 s03
      simpa [defFits, hz] using k
    | true =>
      walk_at "rd"
      have hlast : ∃ v, ys = ys.dropLast ++ [v] ∧ Rep H (rowD r) v := by
        have hyne : ys ≠ [] := fun z => by rw [z] at hyl; simp at hyl; exact hne hyl
        refine ⟨ys.getLast hyne, (List.dropLast_concat_getLast hyne).symm, ?_⟩
        have e1 : ys[rs.length]? = some (ys.getLast hyne) := by
          rw [List.getLast_eq_getElem, List.getElem?_eq_getElem (by rw [er] at hyl; simp at hyl; omega)]
          congr 1
          rw [er] at hyl
          simp at hyl
          congr 1
          omega
        obtain ⟨dd, e2, r2⟩ := ry.get' e1
        rw [er] at e2
        simp at e2
        subst e2
        exact r2
      obtain ⟨v, ey, rv⟩ := hlast
      refine rd_ixaL (s03 _ _ hq) (by rw [ey]; exact atI_neg1) ?_
      walk_at "rd"
      refine rd_ixR (n := 0) (rv.mono s03.ts) rfl rfl fun u ru => ?_
      obtain rfl : u = .str r.1 := by rwa [Rep] at ru
      walk_at "rd"
      refine ⟨by rw [PySem.sizeLine_eq]; decide, fun p5 hp5 => ?_⟩
      have s5 := Same.new (o := .tup [V.str (Str.ofString "jump"), V.str (Str.ofString "back")]) hp5
      refine ⟨p5, _, rfl, .inr (SqT.of upd_same), rfl, rfl, ?_⟩
      have k := k _ (s03.trans s5)
      have ek : defFits ds d = inV (.str r.1) [.str "jump", .str "back"] := by
        rw [inJB]
        simp only [defFits, hz, Bool.true_and]
        rw [er]
        simp
      rw [ek] at k
      exact k

end
end My

end
section
set_option Elab.async false
set_option linter.all false
set_option maxRecDepth 100000
set_option maxHeartbeats 4000000

namespace My
open PySem L2
local macro_rules | `(tactic| walk_at "rd1") => `(tactic| (first | ((with_reducible refine' rd_var ?e ?_); (case e => exact rfl)) | with_reducible refine rd_c ?_ | with_reducible refine rd_op ?_ | with_reducible refine rd_un ?_ | with_reducible refine rd_seq ?_ | with_reducible refine rd_asg ?_ | with_reducible refine rd_gname ?_ | with_reducible refine rd_ret ?_ | with_reducible refine rd_drop ?_ | with_reducible refine rd_next ?_ | with_reducible refine rd_if ?_ | with_reducible refine rd_test ?_ | with_reducible refine rd_tb ?_ | with_reducible refine rd_and ?_ | with_reducible refine rd_or ?_ | with_reducible refine rd_not ?_ | with_reducible refine rd_true ?_ | with_reducible refine rd_andV ?_ | with_reducible refine rd_orV ?_ | with_reducible refine rd_notV ?_ | with_reducible refine rd_ifE ?_ | with_reducible refine rd_chain ?_ | with_reducible refine rd_nil ?_ | with_reducible refine rd_cons ?_ | with_reducible refine rd_cb ?_ | with_reducible refine rd_call ?_ | with_reducible refine rd_I0 ?_ | with_reducible refine rd_U ?_ | with_reducible refine rd_eqI ?_ | with_reducible refine rd_neI ?_ | with_reducible refine rd_eqS ?_ | with_reducible refine rd_neS ?_ | with_reducible refine rd_eqB ?_ | with_reducible refine rd_neB ?_ | with_reducible refine rd_bl ?_ | with_reducible refine rd_int ?_ | with_reducible refine rd_tup ?_ | with_reducible refine rd_lst ?_ | with_reducible refine rd_gsub ?_ | with_reducible refine rd_slice ?_ | with_reducible refine rd_nopart ?_ | with_reducible refine rd_part ?_ | with_reducible refine rd_bm ?_ | with_reducible refine rd_bm0 ?_ | with_reducible refine rd_comp ?_ | with_reducible refine rd_itup ?_ | with_reducible refine rd_ilist ?_ | with_reducible refine rd_irng ?_ | with_reducible refine rd_gcons ?_ | with_reducible refine rd_gnil ?_ | with_reducible refine rd_for ?_ | with_reducible refine rd_abs ?_ | with_reducible refine rd_max ?_ | with_reducible refine rd_min ?_ | with_reducible refine rd_intB ?_ | with_reducible refine rd_dput ?_ | with_reducible refine rd_dget2 ?_ | with_reducible refine rd_dget ?_ | with_reducible refine rd_fld ?_ | with_reducible refine rd_sfld ?_ | with_reducible refine rd_meth ?_ | with_reducible refine rd_make ?_ | with_reducible refine rd_isN ?_ | with_reducible refine rd_notN ?_ | with_reducible refine rd_izip ?_ | with_reducible refine rd_izipT ?_ | with_reducible refine rd_pcons ?_ | with_reducible refine rd_pnil ?_ | with_reducible refine rd_dget1 ?_ | with_reducible refine rd_cdget ?_ | with_reducible refine iteNT ?_ | with_reducible refine iteNF ?_ | with_reducible refine iteF ?_ | with_reducible refine iteT ?_))
local macro_rules | `(tactic| walk_at "rd") => `(tactic| (repeat walk_at "rd1"))
local macro_rules | `(tactic| walk_at "mk") => `(tactic| refine ⟨mk_le rfl, ?_⟩)

section
variable {P : Program} {w : World} {K : PySem.W.Frag} {mg : Str → Option Value} {base : Heap}
def headFits (d : PDef) : Bool := (decide (1 ≤ d.2.1) && decide (d.2.1 ≤ 8)) && ((decide (0 ≤ d.1) && decide (d.1 ≤ if d.2.1 < 4 then d.2.1 else 4)) && (decide (1 ≤ (d.2.2.length : Int)) && decide ((d.2.2.length : Int) ≤ 30)))
theorem headFits_ne {d : PDef} (h : headFits d = true) : d.2.2 ≠ [] := by
  intro e
  simp [headFits, e] at h
def sp_head : Sp := sp1 fun x H Q => ∃ d, DefAt [] H d x ∧ d.2.2.length ≤ 1000 ∧ Q (.bl (headFits d)) H
theorem sc_head_fits : FnScope ["one", "takes", "boxes", "rows"] ["one"] (defScope s_head_fits) := ⟨rfl, rfl, rfl, by decide +kernel, rfl, by decide +kernel, by decide +kernel⟩
theorem c_head_fits (B : Blt mg) (G : Glb K w mg) (T_head_fits : TopFn K mg "head_fits" s_head_fits ["one"]) (Cis_whole : Callee P w K mg base "is_whole" 1 ["thing"] sp_is_whole) : Callee P w K mg base "head_fits" 2 ["one"] sp_head := by
  refine T_head_fits.ok1 sc_head_fits fun f cdv A outer s H v1 Q E hr h => ?_
  have nd := sc_head_fits.nd
  obtain ⟨⟨tk, bx, rs⟩, ⟨t, q, ys, rfl, ht, hq, _, ry⟩, hl, k⟩ := h
  dsimp only at ht ry hl
  have hyl := ry.length
  rw [List.length_map] at hyl
  refine' go_body [some (.ref t), none, none, none] rfl ?hb ?hg
  case hb =>
   refine' pss_cons ?zb ?zc
   case zb =>
    refine' ps_if ?zd ?ze ?zf
    case zd =>
     refine' pt_not ?zg
     case zg =>
      refine' PW.pt ?zh
      case zh =>
       refine' pw_and ?zi ?zj
       case zi =>
        refine' pt_val ?zk
        case zk =>
         refine' pe_callB ?zl ?zm ?zn ?zo ?zp
         case zl => exact call_isi
         case zm => exact (by rfl)
         case zn => exact B.b_isinstance
         case zo => exact bt_isinstance
         case zp => exact (pa_consN (pv 0) (pa_consN (pe_bltn (v := .ty "tuple") (by rfl) B.b_tuple bt_tuple rfl) pa_nil))
       case zj => exact (pw_and1 (pt_cmpR op_eq (pe_callB (k_len (K := K) rfl) (by rfl) B.b_len bt_len (pa_consN (pv 0) pa_nil)) pe_int (nomark _)))
    case ze => exact (pss_one (ps_ret pe_bl))
    case zf => exact pss_nil
   case zc =>
    refine' pss_cons ?zq ?zr
    case zq => exact (ps_setS (i := 1) nd rfl (Or.inl rfl) (pe_ix (k_ix (K := K) rfl) (pv 0) pe_int (fun _ _ => rfl)))
    case zr =>
     refine' pss_cons ?zs ?zt
     case zs => exact (ps_setS (i := 2) nd rfl (Or.inl rfl) (pe_ix (k_ix (K := K) rfl) (pv 0) pe_int (fun _ _ => rfl)))
     case zt =>
      refine' pss_cons ?zu ?zv
      case zu => exact (ps_setS (i := 3) nd rfl (Or.inl rfl) (pe_ix (k_ix (K := K) rfl) (pv 0) pe_int (fun _ _ => rfl)))
      case zv =>
       refine' pss_cons ?zw ?zx
       case zw =>
        refine' ps_if ?zy ?zz ?zba
        case zy =>
         refine' pt_not ?zbb
         case zbb =>
          refine' PW.pt ?zbc
          case zbc =>
           refine' pw_and ?zbd ?zbe
           case zbd => exact (pt_val (pe_fn Cis_whole (hr.mono (by first | decide | omega)) (by rfl) (pa_consN (pv 1) pa_nil)))
           case zbe =>
            refine' pw_and ?zbf ?zbg
            case zbf => exact (pt_val (pe_fn Cis_whole (hr.mono (by first | decide | omega)) (by rfl) (pa_consN (pv 2) pa_nil)))
            case zbg =>
             refine' pw_and1 ?zbh
             case zbh =>
              refine' pt_val ?zbi
              case zbi =>
               refine' pe_callB ?zbj ?zbk ?zbl ?zbm ?zbn
               case zbj => exact call_isi
               case zbk => exact (by rfl)
               case zbl => exact B.b_isinstance
               case zbm => exact bt_isinstance
               case zbn => exact (pa_consN (pv 3) (pa_consN (pe_bltn (v := .ty "list") (by rfl) B.b_list bt_list rfl) pa_nil))
        case zz => exact (pss_one (ps_ret pe_bl))
        case zba => exact pss_nil
       case zx =>
        refine' pss_one ?zbo
        case zbo =>
         refine' ps_ret ?zbp
         case zbp =>
          refine' pe_and ?zbq ?zbr
          case zbq => exact (pe_chain op_le op_le pe_int (pv 2) (pe_cint (by rfl) G.c_MOST_BOXES))
          case zbr =>
           refine' pe_and ?zbs ?zbt
           case zbs =>
            refine' pe_chain ?zbu ?zbv ?zbw ?zbx ?zby
            case zbu => exact op_le
            case zbv => exact op_le
            case zbw => exact pe_int
            case zbx => exact (pv 1)
            case zby => exact (pe_callB (call_min' rfl) (by rfl) B.b_min bt_min (pa_consN (pe_cint (by rfl) G.c_MOST_TAKES) (pa_consN (pv 2) pa_nil)))
           case zbt =>
            refine' pe_one ?zbz
            case zbz => exact (pe_chain op_le op_le pe_int (pe_callB (k_len (K := K) rfl) (by rfl) B.b_len bt_len (pa_consN (pv 3) pa_nil)) (pe_cint (by rfl) G.c_MOST_ROWS))
  walk_at "rd"
  refine rd_isi (t := "tuple") (by simp [tyN, ht]) (by simp) (rd_bl (iteT ?_))
  walk_at "rd"
  refine rd_lenT' (SqT.of ht) ?_
  walk_at "rd"
  refine iteNS rfl ?_
  walk_at "rd"
  refine rd_ixaT ht rfl ?_
  walk_at "rd"
  refine rd_ixaT ht rfl ?_
  walk_at "rd"
  refine rd_ixaT ht rfl ?_
  walk_at "rd"
  refine use1 ⟨"int", rfl, ?_⟩
  rw [isw_int]
  walk_at "rd"
  refine use1 ⟨"int", rfl, ?_⟩
  rw [isw_int]
  walk_at "rd"
  refine rd_isi (t := "list") (by simp [tyN, hq]) (by simp) (rd_bl (iteNT ?_))
  simp only [headFits] at k
  rw [hyl] at k
  walk_at "rd"
  refine ite_dd (fun h1 => ?_) (fun h1 => ?_)
  · walk_at "rd"
    simp only [decide_eq_true h1, Bool.true_and] at k
    refine ite_dd (fun h2 => ?_) (fun h2 => ?_)
    · walk_at "rd"
      simp only [decide_eq_true h2, Bool.true_and] at k
      refine ite_dd (fun h3 => ?_) (fun h3 => ?_)
      · walk_at "rd"
        simp only [decide_eq_true h3, Bool.true_and] at k
        refine ite_dd (fun h4 => ?_) (fun h4 => ?_)
        · walk_at "rd"
          refine rd_lenL' (SqL.of hq) ?_
          simp only [decide_eq_true h4, Bool.true_and] at k
          walk_at "rd"
          refine ite_dd (fun h5 => ?_) (fun h5 => ?_)
          · walk_at "rd"
            simpa [h5] using k
          · simpa [h5] using k
        · simpa [h4] using k
      · walk_at "rd"
        simpa [h3] using k
    · simpa [h2] using k
  · walk_at "rd"
    simpa [h1] using k
def formedB (ds : List PDef) : Bool := (decide (1 ≤ (ds.length : Int)) && decide ((ds.length : Int) ≤ 6)) && (ds.all headFits && (decide ((ds.map (·.1)).headD 0 = 0) && ds.all (defFits ds)))
def sp_formed : Sp := sp1 fun x H Q => ∃ p vs ds, x = .ref p ∧ H p = some (.lst vs) ∧ DefsAt [] H ds vs ∧ PgD ds ∧ ∀ H', Same H H' → Q (.bl (formedB ds)) H'
theorem sc_formed : FnScope ["program"] ["program"] (defScope s_formed) := ⟨rfl, rfl, rfl, by decide +kernel, rfl, by decide +kernel, by decide +kernel⟩
theorem c_formed (B : Blt mg) (G : Glb K w mg) (T_formed : TopFn K mg "formed" s_formed ["program"]) (Chead_fits : Callee P w K mg base "head_fits" 2 ["one"] sp_head) (Crows_fit : Callee P w K mg base "rows_fit" 5 ["program", "f"] sp_rows_fit) : Callee P w K mg base "formed" 6 ["program"] sp_formed := by
  refine T_formed.ok1 sc_formed fun f cdv A outer s H v1 Q E hr h => ?_
  have nd := sc_formed.nd
  obtain ⟨p, vs, ds, rfl, hp, D0, PD, k⟩ := h
  have hlv := D0.length
  have hl := PD.len
  refine' go_body [some (.ref p)] rfl ?hb ?hg
  case hb =>
   refine' pss_cons ?zca ?zcb
   case zca =>
    refine' ps_if ?zcc ?zcd ?zce
    case zcc =>
     refine' pt_not ?zcf
     case zcf =>
      refine' PW.pt ?zcg
      case zcg =>
       refine' pw_and ?zch ?zci
       case zch =>
        refine' pt_val ?zcj
        case zcj =>
         refine' pe_callB ?zck ?zcl ?zcm ?zcn ?zco
         case zck => exact call_isi
         case zcl => exact (by rfl)
         case zcm => exact B.b_isinstance
         case zcn => exact bt_isinstance
         case zco => exact (pa_consN (pv 0) (pa_consN (pe_bltn (v := .ty "list") (by rfl) B.b_list bt_list rfl) pa_nil))
       case zci =>
        refine' pw_and1 ?zcp
        case zcp => exact (pt_chain op_le op_le pe_int (pe_callB (k_len (K := K) rfl) (by rfl) B.b_len bt_len (pa_consN (pv 0) pa_nil)) (pe_cint (by rfl) G.c_MOST_DEFS))
    case zcd => exact (pss_one (ps_ret pe_bl))
    case zce => exact pss_nil
   case zcb =>
    refine' pss_cons ?zcq ?zcr
    case zcq =>
     refine' ps_if ?zcs ?zct ?zcu
     case zcs =>
      refine' pt_not ?zcv
      case zcv =>
       refine' pt_val ?zcw
       case zcw =>
        refine' pe_callB ?zcx ?zcy ?zcz ?zda ?zdb
        case zcx => exact (k_all (K := K) rfl rfl)
        case zcy => exact (by rfl)
        case zcz => exact B.b_all
        case zda => exact bt_all
        case zdb =>
         refine' pa_consM ?zdc ?zdd
         case zdc =>
          refine' pe_comp (LN := ["one"]) (FN := []) (fr := []) ?zde ?zdf ?zdg ?zdh ?zdi ?zdj
          case zde => exact rfl
          case zdf => exact (bk_of (by rfl))
          case zdg => exact (k_pi_list (K := K) rfl (pv 0))
          case zdh =>
           intro cl C fp pins s H
           exact (pg_name (i := 0) (show ((["one"] : List Str) ++ ([] : List Str)).Nodup by decide +kernel) rfl (Or.inl rfl))
          case zdi =>
           intro cl C fp pins s H
           exact pts_nil
          case zdj =>
           intro cl C fp pins s H
           exact (pe_fn Chead_fits (hr.mono (by first | decide | omega)) (by rfl) (pa_consN (pv 0) pa_nil))
         case zdd => exact pa_nil
     case zct => exact (pss_one (ps_ret pe_bl))
     case zcu => exact pss_nil
    case zcr =>
     refine' pss_cons ?zdk ?zdl
     case zdk =>
      refine' ps_if ?zdm ?zdn ?zdo
      case zdm => exact (pt_cmpR op_ne (pe_ix (k_ix (K := K) rfl) (pe_ix (k_ix (K := K) rfl) (pv 0) pe_int (fun _ _ => rfl)) pe_int (fun _ _ => rfl)) pe_int (nomark _))
      case zdn => exact (pss_one (ps_ret pe_bl))
      case zdo => exact pss_nil
     case zdl =>
      refine' pss_one ?zdp
      case zdp =>
       refine' ps_ret ?zdq
       case zdq =>
        refine' pe_callB ?zdr ?zds ?zdt ?zdu ?zdv
        case zdr => exact (k_all (K := K) rfl rfl)
        case zds => exact (by rfl)
        case zdt => exact B.b_all
        case zdu => exact bt_all
        case zdv =>
         refine' pa_consM ?zdw ?zdx
         case zdw =>
          refine' pe_comp (LN := ["f"]) (FN := ["program"]) (fr := [0]) ?zdy ?zdz ?zea ?zeb ?zec ?zed
          case zdy => exact rfl
          case zdz => exact (bk_of (by rfl))
          case zea => exact (pi_range1 rfl B.b_range (pa_consC (pe_callB (k_len (K := K) rfl) (by rfl) B.b_len bt_len (pa_consN (pv 0) pa_nil)) pa_nil))
          case zeb =>
           intro cl C fp pins s H
           exact (pg_name (i := 0) (show ((["f"] : List Str) ++ (["program"] : List Str)).Nodup by decide +kernel) rfl (Or.inl rfl))
          case zec =>
           intro cl C fp pins s H
           exact pts_nil
          case zed =>
           intro cl C fp pins s H
           exact (pe_fn Crows_fit (hr.mono (by first | decide | omega)) (by rfl) (pa_consN (pv 1) (pa_consN (pv 0) pa_nil)))
         case zdx => exact pa_nil
  walk_at "rd"
  refine rd_isi (t := "list") (by simp [tyN, hp]) (by simp) (rd_bl (iteT ?_))
  walk_at "rd"
  refine rd_lenL' (SqL.of hp) ?_
  walk_at "rd"
  rw [← hlv]
  simp only [formedB] at k
  refine ite_dd (fun h1 => ?_) (fun h1 => ?_)
  · simp only [decide_eq_true h1, Bool.true_and] at k
    walk_at "rd"
    refine ite_nd (fun h2 => ?_) (fun h2 => ?_)
    · walk_at "rd"
      simpa [h2] using k H (Same.refl _)
    · simp only [decide_eq_true h2, Bool.true_and] at k
      walk_at "rd"
      refine ilK_of (SqL.of hp) ?_
      refine cw_list (xs := vs) (small_le' (by omega)) (fun i zs σ Hy => (∃ x1, σ = [x1]) ∧ Hy = H ∧ zs = ((ds.take i).map headFits).map V.bl) ⟨⟨none, rfl⟩, rfl, rfl⟩ (fun i zs σ Hy _ ⟨_, e, _⟩ => by rw [e]; exact SqL.of hp) ?_ ?_
      · rintro i x zs σ Hy hx hle hlt ⟨⟨x1, rfl⟩, rfl, rfl⟩
        obtain ⟨d, ed, DA⟩ := D0.get hx
        walk_at "rd"
        refine use1 ⟨d, DA, PD.rows d (List.mem_of_getElem? ed), ?_⟩
        refine ⟨hlt, by simpa using hle, ⟨_, rfl⟩, rfl, ?_⟩
        rw [List.take_add_one, ed]
        simp
      · rintro zs σ Hy hzl ⟨⟨x1, rfl⟩, eH, rfl⟩ pa hpa
        subst eH
        rw [← hlv, List.take_length]
        have s3 := Same.new (o := .lst ((ds.map headFits).map V.bl)) hpa
        have e3 : upd Hy pa (.lst ((ds.map headFits).map V.bl)) pa = some (.lst ((ds.map headFits).map V.bl)) := upd_same
        generalize upd Hy pa (.lst ((ds.map headFits).map V.bl)) = H3 at s3 e3
        walk_at "rd"
        refine ⟨pa, ds.map headFits, rfl, SqL.of e3, ?_⟩
        have ez : (ds.map headFits).all id = ds.all headFits := by simp [List.all_map]
        rw [ez]
        refine ⟨_, rfl, ?_⟩
        cases hz : ds.all headFits with
        | false =>
          walk_at "rd"
          simpa [hz] using k H3 s3
        | true =>
          simp only [hz, Bool.true_and] at k
          walk_at "rd"
          have h0 : 0 < ds.length := by omega
          obtain ⟨d0, ed0, t0, q0, ys0, ev0, hat0, _⟩ := D0.get (i := 0) (v := vs[0]'(by omega)) (List.getElem?_eq_getElem (by omega))
          have ev : vs[0]? = some (.ref t0) := by rw [List.getElem?_eq_getElem (by omega), ev0]
          refine rd_ixaL (s3 _ _ hp) (atI_at (n := 0) rfl ev) ?_
          walk_at "rd"
          refine rd_ixaT (s3 _ _ hat0) rfl ?_
          have eh : (ds.map (·.1)).headD 0 = d0.1 := by
            cases ds with
            | nil => simp at h0
            | cons d ds => simp at ed0; subst ed0; rfl
          rw [eh] at k
          walk_at "rd"
          refine ite_nd (fun h4 => ?_) (fun h4 => ?_)
          · walk_at "rd"
            simpa [h4] using k H3 s3
          · simp only [decide_eq_true h4, Bool.true_and] at k
            walk_at "rd"
            refine rd_lenL' (SqL.of (s3 _ _ hp)) ?_
            walk_at "rd"
            refine irK_of (by omega) (by omega) ?_
            rw [← hlv]
            refine cw_range (n := (ds.length : Int).toNat) (small_le' (by omega)) (fun i zs σ Hz => (∃ x1, σ = [x1, some (.ref p)]) ∧ Same H3 Hz ∧ zs = ((ds.take i).map (defFits ds)).map V.bl) ⟨⟨none, rfl⟩, Same.refl _, rfl⟩ ?_ ?_
            · rintro i zs σ Hz hi hle hlt ⟨⟨x1, rfl⟩, s4, rfl⟩
              have hi' : i < ds.length := by omega
              have s04 := s3.trans s4
              walk_at "rd"
              rw [show (0 : Int) + (i : Int) = (i : Int) by omega]
              refine use2 ⟨p, vs, ds, i, ds[i], rfl, rfl, s04 _ _ hp, D0.mono s04, PD, List.getElem?_eq_getElem hi', headFits_ne (List.all_eq_true.mp hz _ (List.getElem_mem hi')), fun H5 s5 => ?_⟩
              refine ⟨hlt, by simpa using hle, ⟨_, rfl⟩, s4.trans s5, ?_⟩
              rw [List.take_add_one, List.getElem?_eq_getElem hi', List.map_append, List.map_append]
              rfl
            · rintro zs σ Hz hzl ⟨⟨x1, rfl⟩, s4, rfl⟩ pb hpb
              rw [show (ds.length : Int).toNat = ds.length by omega, List.take_length]
              have s5 := Same.new (o := .lst ((ds.map (defFits ds)).map V.bl)) hpb
              walk_at "rd"
              refine ⟨pb, ds.map (defFits ds), rfl, SqL.of upd_same, ?_⟩
              have ez : (ds.map (defFits ds)).all id = ds.all (defFits ds) := by simp [List.all_map]
              rw [ez]
              exact k _ ((s3.trans s4).trans s5)
  · walk_at "rd"
    simpa [h1] using k H (Same.refl _)

end
end My

end
section
set_option Elab.async false
set_option linter.all false
set_option maxRecDepth 100000
set_option maxHeartbeats 4000000

namespace My
open PySem L2
local macro_rules | `(tactic| walk_at "rd1") => `(tactic| (first | ((with_reducible refine' rd_var ?e ?_); (case e => exact rfl)) | with_reducible refine rd_c ?_ | with_reducible refine rd_op ?_ | with_reducible refine rd_un ?_ | with_reducible refine rd_seq ?_ | with_reducible refine rd_asg ?_ | with_reducible refine rd_gname ?_ | with_reducible refine rd_ret ?_ | with_reducible refine rd_drop ?_ | with_reducible refine rd_next ?_ | with_reducible refine rd_if ?_ | with_reducible refine rd_test ?_ | with_reducible refine rd_tb ?_ | with_reducible refine rd_and ?_ | with_reducible refine rd_or ?_ | with_reducible refine rd_not ?_ | with_reducible refine rd_true ?_ | with_reducible refine rd_andV ?_ | with_reducible refine rd_orV ?_ | with_reducible refine rd_notV ?_ | with_reducible refine rd_ifE ?_ | with_reducible refine rd_chain ?_ | with_reducible refine rd_nil ?_ | with_reducible refine rd_cons ?_ | with_reducible refine rd_cb ?_ | with_reducible refine rd_call ?_ | with_reducible refine rd_I0 ?_ | with_reducible refine rd_U ?_ | with_reducible refine rd_eqI ?_ | with_reducible refine rd_neI ?_ | with_reducible refine rd_eqS ?_ | with_reducible refine rd_neS ?_ | with_reducible refine rd_eqB ?_ | with_reducible refine rd_neB ?_ | with_reducible refine rd_bl ?_ | with_reducible refine rd_int ?_ | with_reducible refine rd_tup ?_ | with_reducible refine rd_lst ?_ | with_reducible refine rd_gsub ?_ | with_reducible refine rd_slice ?_ | with_reducible refine rd_nopart ?_ | with_reducible refine rd_part ?_ | with_reducible refine rd_bm ?_ | with_reducible refine rd_bm0 ?_ | with_reducible refine rd_comp ?_ | with_reducible refine rd_itup ?_ | with_reducible refine rd_ilist ?_ | with_reducible refine rd_irng ?_ | with_reducible refine rd_gcons ?_ | with_reducible refine rd_gnil ?_ | with_reducible refine rd_for ?_ | with_reducible refine rd_abs ?_ | with_reducible refine rd_max ?_ | with_reducible refine rd_min ?_ | with_reducible refine rd_intB ?_ | with_reducible refine rd_dput ?_ | with_reducible refine rd_dget2 ?_ | with_reducible refine rd_dget ?_ | with_reducible refine rd_fld ?_ | with_reducible refine rd_sfld ?_ | with_reducible refine rd_meth ?_ | with_reducible refine rd_make ?_ | with_reducible refine rd_isN ?_ | with_reducible refine rd_notN ?_ | with_reducible refine rd_izip ?_ | with_reducible refine rd_izipT ?_ | with_reducible refine rd_pcons ?_ | with_reducible refine rd_pnil ?_ | with_reducible refine rd_dget1 ?_ | with_reducible refine rd_cdget ?_ | with_reducible refine iteNT ?_ | with_reducible refine iteNF ?_ | with_reducible refine iteF ?_ | with_reducible refine iteT ?_))
local macro_rules | `(tactic| walk_at "rd") => `(tactic| (repeat walk_at "rd1"))
local macro_rules | `(tactic| walk_at "mk") => `(tactic| refine ⟨mk_le rfl, ?_⟩)

section
variable {P : Program} {w : World} {K : PySem.W.Frag} {mg : Str → Option Value} {base : Heap}
def kindOf (c : Str) : Str := if c = "p" then "box" else if c = "i" then "number" else if c = "c" then "factor" else if c = "t" then "row" else if c = "f" then "def" else "boxes"
def ltrs : List Str := ["p", "i", "c", "t", "f", "q"]
def lowKV (n : Int) : List (Key × V) := [(.inr "c", .int (-99)), (.inr "i", .int n)]
def lowOf (c : Str) (n : Int) : Int := if c = "c" then -99 else if c = "i" then n else 0
def highKV (bx rw df n : Int) : List (Key × V) := [(.inr "p", .int (bx - 1)), (.inr "t", .int (rw - 1)), (.inr "f", .int (df - 1)), (.inr "c", .int 99), (.inr "i", .int n)]
def highOf (bx rw df : Int) (c : Str) (n : Int) : Int := if c = "p" then bx - 1 else if c = "t" then rw - 1 else if c = "f" then df - 1 else if c = "c" then 99 else n
theorem low_get {c : Str} {n : Int} (h : c ∈ ltrs) : (valV (lowKV n) (Sum.inr c : Key)).getD (.int 0) = .int (lowOf c n) := by
  simp only [ltrs, List.mem_cons, List.not_mem_nil, or_false] at h
  rcases h with rfl | rfl | rfl | rfl | rfl | rfl <;> with_unfolding_all rfl
theorem high_get {bx rw df : Int} {c : Str} {n : Int} (h : c ∈ ltrs) (nq : c ≠ "q") : valV (highKV bx rw df n) (Sum.inr c : Key) = some (.int (highOf bx rw df c n)) := by
  simp only [ltrs, List.mem_cons, List.not_mem_nil, or_false] at h
  rcases h with rfl | rfl | rfl | rfl | rfl | rfl
  all_goals first | exact absurd rfl nq | with_unfolding_all rfl
theorem fits_int {bx rw df : Int} {c : Str} {n : Int} (h : c ∈ ltrs) (nq : c ≠ "q") : partFits bx rw df (kindOf c) (.int n) = (decide (lowOf c n ≤ n) && decide (n ≤ highOf bx rw df c n)) := by
  simp only [ltrs, List.mem_cons, List.not_mem_nil, or_false] at h
  have e1 : ∀ a : Int, decide (n ≤ a - 1) = decide (n < a) := fun a => by rw [Bool.eq_iff_iff]; simp; omega
  rcases h with rfl | rfl | rfl | rfl | rfl | rfl
  · rw [show kindOf "p" = "box" by decide +kernel, show lowOf "p" n = 0 by with_unfolding_all rfl, show highOf bx rw df "p" n = bx - 1 by with_unfolding_all rfl, e1]; with_unfolding_all rfl
  · rw [show kindOf "i" = "number" by decide +kernel, show lowOf "i" n = n by with_unfolding_all rfl, show highOf bx rw df "i" n = n by with_unfolding_all rfl]; simp; with_unfolding_all rfl
  · rw [show kindOf "c" = "factor" by decide +kernel]; with_unfolding_all rfl
  · rw [show kindOf "t" = "row" by decide +kernel, show lowOf "t" n = 0 by with_unfolding_all rfl, show highOf bx rw df "t" n = rw - 1 by with_unfolding_all rfl, e1]; with_unfolding_all rfl
  · rw [show kindOf "f" = "def" by decide +kernel, show lowOf "f" n = 0 by with_unfolding_all rfl, show highOf bx rw df "f" n = df - 1 by with_unfolding_all rfl, e1]; with_unfolding_all rfl
  · exact absurd rfl nq
theorem kind_q {c : Str} (h : c ∈ ltrs) : kindOf c = "boxes" ↔ c = "q" := by
  simp only [ltrs, List.mem_cons, List.not_mem_nil, or_false] at h
  rcases h with rfl | rfl | rfl | rfl | rfl | rfl <;> decide +kernel
theorem ints_of : ∀ {ds : List D}, (∀ d ∈ ds, ∃ n, d = .int n) → ∃ ns : List Int, ds = ns.map D.int
  | [], _ => ⟨[], rfl⟩
  | d :: ds, h => by
    obtain ⟨n, rfl⟩ := h d List.mem_cons_self
    obtain ⟨ns, rfl⟩ := ints_of fun d hd => h d (List.mem_cons_of_mem _ hd)
    exact ⟨n :: ns, rfl⟩
def badQ (bx : Int) (ns : List Int) : List Int := ns.filter fun q => decide (q < 0) || decide (bx ≤ q)
theorem box_fits {bx rw df n : Int} : boxFits bx rw df (.int n) = (decide (0 ≤ n) && decide (n < bx)) := by with_unfolding_all rfl
theorem bad_fits {bx rw df : Int} {ns : List Int} : partFits bx rw df "boxes" (.tup (ns.map D.int)) = decide (badQ bx ns = []) := by
  rw [Bool.eq_iff_iff]
  simp only [partFits, decide_true, Bool.true_and, List.all_eq_true, decide_eq_true_eq, badQ, List.filter_eq_nil_iff, List.mem_map]
  constructor
  · intro h n hn
    have := h _ ⟨n, hn, rfl⟩
    rw [box_fits] at this
    simp at this ⊢
    omega
  · rintro h d ⟨n, hn, rfl⟩
    have := h n hn
    rw [box_fits]
    simp at this ⊢
    omega
theorem low_nd {n : Int} : ((lowKV n).map (·.1)).Nodup := by
  show [(Sum.inr "c" : Key), Sum.inr "i"].Nodup
  decide +kernel
theorem high_nd {bx rw df n : Int} : ((highKV bx rw df n).map (·.1)).Nodup := by
  show [(Sum.inr "p" : Key), Sum.inr "t", Sum.inr "f", Sum.inr "c", Sum.inr "i"].Nodup
  decide +kernel
def sp_part_good : Sp := sp4 fun x1 x2 x3 x4 H Q => ∃ p vs t tk bx q ys c d, x1 = .ref p ∧ x2 = .ref t ∧ x3 = .str c ∧ H p = some (.lst vs) ∧ H t = some (.tup [.int tk, .int bx, .ref q]) ∧ H q = some (.lst ys) ∧ c ∈ ltrs ∧ Rep H d x4 ∧ PartD 1 d ∧ ∀ H', Same H H' → Q (.bl (partFits bx ys.length vs.length (kindOf c) d)) H'
theorem sc__law_part_good : FnScope ["program", "one", "letter", "part", "low", "high"] ["program", "one", "letter", "part"] (defScope s__law_part_good) := ⟨rfl, rfl, rfl, by decide +kernel, rfl, by decide +kernel, by decide +kernel⟩
theorem c__law_part_good (B : Blt mg) (T__law_part_good : TopFn K mg "_law_part_good" s__law_part_good ["program", "one", "letter", "part"]) : Callee P w K mg base "_law_part_good" 1 ["program", "one", "letter", "part"] sp_part_good := by
  refine T__law_part_good.ok4 sc__law_part_good fun f cdv A outer s H v1 v2 v3 v4 Q E hr h => ?_
  have nd := sc__law_part_good.nd
  have hu := hr.units
  have hu1 := hu_of hr
  obtain ⟨p, vs, t, tk, bx, q, ys, c, d, rfl, rfl, rfl, hp, ht, hq, hc, rd, pd, k⟩ := h
  refine' go_body [some (.ref p), some (.ref t), some (.str c), some v4, none, none] rfl ?hb ?hg
  case hb =>
   refine' pss_cons ?zb ?zc
   case zb =>
    refine' ps_if ?zd ?ze ?zf
    case zd => exact (pt_cmpR op_eq (pv 2) pe_str (nomark _))
    case ze =>
     refine' pss_one ?zg
     case zg =>
      refine' ps_ret ?zh
      case zh =>
       refine' pe_and ?zi ?zj
       case zi =>
        refine' pe_callB ?zk ?zl ?zm ?zn ?zo
        case zk => exact call_isi
        case zl => exact (by rfl)
        case zm => exact B.b_isinstance
        case zn => exact bt_isinstance
        case zo => exact (pa_consN (pv 3) (pa_consN (pe_bltn (v := .ty "tuple") (by rfl) B.b_tuple bt_tuple rfl) pa_nil))
       case zj =>
        refine' pe_one ?zp
        case zp =>
         refine' pe_cmpR ?zq ?zr ?zs ?zt
         case zq => exact (k_eqL (K := K) rfl hu)
         case zr =>
          refine' pe_comp (LN := ["q"]) (FN := ["one"]) (fr := [1]) ?zu ?zv ?zw ?zx ?zy ?zz
          case zu => exact rfl
          case zv => exact (bk_of (by rfl))
          case zw => exact (k_pi_tup (K := K) rfl (pv 3))
          case zx =>
           intro cl C fp pins s H
           exact (pg_name (i := 0) (show ((["q"] : List Str) ++ (["one"] : List Str)).Nodup by decide +kernel) rfl (Or.inl rfl))
          case zy =>
           intro cl C fp pins s H
           refine' pts_one ?zba
           case zba =>
            refine' PW.pt ?zbb
            case zbb => exact (pw_or (pt_cmpR op_lt (pv 0) pe_int (nomark _)) (pw_or1 (pt_cmpR op_ge (pv 0) (pe_ix (k_ix (K := K) rfl) (pv 1) pe_int (fun _ _ => rfl)) (nomark _))))
          case zz =>
           intro cl C fp pins s H
           exact (pv 0)
         case zs => exact (pe_lst pa_nil)
         case zt => exact (nomark _)
    case zf => exact pss_nil
   case zc =>
    refine' pss_cons ?zbc ?zbd
    case zbc =>
     refine' ps_if ?zbe ?zbf ?zbg
     case zbe =>
      refine' pt_val ?zbh
      case zbh =>
       refine' pe_callB ?zbi ?zbj ?zbk ?zbl ?zbm
       case zbi => exact call_isi
       case zbj => exact (by rfl)
       case zbk => exact B.b_isinstance
       case zbl => exact bt_isinstance
       case zbm => exact (pa_consN (pv 3) (pa_consN (pe_bltn (v := .ty "tuple") (by rfl) B.b_tuple bt_tuple rfl) pa_nil))
     case zbf => exact (pss_one (ps_ret pe_bl))
     case zbg => exact pss_nil
    case zbd =>
     refine' pss_cons ?zbn ?zbo
     case zbn =>
      refine' ps_setC (i := 4) ?zbp ?zbq ?zbr ?zbs
      case zbp => exact nd
      case zbq => exact rfl
      case zbr => exact (Or.inl rfl)
      case zbs =>
       refine' pe_dget2 ?zbt ?zbu ?zbv ?zbw ?zbx
       case zbt => exact hu1
       case zbu => exact (pe_disp (pps_cons pe_str (pe_un un_neg pe_int) (pps_cons pe_str (pv 3) pps_nil)) rfl rfl (List.cons_ne_nil _ _) (Nat.le_of_ble_eq_true rfl))
       case zbv => exact (pv 2)
       case zbw => exact pe_int
       case zbx => exact (M2.mk rfl rfl rfl rfl)
     case zbo =>
      refine' pss_cons ?zby ?zbz
      case zby =>
       refine' ps_setS (i := 5) ?zca ?zcb ?zcc ?zcd
       case zca => exact nd
       case zcb => exact rfl
       case zcc => exact (Or.inl rfl)
       case zcd =>
        refine' pe_dget ?zce ?zcf ?zcg ?zch
        case zce => exact hu1
        case zcf =>
         refine' pe_disp ?zci ?zcj ?zck ?zcl ?zcm
         case zci =>
          refine' pps_cons ?zcn ?zco ?zcp
          case zcn => exact pe_str
          case zco => exact (pe_op op_sub (pe_ix (k_ix (K := K) rfl) (pv 1) pe_int (fun _ _ => rfl)) pe_int)
          case zcp =>
           refine' pps_cons ?zcq ?zcr ?zcs
           case zcq => exact pe_str
           case zcr =>
            refine' pe_op ?zct ?zcu ?zcv
            case zct => exact op_sub
            case zcu => exact (pe_callB (k_len (K := K) rfl) (by rfl) B.b_len bt_len (pa_consS (pe_ix (k_ix (K := K) rfl) (pv 1) pe_int (fun _ _ => rfl)) pa_nil))
            case zcv => exact pe_int
           case zcs =>
            refine' pps_cons ?zcw ?zcx ?zcy
            case zcw => exact pe_str
            case zcx => exact (pe_op op_sub (pe_callB (k_len (K := K) rfl) (by rfl) B.b_len bt_len (pa_consN (pv 0) pa_nil)) pe_int)
            case zcy => exact (pps_cons pe_str pe_int (pps_cons pe_str (pv 3) pps_nil))
         case zcj => exact rfl
         case zck => exact rfl
         case zcl => exact (List.cons_ne_nil _ _)
         case zcm => exact (Nat.le_of_ble_eq_true rfl)
        case zcg => exact (pv 2)
        case zch => exact (fun _ _ => rfl)
      case zbz => exact (pss_one (ps_ret (pe_and (pe_cmpR op_le (pv 4) (pv 3) (nomark _)) (pe_one (pe_cmpR op_le (pv 3) (pv 5) (nomark _))))))
  walk_at "rd"
  refine ite_dd (fun e => ?_) (fun nq => ?_)
  · have ek : kindOf c = "boxes" := (kind_q hc).mpr e
    rw [ek] at k
    walk_at "rd"
    cases d with
    | non => simp [PartD] at pd
    | bl _ => simp [PartD] at pd
    | str _ => simp [PartD] at pd
    | int n =>
      obtain rfl := rep_int_inv rd
      refine rd_isi rfl (by simp) ⟨_, rfl, iteF ?_⟩
      simpa [partFits] using k H (Same.refl _)
    | tup ds =>
      obtain ⟨hl, hd⟩ := pd
      obtain ⟨ns, rfl⟩ := ints_of hd
      rw [List.length_map] at hl
      refine rd_isi (tyN_rep rd) (by simp) ⟨_, rfl, iteT ?_⟩
      walk_at "rd"
      refine itK_rep rd fun a xs e ha rx => ?_
      have hlen := rx.length
      rw [List.length_map] at hlen
      refine cw_tup (xs := xs) (small_le' (by omega)) (fun i ys σ H1 => (∃ x1, σ = [x1, some (.ref t)]) ∧ H1 = H ∧ ys = (badQ bx (ns.take i)).map V.int) ⟨⟨none, rfl⟩, rfl, rfl⟩ (fun i ys σ H1 _ ⟨_, e, _⟩ => by rw [e]; exact SqT.of ha) ?_ ?_
      · rintro i x ys σ H1 hx hle hlt ⟨⟨x1, rfl⟩, rfl, rfl⟩
        obtain ⟨d, ed, rd'⟩ := rx.get' hx
        rw [List.getElem?_map] at ed
        obtain ⟨n, en, rfl⟩ := Option.map_eq_some_iff.mp ed
        obtain rfl := rep_int_inv rd'
        have et : badQ bx (ns.take (i + 1)) = badQ bx (ns.take i) ++ badQ bx [n] := by
          rw [List.take_add_one, en]; simp [badQ]
        have yes : n < 0 ∨ bx ≤ n → badQ bx [n] = [n] := fun h => by simp [badQ]; omega
        have no : ¬ n < 0 → ¬ bx ≤ n → badQ bx [n] = [] := fun h h' => by simp [badQ]; omega
        walk_at "rd"
        refine ite_dd (fun h1 => ?_) (fun h1 => ?_)
        · walk_at "rd"
          refine ⟨hlt, by simpa using hle, ⟨_, rfl⟩, rfl, ?_⟩
          rw [et, yes (.inl h1)]; simp
        · walk_at "rd"
          refine rd_ixaT ht rfl ?_
          walk_at "rd"
          refine ite_dd (fun h2 => ?_) (fun h2 => ?_)
          · walk_at "rd"
            refine ⟨hlt, by simpa using hle, ⟨_, rfl⟩, rfl, ?_⟩
            rw [et, yes (.inr h2)]; simp
          · refine ⟨by simp at hle ⊢; omega, ⟨_, rfl⟩, rfl, ?_⟩
            rw [et, no h1 h2]; simp
      · rintro ys σ H1 hyl ⟨⟨x1, rfl⟩, eH, rfl⟩ pa hpa
        subst eH
        rw [← hlen, List.take_length]
        have s3 := Same.new (o := .lst ((badQ bx ns).map V.int)) hpa
        have e3 : upd H1 pa (.lst ((badQ bx ns).map V.int)) pa = some (.lst ((badQ bx ns).map V.int)) := upd_same
        generalize upd H1 pa (.lst ((badQ bx ns).map V.int)) = H3 at s3 e3
        walk_at "rd"
        walk_at "mk"; intro p4 hp4
        have s4 := Same.new (o := .lst []) hp4
        refine rd_eqLI (ns := badQ bx ns) (ms := []) (SqL.of (s4 _ _ e3)) (SqL.of upd_same) ?_
        have k := k _ (s3.trans s4)
        rw [bad_fits] at k
        exact k
  · have nk : ¬ kindOf c = "boxes" := fun z => nq ((kind_q hc).mp z)
    walk_at "rd"
    cases d with
    | non => simp [PartD] at pd
    | bl _ => simp [PartD] at pd
    | str _ => simp [PartD] at pd
    | tup ds =>
      refine rd_isi (tyN_rep rd) (by simp) (rd_bl (iteT ?_))
      walk_at "rd"
      simpa [partFits, nk] using k H (Same.refl _)
    | int n =>
      obtain rfl := rep_int_inv rd
      rw [fits_int hc nq] at k
      refine rd_isi rfl (by simp) (rd_bl (iteF ?_))
      walk_at "rd"
      refine rd_dispG fun p1 hp1 => ?_
      have s1 := Same.new (o := .dK []) hp1
      walk_at "rd"
      refine disp_of (lowKV n) rfl upd_same low_nd (by show 2 ≤ 15; decide) ?_
      rw [upd_upd]
      have s2 := Same.new (o := .dK (lowKV n)) hp1
      have e2 : upd H p1 (.dK (lowKV n)) p1 = some (.dK (lowKV n)) := upd_same
      generalize upd H p1 (.dK (lowKV n)) = H2 at s2 e2
      refine ⟨p1, rfl, .inl ⟨_, .inl e2⟩, ?_⟩
      walk_at "rd"
      refine ⟨_, .inl ⟨_, Sum.inr c, .inl e2, rfl, rfl⟩, ?_⟩
      rw [low_get hc]
      walk_at "rd"
      refine rd_dispG fun p3 hp3 => ?_
      have s3 := Same.new (o := .dK []) hp3
      have s03 := s2.trans s3
      walk_at "rd"
      refine rd_ixaT (s03 _ _ ht) rfl ?_
      walk_at "rd"
      refine rd_ixaT (s03 _ _ ht) rfl ?_
      walk_at "rd"
      refine rd_lenL' (SqL.of (s03 _ _ hq)) ?_
      walk_at "rd"
      refine rd_lenL' (SqL.of (s03 _ _ hp)) ?_
      walk_at "rd"
      refine disp_of (highKV bx ys.length vs.length n) rfl upd_same high_nd (by show 5 ≤ 15; decide) ?_
      rw [upd_upd]
      have s4 := Same.new (o := .dK (highKV bx ys.length vs.length n)) hp3
      have e4 : upd H2 p3 (.dK (highKV bx ys.length vs.length n)) p3 = some (.dK (highKV bx ys.length vs.length n)) := upd_same
      generalize upd H2 p3 (.dK (highKV bx ys.length vs.length n)) = H4 at s4 e4
      have k := k H4 (s2.trans s4)
      walk_at "rd"
      refine ⟨p3, _, rfl, .inl ⟨_, Sum.inr c, .inl e4, rfl, (high_get hc nq).symm⟩, ?_⟩
      walk_at "rd"
      refine ite_dd (fun h1 => ?_) (fun h1 => ?_)
      · walk_at "rd"
        simpa [h1] using k
      · simpa [h1] using k

end
end My

end
section
set_option Elab.async false
set_option linter.all false
set_option maxRecDepth 100000
set_option maxHeartbeats 4000000

namespace My
open PySem L2
local macro_rules | `(tactic| walk_at "rd1") => `(tactic| (first | ((with_reducible refine' rd_var ?e ?_); (case e => exact rfl)) | with_reducible refine rd_c ?_ | with_reducible refine rd_op ?_ | with_reducible refine rd_un ?_ | with_reducible refine rd_seq ?_ | with_reducible refine rd_asg ?_ | with_reducible refine rd_gname ?_ | with_reducible refine rd_ret ?_ | with_reducible refine rd_drop ?_ | with_reducible refine rd_next ?_ | with_reducible refine rd_if ?_ | with_reducible refine rd_test ?_ | with_reducible refine rd_tb ?_ | with_reducible refine rd_and ?_ | with_reducible refine rd_or ?_ | with_reducible refine rd_not ?_ | with_reducible refine rd_true ?_ | with_reducible refine rd_andV ?_ | with_reducible refine rd_orV ?_ | with_reducible refine rd_notV ?_ | with_reducible refine rd_ifE ?_ | with_reducible refine rd_chain ?_ | with_reducible refine rd_nil ?_ | with_reducible refine rd_cons ?_ | with_reducible refine rd_cb ?_ | with_reducible refine rd_call ?_ | with_reducible refine rd_I0 ?_ | with_reducible refine rd_U ?_ | with_reducible refine rd_eqI ?_ | with_reducible refine rd_neI ?_ | with_reducible refine rd_eqS ?_ | with_reducible refine rd_neS ?_ | with_reducible refine rd_eqB ?_ | with_reducible refine rd_neB ?_ | with_reducible refine rd_bl ?_ | with_reducible refine rd_int ?_ | with_reducible refine rd_tup ?_ | with_reducible refine rd_lst ?_ | with_reducible refine rd_gsub ?_ | with_reducible refine rd_slice ?_ | with_reducible refine rd_nopart ?_ | with_reducible refine rd_part ?_ | with_reducible refine rd_bm ?_ | with_reducible refine rd_bm0 ?_ | with_reducible refine rd_comp ?_ | with_reducible refine rd_itup ?_ | with_reducible refine rd_ilist ?_ | with_reducible refine rd_irng ?_ | with_reducible refine rd_gcons ?_ | with_reducible refine rd_gnil ?_ | with_reducible refine rd_for ?_ | with_reducible refine rd_abs ?_ | with_reducible refine rd_max ?_ | with_reducible refine rd_min ?_ | with_reducible refine rd_intB ?_ | with_reducible refine rd_dput ?_ | with_reducible refine rd_dget2 ?_ | with_reducible refine rd_dget ?_ | with_reducible refine rd_fld ?_ | with_reducible refine rd_sfld ?_ | with_reducible refine rd_meth ?_ | with_reducible refine rd_make ?_ | with_reducible refine rd_isN ?_ | with_reducible refine rd_notN ?_ | with_reducible refine rd_izip ?_ | with_reducible refine rd_izipT ?_ | with_reducible refine rd_pcons ?_ | with_reducible refine rd_pnil ?_ | with_reducible refine rd_dget1 ?_ | with_reducible refine rd_cdget ?_ | with_reducible refine iteNT ?_ | with_reducible refine iteNF ?_ | with_reducible refine iteF ?_ | with_reducible refine iteT ?_))
local macro_rules | `(tactic| walk_at "rd") => `(tactic| (repeat walk_at "rd1"))
local macro_rules | `(tactic| walk_at "mk") => `(tactic| refine ⟨mk_le rfl, ?_⟩)

section
variable {P : Program} {w : World} {K : PySem.W.Frag} {mg : Str → Option Value} {base : Heap}
def sp_letters : Sp := sp0 fun H Q => ∀ p H', H p = none → H' p = some (.dK lettersKV) → Same H H' → Q (.ref p) H'
def kindsOf (ls : Str) : List Str := ls.cps.toList.map fun c => kindOf ⟨#[c]⟩
theorem parts_map : partsT = lettersL.map fun q => (q.1, kindsOf q.2) := by decide +kernel
theorem look_map {wd : Str} {f : Str → List Str} : ∀ (l : List (Str × Str)), (l.map fun q => (q.1, f q.2)).lookup wd = (l.lookup wd).map f
  | [] => rfl
  | q :: l => by
    rw [List.map_cons, List.lookup_cons, List.lookup_cons, look_map l]
    cases wd == q.1 <;> rfl
theorem val_map {wd : Str} : ∀ (l : List (Str × Str)), valV (l.map fun q => ((Sum.inr q.1 : Key), V.str q.2)) (Sum.inr wd) = (l.lookup wd).map V.str
  | [] => rfl
  | q :: l => by
    rw [List.lookup_cons, List.map_cons]
    by_cases e : wd = q.1
    · rw [beq_iff_eq.mpr e]
      subst e
      simp [valV]
    · have e1 : (wd == q.1) = false := by simpa using e
      rw [e1]
      have e2 : ¬ q.1 = wd := fun z => e z.symm
      have := val_map (wd := wd) l
      simpa [valV, e2] using this
theorem look_in {wd ls : Str} (h : lettersL.lookup wd = some ls) : (wd, ls) ∈ lettersL := by
  have : ∀ (l : List (Str × Str)), l.lookup wd = some ls → (wd, ls) ∈ l := by
    intro l
    induction l with
    | nil => intro h; cases h
    | cons q l ih =>
      intro h
      obtain ⟨a, b⟩ := q
      rw [List.lookup_cons] at h
      split at h
      · next e => cases h; rw [beq_iff_eq.mp e]; exact List.mem_cons_self
      · exact List.mem_cons_of_mem _ (ih h)
  exact this _ h
theorem ls_ltrs {wd ls : Str} (h : lettersL.lookup wd = some ls) : ∀ c ∈ ls.cps.toList, (⟨#[c]⟩ : Str) ∈ ltrs := by
  have hk : ∀ q ∈ lettersL, ∀ c ∈ q.2.cps.toList, (⟨#[c]⟩ : Str) ∈ ltrs := by decide +kernel
  exact hk _ (look_in h)
theorem rd_lenS {K : PySem.W.Frag} {H : Hp} {x : Str} {Q : VK} (h : x.length ≤ PySem.sizeLine) (q : Q (.int x.length) H) : rLen K [.str x] H Q := ⟨_, _, rfl, ⟨h, rfl⟩, q⟩
def sp_row_good : Sp := sp3 fun x1 x2 x3 H Q => ∃ p vs ds d r, x1 = .ref p ∧ H p = some (.lst vs) ∧ DefsAt [] H ds vs ∧ DefAt [] H d x2 ∧ Rep H (rowD r) x3 ∧ (∀ d ∈ r.2, PartD 1 d) ∧ r.2.length ≤ 1000 ∧ ∀ H', Same H H' → Q (.bl (rowFits d.2.1 d.2.2.length ds r)) H'
theorem sc__law_row_good : FnScope ["program", "one", "row", "letters", "k"] ["program", "one", "row"] (defScope s__law_row_good) := ⟨rfl, rfl, rfl, by decide +kernel, rfl, by decide +kernel, by decide +kernel⟩
theorem c__law_row_good (B : Blt mg) (T__law_row_good : TopFn K mg "_law_row_good" s__law_row_good ["program", "one", "row"]) (C_law_letters : Callee P w K mg base "_law_letters" 1 [] sp_letters) (C_law_part_good : Callee P w K mg base "_law_part_good" 1 ["program", "one", "letter", "part"] sp_part_good) : Callee P w K mg base "_law_row_good" 2 ["program", "one", "row"] sp_row_good := by
  refine T__law_row_good.ok3 sc__law_row_good fun f cdv A outer s H v1 v2 v3 Q E hr h => ?_
  have nd := sc__law_row_good.nd
  have hu1 := hu_of hr
  obtain ⟨p, vs, ds, d, r, rfl, hp, D0, DA, rr, hpd, hl, k⟩ := h
  obtain ⟨wd, ps⟩ := r
  obtain ⟨t, q, ys, rfl, hat, hq, _, ry⟩ := DA
  have hyl := ry.length
  rw [List.length_map] at hyl
  refine' go_body [some (.ref p), some (.ref t), some v3, none, none] rfl ?hb ?hg
  case hb =>
   refine' pss_cons ?zb ?zc
   case zb =>
    refine' ps_setC (i := 3) ?zd ?ze ?zf ?zg
    case zd => exact nd
    case ze => exact rfl
    case zf => exact (Or.inl rfl)
    case zg =>
     refine' pe_dget1 ?zh ?zi ?zj ?zk
     case zh => exact hu1
     case zi => exact (pe_fn0 C_law_letters (hr.mono (by first | decide | omega)) (by rfl))
     case zj => exact (pe_ix (k_ix (K := K) rfl) (pv 2) pe_int (fun _ _ => rfl))
     case zk => exact (M1.mk rfl rfl rfl rfl)
   case zc =>
    refine' pss_cons ?zl ?zm
    case zl =>
     refine' ps_if ?zn ?zo ?zp
     case zn =>
      refine' PW.pt ?zq
      case zq =>
       refine' pw_or ?zr ?zs
       case zr => exact (pt_cmpR op_isN' (pv 3) pe_non (nomark _))
       case zs =>
        refine' pw_or1 ?zt
        case zt =>
         refine' pt_cmpR ?zu ?zv ?zw ?zx
         case zu => exact op_ne
         case zv => exact (pe_callB (k_len (K := K) rfl) (by rfl) B.b_len bt_len (pa_consN (pv 2) pa_nil))
         case zw => exact (pe_op op_add pe_int (pe_callB (k_len (K := K) rfl) (by rfl) B.b_len bt_len (pa_consN (pv 3) pa_nil)))
         case zx => exact (nomark _)
     case zo => exact (pss_one (ps_ret pe_bl))
     case zp => exact pss_nil
    case zm =>
     refine' pss_cons ?zy ?zz
     case zy =>
      refine' ps_for ?zba ?zbb ?zbc ?zbd ?zbe
      case zba => exact PassesOwn.never
      case zbb => exact rfl
      case zbc => exact (pi_range1 rfl B.b_range (pa_consC (pe_callB (k_len (K := K) rfl) (by rfl) B.b_len bt_len (pa_consN (pv 3) pa_nil)) pa_nil))
      case zbd => exact (pg_name (i := 4) nd rfl (Or.inl rfl))
      case zbe =>
       refine' pss_one ?zbf
       case zbf =>
        refine' ps_if ?zbg ?zbh ?zbi
        case zbg =>
         refine' pt_not ?zbj
         case zbj =>
          refine' pt_val ?zbk
          case zbk =>
           refine' pe_fn ?zbl ?zbm ?zbn ?zbo
           case zbl => exact C_law_part_good
           case zbm => exact (hr.mono (by first | decide | omega))
           case zbn => exact (by rfl)
           case zbo =>
            refine' pa_consN ?zbp ?zbq
            case zbp => exact (pv 0)
            case zbq =>
             refine' pa_consN ?zbr ?zbs
             case zbr => exact (pv 1)
             case zbs =>
              refine' pa_consS ?zbt ?zbu
              case zbt => exact (pe_ix ix_str (pv 3) (pv 4) (fun _ _ => rfl))
              case zbu => exact (pa_consS (pe_ix (k_ix (K := K) rfl) (pv 2) (pe_op op_add pe_int (pv 4)) (fun _ _ => rfl)) pa_nil)
        case zbh => exact (pss_one (ps_ret pe_bl))
        case zbi => exact pss_nil
     case zz =>
      refine' pss_one ?zbv
      case zbv =>
       refine' ps_ret ?zbw
       case zbw =>
        refine' pe_or ?zbx ?zby
        case zbx => exact (pe_cmpR op_ne (pe_ix (k_ix (K := K) rfl) (pv 2) pe_int (fun _ _ => rfl)) pe_str (nomark _))
        case zby =>
         refine' pe_one ?zbz
         case zbz =>
          refine' pe_cmpR ?zca ?zcb ?zcc ?zcd
          case zca => exact op_eq
          case zcb => exact (pe_callB (k_len (K := K) rfl) (by rfl) B.b_len bt_len (pa_consS (pe_ix (k_ix (K := K) rfl) (pv 2) pe_int (fun _ _ => rfl)) pa_nil))
          case zcc =>
           refine' pe_ix ?zce ?zcf ?zcg ?zch
           case zce => exact (k_ix (K := K) rfl)
           case zcf => exact (pe_ix (k_ix (K := K) rfl) (pv 0) (pe_ix (k_ix (K := K) rfl) (pv 2) pe_int (fun _ _ => rfl)) (fun _ _ => rfl))
           case zcg => exact pe_int
           case zch => exact (fun _ _ => rfl)
          case zcd => exact (nomark _)
  walk_at "rd"
  refine use0 fun pl H1 hpl hl1 s1 => ⟨pl, rfl, .inl ⟨_, .inl hl1⟩, ?_⟩
  walk_at "rd"
  refine rd_ixR (n := 0) (rr.mono s1.ts) rfl rfl fun u ru => ?_
  obtain rfl : u = .str wd := by rwa [Rep] at ru
  refine ⟨_, .inl ⟨_, Sum.inr wd, .inl hl1, rfl, rfl⟩, ?_⟩
  rw [show valV lettersKV (Sum.inr wd) = (lettersL.lookup wd).map V.str from val_map _]
  have lkp : partsT.lookup wd = (lettersL.lookup wd).map kindsOf := by rw [parts_map]; exact look_map _
  cases lk : lettersL.lookup wd with
  | none =>
    rw [lk] at lkp
    rw [Option.map_none, Option.getD_none]
    walk_at "rd"
    refine ite_dy rfl ?_
    walk_at "rd"
    have lkp : partsT.lookup wd = none := lkp
    simpa [rowFits, lkp] using k H1 s1
  | some ls =>
    rw [lk] at lkp
    have lkp : partsT.lookup wd = some (kindsOf ls) := lkp
    have h3 := parts_len lkp
    have hkl : (kindsOf ls).length = ls.cps.size := by simp [kindsOf]
    have hls : ls.length = ls.cps.size := rfl
    rw [Option.map_some, Option.getD_some]
    walk_at "rd"
    refine ite_dn (fun z => by cases z) ?_
    walk_at "rd"
    refine rd_lenR (rr.mono s1.ts) ?_
    walk_at "rd"
    refine rd_lenS (small_le' (by omega)) ?_
    walk_at "rd"
    refine ite_nd (fun ne => ?_) (fun e => ?_)
    · walk_at "rd"
      have k := k H1 s1
      have ne : ¬ ps.length = (kindsOf ls).length := fun z => ne (by rw [List.length_cons]; simp; omega)
      simpa [rowFits, lkp, ne] using k
    · have el : ps.length = (kindsOf ls).length := by rw [List.length_cons] at e; simp at e; omega
      walk_at "rd"
      refine rd_lenS (small_le' (by omega)) ?_
      walk_at "rd"
      refine irK_of (by omega) (by omega) ?_
      refine for_range (n := (ls.length : Int).toNat) (fun i σ Hx => (∃ x4, σ = [some (.ref p), some (.ref t), some v3, some (.str ls), x4]) ∧ Same H1 Hx ∧ ∀ j e c, j < i → ps[j]? = some e → ls.cps.toList[j]? = some c → partFits d.2.1 ys.length vs.length (kindOf ⟨#[c]⟩) e = true) ⟨⟨none, rfl⟩, Same.refl _, fun j _ _ h => by omega⟩ ?_ ?_
      · rintro i σ Hx hi ⟨⟨x4, rfl⟩, s2, inv⟩
        have hi' : i < ls.cps.toList.length := by simp; omega
        have hip : i < ps.length := by simp at hi'; omega
        have s02 := s1.trans s2
        have rr2 : Rep Hx (.tup (.str wd :: ps)) v3 := rr.mono s02.ts
        walk_at "rd"
        rw [show (0 : Int) + (i : Int) = (i : Int) by omega]
        refine ⟨ls, i, ls.cps.toList[i], rfl, rfl, small_le' (by omega), atI_at rfl (List.getElem?_eq_getElem hi'), ?_⟩
        walk_at "rd"
        refine rd_ixR (n := i + 1) (d := ps[i]) rr2 (by omega) (by simp [hip]) fun v rv => ?_
        walk_at "rd"
        refine use4 ⟨p, vs, t, d.1, d.2.1, q, ys, _, ps[i], rfl, rfl, rfl, s02 _ _ hp, s02 _ _ hat, s02 _ _ hq, ls_ltrs lk _ (List.getElem_mem hi'), rv, hpd _ (List.getElem_mem hip), fun H3 s3 => ?_⟩
        refine ⟨_, rfl, ?_⟩
        cases hf : partFits d.2.1 ys.length vs.length (kindOf ⟨#[ls.cps.toList[i]]⟩) ps[i] with
        | false =>
          walk_at "rd"
          have k := k H3 (s02.trans s3)
          have zf : zipFits d.2.1 d.2.2.length ds.length ps (kindsOf ls) = false := by
            rw [Bool.eq_false_iff]
            intro z
            have := List.all_eq_true.mp z (ps[i], kindOf ⟨#[ls.cps.toList[i]]⟩) (by
              rw [List.mem_iff_getElem?]
              refine ⟨i, ?_⟩
              rw [List.getElem?_zip_eq_some]
              refine ⟨List.getElem?_eq_getElem hip, ?_⟩
              unfold kindsOf
              rw [List.getElem?_map, List.getElem?_eq_getElem hi']
              rfl)
            rw [hyl, D0.length] at this
            rw [this] at hf
            cases hf
          simpa [rowFits, lkp, el, zf] using k
        | true =>
          walk_at "rd"
          refine ⟨⟨_, rfl⟩, s2.trans s3, fun j e c hj ej ec => ?_⟩
          by_cases h : j = i
          · subst h
            rw [List.getElem?_eq_getElem hip] at ej
            rw [List.getElem?_eq_getElem hi'] at ec
            cases ej; cases ec
            exact hf
          · exact inv j e c (by omega) ej ec
      · rintro σ Hx ⟨⟨x4, rfl⟩, s2, inv⟩
        have s02 := s1.trans s2
        have rr3 : Rep Hx (.tup (.str wd :: ps)) v3 := rr.mono s02.ts
        have k := k Hx s02
        have hz : zipFits d.2.1 d.2.2.length ds.length ps (kindsOf ls) = true := by
          refine List.all_eq_true.mpr fun x hx => ?_
          obtain ⟨i, ei⟩ := List.mem_iff_getElem?.mp hx
          rw [List.getElem?_zip_eq_some] at ei
          obtain ⟨e1, e2⟩ := ei
          unfold kindsOf at e2
          rw [List.getElem?_map] at e2
          obtain ⟨c, ec, e2⟩ := Option.map_eq_some_iff.mp e2
          have hi := (List.getElem?_eq_some_iff.mp ec).1
          have := inv i x.1 c (by simp at hi; omega) e1 ec
          rw [← e2, hyl, D0.length]
          exact this
        walk_at "rd"
        refine rd_ixR (n := 0) rr3 rfl rfl fun u ru => ?_
        obtain rfl : u = .str wd := by rwa [Rep] at ru
        walk_at "rd"
        refine ite_nd (fun nc => ?_) (fun ec => ?_)
        · simpa [rowFits, lkp, el, hz, nc] using k
        · subst ec
          rw [parts_call lkp] at el hz lkp
          match ps, el, hz, hpd, rr3, k with
          | [d1, d2, d3], _, hz, hpd, rr3, k =>
            have hz0 := hz
            simp only [zipFits, kCall, List.zip_cons_cons, List.zip_nil_right, List.all_cons, List.all_nil, Bool.and_true, Bool.and_eq_true] at hz
            obtain ⟨_, z2, z3⟩ := hz
            have nd' : ¬ ("def" : Str) = "boxes" := by decide +kernel
            have n1 : ¬ ("def" : Str) = "number" := by decide +kernel
            have n2 : ¬ ("def" : Str) = "factor" := by decide +kernel
            have n3 : ¬ ("def" : Str) = "box" := by decide +kernel
            have n4 : ¬ ("def" : Str) = "row" := by decide +kernel
            have hd2 : ∃ g : Int, d2 = .int g ∧ 0 ≤ g ∧ g < ds.length := by
              cases d2 with
              | int g => simp [partFits, intFits, cntOf, nd', n1, n2, n3, n4] at z2; exact ⟨g, rfl, z2.1, z2.2⟩
              | tup _ => simp [partFits, nd'] at z2
              | non => simp [partFits] at z2
              | bl _ => simp [partFits] at z2
              | str _ => simp [partFits] at z2
            have hd3 : ∃ qs, d3 = .tup qs := by
              cases d3 with
              | tup qs => exact ⟨qs, rfl⟩
              | int g => simp [partFits] at z3
              | non => simp [partFits] at z3
              | bl _ => simp [partFits] at z3
              | str _ => simp [partFits] at z3
            obtain ⟨g, rfl, g0, g1⟩ := hd2
            obtain ⟨qs, rfl⟩ := hd3
            walk_at "rd"
            refine rd_ixR (n := 3) rr3 rfl rfl fun u ru => ?_
            walk_at "rd"
            refine rd_lenR ru ?_
            walk_at "rd"
            refine rd_ixI (n := 2) rr3 rfl rfl ?_
            walk_at "rd"
            have hdl := D0.length
            have hg : g.toNat < vs.length := by omega
            obtain ⟨dd, ed, DA⟩ := D0.get (i := g.toNat) (v := vs[g.toNat]) (List.getElem?_eq_getElem hg)
            refine rd_ixaL (s02 _ _ hp) (atI_at (n := g.toNat) (by omega) (List.getElem?_eq_getElem hg)) ?_
            walk_at "rd"
            obtain ⟨at_, q, ys, ev, hat, _⟩ := DA
            rw [ev]
            refine rd_ixaT (s02 _ _ hat) rfl ?_
            walk_at "rd"
            have et : takesOf ds g = dd.1 := by simp [takesOf, ed]
            have ec : rowFits d.2.1 d.2.2.length ds ("call", [d1, .int g, .tup qs]) = decide ((qs.length : Int) = dd.1) := by
              simp [rowFits, lkp, callFits, et, kCall]
              exact fun _ => hz0
            rw [ec] at k
            exact k

end
end My

end
section
set_option Elab.async false
set_option linter.all false
set_option maxRecDepth 100000
set_option maxHeartbeats 4000000

namespace My
open PySem L2
local macro_rules | `(tactic| walk_at "rd1") => `(tactic| (first | ((with_reducible refine' rd_var ?e ?_); (case e => exact rfl)) | with_reducible refine rd_c ?_ | with_reducible refine rd_op ?_ | with_reducible refine rd_un ?_ | with_reducible refine rd_seq ?_ | with_reducible refine rd_asg ?_ | with_reducible refine rd_gname ?_ | with_reducible refine rd_ret ?_ | with_reducible refine rd_drop ?_ | with_reducible refine rd_next ?_ | with_reducible refine rd_if ?_ | with_reducible refine rd_test ?_ | with_reducible refine rd_tb ?_ | with_reducible refine rd_and ?_ | with_reducible refine rd_or ?_ | with_reducible refine rd_not ?_ | with_reducible refine rd_true ?_ | with_reducible refine rd_andV ?_ | with_reducible refine rd_orV ?_ | with_reducible refine rd_notV ?_ | with_reducible refine rd_ifE ?_ | with_reducible refine rd_chain ?_ | with_reducible refine rd_nil ?_ | with_reducible refine rd_cons ?_ | with_reducible refine rd_cb ?_ | with_reducible refine rd_call ?_ | with_reducible refine rd_I0 ?_ | with_reducible refine rd_U ?_ | with_reducible refine rd_eqI ?_ | with_reducible refine rd_neI ?_ | with_reducible refine rd_eqS ?_ | with_reducible refine rd_neS ?_ | with_reducible refine rd_eqB ?_ | with_reducible refine rd_neB ?_ | with_reducible refine rd_bl ?_ | with_reducible refine rd_int ?_ | with_reducible refine rd_tup ?_ | with_reducible refine rd_lst ?_ | with_reducible refine rd_gsub ?_ | with_reducible refine rd_slice ?_ | with_reducible refine rd_nopart ?_ | with_reducible refine rd_part ?_ | with_reducible refine rd_bm ?_ | with_reducible refine rd_bm0 ?_ | with_reducible refine rd_comp ?_ | with_reducible refine rd_itup ?_ | with_reducible refine rd_ilist ?_ | with_reducible refine rd_irng ?_ | with_reducible refine rd_gcons ?_ | with_reducible refine rd_gnil ?_ | with_reducible refine rd_for ?_ | with_reducible refine rd_abs ?_ | with_reducible refine rd_max ?_ | with_reducible refine rd_min ?_ | with_reducible refine rd_intB ?_ | with_reducible refine rd_dput ?_ | with_reducible refine rd_dget2 ?_ | with_reducible refine rd_dget ?_ | with_reducible refine rd_fld ?_ | with_reducible refine rd_sfld ?_ | with_reducible refine rd_meth ?_ | with_reducible refine rd_make ?_ | with_reducible refine rd_isN ?_ | with_reducible refine rd_notN ?_ | with_reducible refine rd_izip ?_ | with_reducible refine rd_izipT ?_ | with_reducible refine rd_pcons ?_ | with_reducible refine rd_pnil ?_ | with_reducible refine rd_dget1 ?_ | with_reducible refine rd_cdget ?_ | with_reducible refine iteNT ?_ | with_reducible refine iteNF ?_ | with_reducible refine iteF ?_ | with_reducible refine iteT ?_))
local macro_rules | `(tactic| walk_at "rd") => `(tactic| (repeat walk_at "rd1"))
local macro_rules | `(tactic| walk_at "mk") => `(tactic| refine ⟨mk_le rfl, ?_⟩)

section
variable {P : Program} {w : World} {K : PySem.W.Frag} {mg : Str → Option Value} {base : Heap}
theorem part_pl {d : D} (h : PartD 1 d) : d.pl = true ∧ d.dep ≤ 1 := by
  cases d with
  | non => simp [PartD] at h
  | bl _ => simp [PartD] at h
  | str _ => simp [PartD] at h
  | int n => simp [D.pl, D.dep]
  | tup ds =>
    obtain ⟨_, hd⟩ := h
    obtain ⟨ns, rfl⟩ := ints_of hd
    simp only [D.pl, D.dep]
    exact ⟨pls_ints _, by rw [deps_ints]; omega⟩
theorem parts_pl : ∀ {ds : List D}, (∀ d ∈ ds, PartD 1 d) → D.pls ds = true ∧ D.deps ds ≤ 1
  | [], _ => ⟨rfl, by simp [D.deps]⟩
  | d :: ds, h => by
    obtain ⟨a, b⟩ := part_pl (h d List.mem_cons_self)
    obtain ⟨a', b'⟩ := parts_pl fun d hd => h d (List.mem_cons_of_mem _ hd)
    simp only [D.pls, D.deps]
    exact ⟨by rw [a, a']; rfl, by omega⟩
theorem rows_pl : ∀ {rs : List (Str × List D)}, (∀ r ∈ rs, ∀ p ∈ r.2, PartD 1 p) → D.pls (rs.map rowD) = true ∧ D.deps (rs.map rowD) ≤ 2
  | [], _ => ⟨rfl, by simp [D.deps]⟩
  | r :: rs, h => by
    obtain ⟨a, b⟩ := parts_pl (h r List.mem_cons_self)
    obtain ⟨a', b'⟩ := rows_pl fun d hd => h d (List.mem_cons_of_mem _ hd)
    simp only [List.map_cons, rowD, D.pls, D.deps, D.pl, D.dep]
    exact ⟨by rw [a, a']; rfl, by omega⟩
theorem rd_eqNil {K : PySem.W.Frag} {H : Hp} {a b : Addr} {xs : List V} {ds : List D} {Q : VK} (h1 : SqL K H a xs) (r : Reps H ds xs) (pd : D.pls ds = true) (hd : D.deps ds ≤ 40) (h2 : H b = some (.lst [])) (q : Q (.bl (decide (ds = []))) H) : rEqL K (.ref a) (.ref b) H Q := by
  refine ⟨a, b, xs, [], ds, [], rfl, rfl, h1, SqL.of h2, r, reps_nil, pd, rfl, hd, ?_⟩
  have e : eqD (.tup ds) (.tup []) = decide (ds = []) := by
    by_cases h : ds = []
    · subst h
      rw [eqD_same]
      simp
    · rw [eqD_false (by intro z; cases z; exact h rfl)]
      simp [h]
  rw [e]
  exact q
def badR (ds : List PDef) (d : PDef) (rs : List (Str × List D)) : List (Str × List D) := rs.filter fun r => !rowFits d.2.1 d.2.2.length ds r
theorem DefsAt.by1 {H H' : Hp} {d : PDef} {v : V} (h : DefAt [] H d v) (s : Same H H') : DefAt [] H' d v := h.by (fun a xs _ e => s _ _ e) s.ts
theorem head_iff {d : PDef} : headFits d = true ↔ (1 ≤ d.2.1 ∧ d.2.1 ≤ 8 ∧ 0 ≤ d.1 ∧ d.1 ≤ 4 ∧ d.1 ≤ d.2.1 ∧ 1 ≤ d.2.2.length ∧ d.2.2.length ≤ 30) := by
  simp only [headFits, Bool.and_eq_true, decide_eq_true_eq]
  constructor
  · rintro ⟨⟨a, b⟩, ⟨c, e⟩, f, g⟩
    by_cases h : d.2.1 < 4
    · rw [if_pos h] at e
      refine ⟨a, b, c, by omega, e, by omega, by omega⟩
    · rw [if_neg h] at e
      refine ⟨a, b, c, e, by omega, by omega, by omega⟩
  · rintro ⟨a, b, c, e, e', f, g⟩
    refine ⟨⟨a, b⟩, ⟨c, ?_⟩, by omega, by omega⟩
    split <;> assumption
theorem head_yes {d : PDef} (h : 1 ≤ d.2.1 ∧ d.2.1 ≤ 8 ∧ 0 ≤ d.1 ∧ d.1 ≤ 4 ∧ d.1 ≤ d.2.1 ∧ 1 ≤ d.2.2.length ∧ d.2.2.length ≤ 30) : headFits d = true := head_iff.mpr h
theorem head_no {d : PDef} (h : ¬ (1 ≤ d.2.1 ∧ d.2.1 ≤ 8 ∧ 0 ≤ d.1 ∧ d.1 ≤ 4 ∧ d.1 ≤ d.2.1 ∧ 1 ≤ d.2.2.length ∧ d.2.2.length ≤ 30)) : headFits d = false := by
  rw [Bool.eq_false_iff]; exact fun z => h (head_iff.mp z)
theorem sc__law_formed : FnScope ["program", "one", "takes", "boxes", "rows"] ["program"] (defScope s__law_formed) := ⟨rfl, rfl, rfl, by decide +kernel, rfl, by decide +kernel, by decide +kernel⟩
theorem c__law_formed (B : Blt mg) (T__law_formed : TopFn K mg "_law_formed" s__law_formed ["program"]) (C_law_row_good : Callee P w K mg base "_law_row_good" 2 ["program", "one", "row"] sp_row_good) : Callee P w K mg base "_law_formed" 3 ["program"] sp_formed := by
  refine T__law_formed.ok1 sc__law_formed fun f cdv A outer s H v1 Q E hr h => ?_
  have nd := sc__law_formed.nd
  have hu := hr.units
  have hu1 := hu_of hr
  obtain ⟨p, vs, ds, rfl, hp, D0, PD, k⟩ := h
  have hlv := D0.length
  have hl := PD.len
  refine' go_body [some (.ref p), none, none, none, none] rfl ?hb ?hg
  case hb =>
   refine' pss_cons ?zb ?zc
   case zb =>
    refine' ps_if ?zd ?ze ?zf
    case zd =>
     refine' PW.pt ?zg
     case zg =>
      refine' pw_or ?zh ?zi
      case zh => exact (pt_cmpR op_lt (pe_callB (k_len (K := K) rfl) (by rfl) B.b_len bt_len (pa_consN (pv 0) pa_nil)) pe_int (nomark _))
      case zi =>
       refine' pw_or ?zj ?zk
       case zj => exact (pt_cmpR op_gt (pe_callB (k_len (K := K) rfl) (by rfl) B.b_len bt_len (pa_consN (pv 0) pa_nil)) pe_int (nomark _))
       case zk =>
        refine' pw_or1 ?zl
        case zl => exact (pt_cmpR op_ne (pe_ix (k_ix (K := K) rfl) (pe_ix (k_ix (K := K) rfl) (pv 0) pe_int (fun _ _ => rfl)) pe_int (fun _ _ => rfl)) pe_int (nomark _))
    case ze => exact (pss_one (ps_ret pe_bl))
    case zf => exact pss_nil
   case zc =>
    refine' pss_cons ?zm ?zn
    case zm =>
     refine' ps_for ?zo ?zp ?zq ?zr ?zs
     case zo => exact PassesOwn.never
     case zp => exact rfl
     case zq => exact (k_pi_list (K := K) rfl (pv 0))
     case zr => exact (pg_name (i := 1) nd rfl (Or.inr rfl))
     case zs =>
      refine' pss_cons ?zt ?zu
      case zt =>
       refine' ps_asg ?zv ?zw
       case zv => exact (pv 1)
       case zw =>
        refine' k_pg_tup (K := K) (n := 3) ?zx ?zy ?zz
        case zx => exact rfl
        case zy => exact rfl
        case zz =>
         refine' pgs_cons ?zba ?zbb
         case zba => exact (pg_name (i := 2) nd rfl (Or.inl rfl))
         case zbb => exact (pgs_cons (pg_name (i := 3) nd rfl (Or.inl rfl)) (pgs_cons (pg_name (i := 4) nd rfl (Or.inl rfl)) pgs_nil))
      case zu =>
       refine' pss_cons ?zbc ?zbd
       case zbc =>
        refine' ps_if ?zbe ?zbf ?zbg
        case zbe =>
         refine' PW.pt ?zbh
         case zbh =>
          refine' pw_or ?zbi ?zbj
          case zbi => exact (pt_cmpR op_lt (pv 3) pe_int (nomark _))
          case zbj =>
           refine' pw_or ?zbk ?zbl
           case zbk => exact (pt_cmpR op_gt (pv 3) pe_int (nomark _))
           case zbl =>
            refine' pw_or ?zbm ?zbn
            case zbm => exact (pt_cmpR op_lt (pv 2) pe_int (nomark _))
            case zbn =>
             refine' pw_or ?zbo ?zbp
             case zbo => exact (pt_cmpR op_gt (pv 2) pe_int (nomark _))
             case zbp =>
              refine' pw_or ?zbq ?zbr
              case zbq => exact (pt_cmpR op_gt (pv 2) (pv 3) (nomark _))
              case zbr =>
               refine' pw_or ?zbs ?zbt
               case zbs => exact (pt_cmpR (k_eqL (K := K) rfl hu) (pv 4) (pe_lst pa_nil) (nomark _))
               case zbt => exact (pw_or1 (pt_cmpR op_gt (pe_callB (k_len (K := K) rfl) (by rfl) B.b_len bt_len (pa_consN (pv 4) pa_nil)) pe_int (nomark _)))
        case zbf => exact (pss_one (ps_ret pe_bl))
        case zbg => exact pss_nil
       case zbd =>
        refine' pss_cons ?zbu ?zbv
        case zbu =>
         refine' ps_if ?zbw ?zbx ?zby
         case zbw =>
          refine' PW.pt ?zbz
          case zbz =>
           refine' pw_and ?zca ?zcb
           case zca =>
            refine' pt_cmpR ?zcc ?zcd ?zce ?zcf
            case zcc => exact op_ne
            case zcd => exact (pe_ix (k_ix (K := K) rfl) (pe_ix (k_ix (K := K) rfl) (pv 4) (pe_un un_neg pe_int) (fun _ _ => rfl)) pe_int (fun _ _ => rfl))
            case zce => exact pe_str
            case zcf => exact (nomark _)
           case zcb =>
            refine' pw_and1 ?zcg
            case zcg =>
             refine' pt_cmpR ?zch ?zci ?zcj ?zck
             case zch => exact op_ne
             case zci => exact (pe_ix (k_ix (K := K) rfl) (pe_ix (k_ix (K := K) rfl) (pv 4) (pe_un un_neg pe_int) (fun _ _ => rfl)) pe_int (fun _ _ => rfl))
             case zcj => exact pe_str
             case zck => exact (nomark _)
         case zbx => exact (pss_one (ps_ret pe_bl))
         case zby => exact pss_nil
        case zbv =>
         refine' pss_one ?zcl
         case zcl =>
          refine' ps_if ?zcm ?zcn ?zco
          case zcm =>
           refine' pt_cmpR ?zcp ?zcq ?zcr ?zcs
           case zcp => exact (k_neL (K := K) rfl hu)
           case zcq =>
            refine' pe_comp (LN := ["row"]) (FN := ["program", "one"]) (fr := [0, 1]) ?zct ?zcu ?zcv ?zcw ?zcx ?zcy
            case zct => exact rfl
            case zcu => exact (bk_of (by rfl))
            case zcv => exact (k_pi_list (K := K) rfl (pv 4))
            case zcw =>
             intro cl C fp pins s H
             exact (pg_name (i := 0) (show ((["row"] : List Str) ++ (["program", "one"] : List Str)).Nodup by decide +kernel) rfl (Or.inl rfl))
            case zcx =>
             intro cl C fp pins s H
             refine' pts_one ?zcz
             case zcz => exact (pt_not (pt_val (pe_fn C_law_row_good (hr.mono (by first | decide | omega)) (by rfl) (pa_consN (pv 1) (pa_consN (pv 2) (pa_consN (pv 0) pa_nil))))))
            case zcy =>
             intro cl C fp pins s H
             exact (pv 0)
           case zcr => exact (pe_lst pa_nil)
           case zcs => exact (nomark _)
          case zcn => exact (pss_one (ps_ret pe_bl))
          case zco => exact pss_nil
    case zn => exact (pss_one (ps_ret pe_bl))
  walk_at "rd"
  refine rd_lenL' (SqL.of hp) ?_
  walk_at "rd"
  rw [← hlv]
  refine ite_dd (fun h1 => ?_) (fun h1 => ?_)
  · walk_at "rd"
    have : ¬ (1 : Int) ≤ ds.length := by omega
    simpa [formedB, this] using k H (Same.refl _)
  · walk_at "rd"
    refine rd_lenL' (SqL.of hp) ?_
    walk_at "rd"
    rw [← hlv]
    refine ite_dd (fun h2 => ?_) (fun h2 => ?_)
    · walk_at "rd"
      have : ¬ (ds.length : Int) ≤ 6 := by omega
      simpa [formedB, this] using k H (Same.refl _)
    · walk_at "rd"
      have h0 : 0 < ds.length := by omega
      obtain ⟨d0, ed0, t0, q0, ys0, ev0, hat0, _⟩ := D0.get (i := 0) (v := vs[0]'(by omega)) (List.getElem?_eq_getElem (by omega))
      have ev : vs[0]? = some (.ref t0) := by rw [List.getElem?_eq_getElem (by omega), ev0]
      refine rd_ixaL hp (atI_at (n := 0) rfl ev) ?_
      walk_at "rd"
      refine rd_ixaT hat0 rfl ?_
      have eh : (ds.map (·.1)).headD 0 = d0.1 := by
        cases ds with
        | nil => simp at h0
        | cons d ds => simp at ed0; subst ed0; rfl
      walk_at "rd"
      refine ite_nd (fun h3 => ?_) (fun h3 => ?_)
      · walk_at "rd"
        have k := k H (Same.refl _)
        rw [formedB, eh] at k
        simpa [h3] using k
      · walk_at "rd"
        refine ilK_of (SqL.of hp) ?_
        refine for_list (xs := vs) (fun i σ Hx => (∃ x1 x2 x3 x4, σ = [some (.ref p), x1, x2, x3, x4]) ∧ Same H Hx ∧ ∀ d ∈ ds.take i, headFits d = true ∧ defFits ds d = true) ⟨⟨none, none, none, none, rfl⟩, Same.refl _, fun d hd => by simp at hd⟩ (fun i σ Hx _ ⟨_, s1, _⟩ => SqL.of (s1 _ _ hp)) ?_ ?_
        · rintro i x σ Hx hx ⟨⟨x1, x2, x3, x4, rfl⟩, s1, inv⟩
          obtain ⟨d, ed, DA⟩ := D0.get hx
          have hmem : d ∈ ds := List.mem_of_getElem? ed
          have bad : (headFits d = false ∨ defFits ds d = false) → ∀ H', Same Hx H' → Q (.bl false) H' := fun h H' s' => by
            have e : formedB ds = false := by
              rw [Bool.eq_false_iff]
              intro z
              simp only [formedB, Bool.and_eq_true, List.all_eq_true] at z
              rcases h with h | h
              · rw [z.2.1 d hmem] at h; cases h
              · rw [z.2.2.2 d hmem] at h; cases h
            have k := k H' (s1.trans s')
            rwa [e] at k
          have hr0 := PD.rows d hmem
          obtain ⟨pl, pdp⟩ := rows_pl fun r hr => (PD.part d hmem r hr).2
          have DA0 := DA
          obtain ⟨t, q, ys, rfl, hat, hq, _, ry⟩ := DA
          have hyl := ry.length
          rw [List.length_map] at hyl
          have hat := s1 _ _ hat
          have hq := s1 _ _ hq
          walk_at "rd"
          refine rd_gtup hat rfl ?_
          walk_at "rd"
          refine ite_dd (fun g1 => ?_) (fun g1 => ?_)
          · walk_at "rd"
            exact bad (.inl (head_no fun z => by omega)) Hx (Same.refl _)
          walk_at "rd"
          refine ite_dd (fun g2 => ?_) (fun g2 => ?_)
          · walk_at "rd"
            exact bad (.inl (head_no fun z => by omega)) Hx (Same.refl _)
          walk_at "rd"
          refine ite_dd (fun g3 => ?_) (fun g3 => ?_)
          · walk_at "rd"
            exact bad (.inl (head_no fun z => by omega)) Hx (Same.refl _)
          walk_at "rd"
          refine ite_dd (fun g4 => ?_) (fun g4 => ?_)
          · walk_at "rd"
            exact bad (.inl (head_no fun z => by omega)) Hx (Same.refl _)
          walk_at "rd"
          refine ite_dd (fun g5 => ?_) (fun g5 => ?_)
          · walk_at "rd"
            exact bad (.inl (head_no fun z => by omega)) Hx (Same.refl _)
          walk_at "rd"
          walk_at "mk"; intro p4 hp4
          have s4 := Same.new (o := .lst []) hp4
          have e4 : upd Hx p4 (.lst []) p4 = some (.lst []) := upd_same
          generalize upd Hx p4 (.lst []) = H4 at s4 e4
          have s04 := s1.trans s4
          refine rd_eqNil (SqL.of (s4 _ _ hq)) (ry.mono s04.ts) pl (by omega) e4 ?_
          walk_at "rd"
          refine ite_dd (fun g6 => ?_) (fun g6 => ?_)
          · walk_at "rd"
            exact bad (.inl (head_no fun z => by
              have : d.2.2 = [] := by simpa using g6
              simp [this] at z)) H4 s4
          have hne : d.2.2 ≠ [] := fun z => g6 (by simp [z])
          walk_at "rd"
          refine rd_lenL' (SqL.of (s4 _ _ hq)) ?_
          walk_at "rd"
          refine ite_dd (fun g7 => ?_) (fun g7 => ?_)
          · walk_at "rd"
            exact bad (.inl (head_no fun z => by omega)) H4 s4
          have hh : headFits d = true := head_yes (by
            have : 0 < d.2.2.length := List.length_pos_iff.mpr hne
            refine ⟨by omega, by omega, by omega, by omega, by omega, by omega, by omega⟩)
          obtain ⟨rs, r, er⟩ : ∃ rs r, d.2.2 = rs ++ [r] := ⟨d.2.2.dropLast, d.2.2.getLast hne, (List.dropLast_concat_getLast hne).symm⟩
          have hlast : ∃ v, ys = ys.dropLast ++ [v] ∧ Rep H (rowD r) v := by
            have hyne : ys ≠ [] := fun z => by rw [z] at hyl; simp at hyl; exact hne hyl
            refine ⟨ys.getLast hyne, (List.dropLast_concat_getLast hyne).symm, ?_⟩
            have e1 : ys[rs.length]? = some (ys.getLast hyne) := by
              rw [List.getLast_eq_getElem, List.getElem?_eq_getElem (by rw [er] at hyl; simp at hyl; omega)]
              congr 1
              rw [er] at hyl
              simp at hyl
              congr 1
              omega
            obtain ⟨dd, e2, r2⟩ := ry.get' e1
            rw [er] at e2
            simp at e2
            subst e2
            exact r2
          obtain ⟨v, ey, rv⟩ := hlast
          walk_at "rd"
          refine rd_ixaL (s4 _ _ hq) (by rw [ey]; exact atI_neg1) ?_
          walk_at "rd"
          refine rd_ixR (n := 0) (rv.mono s04.ts) rfl rfl fun u ru => ?_
          obtain rfl : u = .str r.1 := by rwa [Rep] at ru
          walk_at "rd"
          refine ite_nd (fun nj => ?_) (fun ej => ?_)
          · walk_at "rd"
            refine rd_ixaL (s4 _ _ hq) (by rw [ey]; exact atI_neg1) ?_
            walk_at "rd"
            refine rd_ixR (n := 0) (rv.mono s04.ts) rfl rfl fun u ru => ?_
            obtain rfl : u = .str r.1 := by rwa [Rep] at ru
            walk_at "rd"
            refine ite_nd (fun nb => ?_) (fun eb => ?_)
            · walk_at "rd"
              refine bad (.inr ?_) H4 s4
              simp only [defFits]
              rw [er]
              simp [nj, nb]
            · have hjb : r.1 = "jump" ∨ r.1 = "back" := .inr eb
              walk_at "rd"
              refine ilK_of (SqL.of (s4 _ _ hq)) ?_
              refine cw_list (xs := ys) (small_le' (by omega)) (fun j zs σ Hy => (∃ x1, σ = [x1, some (.ref p), some (.ref t)]) ∧ Same H4 Hy ∧ Reps H ((badR ds d (d.2.2.take j)).map rowD) zs) ⟨⟨none, rfl⟩, Same.refl _, reps_nil⟩ (fun j zs σ Hy _ ⟨_, s5, _⟩ => SqL.of (s5 _ _ (s4 _ _ hq))) ?_ ?_
              · rintro j x zs σ Hy hx' hle hlt ⟨⟨x1, rfl⟩, s5, rz⟩
                obtain ⟨rD, er', rr⟩ := ry.get' hx'
                rw [List.getElem?_map] at er'
                obtain ⟨r', er2, rfl⟩ := Option.map_eq_some_iff.mp er'
                have s05 := s04.trans s5
                have et : badR ds d (d.2.2.take (j + 1)) = badR ds d (d.2.2.take j) ++ badR ds d [r'] := by
                  rw [List.take_add_one, er2]; simp [badR]
                obtain ⟨pl', pp'⟩ := PD.part d hmem r' (List.mem_of_getElem? er2)
                walk_at "rd"
                refine use3 ⟨p, vs, ds, d, r', rfl, s05 _ _ hp, D0.mono s05, DefsAt.by1 DA0 s05, rr.mono s05.ts, pp', pl', fun H6 s6 => ?_⟩
                refine ⟨_, rfl, ?_⟩
                cases hf : rowFits d.2.1 d.2.2.length ds r' with
                | false =>
                  walk_at "rd"
                  refine ⟨hlt, by simpa using hle, ⟨_, rfl⟩, s5.trans s6, ?_⟩
                  rw [et, show badR ds d [r'] = [r'] by simp [badR, hf], List.map_append]
                  exact rz.append (reps_cons rr reps_nil)
                | true =>
                  refine iteNT ⟨by omega, ⟨_, rfl⟩, s5.trans s6, ?_⟩
                  rw [et, show badR ds d [r'] = [] by simp [badR, hf], List.append_nil]
                  exact rz
              · rintro zs σ Hy hzl ⟨⟨x1, rfl⟩, s5, rz⟩ pa hpa
                rw [← hyl, List.take_length] at rz
                have s6 := Same.new (o := .lst zs) hpa
                have e6 : upd Hy pa (.lst zs) pa = some (.lst zs) := upd_same
                generalize upd Hy pa (.lst zs) = H6 at s6 e6
                walk_at "rd"
                walk_at "mk"; intro p7 hp7
                have s7 := Same.new (o := .lst []) hp7
                have e7 : upd H6 p7 (.lst []) p7 = some (.lst []) := upd_same
                generalize upd H6 p7 (.lst []) = H7 at s7 e7
                have s47 := ((s4.trans s5).trans s6).trans s7
                have plb := rows_pl (rs := badR ds d d.2.2) fun r hr => (PD.part d hmem r (List.mem_filter.mp hr).1).2
                refine rd_neNil (SqL.of (s7 _ _ e6)) (rz.mono (s1.trans s47).ts) plb.1 (by omega) e7 ?_
                walk_at "rd"
                refine ite_nd (fun g8 => ?_) (fun g8 => ?_)
                · walk_at "rd"
                  refine bad (.inr ?_) H7 s47
                  rw [Bool.eq_false_iff]
                  intro z
                  simp only [defFits, Bool.and_eq_true, List.all_eq_true] at z
                  refine g8 ?_
                  rw [List.map_eq_nil_iff, badR, List.filter_eq_nil_iff]
                  intro r' hr'
                  rw [z.1 r' hr']
                  simp
                · walk_at "rd"
                  refine ⟨⟨_, _, _, _, rfl⟩, s1.trans s47, fun d' hd' => ?_⟩
                  rw [List.take_add_one, ed] at hd'
                  rcases List.mem_append.mp hd' with hd' | hd'
                  · exact inv d' hd'
                  · have : d' = d := by simpa using hd'
                    subst this
                    refine ⟨hh, ?_⟩
                    rw [List.map_eq_nil_iff, badR, List.filter_eq_nil_iff] at g8
                    have ha : d'.2.2.all (rowFits d'.2.1 d'.2.2.length ds) = true := by
                      refine List.all_eq_true.mpr fun r' hr' => ?_
                      have := g8 r' hr'
                      simpa using this
                    simp only [defFits, ha, Bool.true_and]
                    rw [er]
                    simpa using hjb
          · have hjb : r.1 = "jump" ∨ r.1 = "back" := .inl ej
            walk_at "rd"
            refine ilK_of (SqL.of (s4 _ _ hq)) ?_
            refine cw_list (xs := ys) (small_le' (by omega)) (fun j zs σ Hy => (∃ x1, σ = [x1, some (.ref p), some (.ref t)]) ∧ Same H4 Hy ∧ Reps H ((badR ds d (d.2.2.take j)).map rowD) zs) ⟨⟨none, rfl⟩, Same.refl _, reps_nil⟩ (fun j zs σ Hy _ ⟨_, s5, _⟩ => SqL.of (s5 _ _ (s4 _ _ hq))) ?_ ?_
            · rintro j x zs σ Hy hx' hle hlt ⟨⟨x1, rfl⟩, s5, rz⟩
              obtain ⟨rD, er', rr⟩ := ry.get' hx'
              rw [List.getElem?_map] at er'
              obtain ⟨r', er2, rfl⟩ := Option.map_eq_some_iff.mp er'
              have s05 := s04.trans s5
              have et : badR ds d (d.2.2.take (j + 1)) = badR ds d (d.2.2.take j) ++ badR ds d [r'] := by
                rw [List.take_add_one, er2]; simp [badR]
              obtain ⟨pl', pp'⟩ := PD.part d hmem r' (List.mem_of_getElem? er2)
              walk_at "rd"
              refine use3 ⟨p, vs, ds, d, r', rfl, s05 _ _ hp, D0.mono s05, DefsAt.by1 DA0 s05, rr.mono s05.ts, pp', pl', fun H6 s6 => ?_⟩
              refine ⟨_, rfl, ?_⟩
              cases hf : rowFits d.2.1 d.2.2.length ds r' with
              | false =>
                walk_at "rd"
                refine ⟨hlt, by simpa using hle, ⟨_, rfl⟩, s5.trans s6, ?_⟩
                rw [et, show badR ds d [r'] = [r'] by simp [badR, hf], List.map_append]
                exact rz.append (reps_cons rr reps_nil)
              | true =>
                refine iteNT ⟨by omega, ⟨_, rfl⟩, s5.trans s6, ?_⟩
                rw [et, show badR ds d [r'] = [] by simp [badR, hf], List.append_nil]
                exact rz
            · rintro zs σ Hy hzl ⟨⟨x1, rfl⟩, s5, rz⟩ pa hpa
              rw [← hyl, List.take_length] at rz
              have s6 := Same.new (o := .lst zs) hpa
              have e6 : upd Hy pa (.lst zs) pa = some (.lst zs) := upd_same
              generalize upd Hy pa (.lst zs) = H6 at s6 e6
              walk_at "rd"
              walk_at "mk"; intro p7 hp7
              have s7 := Same.new (o := .lst []) hp7
              have e7 : upd H6 p7 (.lst []) p7 = some (.lst []) := upd_same
              generalize upd H6 p7 (.lst []) = H7 at s7 e7
              have s47 := ((s4.trans s5).trans s6).trans s7
              have plb := rows_pl (rs := badR ds d d.2.2) fun r hr => (PD.part d hmem r (List.mem_filter.mp hr).1).2
              refine rd_neNil (SqL.of (s7 _ _ e6)) (rz.mono (s1.trans s47).ts) plb.1 (by omega) e7 ?_
              walk_at "rd"
              refine ite_nd (fun g8 => ?_) (fun g8 => ?_)
              · walk_at "rd"
                refine bad (.inr ?_) H7 s47
                rw [Bool.eq_false_iff]
                intro z
                simp only [defFits, Bool.and_eq_true, List.all_eq_true] at z
                refine g8 ?_
                rw [List.map_eq_nil_iff, badR, List.filter_eq_nil_iff]
                intro r' hr'
                rw [z.1 r' hr']
                simp
              · walk_at "rd"
                refine ⟨⟨_, _, _, _, rfl⟩, s1.trans s47, fun d' hd' => ?_⟩
                rw [List.take_add_one, ed] at hd'
                rcases List.mem_append.mp hd' with hd' | hd'
                · exact inv d' hd'
                · have : d' = d := by simpa using hd'
                  subst this
                  refine ⟨hh, ?_⟩
                  rw [List.map_eq_nil_iff, badR, List.filter_eq_nil_iff] at g8
                  have ha : d'.2.2.all (rowFits d'.2.1 d'.2.2.length ds) = true := by
                    refine List.all_eq_true.mpr fun r' hr' => ?_
                    have := g8 r' hr'
                    simpa using this
                  simp only [defFits, ha, Bool.true_and]
                  rw [er]
                  simpa using hjb
        · rintro σ Hx ⟨⟨x1, x2, x3, x4, rfl⟩, s1, inv⟩
          walk_at "rd"
          rw [← hlv, List.take_length] at inv
          have e : formedB ds = true := by
            simp only [formedB, Bool.and_eq_true, List.all_eq_true, decide_eq_true_eq]
            exact ⟨⟨by omega, by omega⟩, fun d hd => (inv d hd).1, by rw [eh]; exact h3, fun d hd => (inv d hd).2⟩
          have k := k Hx s1
          rwa [e] at k

end
end My

end
section
set_option Elab.async false
set_option linter.all false
set_option maxRecDepth 100000
set_option maxHeartbeats 4000000

namespace My
open PySem L2
local macro_rules | `(tactic| walk_at "rd1") => `(tactic| (first | ((with_reducible refine' rd_var ?e ?_); (case e => exact rfl)) | with_reducible refine rd_c ?_ | with_reducible refine rd_op ?_ | with_reducible refine rd_un ?_ | with_reducible refine rd_seq ?_ | with_reducible refine rd_asg ?_ | with_reducible refine rd_gname ?_ | with_reducible refine rd_ret ?_ | with_reducible refine rd_drop ?_ | with_reducible refine rd_next ?_ | with_reducible refine rd_if ?_ | with_reducible refine rd_test ?_ | with_reducible refine rd_tb ?_ | with_reducible refine rd_and ?_ | with_reducible refine rd_or ?_ | with_reducible refine rd_not ?_ | with_reducible refine rd_true ?_ | with_reducible refine rd_andV ?_ | with_reducible refine rd_orV ?_ | with_reducible refine rd_notV ?_ | with_reducible refine rd_ifE ?_ | with_reducible refine rd_chain ?_ | with_reducible refine rd_nil ?_ | with_reducible refine rd_cons ?_ | with_reducible refine rd_cb ?_ | with_reducible refine rd_call ?_ | with_reducible refine rd_I0 ?_ | with_reducible refine rd_U ?_ | with_reducible refine rd_eqI ?_ | with_reducible refine rd_neI ?_ | with_reducible refine rd_eqS ?_ | with_reducible refine rd_neS ?_ | with_reducible refine rd_eqB ?_ | with_reducible refine rd_neB ?_ | with_reducible refine rd_bl ?_ | with_reducible refine rd_int ?_ | with_reducible refine rd_tup ?_ | with_reducible refine rd_lst ?_ | with_reducible refine rd_gsub ?_ | with_reducible refine rd_slice ?_ | with_reducible refine rd_nopart ?_ | with_reducible refine rd_part ?_ | with_reducible refine rd_bm ?_ | with_reducible refine rd_bm0 ?_ | with_reducible refine rd_comp ?_ | with_reducible refine rd_itup ?_ | with_reducible refine rd_ilist ?_ | with_reducible refine rd_irng ?_ | with_reducible refine rd_gcons ?_ | with_reducible refine rd_gnil ?_ | with_reducible refine rd_for ?_ | with_reducible refine rd_abs ?_ | with_reducible refine rd_max ?_ | with_reducible refine rd_min ?_ | with_reducible refine rd_intB ?_ | with_reducible refine rd_dput ?_ | with_reducible refine rd_dget2 ?_ | with_reducible refine rd_dget ?_ | with_reducible refine rd_fld ?_ | with_reducible refine rd_sfld ?_ | with_reducible refine rd_meth ?_ | with_reducible refine rd_make ?_ | with_reducible refine rd_isN ?_ | with_reducible refine rd_notN ?_ | with_reducible refine rd_izip ?_ | with_reducible refine rd_izipT ?_ | with_reducible refine rd_pcons ?_ | with_reducible refine rd_pnil ?_ | with_reducible refine rd_dget1 ?_ | with_reducible refine rd_cdget ?_ | with_reducible refine iteNT ?_ | with_reducible refine iteNF ?_ | with_reducible refine iteF ?_ | with_reducible refine iteT ?_))
local macro_rules | `(tactic| walk_at "rd") => `(tactic| (repeat walk_at "rd1"))
local macro_rules | `(tactic| walk_at "mk") => `(tactic| refine ⟨mk_le rfl, ?_⟩)

section
variable {P : Program} {w : World} {K : PySem.W.Frag} {mg : Str → Option Value} {base : Heap}
def AlikeN (H : Hp) : Nat → V → V → Prop
  | 0, _, _ => False
  | n + 1, x, y => (x = y ∧ (x = .non ∨ (∃ i, x = .int i) ∨ ∃ z, x = .str z)) ∨ ∃ a b xs ys, x = .ref a ∧ y = .ref b ∧ ((H a = some (.lst xs) ∧ H b = some (.lst ys)) ∨ (H a = some (.tup xs) ∧ H b = some (.tup ys))) ∧ xs.length = ys.length ∧ xs.length ≤ 1000 ∧ ∀ (i : Nat) u v, xs[i]? = some u → ys[i]? = some v → AlikeN H n u v
def spAl (n : Nat) : Sp := sp2 fun x y H Q => AlikeN H n x y ∧ Q (.bl true) H
theorem sc__law_alike : FnScope ["found", "due", "k"] ["found", "due"] (defScope s__law_alike) := ⟨rfl, rfl, rfl, by decide +kernel, rfl, by decide +kernel, by decide +kernel⟩
theorem al_0 (T__law_alike : TopFn K mg "_law_alike" s__law_alike ["found", "due"]) : Callee P w K mg base "_law_alike" 1 ["found", "due"] (spAl 0) :=
  T__law_alike.ok2 sc__law_alike fun f cdv A outer s H v1 v2 Q E hr h => h.1.elim
theorem al_step {n lev : Nat} (B : Blt mg) (T__law_alike : TopFn K mg "_law_alike" s__law_alike ["found", "due"]) (C_law_alike : Callee P w K mg base "_law_alike" lev ["found", "due"] (spAl n)) : Callee P w K mg base "_law_alike" (lev + 1) ["found", "due"] (spAl (n + 1)) := by
  refine T__law_alike.ok2 sc__law_alike fun f cdv A outer s H v1 v2 Q E hr h => ?_
  have nd := sc__law_alike.nd
  obtain ⟨h, k⟩ := h
  refine' go_body [some v1, some v2, none] rfl ?hb ?hg
  case hb =>
   refine' pss_cons ?zb ?zc
   case zb => exact (ps_if (pt_cmpR op_isN' (pv 1) pe_non (nomark _)) (pss_one (ps_ret (pe_cmpR op_isN' (pv 0) pe_non (nomark _)))) pss_nil)
   case zc =>
    refine' pss_cons ?zd ?ze
    case zd =>
     refine' ps_if ?zf ?zg ?zh
     case zf =>
      refine' pt_val ?zi
      case zi =>
       refine' pe_callB ?zj ?zk ?zl ?zm ?zn
       case zj => exact call_isi
       case zk => exact (by rfl)
       case zl => exact B.b_isinstance
       case zm => exact bt_isinstance
       case zn => exact (pa_consN (pv 1) (pa_consN (pe_bltn (v := .ty "bool") (by rfl) B.b_bool bt_bool rfl) pa_nil))
     case zg =>
      refine' pss_one ?zo
      case zo =>
       refine' ps_ret ?zp
       case zp =>
        refine' pe_and ?zq ?zr
        case zq =>
         refine' pe_callB ?zs ?zt ?zu ?zv ?zw
         case zs => exact call_isi
         case zt => exact (by rfl)
         case zu => exact B.b_isinstance
         case zv => exact bt_isinstance
         case zw => exact (pa_consN (pv 0) (pa_consN (pe_bltn (v := .ty "bool") (by rfl) B.b_bool bt_bool rfl) pa_nil))
        case zr => exact (pe_one (pe_cmpR op_eq (pv 0) (pv 1) (nomark _)))
     case zh => exact pss_nil
    case ze =>
     refine' pss_cons ?zx ?zy
     case zx =>
      refine' ps_if ?zz ?zba ?zbb
      case zz =>
       refine' pt_val ?zbc
       case zbc => exact (pe_callB call_isi (by rfl) B.b_isinstance bt_isinstance (pa_consN (pv 1) (pa_consN (pe_bltn (v := .ty "int") (by rfl) B.b_int bt_int rfl) pa_nil)))
      case zba =>
       refine' pss_one ?zbd
       case zbd =>
        refine' ps_ret ?zbe
        case zbe =>
         refine' pe_and ?zbf ?zbg
         case zbf => exact (pe_callB call_isi (by rfl) B.b_isinstance bt_isinstance (pa_consN (pv 0) (pa_consN (pe_bltn (v := .ty "int") (by rfl) B.b_int bt_int rfl) pa_nil)))
         case zbg =>
          refine' pe_and ?zbh ?zbi
          case zbh =>
           refine' pe_not ?zbj
           case zbj =>
            refine' pe_callB ?zbk ?zbl ?zbm ?zbn ?zbo
            case zbk => exact call_isi
            case zbl => exact (by rfl)
            case zbm => exact B.b_isinstance
            case zbn => exact bt_isinstance
            case zbo => exact (pa_consN (pv 0) (pa_consN (pe_bltn (v := .ty "bool") (by rfl) B.b_bool bt_bool rfl) pa_nil))
          case zbi => exact (pe_one (pe_cmpR op_eq (pv 0) (pv 1) (nomark _)))
      case zbb => exact pss_nil
     case zy =>
      refine' pss_cons ?zbp ?zbq
      case zbp =>
       refine' ps_if ?zbr ?zbs ?zbt
       case zbr =>
        refine' pt_val ?zbu
        case zbu => exact (pe_callB call_isi (by rfl) B.b_isinstance bt_isinstance (pa_consN (pv 1) (pa_consN (pe_bltn (v := .ty "str") (by rfl) B.b_str bt_str rfl) pa_nil)))
       case zbs =>
        refine' pss_one ?zbv
        case zbv =>
         refine' ps_ret ?zbw
         case zbw =>
          refine' pe_and ?zbx ?zby
          case zbx => exact (pe_callB call_isi (by rfl) B.b_isinstance bt_isinstance (pa_consN (pv 0) (pa_consN (pe_bltn (v := .ty "str") (by rfl) B.b_str bt_str rfl) pa_nil)))
          case zby => exact (pe_one (pe_cmpR op_eq (pv 0) (pv 1) (nomark _)))
       case zbt => exact pss_nil
      case zbq =>
       refine' pss_cons ?zbz ?zca
       case zbz =>
        refine' ps_if ?zcb ?zcc ?zcd
        case zcb =>
         refine' pt_val ?zce
         case zce =>
          refine' pe_callB ?zcf ?zcg ?zch ?zci ?zcj
          case zcf => exact call_isi
          case zcg => exact (by rfl)
          case zch => exact B.b_isinstance
          case zci => exact bt_isinstance
          case zcj => exact (pa_consN (pv 1) (pa_consN (pe_bltn (v := .ty "tuple") (by rfl) B.b_tuple bt_tuple rfl) pa_nil))
        case zcc =>
         refine' pss_one ?zck
         case zck =>
          refine' ps_if ?zcl ?zcm ?zcn
          case zcl =>
           refine' pt_not ?zco
           case zco =>
            refine' pt_val ?zcp
            case zcp =>
             refine' pe_callB ?zcq ?zcr ?zcs ?zct ?zcu
             case zcq => exact call_isi
             case zcr => exact (by rfl)
             case zcs => exact B.b_isinstance
             case zct => exact bt_isinstance
             case zcu => exact (pa_consN (pv 0) (pa_consN (pe_bltn (v := .ty "tuple") (by rfl) B.b_tuple bt_tuple rfl) pa_nil))
          case zcm => exact (pss_one (ps_ret pe_bl))
          case zcn => exact pss_nil
        case zcd =>
         refine' pss_one ?zcv
         case zcv =>
          refine' ps_if ?zcw ?zcx ?zcy
          case zcw =>
           refine' pt_not ?zcz
           case zcz =>
            refine' pt_val ?zda
            case zda =>
             refine' pe_callB ?zdb ?zdc ?zdd ?zde ?zdf
             case zdb => exact call_isi
             case zdc => exact (by rfl)
             case zdd => exact B.b_isinstance
             case zde => exact bt_isinstance
             case zdf => exact (pa_consN (pv 0) (pa_consN (pe_bltn (v := .ty "list") (by rfl) B.b_list bt_list rfl) pa_nil))
          case zcx => exact (pss_one (ps_ret pe_bl))
          case zcy => exact pss_nil
       case zca =>
        refine' pss_cons ?zdg ?zdh
        case zdg =>
         refine' ps_if ?zdi ?zdj ?zdk
         case zdi =>
          refine' pt_cmpR ?zdl ?zdm ?zdn ?zdo
          case zdl => exact op_ne
          case zdm => exact (pe_callB (k_len (K := K) rfl) (by rfl) B.b_len bt_len (pa_consN (pv 0) pa_nil))
          case zdn => exact (pe_callB (k_len (K := K) rfl) (by rfl) B.b_len bt_len (pa_consN (pv 1) pa_nil))
          case zdo => exact (nomark _)
         case zdj => exact (pss_one (ps_ret pe_bl))
         case zdk => exact pss_nil
        case zdh =>
         refine' pss_cons ?zdp ?zdq
         case zdp =>
          refine' ps_for ?zdr ?zds ?zdt ?zdu ?zdv
          case zdr => exact PassesOwn.never
          case zds => exact rfl
          case zdt => exact (pi_range1 rfl B.b_range (pa_consC (pe_callB (k_len (K := K) rfl) (by rfl) B.b_len bt_len (pa_consN (pv 1) pa_nil)) pa_nil))
          case zdu => exact (pg_name (i := 2) nd rfl (Or.inl rfl))
          case zdv =>
           refine' pss_one ?zdw
           case zdw =>
            refine' ps_if ?zdx ?zdy ?zdz
            case zdx =>
             refine' pt_not ?zea
             case zea =>
              refine' pt_val ?zeb
              case zeb =>
               refine' pe_fn ?zec ?zed ?zee ?zef
               case zec => exact C_law_alike
               case zed => exact (hr.mono (by first | decide | omega))
               case zee => exact (by rfl)
               case zef => exact (pa_consS (pe_ix (k_ix (K := K) rfl) (pv 0) (pv 2) (fun _ _ => rfl)) (pa_consS (pe_ix (k_ix (K := K) rfl) (pv 1) (pv 2) (fun _ _ => rfl)) pa_nil))
            case zdy => exact (pss_one (ps_ret pe_bl))
            case zdz => exact pss_nil
         case zdq => exact (pss_one (ps_ret pe_bl))
  have seq : ∀ (p q : Addr) (xs ys : List V), v1 = .ref p → v2 = .ref q → xs.length = ys.length → xs.length ≤ 1000 → (∀ (i : Nat) u v, xs[i]? = some u → ys[i]? = some v → AlikeN H n u v) →
      (∀ (Q : VK) i v, xs[i]? = some v → Q v H → rIxA K (.ref p) (.int (i : Nat)) H Q) → (∀ (Q : VK) i v, ys[i]? = some v → Q v H → rIxA K (.ref q) (.int (i : Nat)) H Q) → (∀ Q : VK, Q (.int xs.length) H → rLen K [.ref p] H Q) → (∀ Q : VK, Q (.int xs.length) H → rLen K [.ref q] H Q) →
      tSeq (tIfS (tTest (tOp rNe (tCB (rLen K) (tCons (tVar 0) tNil)) (tCB (rLen K) (tCons (tVar 1) tNil)))) (tRet (tC (.bl false))) tNext)
        (tSeq (tFor (iRng1 (tCons (tCB (rLen K) (tCons (tVar 1) tNil)) tNil)) (gName 2) (tIfS (tNot (tB (tCall (spAl n) [] E0 (tCons (tOp (rIxA K) (tVar 0) (tVar 2)) (tCons (tOp (rIxA K) (tVar 1) (tVar 2)) tNil))))) (tRet (tC (.bl false))) tNext)) (tRet (tC (.bl true))))
        { nx := fun _ H' => Q .non H', rt := Q } [some v1, some v2, none] H := by
    intro p q xs ys e1 e2 el hl hd ix iy lx ly
    subst e1; subst e2
    walk_at "rd"
    refine lx _ ?_
    walk_at "rd"
    refine ly _ ?_
    walk_at "rd"
    refine iteNS rfl ?_
    walk_at "rd"
    refine ly _ ?_
    walk_at "rd"
    refine irK_of (by omega) (by omega) ?_
    refine for_range (n := (xs.length : Int).toNat) (fun i σ Hx => (∃ x2, σ = [some (.ref p), some (.ref q), x2]) ∧ Hx = H) ⟨⟨none, rfl⟩, rfl⟩ ?_ ?_
    · rintro i σ Hx hi ⟨⟨x2, rfl⟩, rfl⟩
      have hi' : i < xs.length := by omega
      have eu := List.getElem?_eq_getElem hi'
      have ev := List.getElem?_eq_getElem (el ▸ hi' : i < ys.length)
      walk_at "rd"
      rw [show (0 : Int) + (i : Int) = (i : Int) by omega]
      refine ix _ i _ eu ?_
      walk_at "rd"
      refine iy _ i _ ev ?_
      walk_at "rd"
      refine use2 ⟨hd i _ _ eu ev, ?_⟩
      walk_at "rd"
      exact ⟨⟨_, rfl⟩, rfl⟩
    · rintro σ Hx ⟨⟨x2, rfl⟩, rfl⟩
      walk_at "rd"
      exact k
  rcases h with ⟨rfl, rfl | ⟨i, rfl⟩ | ⟨z, rfl⟩⟩ | ⟨a, b, xs, ys, rfl, rfl, h, el, hl, hd⟩
  · walk_at "rd"
    refine ite_dy rfl ?_
    walk_at "rd"
    exact k
  · walk_at "rd"
    refine ite_dn (by intro z; cases z) ?_
    walk_at "rd"
    refine rd_isi rfl (by simp) (rd_bl (iteF ?_))
    walk_at "rd"
    refine rd_isi rfl (by simp) (rd_bl (iteT ?_))
    walk_at "rd"
    refine rd_isi rfl (by simp) (rd_bl (iteT ?_))
    walk_at "rd"
    refine rd_isi rfl (by simp) (rd_bl (rd_bl (iteT ?_)))
    walk_at "rd"
    rw [decide_eq_true rfl]
    exact k
  · walk_at "rd"
    refine ite_dn (by intro z; cases z) ?_
    walk_at "rd"
    refine rd_isi rfl (by simp) (rd_bl (iteF ?_))
    walk_at "rd"
    refine rd_isi rfl (by simp) (rd_bl (iteF ?_))
    walk_at "rd"
    refine rd_isi rfl (by simp) (rd_bl (iteT ?_))
    walk_at "rd"
    refine rd_isi rfl (by simp) (rd_bl (iteT ?_))
    walk_at "rd"
    rw [decide_eq_true rfl]
    exact k
  · rcases h with ⟨h1, h2⟩ | ⟨h1, h2⟩
    · have t1 := tyN_lst h1
      have t2 := tyN_lst h2
      walk_at "rd"
      refine ite_dn (by intro z; cases z) ?_
      walk_at "rd"
      refine rd_isi t2 (by simp) (rd_bl (iteF ?_))
      walk_at "rd"
      refine rd_isi t2 (by simp) (rd_bl (iteF ?_))
      walk_at "rd"
      refine rd_isi t2 (by simp) (rd_bl (iteF ?_))
      walk_at "rd"
      refine rd_isi t2 (by simp) (rd_bl (iteF ?_))
      walk_at "rd"
      refine rd_isi t1 (by simp) (rd_bl (iteNT ?_))
      refine rd_next ?_
      exact seq a b xs ys rfl rfl el hl hd (fun Q i v e k => rd_ixaL h1 (atI_at rfl e) k) (fun Q i v e k => rd_ixaL h2 (atI_at rfl e) k) (fun Q k => rd_lenL' (SqL.of h1) k) (fun Q k => rd_lenL' (SqL.of h2) (by rw [← el]; exact k))
    · have t1 : tyN H (.ref a) = some "tuple" := by simp [tyN, h1]
      have t2 : tyN H (.ref b) = some "tuple" := by simp [tyN, h2]
      walk_at "rd"
      refine ite_dn (by intro z; cases z) ?_
      walk_at "rd"
      refine rd_isi t2 (by simp) (rd_bl (iteF ?_))
      walk_at "rd"
      refine rd_isi t2 (by simp) (rd_bl (iteF ?_))
      walk_at "rd"
      refine rd_isi t2 (by simp) (rd_bl (iteF ?_))
      walk_at "rd"
      refine rd_isi t2 (by simp) (rd_bl (iteT ?_))
      walk_at "rd"
      refine rd_isi t1 (by simp) (rd_bl (iteNT ?_))
      refine rd_next ?_
      exact seq a b xs ys rfl rfl el hl hd (fun Q i v e k => rd_ixaT h1 (atI_at rfl e) k) (fun Q i v e k => rd_ixaT h2 (atI_at rfl e) k) (fun Q k => rd_lenT' (SqT.of h1) k) (fun Q k => rd_lenT' (SqT.of h2) (by rw [← el]; exact k))
/-- a row is like itself, and a program like its copy -/
theorem al_part {H : Hp} {d : D} {x y : V} (h : PartD 1 d) (r1 : Rep H d x) (r2 : Rep H d y) : AlikeN H 2 x y := by
  cases d with
  | non => simp [PartD] at h
  | bl _ => simp [PartD] at h
  | str _ => simp [PartD] at h
  | int n => obtain rfl := rep_int_inv r1; obtain rfl := rep_int_inv r2; exact .inl ⟨rfl, .inr (.inl ⟨n, rfl⟩)⟩
  | tup ds =>
    obtain ⟨hl, hd⟩ := h
    obtain ⟨a, xs, rfl, ha, rx⟩ := rep_tup_inv r1
    obtain ⟨b, ys, rfl, hb, ry⟩ := rep_tup_inv r2
    refine .inr ⟨a, b, xs, ys, rfl, rfl, .inr ⟨ha, hb⟩, rx.length.symm.trans ry.length, by rw [← rx.length]; exact hl, fun i u v eu ev => ?_⟩
    obtain ⟨d, e1, q1⟩ := rx.get' eu
    obtain ⟨d', e2, q2⟩ := ry.get' ev
    rw [e1] at e2
    cases e2
    obtain ⟨n, rfl⟩ := hd d (List.mem_of_getElem? e1)
    obtain rfl := rep_int_inv q1
    obtain rfl := rep_int_inv q2
    exact .inl ⟨rfl, .inr (.inl ⟨n, rfl⟩)⟩
theorem al_row {H : Hp} {r : Str × List D} {x y : V} (h : ∀ d ∈ r.2, PartD 1 d) (hl : r.2.length < 1000) (r1 : Rep H (rowD r) x) (r2 : Rep H (rowD r) y) : AlikeN H 3 x y := by
  obtain ⟨a, xs, rfl, ha, rx⟩ := rep_tup_inv (show Rep H (.tup (.str r.1 :: r.2)) x from r1)
  obtain ⟨b, ys, rfl, hb, ry⟩ := rep_tup_inv (show Rep H (.tup (.str r.1 :: r.2)) y from r2)
  refine .inr ⟨a, b, xs, ys, rfl, rfl, .inr ⟨ha, hb⟩, rx.length.symm.trans ry.length, by rw [← rx.length]; simp; omega, fun i u v eu ev => ?_⟩
  obtain ⟨d, e1, q1⟩ := rx.get' eu
  obtain ⟨d', e2, q2⟩ := ry.get' ev
  rw [e1] at e2
  cases e2
  cases i with
  | zero =>
    simp at e1
    subst e1
    rw [Rep] at q1 q2
    subst q1; subst q2
    exact .inl ⟨rfl, .inr (.inr ⟨_, rfl⟩)⟩
  | succ i =>
    exact al_part (h d (List.mem_of_getElem? (by simpa using e1))) q1 q2
theorem al_prog {H : Hp} {ds : List PDef} {p q : Addr} {vs ws : List V} (h1 : H p = some (.lst vs)) (h2 : H q = some (.lst ws)) (D1 : DefsAt [] H ds vs) (D2 : DefsAt [] H ds ws) (PD : PgD ds) (hr : ∀ d ∈ ds, ∀ r ∈ d.2.2, r.2.length < 1000) : AlikeN H 6 (.ref p) (.ref q) := by
  refine .inr ⟨p, q, vs, ws, rfl, rfl, .inl ⟨h1, h2⟩, D1.length.symm.trans D2.length, by rw [← D1.length]; exact PD.len, fun i u v eu ev => ?_⟩
  obtain ⟨d, e1, t1, q1, ys1, rfl, a1, b1, _, r1⟩ := D1.get eu
  obtain ⟨d', e2, t2, q2, ys2, rfl, a2, b2, _, r2⟩ := D2.get ev
  rw [e1] at e2
  cases e2
  have hm := List.mem_of_getElem? e1
  refine .inr ⟨t1, t2, _, _, rfl, rfl, .inr ⟨a1, a2⟩, rfl, by simp, fun j u v eu ev => ?_⟩
  match j, eu, ev with
  | 0, eu, ev => simp at eu ev; subst eu; subst ev; exact .inl ⟨rfl, .inr (.inl ⟨_, rfl⟩)⟩
  | 1, eu, ev => simp at eu ev; subst eu; subst ev; exact .inl ⟨rfl, .inr (.inl ⟨_, rfl⟩)⟩
  | 2, eu, ev =>
    simp at eu ev
    subst eu; subst ev
    have l1 := r1.length
    have l2 := r2.length
    rw [List.length_map] at l1 l2
    refine .inr ⟨q1, q2, ys1, ys2, rfl, rfl, .inl ⟨b1, b2⟩, by omega, by have := PD.rows d hm; omega, fun i u v eu ev => ?_⟩
    obtain ⟨x1, f1, g1⟩ := r1.get' eu
    obtain ⟨x2, f2, g2⟩ := r2.get' ev
    rw [f1] at f2
    cases f2
    rw [List.getElem?_map] at f1
    obtain ⟨r, er, rfl⟩ := Option.map_eq_some_iff.mp f1
    have hmr := List.mem_of_getElem? er
    exact al_row (PD.part d hm r hmr).2 (hr d hm r hmr) g1 g2
  | j + 3, eu, ev => simp at eu

end
end My

end
section
set_option Elab.async false
set_option linter.all false
set_option maxRecDepth 100000
set_option maxHeartbeats 4000000

namespace My
open PySem L2
local macro_rules | `(tactic| walk_at "rd1") => `(tactic| (first | ((with_reducible refine' rd_var ?e ?_); (case e => exact rfl)) | with_reducible refine rd_c ?_ | with_reducible refine rd_op ?_ | with_reducible refine rd_un ?_ | with_reducible refine rd_seq ?_ | with_reducible refine rd_asg ?_ | with_reducible refine rd_gname ?_ | with_reducible refine rd_ret ?_ | with_reducible refine rd_drop ?_ | with_reducible refine rd_next ?_ | with_reducible refine rd_if ?_ | with_reducible refine rd_test ?_ | with_reducible refine rd_tb ?_ | with_reducible refine rd_and ?_ | with_reducible refine rd_or ?_ | with_reducible refine rd_not ?_ | with_reducible refine rd_true ?_ | with_reducible refine rd_andV ?_ | with_reducible refine rd_orV ?_ | with_reducible refine rd_notV ?_ | with_reducible refine rd_ifE ?_ | with_reducible refine rd_chain ?_ | with_reducible refine rd_nil ?_ | with_reducible refine rd_cons ?_ | with_reducible refine rd_cb ?_ | with_reducible refine rd_call ?_ | with_reducible refine rd_I0 ?_ | with_reducible refine rd_U ?_ | with_reducible refine rd_eqI ?_ | with_reducible refine rd_neI ?_ | with_reducible refine rd_eqS ?_ | with_reducible refine rd_neS ?_ | with_reducible refine rd_eqB ?_ | with_reducible refine rd_neB ?_ | with_reducible refine rd_bl ?_ | with_reducible refine rd_int ?_ | with_reducible refine rd_tup ?_ | with_reducible refine rd_lst ?_ | with_reducible refine rd_gsub ?_ | with_reducible refine rd_slice ?_ | with_reducible refine rd_nopart ?_ | with_reducible refine rd_part ?_ | with_reducible refine rd_bm ?_ | with_reducible refine rd_bm0 ?_ | with_reducible refine rd_comp ?_ | with_reducible refine rd_itup ?_ | with_reducible refine rd_ilist ?_ | with_reducible refine rd_irng ?_ | with_reducible refine rd_gcons ?_ | with_reducible refine rd_gnil ?_ | with_reducible refine rd_for ?_ | with_reducible refine rd_abs ?_ | with_reducible refine rd_max ?_ | with_reducible refine rd_min ?_ | with_reducible refine rd_intB ?_ | with_reducible refine rd_dput ?_ | with_reducible refine rd_dget2 ?_ | with_reducible refine rd_dget ?_ | with_reducible refine rd_fld ?_ | with_reducible refine rd_sfld ?_ | with_reducible refine rd_meth ?_ | with_reducible refine rd_make ?_ | with_reducible refine rd_isN ?_ | with_reducible refine rd_notN ?_ | with_reducible refine rd_izip ?_ | with_reducible refine rd_izipT ?_ | with_reducible refine rd_pcons ?_ | with_reducible refine rd_pnil ?_ | with_reducible refine rd_dget1 ?_ | with_reducible refine rd_cdget ?_ | with_reducible refine iteNT ?_ | with_reducible refine iteNF ?_ | with_reducible refine iteF ?_ | with_reducible refine iteT ?_))
local macro_rules | `(tactic| walk_at "rd") => `(tactic| (repeat walk_at "rd1"))
local macro_rules | `(tactic| walk_at "mk") => `(tactic| refine ⟨mk_le rfl, ?_⟩)

section
variable {P : Program} {w : World} {K : PySem.W.Frag} {mg : Str → Option Value} {base : Heap}
def sp_copy12 : Sp := sp1 fun x H Q => ∃ p vs ds, x = .ref p ∧ H p = some (.lst vs) ∧ DefsAt [] H ds vs ∧ PgD ds ∧ ∀ q ws H', H' q = some (.lst ws) → DefsAt [] H' ds ws → Same H H' → Q (.ref q) H'
theorem sc__law_copy : FnScope ["program"] ["program"] (defScope s__law_copy) := ⟨rfl, rfl, rfl, by decide +kernel, rfl, by decide +kernel, by decide +kernel⟩
theorem c__law_copy (B : Blt mg) (T__law_copy : TopFn K mg "_law_copy" s__law_copy ["program"]) : Callee P w K mg base "_law_copy" 1 ["program"] sp_copy12 := by
  refine T__law_copy.ok1 sc__law_copy fun f cdv A outer s H v1 Q E hr h => ?_
  have nd := sc__law_copy.nd
  obtain ⟨p, vs, ds, rfl, hp, D0, PD, k⟩ := h
  have hlv := D0.length
  have hl := PD.len
  refine' go_body [some (.ref p)] rfl ?hb ?hg
  case hb =>
   refine' pss_one ?zb
   case zb =>
    refine' ps_ret ?zc
    case zc =>
     refine' pe_comp (LN := ["takes", "boxes", "rows"]) (FN := []) (fr := []) ?zd ?ze ?zf ?zg ?zh ?zi
     case zd => exact rfl
     case ze => exact (bk_of (by rfl))
     case zf => exact (k_pi_list (K := K) rfl (pv 0))
     case zg =>
      intro cl C fp pins s H
      refine' k_pg_tup (K := K) (n := 3) ?zj ?zk ?zl
      case zj => exact rfl
      case zk => exact rfl
      case zl =>
       refine' pgs_cons ?zm ?zn
       case zm => exact (pg_name (i := 0) (show ((["takes", "boxes", "rows"] : List Str) ++ ([] : List Str)).Nodup by decide +kernel) rfl (Or.inl rfl))
       case zn =>
        refine' pgs_cons ?zo ?zp
        case zo => exact (pg_name (i := 1) (show ((["takes", "boxes", "rows"] : List Str) ++ ([] : List Str)).Nodup by decide +kernel) rfl (Or.inl rfl))
        case zp => exact (pgs_cons (pg_name (i := 2) (show ((["takes", "boxes", "rows"] : List Str) ++ ([] : List Str)).Nodup by decide +kernel) rfl (Or.inl rfl)) pgs_nil)
     case zh =>
      intro cl C fp pins s H
      exact pts_nil
     case zi =>
      intro cl C fp pins s H
      exact (pe_tup (pa_consN (pv 0) (pa_consN (pv 1) (pa_consC (pe_callTy (k_lstOf (K := K) rfl) (by rfl) B.b_list bt_list (pa_consN (pv 2) pa_nil)) pa_nil))))
  walk_at "rd"
  refine ilK_of (SqL.of hp) ?_
  refine cw_list (xs := vs) (small_le' (by omega)) (fun i zs σ Hy => (∃ x1 x2 x3, σ = [x1, x2, x3]) ∧ Same H Hy ∧ DefsAt [] Hy (ds.take i) zs) ⟨⟨none, none, none, rfl⟩, Same.refl _, rfl⟩ (fun i zs σ Hy _ ⟨_, s1, _⟩ => SqL.of (s1 _ _ hp)) ?_ ?_
  · rintro i x zs σ Hy hx hle hlt ⟨⟨x1, x2, x3, rfl⟩, s1, Dz⟩
    obtain ⟨d, ed, t, q, ys, rfl, hat, hq, _, ry⟩ := D0.get hx
    have hyl := ry.length
    rw [List.length_map] at hyl
    have hr0 := PD.rows d (List.mem_of_getElem? ed)
    refine rd_gtup (s1 _ _ hat) rfl ?_
    walk_at "rd"
    refine rd_lstOf (.inl (SqL.of (s1 _ _ hq))) fun p2 hp2 => ?_
    have s2 := Same.new (o := .lst ys) hp2
    have e2 : upd Hy p2 (.lst ys) p2 = some (.lst ys) := upd_same
    generalize upd Hy p2 (.lst ys) = H2 at s2 e2
    walk_at "rd"
    refine ⟨show 3 ≤ PySem.sizeLine by rw [PySem.sizeLine_eq]; decide, fun p3 hp3 => ⟨hlt, by simpa using hle, ⟨_, _, _, rfl⟩, ?_⟩⟩
    have s3 := Same.new (o := .tup [V.int d.1, V.int d.2.1, V.ref p2]) hp3
    have e3 : upd H2 p3 (.tup [V.int d.1, V.int d.2.1, V.ref p2]) p3 = some (.tup [V.int d.1, V.int d.2.1, V.ref p2]) := upd_same
    generalize upd H2 p3 (.tup [V.int d.1, V.int d.2.1, V.ref p2]) = H3 at s3 e3
    have s13 := (s1.trans s2).trans s3
    refine ⟨s13, ?_⟩
    rw [List.take_add_one, ed]
    exact (Dz.mono (s2.trans s3)).append ⟨.ref p3, [], rfl, ⟨p3, p2, ys, rfl, e3, s3 _ _ e2, by simp, ry.mono s13.ts⟩, rfl⟩
  · rintro zs σ Hy hzl ⟨⟨x1, x2, x3, rfl⟩, s1, Dz⟩ pa hpa
    rw [← hlv, List.take_length] at Dz
    exact k pa zs _ upd_same (Dz.mono (Same.new hpa)) (s1.trans (Same.new hpa))

end
end My

end
section
set_option Elab.async false
set_option linter.all false
set_option maxRecDepth 100000
set_option maxHeartbeats 4000000
namespace HT
open PySem PySem.Spec PyProof.Rows L2
section
variable {prog : Program} {w : World} {A : Around} {E : Value → Shared → Prop} {s : Shared}
/-- t + u, t empty: u itself -/
theorem cat_tup0 {t b : Addr} {vs ws : List Value} {Q : Value → Shared → Prop} (ht : IsTup s.heap t vs.toArray) (hb : IsTup s.heap b ws.toArray) (hv : vs = []) (h1 : Q (.ref b) s) : wpAny (model prog w) A (binaryOp .Add (.ref t) (.ref b)) Q E s := by
  obtain ⟨⟨cls, dd, data, sl⟩, ho, hc, n, hd⟩ := id ht
  obtain ⟨⟨cls2, dd2, data2, sl2⟩, ho2, hc2, n2, hd2⟩ := id hb
  simp only at hc hd hc2 hd2
  subst hc hd hc2 hd2
  exact concat_meets ⟨_, ho, rfl⟩ ⟨_, ho2, rfl⟩ noFill_tuple_add seq_tuple_add PySem.F.slot_tuple_add PySem.F.entry_tuple_add (PySem.F.args_tuple_add_2 _ _) (tuple_addW0 t b vs.toArray ws.toArray n n2 dd dd2 sl sl2 (by simp [hv])) ⟨ho, ho2, h1⟩
/-- t[a:b], the whole: t itself -/
theorem getItem_tuple_all {t sl : Addr} {items : Array Value} {vl vu : Value} {lo hi : Option Int} {Q : Value → Shared → Prop} (ht : IsTup s.heap t items) (hs : s.heap.IsSliceOf sl vl vu .none) (pl : IsPart vl lo) (pu : IsPart vu hi)
    (hw : sIx items.size 0 lo = 0 ∧ sIx items.size items.size hi = items.size) (h : Q (.ref t) s) : wpAny (model prog w) A (getItem (.ref t) (.ref sl)) Q E s := by
  obtain ⟨os, hos, hcs, hds⟩ := id hs
  have hTs : s.TypeIs (.ref sl) "slice" := ⟨os, hos, hcs⟩
  unfold getItem
  try with_reducible refine wpAny_holding ?_
  first | refine wpAny_bind (wpAny_pure ?_) | skip
  refine wpAny_bind (wpAny_sequenceKey ht.typeIs (by decide) ?_)
  refine wpAny_bind (wpAny_callSpecial?_slot (name := Str.ofString "__getitem__") ht.typeIs PyProof.Rows.slot_tuple_getitem
    (wpAny_call_entry PyProof.Rows.slot_tuple_getitem ht.typeIs entry_tuple_getitem ?_ (args_tuple_getitem _ _)))
  show wpAny _ _ (Builtin.Tuple.tupleItemsOf (.ref t) >>= _) _ _ s
  refine wpAny_bind (tupleItemsOf_ ht ?_)
  refine wpAny_bind (wpAny_typeOf hTs ?_)
  rw [if_pos (by decide)]
  refine wpAny_bind (sliceApplied_gen hs pl pu ?_)
  have hyes : ((((sIx items.size 0 lo : Nat) : Int) == 0 && (1 : Int) == 1 && (sIx items.size items.size hi - sIx items.size 0 lo) == items.size) = true) := by
    rw [hw.1, hw.2]; simp
  show wpAny _ _ (if (((sIx items.size 0 lo : Nat) : Int) == 0 && (1 : Int) == 1 && (sIx items.size items.size hi - sIx items.size 0 lo) == items.size) = true then _ else _) _ _ s
  rw [if_pos hyes]
  refine wpAny_bind ?_
  refine wpAny_bind ?_
  refine wpAny_typeOf ht.typeIs (wpAny_pure ?_)
  rw [if_pos (by decide)]
  exact wpAny_bind (wpAny_rule (wpAny_pure ⟨_, rfl, wpAny_pure h⟩))
end
end HT
namespace L2
open PySem PySem.Spec PyProof.Rows
section
variable {X : Cx} {K : PySem.W.Frag}
/-- t[lo:hi], the whole or not -/
def rSlW (K : PySem.W.Frag) : V → Option Int → Option Int → Hp → VK → Prop := fun x lo hi H Q => ∃ a xs, x = .ref a ∧ SqT K H a xs ∧ (cutV xs lo hi = xs → Q (.ref a) H) ∧ ∀ p, H p = none → Q (.ref p) (upd H p (.tup (cutV xs lo hi)))
theorem sl_tupW : SlR X (rSlW X.K) := by
  intro pins s σ H x v vl vu lo hi sl Q I rx hs pl pu h
  obtain ⟨a, xs, rfl, hx, q1, q⟩ := h
  by_cases hw : HT.sIx xs.length 0 lo = 0 ∧ HT.sIx xs.length xs.length hi = xs.length
  · cases rx
    obtain ⟨its, r, ht, hz⟩ := I.tuple hx
    have hlen : its.toArray.size = xs.length := by rw [List.size_toArray]; exact r.length.symm
    refine ⟨"tuple", _, PyProof.Rows.slot_tuple_getitem.lookup, ht.typeIs, ?_⟩
    refine HT.getItem_tuple_all ht hs pl pu (by rw [hlen]; exact hw) ?_
    refine ⟨.ref a, H, I, rfl, q1 ?_⟩
    unfold cutV
    rw [hw.1, hw.2]
    simp
  · exact sl_tup pins s σ H _ v vl vu lo hi sl Q I rx hs pl pu ⟨a, xs, rfl, hx, hw, q⟩
theorem k_slW (h : X.K = K) : SlR X (rSlW K) := h ▸ sl_tupW
/-- t + u of any two tuples -/
def rCatW (K : PySem.W.Frag) : R2 := fun x y H Q => ∃ a b xs ys, x = .ref a ∧ y = .ref b ∧ SqT K H a xs ∧ SqT K H b ys ∧ xs.length + ys.length ≤ sizeLine ∧
  (xs = [] → Q (.ref b) H) ∧ (ys = [] → Q (.ref a) H) ∧ ∀ p, H p = none → Q (.ref p) (upd H p (.tup (xs ++ ys)))
theorem op_catW : OpR X (binaryOp .Add) (rCatW X.K) := by
  intro pins s σ H x y v u Q I rx ry h
  obtain ⟨a, b, xs, ys, rfl, rfl, ha, hb, hz, q0, q1, q2⟩ := h
  by_cases hx : xs = []
  · cases rx
    cases ry
    obtain ⟨its, r1, p1, _⟩ := I.tuple ha
    obtain ⟨its2, r2, p2, _⟩ := I.tuple hb
    exact HT.cat_tup0 p1 p2 (r1.nil_iff.mpr hx) ⟨.ref b, H, I, rfl, q0 hx⟩
  · exact op_catT pins s σ H _ _ v u Q I rx ry ⟨a, b, xs, ys, rfl, rfl, ha, hb, hx, hz, q1, fun _ => q2⟩
theorem k_catW (h : X.K = K) : OpR X (binaryOp .Add) (rCatW K) := h ▸ op_catW
end
/-- readings: some tuple with these items, new or not; the heap only grows -/
theorem rd_slW {K : PySem.W.Frag} {H : Hp} {a : Addr} {xs : List V} {lo hi : Option Int} {Q : VK} (h : H a = some (.tup xs)) (q : ∀ p H', H' p = some (.tup (cutV xs lo hi)) → Same H H' → Q (.ref p) H') : rSlW K (.ref a) lo hi H Q :=
  ⟨a, xs, rfl, SqT.of h, fun e => q a H (by rw [e]; exact h) (Same.refl _), fun p hp => q p _ upd_same (Same.new hp)⟩
theorem rd_catW {K : PySem.W.Frag} {H : Hp} {a b : Addr} {xs ys : List V} {Q : VK} (h1 : H a = some (.tup xs)) (h2 : H b = some (.tup ys)) (hz : xs.length + ys.length ≤ 1000000) (q : ∀ p H', H' p = some (.tup (xs ++ ys)) → Same H H' → Q (.ref p) H') : rCatW K (.ref a) (.ref b) H Q :=
  ⟨a, b, xs, ys, rfl, rfl, SqT.of h1, SqT.of h2, small_le' hz, fun e => q b H (by rw [e]; exact h2) (Same.refl _), fun e => q a H (by rw [e, List.append_nil]; exact h1) (Same.refl _), fun p hp => q p _ upd_same (Same.new hp)⟩
end L2

end
section
set_option Elab.async false
set_option linter.all false
set_option maxRecDepth 100000
set_option maxHeartbeats 4000000
namespace HT
open PySem PySem.Spec PyProof.Rows L2
theorem noFill_tuple_mul : fillsNumberSlot (.type "tuple") "mul" = pure false :=
  PySem.fillsNumberSlot_seq (id := "tuple.__mul__") (r := some (.builtin "tuple.__rmul__")) F.slot_tuple_mul.lookup (by decide +kernel) F.slot_tuple_rmul.lookup (by decide +kernel)
theorem repeat_tuple : seqRepeat? (.type "tuple") = pure (some (.builtin "tuple.__mul__")) := by
  unfold seqRepeat?
  rw [PySem.seqSlot_of (T := "tuple") (name := "__mul__") (id := "tuple.__mul__") F.slot_tuple_mul.lookup (by decide +kernel), PySem.seqSlot_of (T := "tuple") (name := "__rmul__") (id := "tuple.__rmul__") F.slot_tuple_rmul.lookup (by decide +kernel)]
  rfl
theorem rmul_tup (a : Int) (t : Tok) (l : Addr) (items : Array Value) (n : Nat) (dd : Option Addr) (sl : Array (Option Value)) :
    Meets (Builtin.«int.__rmul__» ⟨[.int a t, .ref l], []⟩) (fun _ R s => s.heap.get? l = some { cls := .type "tuple", dict := dd, data := .seq items n, slots := sl } ∧ R (.ok (.ret Value.notImplemented)) s) :=
  .of_wp fun prog w A R s h => by obtain ⟨hp, g, d, tk, os⟩ := s; obtain ⟨hl, h⟩ := h; wp_walk; exact ⟨_, rfl, h⟩
theorem mul_tup1 (l : Addr) (items : Array Value) (n : Nat) (dd : Option Addr) (sl : Array (Option Value)) (u : Tok) :
    Meets (Builtin.«tuple.__mul__» ⟨[.ref l, .int 1 u], []⟩) (fun _ R s => s.heap.get? l = some { cls := .type "tuple", dict := dd, data := .seq items n, slots := sl } ∧ R (.ok (.ret (.ref l))) s) :=
  .of_wp fun prog w A R s h => by
    obtain ⟨hp, g, d, tk, os⟩ := s; obtain ⟨hl, h⟩ := h
    have f1 := AutoSeq1.idx_int
    have c1 : (items.isEmpty || (1 : Int) == 1) = true := by simp
    wp_walk using wpAny_loadPart' hl
    exact ⟨_, rfl, h⟩
theorem mul_tup0 (l : Addr) (items : Array Value) (n : Nat) (dd : Option Addr) (sl : Array (Option Value)) (u : Tok) (hi : items.isEmpty = false) :
    Meets (Builtin.«tuple.__mul__» ⟨[.ref l, .int 0 u], []⟩) (fun _ R s => s.heap.get? l = some { cls := .type "tuple", dict := dd, data := .seq items n, slots := sl } ∧ R (.ok (.ret (.ref s.heap.objs.size))) { s with heap := s.heap.push { cls := .type "tuple", data := .seq #[] } }) :=
  .of_wp fun prog w A R s h => by
    obtain ⟨hp, g, d, tk, os⟩ := s; obtain ⟨hl, h⟩ := h
    have f1 := AutoSeq1.idx_int
    have c1 : ¬ (items.isEmpty || (0 : Int) == 1) = true := by simp [hi]
    have c2 : (decide ((0 : Int) ≤ 0) || items.isEmpty) = true := by simp
    wp_walk using wpAny_loadPart' hl
    exact ⟨_, rfl, h⟩
theorem mul_tup2 (l : Addr) (v : Value) (n : Nat) (dd : Option Addr) (sl : Array (Option Value)) (u : Tok) :
    Meets (Builtin.«tuple.__mul__» ⟨[.ref l, .int 2 u], []⟩) (fun _ R s => s.heap.get? l = some { cls := .type "tuple", dict := dd, data := .seq #[v] n, slots := sl } ∧ R (.ok (.ret (.ref s.heap.objs.size))) { s with heap := s.heap.push { cls := .type "tuple", data := .seq #[v, v] } }) :=
  .of_wp fun prog w A R s h => by
    obtain ⟨hp, g, d, tk, os⟩ := s; obtain ⟨hl, h⟩ := h
    have f1 := AutoSeq1.idx_int
    have c4 : ¬ Builtin.Tuple.tupleTooMany (((#[v] : Array Value).size : Int) * 2) = true := by simp [Builtin.Tuple.tupleTooMany, sizeLine_eq]
    have hsz : (List.foldl (fun x1 x2 => x1 ++ x2) #[] (List.replicate (Int.toNat 2) (#[v] : Array Value))).size ≤ sizeLine := by rw [sizeLine_eq]; show 2 ≤ 16777216; decide
    wp_walk using wpAny_loadPart' hl
    exact ⟨_, rfl, h⟩
theorem mul_tup5 (l : Addr) (v : Value) (n : Nat) (dd : Option Addr) (sl : Array (Option Value)) (u : Tok) :
    Meets (Builtin.«tuple.__mul__» ⟨[.ref l, .int 5 u], []⟩) (fun _ R s => s.heap.get? l = some { cls := .type "tuple", dict := dd, data := .seq #[v] n, slots := sl } ∧ R (.ok (.ret (.ref s.heap.objs.size))) { s with heap := s.heap.push { cls := .type "tuple", data := .seq #[v, v, v, v, v] } }) :=
  .of_wp fun prog w A R s h => by
    obtain ⟨hp, g, d, tk, os⟩ := s; obtain ⟨hl, h⟩ := h
    have f1 := AutoSeq1.idx_int
    have c4 : ¬ Builtin.Tuple.tupleTooMany (((#[v] : Array Value).size : Int) * 5) = true := by simp [Builtin.Tuple.tupleTooMany, sizeLine_eq]
    have hsz : (List.foldl (fun x1 x2 => x1 ++ x2) #[] (List.replicate (Int.toNat 5) (#[v] : Array Value))).size ≤ sizeLine := by rw [sizeLine_eq]; show 5 ≤ 16777216; decide
    wp_walk using wpAny_loadPart' hl
    exact ⟨_, rfl, h⟩
end HT
namespace L2
open PySem PySem.Spec PyProof.Rows
/-- (x,) * k, k one of 0, 1, 2, 5 -/
def rRepT : R2 := fun x y H Q => ∃ l k z, x = .ref l ∧ y = .int k ∧ H l = some (.tup [z]) ∧ (k = 0 ∨ k = 1 ∨ k = 2 ∨ k = 5) ∧ (k = 1 → Q (.ref l) H) ∧ ∀ p, H p = none → Q (.ref p) (upd H p (.tup (List.replicate k.toNat z)))
theorem op_repT {X : Cx} : OpR X (binaryOp .Mult) rRepT := by
  intro pins s σ H x y v u Q I rx ry h
  obtain ⟨l, k, z, rfl, rfl, hH, hk, q1, q⟩ := h
  cases rx
  obtain ⟨t, rfl⟩ := ry
  obtain ⟨its, r, ht, _⟩ := I.tuple (SqT.of hH)
  obtain ⟨z', rfl, rz⟩ := vals1 r
  obtain ⟨⟨cls, dd, data, sl⟩, ho, hc, n, hd⟩ := id ht
  simp only at hc hd
  subst hc hd
  have new : ∀ m : Nat, m ≤ 1000 → (∀ p, H p = none → Q (.ref p) (upd H p (.tup (List.replicate m z)))) → EP X pins σ Q (.ref s.heap.objs.size) { s with heap := s.heap.push { cls := .type "tuple", data := .seq (List.replicate m z').toArray } } := fun m hm q => by
    refine ⟨.ref s.heap.objs.size, _, I.laid (t' := s.toks) (o := .tup (List.replicate m z)) (fun b ob q => Heap.get?_push_of_some _ q) (Nat.le_refl _) ?_, rfl, q _ (I.hok.fresh (Nat.le_refl _))⟩
    refine ⟨small_le' (by simp; omega), _, ?_, IsTup.new _ _⟩
    clear q hm
    induction m with
    | zero => exact .nil
    | succ m ih => exact .cons rz ih
  refine wpAny_binaryOp_repeat_ref (T := "tuple") (U := "int") (by decide) ⟨_, ho, rfl⟩ (fun s' => typeIs_int s' k t) HT.noFill_tuple_mul F.fills_int_mul F.slot_int_rmul HT.repeat_tuple F.slot_int_index.lookup
    (call_meets F.slot_int_rmul (typeIs_int s k t) F.entry_int_rmul (F.args_int_rmul_2 _ _) (HT.rmul_tup k t l #[z'] n dd sl) ⟨ho, rfl, ⟨_, ho, rfl⟩, ?_⟩)
  rcases hk with rfl | rfl | rfl | rfl
  · exact call_meets F.slot_tuple_mul ⟨_, ho, rfl⟩ F.entry_tuple_mul (F.args_tuple_mul_2 _ _) (HT.mul_tup0 l #[z'] n dd sl t rfl) ⟨ho, new 0 (by omega) q⟩
  · exact call_meets F.slot_tuple_mul ⟨_, ho, rfl⟩ F.entry_tuple_mul (F.args_tuple_mul_2 _ _) (HT.mul_tup1 l #[z'] n dd sl t) ⟨ho, .ref l, H, I, rfl, q1 rfl⟩
  · exact call_meets F.slot_tuple_mul ⟨_, ho, rfl⟩ F.entry_tuple_mul (F.args_tuple_mul_2 _ _) (HT.mul_tup2 l z' n dd sl t) ⟨ho, new 2 (by omega) q⟩
  · exact call_meets F.slot_tuple_mul ⟨_, ho, rfl⟩ F.entry_tuple_mul (F.args_tuple_mul_2 _ _) (HT.mul_tup5 l z' n dd sl t) ⟨ho, new 5 (by omega) q⟩
theorem rd_repT {H : Hp} {l : Addr} {k : Int} {z : V} {Q : VK} (h : H l = some (.tup [z])) (hk : k = 0 ∨ k = 1 ∨ k = 2 ∨ k = 5) (q : ∀ p H', H' p = some (.tup (List.replicate k.toNat z)) → Same H H' → Q (.ref p) H') : rRepT (.ref l) (.int k) H Q :=
  ⟨l, k, z, rfl, rfl, h, hk, fun e => by subst e; exact q l H h (Same.refl _), fun p hp => q p _ upd_same (Same.new hp)⟩
end L2

end
section
set_option Elab.async false
set_option linter.all false
set_option maxRecDepth 100000
set_option maxHeartbeats 4000000

namespace My
open PySem L2
local macro_rules | `(tactic| walk_at "rd1") => `(tactic| (first | ((with_reducible refine' rd_var ?e ?_); (case e => exact rfl)) | with_reducible refine rd_c ?_ | with_reducible refine rd_op ?_ | with_reducible refine rd_un ?_ | with_reducible refine rd_seq ?_ | with_reducible refine rd_asg ?_ | with_reducible refine rd_gname ?_ | with_reducible refine rd_ret ?_ | with_reducible refine rd_drop ?_ | with_reducible refine rd_next ?_ | with_reducible refine rd_if ?_ | with_reducible refine rd_test ?_ | with_reducible refine rd_tb ?_ | with_reducible refine rd_and ?_ | with_reducible refine rd_or ?_ | with_reducible refine rd_not ?_ | with_reducible refine rd_true ?_ | with_reducible refine rd_andV ?_ | with_reducible refine rd_orV ?_ | with_reducible refine rd_notV ?_ | with_reducible refine rd_ifE ?_ | with_reducible refine rd_chain ?_ | with_reducible refine rd_nil ?_ | with_reducible refine rd_cons ?_ | with_reducible refine rd_cb ?_ | with_reducible refine rd_call ?_ | with_reducible refine rd_I0 ?_ | with_reducible refine rd_U ?_ | with_reducible refine rd_eqI ?_ | with_reducible refine rd_neI ?_ | with_reducible refine rd_eqS ?_ | with_reducible refine rd_neS ?_ | with_reducible refine rd_eqB ?_ | with_reducible refine rd_neB ?_ | with_reducible refine rd_bl ?_ | with_reducible refine rd_int ?_ | with_reducible refine rd_tup ?_ | with_reducible refine rd_lst ?_ | with_reducible refine rd_gsub ?_ | with_reducible refine rd_slice ?_ | with_reducible refine rd_nopart ?_ | with_reducible refine rd_part ?_ | with_reducible refine rd_bm ?_ | with_reducible refine rd_bm0 ?_ | with_reducible refine rd_comp ?_ | with_reducible refine rd_itup ?_ | with_reducible refine rd_ilist ?_ | with_reducible refine rd_irng ?_ | with_reducible refine rd_gcons ?_ | with_reducible refine rd_gnil ?_ | with_reducible refine rd_for ?_ | with_reducible refine rd_abs ?_ | with_reducible refine rd_max ?_ | with_reducible refine rd_min ?_ | with_reducible refine rd_intB ?_ | with_reducible refine rd_dput ?_ | with_reducible refine rd_dget2 ?_ | with_reducible refine rd_dget ?_ | with_reducible refine rd_fld ?_ | with_reducible refine rd_sfld ?_ | with_reducible refine rd_meth ?_ | with_reducible refine rd_make ?_ | with_reducible refine rd_isN ?_ | with_reducible refine rd_notN ?_ | with_reducible refine rd_izip ?_ | with_reducible refine rd_izipT ?_ | with_reducible refine rd_pcons ?_ | with_reducible refine rd_pnil ?_ | with_reducible refine rd_dget1 ?_ | with_reducible refine rd_cdget ?_ | with_reducible refine iteNT ?_ | with_reducible refine iteNF ?_ | with_reducible refine iteF ?_ | with_reducible refine iteT ?_))
local macro_rules | `(tactic| walk_at "rd") => `(tactic| (repeat walk_at "rd1"))
local macro_rules | `(tactic| walk_at "mk") => `(tactic| refine ⟨mk_le rfl, ?_⟩)

section
variable {P : Program} {w : World} {K : PySem.W.Frag} {mg : Str → Option Value} {base : Heap}
/-- what the law picks -/
structure PickOk (H : Hp) (b : Addr) (p0 p1 p2 p3 p4 nm : Int) (wd : Str) : Prop where
  at_ : H b = some (.lst [.int p0, .int p1, .int p2, .int p3, .int p4, .int nm, .str wd])
  b0 : 0 ≤ p0 ∧ p0 < 16
  b1 : 0 ≤ p1 ∧ p1 < 6
  b2 : 0 ≤ p2 ∧ p2 < 31
  b3 : 0 ≤ p3 ∧ p3 < 23
  b4 : 0 ≤ p4 ∧ p4 < 3
  bw : wd.length ≤ 10
theorem PickOk.mono {H H' : Hp} {b : Addr} {p0 p1 p2 p3 p4 nm : Int} {wd : Str} (h : PickOk H b p0 p1 p2 p3 p4 nm wd) (s : Same H H') : PickOk H' b p0 p1 p2 p3 p4 nm wd := ⟨s _ _ h.at_, h.b0, h.b1, h.b2, h.b3, h.b4, h.bw⟩
def IntsD (m : Nat) (d : D) : Prop := ∃ ns : List Int, d = .tup (ns.map D.int) ∧ ns.length ≤ m
theorem tup_ints {H : Hp} {ns : List Int} {v : V} (r : Rep H (.tup (ns.map D.int)) v) : ∃ a, v = .ref a ∧ H a = some (.tup (ns.map V.int)) := by
  obtain ⟨a, xs, rfl, ha, rx⟩ := rep_tup_inv r
  refine ⟨a, rfl, ?_⟩
  have e : xs = ns.map V.int := by
    apply List.ext_getElem?
    intro i
    have hl := rx.length
    rw [List.length_map] at hl
    by_cases h : i < xs.length
    · obtain ⟨d, ed, rd⟩ := rx.get' (List.getElem?_eq_getElem h)
      rw [List.getElem?_map] at ed
      obtain ⟨n, en, rfl⟩ := Option.map_eq_some_iff.mp ed
      rw [List.getElem?_eq_getElem h, rep_int_inv rd, List.getElem?_map, en]
      rfl
    · rw [List.getElem?_eq_none (by omega), List.getElem?_eq_none (by rw [List.length_map]; omega)]
  rw [ha, e]
theorem ints_tup {H : Hp} {ns : List Int} {a : Addr} (h : H a = some (.tup (ns.map V.int))) : Rep H (.tup (ns.map D.int)) (.ref a) := rep_tup h (reps_of_ints ns)
theorem cut_map {ns : List Int} {lo hi : Option Int} : ∃ ms : List Int, cutV (ns.map V.int) lo hi = ms.map V.int ∧ ms.length ≤ ns.length := by
  refine ⟨(ns.drop (HT.sIx (ns.map V.int).length 0 lo)).take (HT.sIx (ns.map V.int).length (ns.map V.int).length hi - HT.sIx (ns.map V.int).length 0 lo), ?_, ?_⟩
  · unfold cutV
    rw [List.map_take, List.map_drop]
  · rw [List.length_take, List.length_drop]
    omega
theorem small8000 {j : Int} (h : j.natAbs ≤ 1000) : j.natAbs < 2 ^ 8000 := Nat.lt_of_le_of_lt h (Nat.lt_of_lt_of_le (by decide : 1000 < 2 ^ 10) (Nat.pow_le_pow_right (by decide) (by decide)))
def sp_bent_args : Sp := sp3 fun x y z H Q => ∃ m d b p0 p1 p2 p3 p4 nm wd me, Rep H d x ∧ IntsD m d ∧ m ≤ 900 ∧ y = .ref b ∧ PickOk H b p0 p1 p2 p3 p4 nm wd ∧ z = .int me ∧ ∀ d' v H', IntsD (2 * m + 1) d' → Rep H' d' v → Same H H' → Q v H'
theorem sc__law_bent_args : FnScope ["args", "pick", "mend", "at"] ["args", "pick", "mend"] (defScope s__law_bent_args) := ⟨rfl, rfl, rfl, by decide +kernel, rfl, by decide +kernel, by decide +kernel⟩
theorem c__law_bent_args (B : Blt mg) (T__law_bent_args : TopFn K mg "_law_bent_args" s__law_bent_args ["args", "pick", "mend"]) : Callee P w K mg base "_law_bent_args" 1 ["args", "pick", "mend"] sp_bent_args := by
  refine T__law_bent_args.ok3 sc__law_bent_args fun f cdv A outer s H v1 v2 v3 Q E hr h => ?_
  have nd := sc__law_bent_args.nd
  have hu := hr.units
  obtain ⟨m, d, b, p0, p1, p2, p3, p4, nm, wd, me, rd, ⟨ns, rfl, hl⟩, hm, rfl, pk, rfl, k⟩ := h
  obtain ⟨a, rfl, ha⟩ := tup_ints rd
  refine' go_body [some (.ref a), some (.ref b), some (.int me), none] rfl ?hb ?hg
  case hb =>
   refine' pss_cons ?zb ?zc
   case zb =>
    refine' ps_if ?zd ?ze ?zf
    case zd => exact (pt_cmpR op_eq (pe_ix (k_ix (K := K) rfl) (pv 1) pe_int (fun _ _ => rfl)) pe_int (nomark _))
    case ze => exact (pss_one (ps_ret (pe_op (k_catW (K := K) rfl) (pv 0) (pe_tup (pa_consN (pv 2) pa_nil)))))
    case zf => exact pss_nil
   case zc =>
    refine' pss_cons ?zg ?zh
    case zg =>
     refine' ps_if ?zi ?zj ?zk
     case zi =>
      refine' PW.pt ?zl
      case zl =>
       refine' pw_or ?zm ?zn
       case zm => exact (pt_cmpR (op_eqD hu) (pv 0) (pe_tup pa_nil) (nomark _))
       case zn => exact (pw_or1 (pt_cmpR op_eq (pe_op op_mod (pe_ix (k_ix (K := K) rfl) (pv 1) pe_int (fun _ _ => rfl)) pe_int) pe_int (nomark _)))
     case zj => exact (pss_one (ps_ret (pe_slice (k_slW (K := K) rfl) (pv 0) (po_some pe_int) po_none)))
     case zk => exact pss_nil
    case zh =>
     refine' pss_cons ?zo ?zp
     case zo =>
      refine' ps_setB (i := 3) ?zq ?zr ?zs ?zt
      case zq => exact nd
      case zr => exact rfl
      case zs => exact (Or.inl rfl)
      case zt =>
       refine' pe_op ?zu ?zv ?zw
       case zu => exact op_mod
       case zv => exact (pe_op op_fdivB (pe_ix (k_ix (K := K) rfl) (pv 1) pe_int (fun _ _ => rfl)) pe_int)
       case zw => exact (pe_callB (k_len (K := K) rfl) (by rfl) B.b_len bt_len (pa_consN (pv 0) pa_nil))
     case zp =>
      refine' pss_one ?zx
      case zx =>
       refine' ps_ret ?zy
       case zy =>
        refine' pe_op ?zz ?zba ?zbb
        case zz => exact (k_catW (K := K) rfl)
        case zba => exact (pe_op (k_catW (K := K) rfl) (pe_slice (k_slW (K := K) rfl) (pv 0) po_none (po_some (pv 3))) (pe_tup (pa_consN (pv 2) pa_nil)))
        case zbb => exact (pe_slice (k_slW (K := K) rfl) (pv 0) (po_some (pe_op op_add (pv 3) pe_int)) po_none)
  walk_at "rd"
  refine rd_ixaL pk.at_ rfl ?_
  walk_at "rd"
  refine ite_dd (fun e => ?_) (fun ne => ?_)
  · walk_at "rd"
    walk_at "mk"; intro p5 hp5
    have s5 := Same.new (o := .tup [V.int me]) hp5
    have e5 : upd H p5 (.tup [V.int me]) p5 = some (.tup ([me].map V.int)) := upd_same
    generalize upd H p5 (.tup [V.int me]) = H5 at s5 e5
    refine rd_catW (s5 _ _ ha) e5 (by simp; omega) fun p6 H6 e6 s6 => ?_
    rw [← List.map_append] at e6
    exact k _ _ H6 ⟨ns ++ [me], rfl, by simp; omega⟩ (ints_tup e6) (s5.trans s6)
  · walk_at "rd"
    refine ⟨show 0 ≤ PySem.sizeLine from Nat.zero_le _, fun p5 hp5 => ?_⟩
    have s5 := Same.new (o := .tup []) hp5
    have e5 : upd H p5 (.tup []) p5 = some (.tup []) := upd_same
    generalize upd H p5 (.tup []) = H5 at s5 e5
    refine ⟨ns.map D.int, [], ints_tup (s5 _ _ ha), rep_tup e5 reps_nil, pls_ints _, rfl, by rw [deps_ints]; omega, ?_⟩
    have short : ∀ H', Same H H' → ∀ Q' : VK, (∀ v, Q' v = Q v) → rSlW K (.ref a) (some 1) none H' Q' := fun H' s' Q' hQ => rd_slW (s' _ _ ha) fun p6 H6 e6 s6 => by
      obtain ⟨ms, em, lm⟩ := cut_map (ns := ns) (lo := some 1) (hi := none)
      rw [em] at e6
      rw [hQ]
      exact k _ _ H6 ⟨ms, rfl, by omega⟩ (ints_tup e6) (s'.trans s6)
    by_cases hn : ns = []
    · subst hn
      rw [show eqD (.tup (([] : List Int).map D.int)) (.tup []) = true from eqD_same]
      walk_at "rd"
      exact short H5 s5 _ fun _ => rfl
    · rw [eqD_false (fun z => by injection z with z; exact hn (by simpa using z))]
      walk_at "rd"
      refine rd_ixaL (pk.mono s5).at_ rfl ?_
      walk_at "rd"
      refine rd_I (by omega) ?_
      walk_at "rd"
      refine ite_dd (fun e4 => ?_) (fun ne4 => ?_)
      · walk_at "rd"
        exact short H5 s5 _ fun _ => rfl
      · walk_at "rd"
        refine rd_ixaL (pk.mono s5).at_ rfl ?_
        walk_at "rd"
        refine rd_I ⟨by omega, small8000 (by decide)⟩ ?_
        walk_at "rd"
        refine rd_lenT' (SqT.of (s5 _ _ ha)) ?_
        have hpos : 0 < ns.length := List.length_pos_iff.mpr hn
        refine rd_I (by simp; omega) ?_
        walk_at "rd"
        refine rd_slW (s5 _ _ ha) fun p6 H6 e6 s6 => ?_
        obtain ⟨ms, em, lm⟩ := cut_map (ns := ns) (lo := none) (hi := some (p3 / 5 % ((ns.map V.int).length : Int)))
        rw [em] at e6
        walk_at "rd"
        walk_at "mk"; intro p7 hp7
        have s7 := Same.new (o := .tup [V.int me]) hp7
        have e7 : upd H6 p7 (.tup [V.int me]) p7 = some (.tup ([me].map V.int)) := upd_same
        generalize upd H6 p7 (.tup [V.int me]) = H7 at s7 e7
        refine rd_catW (s7 _ _ e6) e7 (by simp; omega) fun p8 H8 e8 s8 => ?_
        rw [← List.map_append] at e8
        walk_at "rd"
        refine rd_slW (s8 _ _ (s7 _ _ (s6 _ _ (s5 _ _ ha)))) fun p9 H9 e9 s9 => ?_
        obtain ⟨ms2, em2, lm2⟩ := cut_map (ns := ns) (lo := some (p3 / 5 % ((ns.map V.int).length : Int) + 1)) (hi := none)
        rw [em2] at e9
        refine rd_catW (s9 _ _ e8) e9 (by simp; omega) fun p10 H10 e10 s10 => ?_
        rw [← List.map_append] at e10
        exact k _ _ H10 ⟨ms ++ [me] ++ ms2, rfl, by simp; omega⟩ (ints_tup e10) (((((s5.trans s6).trans s7).trans s8).trans s9).trans s10)

end
end My

end
section
set_option Elab.async false
set_option linter.all false
set_option maxRecDepth 100000
set_option maxHeartbeats 4000000

namespace My
open PySem L2
local macro_rules | `(tactic| walk_at "rd1") => `(tactic| (first | ((with_reducible refine' rd_var ?e ?_); (case e => exact rfl)) | with_reducible refine rd_c ?_ | with_reducible refine rd_op ?_ | with_reducible refine rd_un ?_ | with_reducible refine rd_seq ?_ | with_reducible refine rd_asg ?_ | with_reducible refine rd_gname ?_ | with_reducible refine rd_ret ?_ | with_reducible refine rd_drop ?_ | with_reducible refine rd_next ?_ | with_reducible refine rd_if ?_ | with_reducible refine rd_test ?_ | with_reducible refine rd_tb ?_ | with_reducible refine rd_and ?_ | with_reducible refine rd_or ?_ | with_reducible refine rd_not ?_ | with_reducible refine rd_true ?_ | with_reducible refine rd_andV ?_ | with_reducible refine rd_orV ?_ | with_reducible refine rd_notV ?_ | with_reducible refine rd_ifE ?_ | with_reducible refine rd_chain ?_ | with_reducible refine rd_nil ?_ | with_reducible refine rd_cons ?_ | with_reducible refine rd_cb ?_ | with_reducible refine rd_call ?_ | with_reducible refine rd_I0 ?_ | with_reducible refine rd_U ?_ | with_reducible refine rd_eqI ?_ | with_reducible refine rd_neI ?_ | with_reducible refine rd_eqS ?_ | with_reducible refine rd_neS ?_ | with_reducible refine rd_eqB ?_ | with_reducible refine rd_neB ?_ | with_reducible refine rd_bl ?_ | with_reducible refine rd_int ?_ | with_reducible refine rd_tup ?_ | with_reducible refine rd_lst ?_ | with_reducible refine rd_gsub ?_ | with_reducible refine rd_slice ?_ | with_reducible refine rd_nopart ?_ | with_reducible refine rd_part ?_ | with_reducible refine rd_bm ?_ | with_reducible refine rd_bm0 ?_ | with_reducible refine rd_comp ?_ | with_reducible refine rd_itup ?_ | with_reducible refine rd_ilist ?_ | with_reducible refine rd_irng ?_ | with_reducible refine rd_gcons ?_ | with_reducible refine rd_gnil ?_ | with_reducible refine rd_for ?_ | with_reducible refine rd_abs ?_ | with_reducible refine rd_max ?_ | with_reducible refine rd_min ?_ | with_reducible refine rd_intB ?_ | with_reducible refine rd_dput ?_ | with_reducible refine rd_dget2 ?_ | with_reducible refine rd_dget ?_ | with_reducible refine rd_fld ?_ | with_reducible refine rd_sfld ?_ | with_reducible refine rd_meth ?_ | with_reducible refine rd_make ?_ | with_reducible refine rd_isN ?_ | with_reducible refine rd_notN ?_ | with_reducible refine rd_izip ?_ | with_reducible refine rd_izipT ?_ | with_reducible refine rd_pcons ?_ | with_reducible refine rd_pnil ?_ | with_reducible refine rd_dget1 ?_ | with_reducible refine rd_cdget ?_ | with_reducible refine iteNT ?_ | with_reducible refine iteNF ?_ | with_reducible refine iteF ?_ | with_reducible refine iteT ?_))
local macro_rules | `(tactic| walk_at "rd") => `(tactic| (repeat walk_at "rd1"))
local macro_rules | `(tactic| walk_at "mk") => `(tactic| refine ⟨mk_le rfl, ?_⟩)

section
variable {P : Program} {w : World} {K : PySem.W.Frag} {mg : Str → Option Value} {base : Heap}
def sp_bound : Sp := sp4 fun x1 x2 x3 x4 H Q => ∃ p vs d r k, x1 = .ref p ∧ H p = some (.lst vs) ∧ DefAt [] H d x2 ∧ Rep H (rowD r) x3 ∧ x4 = .int k ∧ 1 ≤ k ∧ ∀ n H', Same H H' → Q (.int n) H'
theorem Str.len_app (a b : Str) : (a ++ b).cps.toList = a.cps.toList ++ b.cps.toList := by
  show (a.cps ++ b.cps).toList = _
  simp
theorem sc__law_bound : FnScope ["program", "one", "row", "k", "letters", "letter"] ["program", "one", "row", "k"] (defScope s__law_bound) := ⟨rfl, rfl, rfl, by decide +kernel, rfl, by decide +kernel, by decide +kernel⟩
theorem c__law_bound (B : Blt mg) (T__law_bound : TopFn K mg "_law_bound" s__law_bound ["program", "one", "row", "k"]) (C_law_letters : Callee P w K mg base "_law_letters" 1 [] sp_letters) : Callee P w K mg base "_law_bound" 2 ["program", "one", "row", "k"] sp_bound := by
  refine T__law_bound.ok4 sc__law_bound fun f cdv A outer s H v1 v2 v3 v4 Q E hr h => ?_
  have nd := sc__law_bound.nd
  have hu1 := hu_of hr
  obtain ⟨p, vs, d, r, kk, rfl, hp, DA, rr, rfl, k1, k⟩ := h
  obtain ⟨wd, ps⟩ := r
  obtain ⟨t, q, ys, rfl, hat, hq, _, ry⟩ := DA
  refine' go_body [some (.ref p), some (.ref t), some v3, some (.int kk), none, none] rfl ?hb ?hg
  case hb =>
   refine' pss_cons ?zb ?zc
   case zb =>
    refine' ps_setC (i := 4) ?zd ?ze ?zf ?zg
    case zd => exact nd
    case ze => exact rfl
    case zf => exact (Or.inl rfl)
    case zg =>
     refine' pe_dget2 ?zh ?zi ?zj ?zk ?zl
     case zh => exact hu1
     case zi => exact (pe_fn0 C_law_letters (hr.mono (by first | decide | omega)) (by rfl))
     case zj => exact (pe_ix (k_ix (K := K) rfl) (pv 2) pe_int (fun _ _ => rfl))
     case zk => exact pe_str
     case zl => exact (M2.mk rfl rfl rfl rfl)
   case zc =>
    refine' pss_cons ?zm ?zn
    case zm =>
     refine' ps_setS (i := 5) ?zo ?zp ?zq ?zr
     case zo => exact nd
     case zp => exact rfl
     case zq => exact (Or.inl rfl)
     case zr =>
      refine' pe_ix ?zs ?zt ?zu ?zv
      case zs => exact ix_str
      case zt => exact (pe_op op_add_str (pv 4) pe_str)
      case zu => exact (pe_callB (call_min' rfl) (by rfl) B.b_min bt_min (pa_consB (pe_op op_sub (pv 3) pe_int) (pa_consK pe_int pa_nil)))
      case zv => exact (fun _ _ => rfl)
    case zn =>
     refine' pss_cons ?zw ?zx
     case zw =>
      refine' ps_if ?zy ?zz ?zba
      case zy => exact (pt_cmpR op_in_str (pv 5) pe_str (by with_unfolding_all rfl))
      case zz => exact (pss_one (ps_ret (pe_ix (k_ix (K := K) rfl) (pv 1) pe_int (fun _ _ => rfl))))
      case zba => exact pss_nil
     case zx =>
      refine' pss_cons ?zbb ?zbc
      case zbb =>
       refine' ps_if ?zbd ?zbe ?zbf
       case zbd => exact (pt_cmpR op_eq (pv 5) pe_str (nomark _))
       case zbe =>
        refine' pss_one ?zbg
        case zbg => exact (ps_ret (pe_callB (k_len (K := K) rfl) (by rfl) B.b_len bt_len (pa_consS (pe_ix (k_ix (K := K) rfl) (pv 1) pe_int (fun _ _ => rfl)) pa_nil)))
       case zbf => exact pss_nil
      case zbc =>
       refine' pss_cons ?zbh ?zbi
       case zbh =>
        refine' ps_if ?zbj ?zbk ?zbl
        case zbj => exact (pt_cmpR op_eq (pv 5) pe_str (nomark _))
        case zbk => exact (pss_one (ps_ret (pe_callB (k_len (K := K) rfl) (by rfl) B.b_len bt_len (pa_consN (pv 0) pa_nil))))
        case zbl => exact pss_nil
       case zbi => exact (pss_one (ps_ret pe_int))
  walk_at "rd"
  refine use0 fun pl H1 hpl hl1 s1 => ⟨pl, rfl, .inl ⟨_, .inl hl1⟩, ?_⟩
  walk_at "rd"
  refine rd_ixR (n := 0) (rr.mono s1.ts) rfl rfl fun u ru => ?_
  obtain rfl : u = .str wd := by rwa [Rep] at ru
  walk_at "rd"
  refine ⟨_, .inl ⟨_, Sum.inr wd, .inl hl1, rfl, rfl⟩, ?_⟩
  rw [show valV lettersKV (Sum.inr wd) = (lettersL.lookup wd).map V.str from val_map _]
  have hls : ∃ ls : Str, ls.cps.toList.length ≤ 3 ∧ ((lettersL.lookup wd).map V.str).getD (.str "") = .str ls := by
    cases lk : lettersL.lookup wd with
    | none => exact ⟨"", by decide +kernel, rfl⟩
    | some ls => exact ⟨ls, by have := le3 (look_in lk); simpa using this, rfl⟩
  obtain ⟨ls, l3, els⟩ := hls
  rw [els]
  walk_at "rd"
  have hsz : ls.length ≤ 3 := by have : ls.length = ls.cps.size := rfl; rw [this]; simpa using l3
  have h6 : (("iiiiii" : Str)).length = 6 := by decide +kernel
  refine ⟨ls, "iiiiii", rfl, rfl, by rw [h6]; exact small_le' (by omega), ?_⟩
  walk_at "rd"
  have e2 : (ls ++ ("iiiiii" : Str)).cps.toList = ls.cps.toList ++ ("iiiiii" : Str).cps.toList := Str.len_app _ _
  have e6 : ("iiiiii" : Str).cps.toList.length = 6 := by decide +kernel
  have hlen : (ls ++ ("iiiiii" : Str)).length ≤ 9 := by
    have : (ls ++ ("iiiiii" : Str)).length = (ls ++ ("iiiiii" : Str)).cps.toList.length := by simp; rfl
    rw [this, e2, List.length_append, e6]; omega
  obtain ⟨j, hj, hj5⟩ : ∃ j : Nat, (if 5 < kk - 1 then 5 else kk - 1) = (j : Int) ∧ j ≤ 5 := by
    split
    · exact ⟨5, rfl, by omega⟩
    · exact ⟨(kk - 1).toNat, by omega, by omega⟩
  rw [hj]
  have hjl : j < (ls ++ ("iiiiii" : Str)).cps.toList.length := by rw [e2, List.length_append, e6]; omega
  refine ⟨_, j, _, rfl, rfl, small_le' (by omega), atI_at rfl (List.getElem?_eq_getElem hjl), ?_⟩
  generalize (⟨#[(ls ++ ("iiiiii" : Str)).cps.toList[j]]⟩ : Str) = c
  walk_at "rd"
  refine ⟨c, "pq", rfl, rfl, ?_⟩
  refine ⟨_, rfl, ?_⟩
  generalize (!(Builtin.Str.occurrences ("pq" : Str) c 0 ("pq" : Str).length 1).isEmpty) = bb
  cases bb with
  | true =>
    walk_at "rd"
    refine rd_ixaT (s1 _ _ hat) rfl ?_
    exact k _ _ s1
  | false =>
    walk_at "rd"
    refine ite_dd (fun e => ?_) (fun n1 => ?_)
    · walk_at "rd"
      refine rd_ixaT (s1 _ _ hat) rfl ?_
      walk_at "rd"
      refine rd_lenL' (SqL.of (s1 _ _ hq)) ?_
      exact k _ _ s1
    · walk_at "rd"
      refine ite_dd (fun e => ?_) (fun n2 => ?_)
      · walk_at "rd"
        refine rd_lenL' (SqL.of (s1 _ _ hp)) ?_
        exact k _ _ s1
      · walk_at "rd"
        exact k _ _ s1

end
end My

end
section
set_option Elab.async false
set_option linter.all false
set_option maxRecDepth 100000
set_option maxHeartbeats 4000000

namespace My
open PySem L2
local macro_rules | `(tactic| walk_at "rd1") => `(tactic| (first | ((with_reducible refine' rd_var ?e ?_); (case e => exact rfl)) | with_reducible refine rd_c ?_ | with_reducible refine rd_op ?_ | with_reducible refine rd_un ?_ | with_reducible refine rd_seq ?_ | with_reducible refine rd_asg ?_ | with_reducible refine rd_gname ?_ | with_reducible refine rd_ret ?_ | with_reducible refine rd_drop ?_ | with_reducible refine rd_next ?_ | with_reducible refine rd_if ?_ | with_reducible refine rd_test ?_ | with_reducible refine rd_tb ?_ | with_reducible refine rd_and ?_ | with_reducible refine rd_or ?_ | with_reducible refine rd_not ?_ | with_reducible refine rd_true ?_ | with_reducible refine rd_andV ?_ | with_reducible refine rd_orV ?_ | with_reducible refine rd_notV ?_ | with_reducible refine rd_ifE ?_ | with_reducible refine rd_chain ?_ | with_reducible refine rd_nil ?_ | with_reducible refine rd_cons ?_ | with_reducible refine rd_cb ?_ | with_reducible refine rd_call ?_ | with_reducible refine rd_I0 ?_ | with_reducible refine rd_U ?_ | with_reducible refine rd_eqI ?_ | with_reducible refine rd_neI ?_ | with_reducible refine rd_eqS ?_ | with_reducible refine rd_neS ?_ | with_reducible refine rd_eqB ?_ | with_reducible refine rd_neB ?_ | with_reducible refine rd_bl ?_ | with_reducible refine rd_int ?_ | with_reducible refine rd_tup ?_ | with_reducible refine rd_lst ?_ | with_reducible refine rd_gsub ?_ | with_reducible refine rd_slice ?_ | with_reducible refine rd_nopart ?_ | with_reducible refine rd_part ?_ | with_reducible refine rd_bm ?_ | with_reducible refine rd_bm0 ?_ | with_reducible refine rd_comp ?_ | with_reducible refine rd_itup ?_ | with_reducible refine rd_ilist ?_ | with_reducible refine rd_irng ?_ | with_reducible refine rd_gcons ?_ | with_reducible refine rd_gnil ?_ | with_reducible refine rd_for ?_ | with_reducible refine rd_abs ?_ | with_reducible refine rd_max ?_ | with_reducible refine rd_min ?_ | with_reducible refine rd_intB ?_ | with_reducible refine rd_dput ?_ | with_reducible refine rd_dget2 ?_ | with_reducible refine rd_dget ?_ | with_reducible refine rd_fld ?_ | with_reducible refine rd_sfld ?_ | with_reducible refine rd_meth ?_ | with_reducible refine rd_make ?_ | with_reducible refine rd_isN ?_ | with_reducible refine rd_notN ?_ | with_reducible refine rd_izip ?_ | with_reducible refine rd_izipT ?_ | with_reducible refine rd_pcons ?_ | with_reducible refine rd_pnil ?_ | with_reducible refine rd_dget1 ?_ | with_reducible refine rd_cdget ?_ | with_reducible refine iteNT ?_ | with_reducible refine iteNF ?_ | with_reducible refine iteF ?_ | with_reducible refine iteT ?_))
local macro_rules | `(tactic| walk_at "rd") => `(tactic| (repeat walk_at "rd1"))
local macro_rules | `(tactic| walk_at "mk") => `(tactic| refine ⟨mk_le rfl, ?_⟩)

section
variable {P : Program} {w : World} {K : PySem.W.Frag} {mg : Str → Option Value} {base : Heap}
def sp_pick : Sp := sp1 fun x H Q => ∃ b l, x = .ref b ∧ BagAt H b l ∧ ∀ q p0 p1 p2 p3 p4 nm wd H', PickOk H' q p0 p1 p2 p3 p4 nm wd → q ≠ b → q ≠ l → BagAt H' b l → BSame b H H' → Q (.ref q) H'
def abc : Str := "abcdefghijklmnopqrstuvwxyz"
def somI : List Int := [-1, 0, 1, 2, 3, 4, 5, 6, 7, 8, 9, 29, 30, 31, 98, 99, 100, -99, -100]
def pk5 (p0 p1 p2 p3 p4 : Int) : List V := [.int p0, .int p1, .int p2, .int p3, .int p4]
theorem sc__law_pick : FnScope ["bag", "pick", "some", "number", "word", "k"] ["bag"] (defScope s__law_pick) := ⟨rfl, rfl, rfl, by decide +kernel, rfl, by decide +kernel, by decide +kernel⟩
theorem c__law_pick (B : Blt mg) (T__law_pick : TopFn K mg "_law_pick" s__law_pick ["bag"]) (C_law_draw : Callee P w K mg base "_law_draw" 1 ["bag", "many"] sp_draw) (C_law_number : Callee P w K mg base "_law_number" 2 ["bag"] sp_number) : Callee P w K mg base "_law_pick" 3 ["bag"] sp_pick := by
  refine T__law_pick.ok1 sc__law_pick fun f cdv A outer s H v1 Q E hr h => ?_
  have nd := sc__law_pick.nd
  obtain ⟨b, l, rfl, Bg, k⟩ := h
  refine' go_body [some (.ref b), none, none, none, none, none] rfl ?hb ?hg
  case hb =>
   refine' pss_cons ?zb ?zc
   case zb =>
    refine' ps_setL (i := 1) ?zd ?ze ?zf ?zg
    case zd => exact nd
    case ze => exact rfl
    case zf => exact (Or.inl rfl)
    case zg =>
     refine' pe_lst ?zh
     case zh =>
      refine' pa_consC ?zi ?zj
      case zi => exact (pe_fn C_law_draw (hr.mono (by first | decide | omega)) (by rfl) (pa_consN (pv 0) (pa_consK pe_int pa_nil)))
      case zj =>
       refine' pa_consC ?zk ?zl
       case zk => exact (pe_fn C_law_draw (hr.mono (by first | decide | omega)) (by rfl) (pa_consN (pv 0) (pa_consK pe_int pa_nil)))
       case zl =>
        refine' pa_consC ?zm ?zn
        case zm => exact (pe_fn C_law_draw (hr.mono (by first | decide | omega)) (by rfl) (pa_consN (pv 0) (pa_consK pe_int pa_nil)))
        case zn =>
         refine' pa_consC ?zo ?zp
         case zo => exact (pe_fn C_law_draw (hr.mono (by first | decide | omega)) (by rfl) (pa_consN (pv 0) (pa_consK pe_int pa_nil)))
         case zp => exact (pa_consC (pe_fn C_law_draw (hr.mono (by first | decide | omega)) (by rfl) (pa_consN (pv 0) (pa_consK pe_int pa_nil))) pa_nil)
   case zc =>
    refine' pss_cons ?zq ?zr
    case zq =>
     refine' ps_setL (i := 2) ?zs ?zt ?zu ?zv
     case zs => exact nd
     case zt => exact rfl
     case zu => exact (Or.inl rfl)
     case zv =>
      refine' pe_lst ?zw
      case zw =>
       refine' pa_consU ?zx ?zy
       case zx => exact (pe_un un_neg pe_int)
       case zy =>
        refine' pa_consK ?zz ?zba
        case zz => exact pe_int
        case zba =>
         refine' pa_consK ?zbb ?zbc
         case zbb => exact pe_int
         case zbc =>
          refine' pa_consK ?zbd ?zbe
          case zbd => exact pe_int
          case zbe =>
           refine' pa_consK ?zbf ?zbg
           case zbf => exact pe_int
           case zbg =>
            refine' pa_consK ?zbh ?zbi
            case zbh => exact pe_int
            case zbi =>
             refine' pa_consK ?zbj ?zbk
             case zbj => exact pe_int
             case zbk =>
              refine' pa_consK ?zbl ?zbm
              case zbl => exact pe_int
              case zbm =>
               refine' pa_consK ?zbn ?zbo
               case zbn => exact pe_int
               case zbo =>
                refine' pa_consK ?zbp ?zbq
                case zbp => exact pe_int
                case zbq =>
                 refine' pa_consK ?zbr ?zbs
                 case zbr => exact pe_int
                 case zbs =>
                  refine' pa_consK ?zbt ?zbu
                  case zbt => exact pe_int
                  case zbu =>
                   refine' pa_consK ?zbv ?zbw
                   case zbv => exact pe_int
                   case zbw => exact (pa_consK pe_int (pa_consK pe_int (pa_consK pe_int (pa_consK pe_int (pa_consU (pe_un un_neg pe_int) (pa_consU (pe_un un_neg pe_int) pa_nil))))))
    case zr =>
     refine' pss_cons ?zbx ?zby
     case zbx =>
      refine' ps_setS (i := 3) ?zbz ?zca ?zcb ?zcc
      case zbz => exact nd
      case zca => exact rfl
      case zcb => exact (Or.inl rfl)
      case zcc =>
       refine' pe_ix ?zcd ?zce ?zcf ?zcg
       case zcd => exact (k_ix (K := K) rfl)
       case zce => exact (pv 2)
       case zcf => exact (pe_fn C_law_draw (hr.mono (by first | decide | omega)) (by rfl) (pa_consN (pv 0) (pa_consK pe_int pa_nil)))
       case zcg => exact (fun _ _ => rfl)
     case zby =>
      refine' pss_cons ?zch ?zci
      case zch =>
       refine' ps_if ?zcj ?zck ?zcl
       case zcj => exact (pt_cmpR op_eq (pe_fn C_law_draw (hr.mono (by first | decide | omega)) (by rfl) (pa_consN (pv 0) (pa_consK pe_int pa_nil))) pe_int (nomark _))
       case zck => exact (pss_one (ps_setC (i := 3) nd rfl (Or.inl rfl) (pe_fn C_law_number (hr.mono (by first | decide | omega)) (by rfl) (pa_consN (pv 0) pa_nil))))
       case zcl => exact pss_nil
      case zci =>
       refine' pss_cons ?zcm ?zcn
       case zcm => exact (ps_set (i := 4) nd rfl (Or.inl rfl) pe_str)
       case zcn =>
        refine' pss_cons ?zco ?zcp
        case zco =>
         refine' ps_if ?zcq ?zcr ?zcs
         case zcq => exact (pt_cmpR op_eq (pe_ix (k_ix (K := K) rfl) (pv 1) pe_int (fun _ _ => rfl)) pe_int (nomark _))
         case zcr =>
          refine' pss_one ?zct
          case zct =>
           refine' ps_for ?zcu ?zcv ?zcw ?zcx ?zcy
           case zcu => exact PassesOwn.never
           case zcv => exact rfl
           case zcw =>
            refine' pi_range1 ?zcz ?zda ?zdb
            case zcz => exact rfl
            case zda => exact B.b_range
            case zdb => exact (pa_consB (pe_op op_add pe_int (pe_fn C_law_draw (hr.mono (by first | decide | omega)) (by rfl) (pa_consN (pv 0) (pa_consK pe_int pa_nil)))) pa_nil)
           case zcx => exact (pg_name (i := 5) nd rfl (Or.inl rfl))
           case zcy =>
            refine' pss_one ?zdc
            case zdc =>
             refine' ps_setB (i := 4) ?zdd ?zde ?zdf ?zdg
             case zdd => exact nd
             case zde => exact rfl
             case zdf => exact (Or.inl rfl)
             case zdg =>
              refine' pe_op ?zdh ?zdi ?zdj
              case zdh => exact op_add_str
              case zdi => exact (pv 4)
              case zdj => exact (pe_ix ix_str pe_str (pe_fn C_law_draw (hr.mono (by first | decide | omega)) (by rfl) (pa_consN (pv 0) (pa_consK pe_int pa_nil))) (fun _ _ => rfl))
         case zcs => exact pss_nil
        case zcp => exact (pss_one (ps_ret (pe_op op_cat (pv 1) (pe_lst (pa_consN (pv 3) (pa_consN (pv 4) pa_nil))))))
  walk_at "rd"
  refine use2 ⟨b, l, 16, rfl, rfl, ⟨by decide, by decide⟩, Bg, fun p0 H1 a0 b0 B1 s1 => ?_⟩
  walk_at "rd"
  refine use2 ⟨b, l, 6, rfl, rfl, ⟨by decide, by decide⟩, B1, fun p1 H2 a1 b1 B2 s2 => ?_⟩
  walk_at "rd"
  refine use2 ⟨b, l, 31, rfl, rfl, ⟨by decide, by decide⟩, B2, fun p2 H3 a2 b2 B3 s3 => ?_⟩
  walk_at "rd"
  refine use2 ⟨b, l, 23, rfl, rfl, ⟨by decide, by decide⟩, B3, fun p3 H4 a3 b3 B4 s4 => ?_⟩
  walk_at "rd"
  refine use2 ⟨b, l, 3, rfl, rfl, ⟨by decide, by decide⟩, B4, fun p4 H5 a4 b4 B5 s5 => ?_⟩
  have s05 := (((s1.trans s2).trans s3).trans s4).trans s5
  walk_at "rd"
  refine ⟨show 5 ≤ PySem.sizeLine by rw [PySem.sizeLine_eq]; decide, fun pk hpk => ?_⟩
  have nk := B5.ne hpk
  have hpk0 : H pk = none := s05.free (Ne.symm nk.1) hpk
  have s6 := Same.new (o := .lst (pk5 p0 p1 p2 p3 p4)) hpk
  have e6 : upd H5 pk (.lst (pk5 p0 p1 p2 p3 p4)) pk = some (.lst (pk5 p0 p1 p2 p3 p4)) := upd_same
  unfold pk5 at s6 e6
  generalize upd H5 pk (.lst [V.int p0, V.int p1, V.int p2, V.int p3, V.int p4]) = H6 at s6 e6
  have B6 := B5.mono s6
  have s06 := s05.to s6
  walk_at "rd"
  refine ⟨show 19 ≤ PySem.sizeLine by rw [PySem.sizeLine_eq]; decide, fun ps hps => ?_⟩
  have ns := B6.ne hps
  have hps' : ps ≠ pk := fun z => by rw [z, e6] at hps; cases hps
  have s7 := Same.new (o := .lst (somI.map V.int)) hps
  have e7 : upd H6 ps (.lst (somI.map V.int)) ps = some (.lst (somI.map V.int)) := upd_same
  unfold somI at s7 e7
  simp only [List.map_cons, List.map_nil] at s7 e7
  generalize upd H6 ps (.lst [V.int (-1), V.int 0, V.int 1, V.int 2, V.int 3, V.int 4, V.int 5, V.int 6, V.int 7, V.int 8, V.int 9, V.int 29, V.int 30, V.int 31, V.int 98, V.int 99, V.int 100, V.int (-99), V.int (-100)]) = H7 at s7 e7
  have B7 := B6.mono s7
  have s07 := s06.to s7
  walk_at "rd"
  refine use2 ⟨b, l, 19, rfl, rfl, ⟨by decide, by decide⟩, B7, fun r8 H8 a8 b8 B8 s8 => ?_⟩
  have e7' : H8 ps = some (.lst (somI.map V.int)) := s8 _ _ (Ne.symm ns.1) e7
  obtain ⟨nm, _, enm⟩ := atI_mem (ms := somI) a8 b8
  refine rd_ixaL e7' enm ?_
  have s08 := s07.trans s8
  have e8 : H8 pk = some (.lst [V.int p0, V.int p1, V.int p2, V.int p3, V.int p4]) := s8 _ _ (Ne.symm nk.1) (s7 _ _ e6)
  refine rd_gname ?_
  dsimp only
  refine rd_meet (fun σ' H' => (∃ nm : Int, σ' = [some (.ref b), some (.ref pk), some (.ref ps), some (.int nm), none, none]) ∧ BagAt H' b l ∧ BSame b H H' ∧ H' pk = some (.lst [V.int p0, V.int p1, V.int p2, V.int p3, V.int p4])) ?_ fun N hN => ?_
  · rintro σ' H' ⟨⟨nm, rfl⟩, B9, s09, e9⟩
    refine rd_seq (rd_asg (rd_c (rd_gname ?_)))
    dsimp only
    refine rd_meet (fun σ' H' => (∃ (wd : Str) (x5 : Option V), wd.length ≤ 10 ∧ σ' = [some (.ref b), some (.ref pk), some (.ref ps), some (.int nm), some (.str wd), x5]) ∧ BagAt H' b l ∧ BSame b H H' ∧ H' pk = some (.lst [V.int p0, V.int p1, V.int p2, V.int p3, V.int p4])) ?_ fun N hN => ?_
    · rintro σ' H' ⟨⟨wd, x5, hw, rfl⟩, B10, s010, e10⟩
      walk_at "rd"
      refine ⟨show 2 ≤ PySem.sizeLine by rw [PySem.sizeLine_eq]; decide, fun pz hpz => ?_⟩
      have nz := B10.ne hpz
      have s11 := Same.new (o := .lst [V.int nm, V.str wd]) hpz
      have e11 : upd H' pz (.lst [V.int nm, V.str wd]) pz = some (.lst [V.int nm, V.str wd]) := upd_same
      generalize upd H' pz (.lst [V.int nm, V.str wd]) = H11 at s11 e11
      refine rd_cat (s11 _ _ e10) e11 (show 7 ≤ PySem.sizeLine by rw [PySem.sizeLine_eq]; decide) fun pr hpr => ?_
      have B11 := B10.mono s11
      have nr := B11.ne hpr
      have s12 := Same.new (o := .lst ([V.int p0, V.int p1, V.int p2, V.int p3, V.int p4] ++ [V.int nm, V.str wd])) hpr
      exact k pr p0 p1 p2 p3 p4 nm wd _ ⟨upd_same, ⟨a0, b0⟩, ⟨a1, b1⟩, ⟨a2, b2⟩, ⟨a3, b3⟩, ⟨a4, b4⟩, hw⟩ (Ne.symm nr.1) (Ne.symm nr.2) (B11.mono s12) ((s010.to s11).to s12)
    · walk_at "rd"
      refine rd_ixaL e9 rfl ?_
      walk_at "rd"
      refine ite_dd (fun e => ?_) (fun ne => ?_)
      · walk_at "rd"
        refine use2 ⟨b, l, 9, rfl, rfl, ⟨by decide, by decide⟩, B9, fun r10 H10 a10 b10 B10 s10 => ?_⟩
        walk_at "rd"
        refine irK_of (by omega) (by omega) ?_
        refine for_range (n := (1 + r10).toNat) (fun i σ Hx => (∃ (wd : Str) (x5 : Option V), wd.length ≤ i ∧ σ = [some (.ref b), some (.ref pk), some (.ref ps), some (.int nm), some (.str wd), x5]) ∧ BagAt Hx b l ∧ BSame b H Hx ∧ Hx pk = some (.lst [V.int p0, V.int p1, V.int p2, V.int p3, V.int p4])) ⟨⟨"", none, by decide +kernel, rfl⟩, B10, s09.trans s10, s10 _ _ (Ne.symm nk.1) e9⟩ ?_ ?_
        · rintro i σ Hx hi ⟨⟨wd, x5, hw, rfl⟩, Bx, s0x, ex⟩
          walk_at "rd"
          refine use2 ⟨b, l, 26, rfl, rfl, ⟨by decide, by decide⟩, Bx, fun r11 H11 a11 b11 B11 s11 => ?_⟩
          have hab : abc.cps.toList.length = 26 := by decide +kernel
          have hab2 : abc.length = 26 := by decide +kernel
          have hj : r11.toNat < abc.cps.toList.length := by omega
          refine ⟨abc, r11, _, rfl, rfl, by rw [hab2]; exact small_le' (by omega), atI_at (n := r11.toNat) (by omega) (List.getElem?_eq_getElem hj), ?_⟩
          have one : ∀ c : Nat, (⟨#[c]⟩ : Str).length = 1 := fun _ => rfl
          refine ⟨wd, _, rfl, rfl, by rw [one]; exact small_le' (by omega), ?_⟩
          walk_at "rd"
          refine ⟨⟨_, _, ?_, rfl⟩, B11, s0x.trans s11, s11 _ _ (Ne.symm nk.1) ex⟩
          have : (wd ++ (⟨#[abc.cps.toList[r11.toNat]]⟩ : Str)).length = wd.length + 1 := by
            show (wd.cps ++ #[_]).size = wd.cps.size + 1
            simp
          omega
        · rintro σ Hx ⟨⟨wd, x5, hw, rfl⟩, Bx, s0x, ex⟩
          exact hN _ _ ⟨⟨wd, x5, by omega, rfl⟩, Bx, s0x, ex⟩
      · walk_at "rd"
        exact hN _ _ ⟨⟨"", none, by decide +kernel, rfl⟩, B9, s09, e9⟩
  · walk_at "rd"
    refine use2 ⟨b, l, 3, rfl, rfl, ⟨by decide, by decide⟩, B8, fun r9 H9 a9 b9 B9 s9 => ?_⟩
    walk_at "rd"
    refine ite_dd (fun e => ?_) (fun ne => ?_)
    · walk_at "rd"
      refine use1 ⟨b, l, rfl, B9, fun n H10 _ B10 s10 => ?_⟩
      walk_at "rd"
      exact hN _ _ ⟨⟨n, rfl⟩, B10, (s08.trans s9).trans s10, s10 _ _ (Ne.symm nk.1) (s9 _ _ (Ne.symm nk.1) e8)⟩
    · walk_at "rd"
      exact hN _ _ ⟨⟨nm, rfl⟩, B9, s08.trans s9, s9 _ _ (Ne.symm nk.1) e8⟩

end
end My

end
section
set_option Elab.async false
set_option linter.all false
set_option maxRecDepth 100000
set_option maxHeartbeats 4000000

namespace My
open PySem L2
local macro_rules | `(tactic| walk_at "rd1") => `(tactic| (first | ((with_reducible refine' rd_var ?e ?_); (case e => exact rfl)) | with_reducible refine rd_c ?_ | with_reducible refine rd_op ?_ | with_reducible refine rd_un ?_ | with_reducible refine rd_seq ?_ | with_reducible refine rd_asg ?_ | with_reducible refine rd_gname ?_ | with_reducible refine rd_ret ?_ | with_reducible refine rd_drop ?_ | with_reducible refine rd_next ?_ | with_reducible refine rd_if ?_ | with_reducible refine rd_test ?_ | with_reducible refine rd_tb ?_ | with_reducible refine rd_and ?_ | with_reducible refine rd_or ?_ | with_reducible refine rd_not ?_ | with_reducible refine rd_true ?_ | with_reducible refine rd_andV ?_ | with_reducible refine rd_orV ?_ | with_reducible refine rd_notV ?_ | with_reducible refine rd_ifE ?_ | with_reducible refine rd_chain ?_ | with_reducible refine rd_nil ?_ | with_reducible refine rd_cons ?_ | with_reducible refine rd_cb ?_ | with_reducible refine rd_call ?_ | with_reducible refine rd_I0 ?_ | with_reducible refine rd_U ?_ | with_reducible refine rd_eqI ?_ | with_reducible refine rd_neI ?_ | with_reducible refine rd_eqS ?_ | with_reducible refine rd_neS ?_ | with_reducible refine rd_eqB ?_ | with_reducible refine rd_neB ?_ | with_reducible refine rd_bl ?_ | with_reducible refine rd_int ?_ | with_reducible refine rd_tup ?_ | with_reducible refine rd_lst ?_ | with_reducible refine rd_gsub ?_ | with_reducible refine rd_slice ?_ | with_reducible refine rd_nopart ?_ | with_reducible refine rd_part ?_ | with_reducible refine rd_bm ?_ | with_reducible refine rd_bm0 ?_ | with_reducible refine rd_comp ?_ | with_reducible refine rd_itup ?_ | with_reducible refine rd_ilist ?_ | with_reducible refine rd_irng ?_ | with_reducible refine rd_gcons ?_ | with_reducible refine rd_gnil ?_ | with_reducible refine rd_for ?_ | with_reducible refine rd_abs ?_ | with_reducible refine rd_max ?_ | with_reducible refine rd_min ?_ | with_reducible refine rd_intB ?_ | with_reducible refine rd_dput ?_ | with_reducible refine rd_dget2 ?_ | with_reducible refine rd_dget ?_ | with_reducible refine rd_fld ?_ | with_reducible refine rd_sfld ?_ | with_reducible refine rd_meth ?_ | with_reducible refine rd_make ?_ | with_reducible refine rd_isN ?_ | with_reducible refine rd_notN ?_ | with_reducible refine rd_izip ?_ | with_reducible refine rd_izipT ?_ | with_reducible refine rd_pcons ?_ | with_reducible refine rd_pnil ?_ | with_reducible refine rd_dget1 ?_ | with_reducible refine rd_cdget ?_ | with_reducible refine iteNT ?_ | with_reducible refine iteNF ?_ | with_reducible refine iteF ?_ | with_reducible refine iteT ?_))
local macro_rules | `(tactic| walk_at "rd") => `(tactic| (repeat walk_at "rd1"))
local macro_rules | `(tactic| walk_at "mk") => `(tactic| refine ⟨mk_le rfl, ?_⟩)

section
variable {P : Program} {w : World} {K : PySem.W.Frag} {mg : Str → Option Value} {base : Heap}
def PartM (m : Nat) (d : D) : Prop := (∃ n, d = .int n) ∨ IntsD m d
structure RowB (m : Nat) (r : Str × List D) : Prop where
  w : r.1.length ≤ m
  n : r.2.length ≤ m
  p : ∀ d ∈ r.2, PartM m d
theorem PartM.mono {m n : Nat} {d : D} (h : PartM m d) (l : m ≤ n) : PartM n d := by
  rcases h with h | ⟨ns, e, hl⟩
  · exact .inl h
  · exact .inr ⟨ns, e, by omega⟩
def els : List Str := ["", "Put", "puts", "def", "lane", "call ", "jum", "rest", "go", "hold", "edge"]
def allW : List Str := lettersL.map (·.1) ++ els
def sp_bent_row : Sp := sp4 fun x1 x2 x3 x4 H Q => ∃ m p vs d r b p0 p1 p2 p3 p4 nm wd, x1 = .ref p ∧ H p = some (.lst vs) ∧ DefAt [] H d x2 ∧ Rep H (rowD r) x3 ∧ RowB m r ∧ m ≤ 300 ∧ x4 = .ref b ∧ PickOk H b p0 p1 p2 p3 p4 nm wd ∧ ∀ r' v H', RowB (2 * m + 11) r' → Rep H' (rowD r') v → Same H H' → Q v H'
theorem sc__law_bent_row : FnScope ["program", "one", "row", "pick", "some", "k", "bound", "mend"] ["program", "one", "row", "pick"] (defScope s__law_bent_row) := ⟨rfl, rfl, rfl, by decide +kernel, rfl, by decide +kernel, by decide +kernel⟩
theorem c__law_bent_row (B : Blt mg) (T__law_bent_row : TopFn K mg "_law_bent_row" s__law_bent_row ["program", "one", "row", "pick"]) (C_law_letters : Callee P w K mg base "_law_letters" 1 [] sp_letters) (C_law_bound : Callee P w K mg base "_law_bound" 2 ["program", "one", "row", "k"] sp_bound) (C_law_bent_args : Callee P w K mg base "_law_bent_args" 1 ["args", "pick", "mend"] sp_bent_args) : Callee P w K mg base "_law_bent_row" 3 ["program", "one", "row", "pick"] sp_bent_row := by
  refine T__law_bent_row.ok4 sc__law_bent_row fun f cdv A outer s H v1 v2 v3 v4 Q E hr h => ?_
  have nd := sc__law_bent_row.nd
  have hu := hr.units
  have hu1 := hu_of hr
  obtain ⟨m, p, vs, d, ⟨w0, ps⟩, b, p0, p1, p2, p3, p4, nm, wd, rfl, hp, DA, rr, ⟨hw0, hn0, hp0⟩, hm, rfl, pk, k⟩ := h
  dsimp only at hw0 hn0 hp0
  obtain ⟨t, xs', rfl, ht, rx0⟩ := rep_tup_inv (show Rep H (.tup (.str w0 :: ps)) v3 from rr)
  obtain ⟨u, xs, rfl, ru, rx⟩ := reps_cons_inv rx0
  obtain rfl : u = .str w0 := by rwa [Rep] at ru
  have hxl := rx.length
  have fin : ∀ (ws : Str) (ds' : List D) (zs : List V) (q : Addr) (H' : Hp), H' q = some (.tup (.str ws :: zs)) → Reps H' ds' zs → ws.length ≤ 2 * m + 11 → ds'.length ≤ 2 * m + 11 → (∀ d ∈ ds', PartM (2 * m + 11) d) → Same H H' → Q (.ref q) H' := fun ws ds' zs q H' e r h1 h2 h3 s' =>
    k (ws, ds') (.ref q) H' ⟨h1, h2, h3⟩ (rep_tup e (reps_cons (by rw [Rep]) r)) s'
  have hpM : ∀ d ∈ ps, PartM (2 * m + 11) d := fun d hd => (hp0 d hd).mono (by omega)
  refine' go_body [some (.ref p), some v2, some (.ref t), some (.ref b), none, none, none, none] rfl ?hb ?hg
  case hb =>
   refine' pss_cons ?zb ?zc
   case zb =>
    refine' ps_if ?zd ?ze ?zf
    case zd => exact (pt_cmpR op_eq (pe_ix (k_ix (K := K) rfl) (pv 3) pe_int (fun _ _ => rfl)) pe_int (nomark _))
    case ze => exact (pss_one (ps_ret (pe_op (k_catW (K := K) rfl) (pv 2) (pe_tup (pa_consS (pe_ix (k_ix (K := K) rfl) (pv 3) pe_int (fun _ _ => rfl)) pa_nil)))))
    case zf => exact pss_nil
   case zc =>
    refine' pss_cons ?zg ?zh
    case zg =>
     refine' ps_if ?zi ?zj ?zk
     case zi => exact (pt_cmpR op_eq (pe_ix (k_ix (K := K) rfl) (pv 3) pe_int (fun _ _ => rfl)) pe_int (nomark _))
     case zj =>
      refine' pss_one ?zl
      case zl =>
       refine' ps_ret ?zm
       case zm =>
        refine' pe_slice ?zn ?zo ?zp ?zq
        case zn => exact (k_slW (K := K) rfl)
        case zo => exact (pv 2)
        case zp => exact po_none
        case zq =>
         refine' po_some ?zr
         case zr =>
          refine' pe_op ?zs ?zt ?zu
          case zs => exact op_add
          case zt => exact pe_int
          case zu =>
           refine' pe_op ?zv ?zw ?zx
           case zv => exact op_mod
           case zw => exact (pe_ix (k_ix (K := K) rfl) (pv 3) pe_int (fun _ _ => rfl))
           case zx => exact (pe_callB (k_len (K := K) rfl) (by rfl) B.b_len bt_len (pa_consN (pv 2) pa_nil))
     case zk => exact pss_nil
    case zh =>
     refine' pss_cons ?zy ?zz
     case zy =>
      refine' ps_if ?zba ?zbb ?zbc
      case zba => exact (pt_cmpR op_eq (pe_ix (k_ix (K := K) rfl) (pv 3) pe_int (fun _ _ => rfl)) pe_int (nomark _))
      case zbb =>
       refine' pss_cons ?zbd ?zbe
       case zbd =>
        refine' ps_setB (i := 4) ?zbf ?zbg ?zbh ?zbi
        case zbf => exact nd
        case zbg => exact rfl
        case zbh => exact (Or.inl rfl)
        case zbi =>
         refine' pe_op ?zbj ?zbk ?zbl
         case zbj => exact op_cat
         case zbk => exact (pe_callTy (call_listD rfl) (by rfl) B.b_list bt_list (pa_consC (pe_fn0 C_law_letters (hr.mono (by first | decide | omega)) (by rfl)) pa_nil))
         case zbl =>
          refine' pe_lst ?zbm
          case zbm =>
           refine' pa_consK ?zbn ?zbo
           case zbn => exact pe_str
           case zbo =>
            refine' pa_consK ?zbp ?zbq
            case zbp => exact pe_str
            case zbq =>
             refine' pa_consK ?zbr ?zbs
             case zbr => exact pe_str
             case zbs => exact (pa_consK pe_str (pa_consK pe_str (pa_consK pe_str (pa_consK pe_str (pa_consK pe_str (pa_consK pe_str (pa_consK pe_str (pa_consK pe_str pa_nil))))))))
       case zbe =>
        refine' pss_one ?zbt
        case zbt =>
         refine' ps_ret ?zbu
         case zbu =>
          refine' pe_op ?zbv ?zbw ?zbx
          case zbv => exact (k_catW (K := K) rfl)
          case zbw =>
           refine' pe_tup ?zby
           case zby =>
            refine' pa_consS ?zbz ?zca
            case zbz =>
             refine' pe_ix ?zcb ?zcc ?zcd ?zce
             case zcb => exact (k_ix (K := K) rfl)
             case zcc =>
              refine' pe_lst ?zcf
              case zcf =>
               refine' pa_consS ?zcg ?zch
               case zcg => exact (pe_ix (k_ix (K := K) rfl) (pv 4) (pe_ix (k_ix (K := K) rfl) (pv 3) pe_int (fun _ _ => rfl)) (fun _ _ => rfl))
               case zch =>
                refine' pa_consS ?zci ?zcj
                case zci => exact (pe_ix (k_ix (K := K) rfl) (pv 3) pe_int (fun _ _ => rfl))
                case zcj =>
                 refine' pa_consB ?zck ?zcl
                 case zck => exact (pe_op op_add_str (pe_ix (k_ix (K := K) rfl) (pv 2) pe_int (fun _ _ => rfl)) (pe_ix (k_ix (K := K) rfl) (pv 3) pe_int (fun _ _ => rfl)))
                 case zcl => exact pa_nil
             case zcd => exact (pe_ix (k_ix (K := K) rfl) (pv 3) pe_int (fun _ _ => rfl))
             case zce => exact (fun _ _ => rfl)
            case zca => exact pa_nil
          case zbx => exact (pe_slice (k_slT (K := K) rfl) (pv 2) (po_some pe_int) po_none)
      case zbc => exact pss_nil
     case zz =>
      refine' pss_cons ?zcm ?zcn
      case zcm =>
       refine' ps_if ?zco ?zcp ?zcq
       case zco => exact (pt_cmpR op_eq (pe_callB (k_len (K := K) rfl) (by rfl) B.b_len bt_len (pa_consN (pv 2) pa_nil)) pe_int (nomark _))
       case zcp =>
        refine' pss_one ?zcr
        case zcr =>
         refine' ps_ret ?zcs
         case zcs => exact (pe_op (k_catW (K := K) rfl) (pv 2) (pe_tup (pa_consT (pe_tup (pa_consS (pe_ix (k_ix (K := K) rfl) (pv 3) pe_int (fun _ _ => rfl)) pa_nil)) pa_nil)))
       case zcq => exact pss_nil
      case zcn =>
       refine' pss_cons ?zct ?zcu
       case zct =>
        refine' ps_setB (i := 5) ?zcv ?zcw ?zcx ?zcy
        case zcv => exact nd
        case zcw => exact rfl
        case zcx => exact (Or.inl rfl)
        case zcy =>
         refine' pe_op ?zcz ?zda ?zdb
         case zcz => exact op_add
         case zda => exact pe_int
         case zdb =>
          refine' pe_op ?zdc ?zdd ?zde
          case zdc => exact op_mod
          case zdd => exact (pe_ix (k_ix (K := K) rfl) (pv 3) pe_int (fun _ _ => rfl))
          case zde => exact (pe_op op_sub (pe_callB (k_len (K := K) rfl) (by rfl) B.b_len bt_len (pa_consN (pv 2) pa_nil)) pe_int)
       case zcu =>
        refine' pss_cons ?zdf ?zdg
        case zdf =>
         refine' ps_setC (i := 6) ?zdh ?zdi ?zdj ?zdk
         case zdh => exact nd
         case zdi => exact rfl
         case zdj => exact (Or.inl rfl)
         case zdk => exact (pe_fn C_law_bound (hr.mono (by first | decide | omega)) (by rfl) (pa_consN (pv 0) (pa_consN (pv 1) (pa_consN (pv 2) (pa_consN (pv 5) pa_nil)))))
        case zdg =>
         refine' pss_cons ?zdl ?zdm
         case zdl =>
          refine' ps_setS (i := 7) ?zdn ?zdo ?zdp ?zdq
          case zdn => exact nd
          case zdo => exact rfl
          case zdp => exact (Or.inl rfl)
          case zdq =>
           refine' pe_ix ?zdr ?zds ?zdt ?zdu
           case zdr => exact (k_ix (K := K) rfl)
           case zds =>
            refine' pe_lst ?zdv
            case zdv =>
             refine' pa_consN ?zdw ?zdx
             case zdw => exact (pv 6)
             case zdx =>
              refine' pa_consC ?zdy ?zdz
              case zdy =>
               refine' pe_callB ?zea ?zeb ?zec ?zed ?zee
               case zea => exact (call_max' rfl)
               case zeb => exact (by rfl)
               case zec => exact B.b_max
               case zed => exact bt_max
               case zee => exact (pa_consB (pe_op op_sub (pv 6) pe_int) (pa_consB (pe_op op_sub pe_int (pe_op op_pow pe_int pe_int)) pa_nil))
              case zdz => exact (pa_consU (pe_un un_neg pe_int) pa_nil)
           case zdt => exact (pe_ix (k_ix (K := K) rfl) (pv 3) pe_int (fun _ _ => rfl))
           case zdu => exact (fun _ _ => rfl)
         case zdm =>
          refine' pss_cons ?zef ?zeg
          case zef =>
           refine' ps_if ?zeh ?zei ?zej
           case zeh => exact (pt_cmpR op_eq (pe_ix (k_ix (K := K) rfl) (pv 3) pe_int (fun _ _ => rfl)) pe_int (nomark _))
           case zei => exact (pss_one (ps_setS (i := 7) nd rfl (Or.inl rfl) (pe_ix (k_ix (K := K) rfl) (pv 3) pe_int (fun _ _ => rfl))))
           case zej => exact pss_nil
          case zeg =>
           refine' pss_cons ?zek ?zel
           case zek =>
            refine' ps_if ?zem ?zen ?zeo
            case zem =>
             refine' PW.pt ?zep
             case zep =>
              refine' pw_and ?zeq ?zer
              case zeq =>
               refine' pt_val ?zes
               case zes =>
                refine' pe_callB ?zet ?zeu ?zev ?zew ?zex
                case zet => exact call_isi
                case zeu => exact (by rfl)
                case zev => exact B.b_isinstance
                case zew => exact bt_isinstance
                case zex => exact (pa_consS (pe_ix (k_ix (K := K) rfl) (pv 2) (pv 5) (fun _ _ => rfl)) (pa_consN (pe_bltn (v := .ty "tuple") (by rfl) B.b_tuple bt_tuple rfl) pa_nil))
              case zer => exact (pw_and1 (pt_cmpR op_ne (pe_ix (k_ix (K := K) rfl) (pv 3) pe_int (fun _ _ => rfl)) pe_int (nomark _)))
            case zen =>
             refine' pss_one ?zey
             case zey =>
              refine' ps_ret ?zez
              case zez =>
               refine' pe_op ?zfa ?zfb ?zfc
               case zfa => exact (k_catW (K := K) rfl)
               case zfb =>
                refine' pe_op ?zfd ?zfe ?zff
                case zfd => exact (k_catW (K := K) rfl)
                case zfe => exact (pe_slice (k_slW (K := K) rfl) (pv 2) po_none (po_some (pv 5)))
                case zff =>
                 refine' pe_tup ?zfg
                 case zfg =>
                  refine' pa_consC ?zfh ?zfi
                  case zfh =>
                   refine' pe_fn ?zfj ?zfk ?zfl ?zfm
                   case zfj => exact C_law_bent_args
                   case zfk => exact (hr.mono (by first | decide | omega))
                   case zfl => exact (by rfl)
                   case zfm => exact (pa_consS (pe_ix (k_ix (K := K) rfl) (pv 2) (pv 5) (fun _ _ => rfl)) (pa_consN (pv 3) (pa_consN (pv 7) pa_nil)))
                  case zfi => exact pa_nil
               case zfc => exact (pe_slice (k_slW (K := K) rfl) (pv 2) (po_some (pe_op op_add (pv 5) pe_int)) po_none)
            case zeo => exact pss_nil
           case zel =>
            refine' pss_cons ?zfn ?zfo
            case zfn =>
             refine' ps_if ?zfp ?zfq ?zfr
             case zfp =>
              refine' PW.pt ?zfs
              case zfs =>
               refine' pw_and ?zft ?zfu
               case zft => exact (pt_cmpR op_eq (pe_ix (k_ix (K := K) rfl) (pv 3) pe_int (fun _ _ => rfl)) pe_int (nomark _))
               case zfu =>
                refine' pw_and1 ?zfv
                case zfv =>
                 refine' pt_not ?zfw
                 case zfw =>
                  refine' pt_val ?zfx
                  case zfx =>
                   refine' pe_callB ?zfy ?zfz ?zga ?zgb ?zgc
                   case zfy => exact call_isi
                   case zfz => exact (by rfl)
                   case zga => exact B.b_isinstance
                   case zgb => exact bt_isinstance
                   case zgc => exact (pa_consS (pe_ix (k_ix (K := K) rfl) (pv 2) (pv 5) (fun _ _ => rfl)) (pa_consN (pe_bltn (v := .ty "tuple") (by rfl) B.b_tuple bt_tuple rfl) pa_nil))
             case zfq =>
              refine' pss_one ?zgd
              case zgd =>
               refine' ps_ret ?zge
               case zge =>
                refine' pe_op ?zgf ?zgg ?zgh
                case zgf => exact (k_catW (K := K) rfl)
                case zgg =>
                 refine' pe_op ?zgi ?zgj ?zgk
                 case zgi => exact (k_catW (K := K) rfl)
                 case zgj => exact (pe_slice (k_slW (K := K) rfl) (pv 2) po_none (po_some (pv 5)))
                 case zgk =>
                  refine' pe_tup ?zgl
                  case zgl =>
                   refine' pa_consB ?zgm ?zgn
                   case zgm =>
                    refine' pe_op ?zgo ?zgp ?zgq
                    case zgo => exact op_repT
                    case zgp => exact (pe_tup (pa_consN (pv 7) pa_nil))
                    case zgq =>
                     refine' pe_ix ?zgr ?zgs ?zgt ?zgu
                     case zgr => exact (k_ix (K := K) rfl)
                     case zgs => exact (pe_lst (pa_consK pe_int (pa_consK pe_int (pa_consK pe_int (pa_consK pe_int pa_nil)))))
                     case zgt => exact (pe_op op_mod (pe_ix (k_ix (K := K) rfl) (pv 3) pe_int (fun _ _ => rfl)) pe_int)
                     case zgu => exact (fun _ _ => rfl)
                   case zgn => exact pa_nil
                case zgh => exact (pe_slice (k_slW (K := K) rfl) (pv 2) (po_some (pe_op op_add (pv 5) pe_int)) po_none)
             case zfr => exact pss_nil
            case zfo =>
             refine' pss_one ?zgv
             case zgv =>
              refine' ps_ret ?zgw
              case zgw =>
               refine' pe_op ?zgx ?zgy ?zgz
               case zgx => exact (k_catW (K := K) rfl)
               case zgy => exact (pe_op (k_catW (K := K) rfl) (pe_slice (k_slW (K := K) rfl) (pv 2) po_none (po_some (pv 5))) (pe_tup (pa_consN (pv 7) pa_nil)))
               case zgz => exact (pe_slice (k_slW (K := K) rfl) (pv 2) (po_some (pe_op op_add (pv 5) pe_int)) po_none)
  walk_at "rd"
  refine rd_ixaL pk.at_ rfl ?_
  walk_at "rd"
  refine ite_dd (fun e3 => ?_) (fun n3 => ?_)
  · walk_at "rd"
    refine rd_ixaL pk.at_ rfl ?_
    walk_at "rd"
    walk_at "mk"; intro q1 hq1
    have s1 := Same.new (o := .tup [V.int nm]) hq1
    have e1 : upd H q1 (.tup [V.int nm]) q1 = some (.tup [V.int nm]) := upd_same
    generalize upd H q1 (.tup [V.int nm]) = H1 at s1 e1
    refine rd_catW (s1 _ _ ht) e1 (by simp; omega) fun q2 H2 e2 s2 => ?_
    have s02 := s1.trans s2
    exact fin w0 (ps ++ [.int nm]) (xs ++ [.int nm]) q2 H2 (by rw [e2]; rfl) ((rx.mono s02.ts).append (reps_cons rep_int reps_nil)) (by omega) (by simp; omega) (fun d hd => by
      rcases List.mem_append.mp hd with hd | hd
      · exact hpM d hd
      · exact .inl ⟨nm, by simpa using hd⟩) s02
  · walk_at "rd"
    refine rd_ixaL pk.at_ rfl ?_
    walk_at "rd"
    refine ite_dd (fun e4 => ?_) (fun n4 => ?_)
    · walk_at "rd"
      refine rd_ixaL pk.at_ rfl ?_
      walk_at "rd"
      refine rd_lenT' (SqT.of ht) ?_
      walk_at "rd"
      refine rd_I (by simp) ?_
      walk_at "rd"
      refine rd_slW ht fun q1 H1 e1 s1 => ?_
      obtain ⟨n, hn⟩ : ∃ n : Nat, p3 % (((V.str w0 :: xs).length : Nat) : Int) = n := ⟨(p3 % (((V.str w0 :: xs).length : Nat) : Int)).toNat, (Int.toNat_of_nonneg (Int.emod_nonneg _ (by simp; omega))).symm⟩
      have hn1 : n < (V.str w0 :: xs).length := by
        have := Int.emod_lt_of_pos p3 (show (0 : Int) < (((V.str w0 :: xs).length : Nat) : Int) by simp)
        omega
      rw [hn, show (1 : Int) + (n : Int) = ((n + 1 : Nat) : Int) by omega, cut_to (by omega)] at e1
      exact fin w0 (ps.take n) (xs.take n) q1 H1 e1 ((rx.mono s1.ts).take n) (by omega) (by rw [List.length_take]; omega) (fun d hd => hpM d (List.mem_of_mem_take hd)) s1
    · walk_at "rd"
      refine rd_ixaL pk.at_ rfl ?_
      walk_at "rd"
      refine ite_dd (fun e5 => ?_) (fun n5 => ?_)
      · walk_at "rd"
        refine use0 (b := fun H Q => ∀ p H', H p = none → H' p = some (.dK lettersKV) → Same H H' → Q (.ref p) H') fun pd H1 hpd hd1 s1 => ?_
        walk_at "rd"
        refine ⟨pd, lettersKV, rfl, hd1, fun pl hpl => ?_⟩
        have s2 := Same.new (o := .lst (lettersKV.map fun q => kV q.1)) hpl
        have e2 : upd H1 pl (.lst (lettersKV.map fun q => kV q.1)) pl = some (.lst (lettersKV.map fun q => kV q.1)) := upd_same
        generalize upd H1 pl (.lst (lettersKV.map fun q => kV q.1)) = H2 at s2 e2
        walk_at "rd"
        refine ⟨show 11 ≤ PySem.sizeLine by rw [PySem.sizeLine_eq]; decide, fun pe hpe => ?_⟩
        have s3 := Same.new (o := .lst (els.map V.str)) hpe
        have e3 : upd H2 pe (.lst (els.map V.str)) pe = some (.lst (els.map V.str)) := upd_same
        unfold els at s3 e3
        simp only [List.map_cons, List.map_nil] at s3 e3
        generalize upd H2 pe (.lst [V.str (Str.ofString ""), V.str (Str.ofString "Put"), V.str (Str.ofString "puts"), V.str (Str.ofString "def"), V.str (Str.ofString "lane"), V.str (Str.ofString "call "), V.str (Str.ofString "jum"), V.str (Str.ofString "rest"), V.str (Str.ofString "go"), V.str (Str.ofString "hold"), V.str (Str.ofString "edge")]) = H3 at s3 e3
        refine rd_cat (s3 _ _ e2) e3 (show 23 ≤ PySem.sizeLine by rw [PySem.sizeLine_eq]; decide) fun pf hpf => ?_
        have s4 := Same.new (o := .lst (allW.map V.str)) hpf
        have e4 : upd H3 pf (.lst (allW.map V.str)) pf = some (.lst (allW.map V.str)) := upd_same
        rw [show allW.map V.str = (lettersKV.map fun q => kV q.1) ++ [V.str (Str.ofString ""), V.str (Str.ofString "Put"), V.str (Str.ofString "puts"), V.str (Str.ofString "def"), V.str (Str.ofString "lane"), V.str (Str.ofString "call "), V.str (Str.ofString "jum"), V.str (Str.ofString "rest"), V.str (Str.ofString "go"), V.str (Str.ofString "hold"), V.str (Str.ofString "edge")] from rfl] at s4 e4
        generalize upd H3 pf (.lst ((lettersKV.map fun q => kV q.1) ++ [V.str (Str.ofString ""), V.str (Str.ofString "Put"), V.str (Str.ofString "puts"), V.str (Str.ofString "def"), V.str (Str.ofString "lane"), V.str (Str.ofString "call "), V.str (Str.ofString "jum"), V.str (Str.ofString "rest"), V.str (Str.ofString "go"), V.str (Str.ofString "hold"), V.str (Str.ofString "edge")])) = H4 at s4 e4
        have e4 : H4 pf = some (.lst (allW.map V.str)) := e4
        have s04 := ((s1.trans s2).trans s3).trans s4
        have pk4 := pk.mono s04
        have hp3 : p3.toNat < allW.length := by
          have : allW.length = 23 := rfl
          have := pk.b3
          omega
        have hW : allW[p3.toNat].length ≤ 10 := by
          have : ∀ x ∈ allW, x.length ≤ 10 := by decide +kernel
          exact this _ (List.getElem_mem hp3)
        walk_at "rd"
        refine rd_ixaL pk4.at_ rfl ?_
        refine rd_ixaL e4 (atI_at (n := p3.toNat) (by have := pk.b3; omega) (by rw [List.getElem?_map, List.getElem?_eq_getElem hp3]; rfl)) ?_
        walk_at "rd"
        refine rd_ixaL pk4.at_ rfl ?_
        walk_at "rd"
        refine rd_ixaT (s04 _ _ ht) (atI_at (n := 0) rfl rfl) ?_
        walk_at "rd"
        refine rd_ixaL pk4.at_ rfl ?_
        have hbw := pk.bw
        refine ⟨w0, wd, rfl, rfl, small_le' (by omega), ?_⟩
        walk_at "rd"
        refine ⟨show 3 ≤ PySem.sizeLine by rw [PySem.sizeLine_eq]; decide, fun pg hpg => ?_⟩
        have s5 := Same.new (o := .lst [V.str allW[p3.toNat], V.str wd, V.str (w0 ++ wd)]) hpg
        have e5 : upd H4 pg (.lst [V.str allW[p3.toNat], V.str wd, V.str (w0 ++ wd)]) pg = some (.lst [V.str allW[p3.toNat], V.str wd, V.str (w0 ++ wd)]) := upd_same
        generalize upd H4 pg (.lst [V.str allW[p3.toNat], V.str wd, V.str (w0 ++ wd)]) = H5 at s5 e5
        walk_at "rd"
        refine rd_ixaL (pk4.mono s5).at_ rfl ?_
        have hsel : ∃ ws : Str, atI [V.str allW[p3.toNat], V.str wd, V.str (w0 ++ wd)] p4 = some (.str ws) ∧ ws.length ≤ 2 * m + 11 := by
          have h4 : p4 = 0 ∨ p4 = 1 ∨ p4 = 2 := by have := pk.b4; omega
          rcases h4 with rfl | rfl | rfl
          · exact ⟨_, rfl, by omega⟩
          · exact ⟨_, rfl, by omega⟩
          · refine ⟨_, rfl, ?_⟩
            have : (w0 ++ wd).length = w0.length + wd.length := by
              show (w0.cps ++ wd.cps).size = _
              simp; rfl
            omega
        obtain ⟨ws, ew, lw⟩ := hsel
        refine rd_ixaL e5 ew ?_
        walk_at "rd"
        refine ⟨show 1 ≤ PySem.sizeLine by rw [PySem.sizeLine_eq]; decide, fun ph hph => ?_⟩
        have s6 := Same.new (o := .tup [V.str ws]) hph
        have e6 : upd H5 ph (.tup [V.str ws]) ph = some (.tup [V.str ws]) := upd_same
        generalize upd H5 ph (.tup [V.str ws]) = H6 at s6 e6
        have s06 := (s04.trans s5).trans s6
        walk_at "rd"
        refine rd_slT1 (s06 _ _ ht) fun pi hpi => ?_
        have s7 := Same.new (o := .tup xs) hpi
        have e7 : upd H6 pi (.tup xs) pi = some (.tup xs) := upd_same
        generalize upd H6 pi (.tup xs) = H7 at s7 e7
        refine rd_catW (s7 _ _ e6) e7 (by simp; omega) fun pj H8 e8 s8 => ?_
        have s08 := (s06.trans s7).trans s8
        exact fin ws ps xs pj H8 e8 (rx.mono s08.ts) lw (by omega) hpM s08
      · walk_at "rd"
        refine rd_lenT' (SqT.of ht) ?_
        walk_at "rd"
        refine ite_dd (fun el => ?_) (fun nl => ?_)
        · walk_at "rd"
          refine rd_ixaL pk.at_ rfl ?_
          walk_at "rd"
          refine ⟨show 1 ≤ PySem.sizeLine by rw [PySem.sizeLine_eq]; decide, fun q1 hq1 => ?_⟩
          have s1 := Same.new (o := .tup [V.int nm]) hq1
          have e1 : upd H q1 (.tup [V.int nm]) q1 = some (.tup [V.int nm]) := upd_same
          generalize upd H q1 (.tup [V.int nm]) = H1 at s1 e1
          walk_at "rd"
          refine ⟨show 1 ≤ PySem.sizeLine by rw [PySem.sizeLine_eq]; decide, fun q2 hq2 => ?_⟩
          have s2 := Same.new (o := .tup [V.ref q1]) hq2
          have e2 : upd H1 q2 (.tup [V.ref q1]) q2 = some (.tup [V.ref q1]) := upd_same
          generalize upd H1 q2 (.tup [V.ref q1]) = H2 at s2 e2
          have s02 := s1.trans s2
          refine rd_catW (s02 _ _ ht) e2 (by simp; omega) fun q3 H3 e3 s3 => ?_
          have s03 := s02.trans s3
          have r1 : Rep H3 (.tup ([nm].map D.int)) (.ref q1) := ints_tup (s3 _ _ (s2 _ _ e1))
          exact fin w0 (ps ++ [.tup ([nm].map D.int)]) (xs ++ [.ref q1]) q3 H3 (by rw [e3]; rfl) ((rx.mono s03.ts).append (reps_cons r1 reps_nil)) (by omega) (by simp; omega) (fun d hd => by
            rcases List.mem_append.mp hd with hd | hd
            · exact hpM d hd
            · exact .inr ⟨[nm], by simpa using hd, by simp⟩) s03
        · walk_at "rd"
          have hps : 0 < ps.length := by
            have : ¬ (((V.str w0 :: xs).length : Nat) : Int) = 1 := nl
            simp at this
            omega
          refine rd_ixaL pk.at_ rfl ?_
          walk_at "rd"
          refine rd_lenT' (SqT.of ht) ?_
          walk_at "rd"
          refine rd_I (by rw [List.length_cons]; omega) ?_
          have hL : (((V.str w0 :: xs).length : Nat) : Int) = (ps.length : Int) + 1 := by rw [List.length_cons]; omega
          obtain ⟨j, hj⟩ : ∃ j : Nat, p3 % ((((V.str w0 :: xs).length : Nat) : Int) - 1) = j := ⟨(p3 % ((((V.str w0 :: xs).length : Nat) : Int) - 1)).toNat, (Int.toNat_of_nonneg (Int.emod_nonneg _ (by omega))).symm⟩
          have hj1 : j < ps.length := by
            have := Int.emod_lt_of_pos p3 (show (0 : Int) < (((V.str w0 :: xs).length : Nat) : Int) - 1 by omega)
            omega
          rw [hj]
          have hjx : j < xs.length := by omega
          walk_at "rd"
          refine use4 ⟨p, vs, d, (w0, ps), 1 + (j : Int), rfl, hp, DA, rr, rfl, by omega, fun bd H1 s1 => ?_⟩
          walk_at "rd"
          refine rd_I ⟨by decide, by decide, by decide⟩ ?_
          walk_at "rd"
          generalize hmx : (if (1 : Int) - 10 ^ Int.toNat 60 > bd - 1 then (1 : Int) - 10 ^ Int.toNat 60 else bd - 1) = mx
          walk_at "rd"
          refine ⟨show 3 ≤ PySem.sizeLine by rw [PySem.sizeLine_eq]; decide, fun q2 hq2 => ?_⟩
          have s2 := Same.new (o := .lst [V.int bd, V.int mx, V.int (-1)]) hq2
          have e2 : upd H1 q2 (.lst [V.int bd, V.int mx, V.int (-1)]) q2 = some (.lst [V.int bd, V.int mx, V.int (-1)]) := upd_same
          generalize upd H1 q2 (.lst [V.int bd, V.int mx, V.int (-1)]) = H2 at s2 e2
          have s02 := s1.trans s2
          walk_at "rd"
          refine rd_ixaL (pk.mono s02).at_ rfl ?_
          have hsel : ∃ z : Int, atI [V.int bd, V.int mx, V.int (-1)] p4 = some (.int z) := by
            have h4 : p4 = 0 ∨ p4 = 1 ∨ p4 = 2 := by have := pk.b4; omega
            rcases h4 with rfl | rfl | rfl
            · exact ⟨_, rfl⟩
            · exact ⟨_, rfl⟩
            · exact ⟨_, rfl⟩
          obtain ⟨me0, em0⟩ := hsel
          refine rd_ixaL e2 em0 ?_
          refine rd_gname ?_
          dsimp only
          refine rd_meet (fun σ' H' => (∃ me : Int, σ' = [some (.ref p), some v2, some (.ref t), some (.ref b), none, some (.int (1 + (j : Int))), some (.int bd), some (.int me)]) ∧ Same H H') ?_ fun N hN => ?_
          · rintro σ' HA ⟨⟨me, rfl⟩, sA⟩
            have hrow : atI (V.str w0 :: xs) (1 + (j : Int)) = some xs[j] := atI_at (n := j + 1) (by omega) (by simp [hjx])
            obtain ⟨rj0, erj, rj⟩ := rx.get' (List.getElem?_eq_getElem hjx)
            rw [List.getElem?_eq_getElem hj1] at erj
            cases erj
            walk_at "rd"
            refine rd_ixaT (sA _ _ ht) hrow ?_
            walk_at "rd"
            rcases hp0 _ (List.getElem_mem hj1) with ⟨nj, enj⟩ | hint
            · have ev : xs[j] = .int nj := by rw [enj] at rj; exact rep_int_inv rj
              refine rd_isi (t := "int") (by rw [ev]; rfl) (by simp) (rd_bl (iteF ?_))
              walk_at "rd"
              refine rd_ixaL (pk.mono sA).at_ rfl ?_
              walk_at "rd"
              refine ite_dd (fun e6 => ?_) (fun n6 => ?_)
              · walk_at "rd"
                refine rd_ixaT (sA _ _ ht) hrow ?_
                walk_at "rd"
                refine rd_isi (t := "int") (by rw [ev]; rfl) (by simp) (rd_bl (iteNF ?_))
                walk_at "rd"
                refine rd_slW (sA _ _ ht) fun qa Ha ea sa => ?_
                rw [show (1 : Int) + (j : Int) = ((j + 1 : Nat) : Int) by omega, cut_to (by simp; omega)] at ea
                have ea : Ha qa = some (.tup (V.str w0 :: xs.take j)) := ea
                have sAa := sA.trans sa
                walk_at "rd"
                refine ⟨show 1 ≤ PySem.sizeLine by rw [PySem.sizeLine_eq]; decide, fun qx hqx => ?_⟩
                have sx := Same.new (o := .tup [V.int me]) hqx
                have ex : upd Ha qx (.tup [V.int me]) qx = some (.tup [V.int me]) := upd_same
                generalize upd Ha qx (.tup [V.int me]) = Hx at sx ex
                walk_at "rd"
                refine ⟨show 4 ≤ PySem.sizeLine by rw [PySem.sizeLine_eq]; decide, fun qy hqy => ?_⟩
                have sy := Same.new (o := .lst [V.int 1, V.int 0, V.int 2, V.int 5]) hqy
                have ey : upd Hx qy (.lst [V.int 1, V.int 0, V.int 2, V.int 5]) qy = some (.lst [V.int 1, V.int 0, V.int 2, V.int 5]) := upd_same
                generalize upd Hx qy (.lst [V.int 1, V.int 0, V.int 2, V.int 5]) = Hy at sy ey
                walk_at "rd"
                refine rd_ixaL (pk.mono ((sAa.trans sx).trans sy)).at_ rfl ?_
                walk_at "rd"
                refine rd_I (by omega) ?_
                have hsel : ∃ z : Int, atI [V.int 1, V.int 0, V.int 2, V.int 5] (p2 % 4) = some (.int z) ∧ (z = 0 ∨ z = 1 ∨ z = 2 ∨ z = 5) := by
                  have h4 : p2 % 4 = 0 ∨ p2 % 4 = 1 ∨ p2 % 4 = 2 ∨ p2 % 4 = 3 := by omega
                  rcases h4 with h | h | h | h <;> rw [h]
                  · exact ⟨1, rfl, by omega⟩
                  · exact ⟨0, rfl, by omega⟩
                  · exact ⟨2, rfl, by omega⟩
                  · exact ⟨5, rfl, by omega⟩
                obtain ⟨z, ez, hz⟩ := hsel
                refine rd_ixaL ey ez ?_
                refine rd_repT (sy _ _ ex) hz fun qz Hm em smz => ?_
                have sm := (sx.trans sy).trans smz
                have em : Hm qz = some (.tup ((List.replicate z.toNat me).map V.int)) := by rw [List.map_replicate]; exact em
                obtain ⟨dz, zv, ezv, rzm, pz⟩ : ∃ dz zv, zv = V.ref qz ∧ Rep Hm dz zv ∧ PartM (2 * m + 11) dz := ⟨_, _, rfl, ints_tup em, .inr ⟨_, rfl, by rw [List.length_replicate]; omega⟩⟩
                rw [← ezv]
                walk_at "rd"
                refine ⟨show 1 ≤ PySem.sizeLine by rw [PySem.sizeLine_eq]; decide, fun qb hqb => ?_⟩
                have sb := Same.new (o := .tup [zv]) hqb
                have eb : upd Hm qb (.tup [zv]) qb = some (.tup [zv]) := upd_same
                generalize upd Hm qb (.tup [zv]) = Hb at sb eb
                refine rd_catW (sb _ _ (sm _ _ ea)) eb (by simp; omega) fun qc Hc ec sc => ?_
                have sAc := ((sAa.trans sm).trans sb).trans sc
                walk_at "rd"
                refine rd_slW (sAc _ _ ht) fun qd Hd ed sd => ?_
                rw [show (1 : Int) + (j : Int) + 1 = ((j + 2 : Nat) : Int) by omega, cut_from (by simp; omega)] at ed
                have ed : Hd qd = some (.tup (xs.drop (j + 1))) := ed
                refine rd_catW (sd _ _ ec) ed (by simp; omega) fun qe He ee se => ?_
                have sAe := (sAc.trans sd).trans se
                have rz : Rep He dz zv := rzm.mono (((sb.trans sc).trans sd).trans se).ts
                refine fin w0 (ps.take j ++ dz :: ps.drop (j + 1)) (xs.take j ++ zv :: xs.drop (j + 1)) qe He (by rw [ee]; simp) (((rx.mono sAe.ts).take j).append (reps_cons rz ((rx.mono sAe.ts).drop (j + 1)))) (by omega) (by simp; omega) (fun d hd => ?_) sAe
                rcases List.mem_append.mp hd with hd | hd
                · exact hpM d (List.mem_of_mem_take hd)
                · rcases List.mem_cons.mp hd with rfl | hd
                  · exact pz
                  · exact hpM d (List.mem_of_mem_drop hd)
              · walk_at "rd"
                refine rd_slW (sA _ _ ht) fun qa Ha ea sa => ?_
                rw [show (1 : Int) + (j : Int) = ((j + 1 : Nat) : Int) by omega, cut_to (by simp; omega)] at ea
                have ea : Ha qa = some (.tup (V.str w0 :: xs.take j)) := ea
                have sAa := sA.trans sa
                walk_at "rd"
                obtain ⟨dz, zv, Hm, ezv, ehm, rzm, pz, sm⟩ : ∃ dz zv Hm, zv = V.int me ∧ Hm = Ha ∧ Rep Hm dz zv ∧ PartM (2 * m + 11) dz ∧ Same Ha Hm := ⟨.int me, _, _, rfl, rfl, rep_int, .inl ⟨me, rfl⟩, Same.refl _⟩
                rw [← ezv, ← ehm]
                refine ⟨show 1 ≤ PySem.sizeLine by rw [PySem.sizeLine_eq]; decide, fun qb hqb => ?_⟩
                have sb := Same.new (o := .tup [zv]) hqb
                have eb : upd Hm qb (.tup [zv]) qb = some (.tup [zv]) := upd_same
                generalize upd Hm qb (.tup [zv]) = Hb at sb eb
                refine rd_catW (sb _ _ (sm _ _ ea)) eb (by simp; omega) fun qc Hc ec sc => ?_
                have sAc := ((sAa.trans sm).trans sb).trans sc
                walk_at "rd"
                refine rd_slW (sAc _ _ ht) fun qd Hd ed sd => ?_
                rw [show (1 : Int) + (j : Int) + 1 = ((j + 2 : Nat) : Int) by omega, cut_from (by simp; omega)] at ed
                have ed : Hd qd = some (.tup (xs.drop (j + 1))) := ed
                refine rd_catW (sd _ _ ec) ed (by simp; omega) fun qe He ee se => ?_
                have sAe := (sAc.trans sd).trans se
                have rz : Rep He dz zv := rzm.mono (((sb.trans sc).trans sd).trans se).ts
                refine fin w0 (ps.take j ++ dz :: ps.drop (j + 1)) (xs.take j ++ zv :: xs.drop (j + 1)) qe He (by rw [ee]; simp) (((rx.mono sAe.ts).take j).append (reps_cons rz ((rx.mono sAe.ts).drop (j + 1)))) (by omega) (by simp; omega) (fun d hd => ?_) sAe
                rcases List.mem_append.mp hd with hd | hd
                · exact hpM d (List.mem_of_mem_take hd)
                · rcases List.mem_cons.mp hd with rfl | hd
                  · exact pz
                  · exact hpM d (List.mem_of_mem_drop hd)
            · obtain ⟨nsj, ensj, lsj⟩ := id hint
              have tj : tyN HA xs[j] = some "tuple" := by rw [ensj] at rj; exact tyN_rep (rj.mono sA.ts)
              refine rd_isi tj (by simp) (rd_bl (iteT ?_))
              walk_at "rd"
              refine rd_ixaL (pk.mono sA).at_ rfl ?_
              walk_at "rd"
              refine ite_nd (fun n6 => ?_) (fun e6 => ?_)
              · walk_at "rd"
                refine rd_slW (sA _ _ ht) fun qa Ha ea sa => ?_
                rw [show (1 : Int) + (j : Int) = ((j + 1 : Nat) : Int) by omega, cut_to (by simp; omega)] at ea
                have ea : Ha qa = some (.tup (V.str w0 :: xs.take j)) := ea
                have sAa := sA.trans sa
                walk_at "rd"
                refine rd_ixaT (sAa _ _ ht) hrow ?_
                walk_at "rd"
                refine use3 ⟨m, ps[j], b, p0, p1, p2, p3, p4, nm, wd, me, rj.mono sAa.ts, hint, by omega, rfl, pk.mono sAa, rfl, fun dz zv Hm pz0 rzm sm => ?_⟩
                have pz : PartM (2 * m + 11) dz := .inr (by obtain ⟨a, b, c⟩ := pz0; exact ⟨a, b, by omega⟩)
                walk_at "rd"
                refine ⟨show 1 ≤ PySem.sizeLine by rw [PySem.sizeLine_eq]; decide, fun qb hqb => ?_⟩
                have sb := Same.new (o := .tup [zv]) hqb
                have eb : upd Hm qb (.tup [zv]) qb = some (.tup [zv]) := upd_same
                generalize upd Hm qb (.tup [zv]) = Hb at sb eb
                refine rd_catW (sb _ _ (sm _ _ ea)) eb (by simp; omega) fun qc Hc ec sc => ?_
                have sAc := ((sAa.trans sm).trans sb).trans sc
                walk_at "rd"
                refine rd_slW (sAc _ _ ht) fun qd Hd ed sd => ?_
                rw [show (1 : Int) + (j : Int) + 1 = ((j + 2 : Nat) : Int) by omega, cut_from (by simp; omega)] at ed
                have ed : Hd qd = some (.tup (xs.drop (j + 1))) := ed
                refine rd_catW (sd _ _ ec) ed (by simp; omega) fun qe He ee se => ?_
                have sAe := (sAc.trans sd).trans se
                have rz : Rep He dz zv := rzm.mono (((sb.trans sc).trans sd).trans se).ts
                refine fin w0 (ps.take j ++ dz :: ps.drop (j + 1)) (xs.take j ++ zv :: xs.drop (j + 1)) qe He (by rw [ee]; simp) (((rx.mono sAe.ts).take j).append (reps_cons rz ((rx.mono sAe.ts).drop (j + 1)))) (by omega) (by simp; omega) (fun d hd => ?_) sAe
                rcases List.mem_append.mp hd with hd | hd
                · exact hpM d (List.mem_of_mem_take hd)
                · rcases List.mem_cons.mp hd with rfl | hd
                  · exact pz
                  · exact hpM d (List.mem_of_mem_drop hd)
              · walk_at "rd"
                refine rd_ixaL (pk.mono sA).at_ rfl ?_
                walk_at "rd"
                refine ite_dy e6 ?_
                walk_at "rd"
                refine rd_ixaT (sA _ _ ht) hrow ?_
                walk_at "rd"
                refine rd_isi tj (by simp) (rd_bl (iteNT ?_))
                walk_at "rd"
                refine rd_slW (sA _ _ ht) fun qa Ha ea sa => ?_
                rw [show (1 : Int) + (j : Int) = ((j + 1 : Nat) : Int) by omega, cut_to (by simp; omega)] at ea
                have ea : Ha qa = some (.tup (V.str w0 :: xs.take j)) := ea
                have sAa := sA.trans sa
                walk_at "rd"
                obtain ⟨dz, zv, Hm, ezv, ehm, rzm, pz, sm⟩ : ∃ dz zv Hm, zv = V.int me ∧ Hm = Ha ∧ Rep Hm dz zv ∧ PartM (2 * m + 11) dz ∧ Same Ha Hm := ⟨.int me, _, _, rfl, rfl, rep_int, .inl ⟨me, rfl⟩, Same.refl _⟩
                rw [← ezv, ← ehm]
                refine ⟨show 1 ≤ PySem.sizeLine by rw [PySem.sizeLine_eq]; decide, fun qb hqb => ?_⟩
                have sb := Same.new (o := .tup [zv]) hqb
                have eb : upd Hm qb (.tup [zv]) qb = some (.tup [zv]) := upd_same
                generalize upd Hm qb (.tup [zv]) = Hb at sb eb
                refine rd_catW (sb _ _ (sm _ _ ea)) eb (by simp; omega) fun qc Hc ec sc => ?_
                have sAc := ((sAa.trans sm).trans sb).trans sc
                walk_at "rd"
                refine rd_slW (sAc _ _ ht) fun qd Hd ed sd => ?_
                rw [show (1 : Int) + (j : Int) + 1 = ((j + 2 : Nat) : Int) by omega, cut_from (by simp; omega)] at ed
                have ed : Hd qd = some (.tup (xs.drop (j + 1))) := ed
                refine rd_catW (sd _ _ ec) ed (by simp; omega) fun qe He ee se => ?_
                have sAe := (sAc.trans sd).trans se
                have rz : Rep He dz zv := rzm.mono (((sb.trans sc).trans sd).trans se).ts
                refine fin w0 (ps.take j ++ dz :: ps.drop (j + 1)) (xs.take j ++ zv :: xs.drop (j + 1)) qe He (by rw [ee]; simp) (((rx.mono sAe.ts).take j).append (reps_cons rz ((rx.mono sAe.ts).drop (j + 1)))) (by omega) (by simp; omega) (fun d hd => ?_) sAe
                rcases List.mem_append.mp hd with hd | hd
                · exact hpM d (List.mem_of_mem_take hd)
                · rcases List.mem_cons.mp hd with rfl | hd
                  · exact pz
                  · exact hpM d (List.mem_of_mem_drop hd)
          · walk_at "rd"
            refine rd_ixaL (pk.mono s02).at_ rfl ?_
            walk_at "rd"
            refine ite_dd (fun e => ?_) (fun ne => ?_)
            · walk_at "rd"
              refine rd_ixaL (pk.mono s02).at_ rfl ?_
              walk_at "rd"
              exact hN _ _ ⟨⟨nm, rfl⟩, s02⟩
            · walk_at "rd"
              exact hN _ _ ⟨⟨me0, rfl⟩, s02⟩

end
end My

end
section
set_option Elab.async false
set_option linter.all false
set_option maxRecDepth 100000
set_option maxHeartbeats 4000000

namespace My
open PySem L2
local macro_rules | `(tactic| walk_at "rd1") => `(tactic| (first | ((with_reducible refine' rd_var ?e ?_); (case e => exact rfl)) | with_reducible refine rd_c ?_ | with_reducible refine rd_op ?_ | with_reducible refine rd_un ?_ | with_reducible refine rd_seq ?_ | with_reducible refine rd_asg ?_ | with_reducible refine rd_gname ?_ | with_reducible refine rd_ret ?_ | with_reducible refine rd_drop ?_ | with_reducible refine rd_next ?_ | with_reducible refine rd_if ?_ | with_reducible refine rd_test ?_ | with_reducible refine rd_tb ?_ | with_reducible refine rd_and ?_ | with_reducible refine rd_or ?_ | with_reducible refine rd_not ?_ | with_reducible refine rd_true ?_ | with_reducible refine rd_andV ?_ | with_reducible refine rd_orV ?_ | with_reducible refine rd_notV ?_ | with_reducible refine rd_ifE ?_ | with_reducible refine rd_chain ?_ | with_reducible refine rd_nil ?_ | with_reducible refine rd_cons ?_ | with_reducible refine rd_cb ?_ | with_reducible refine rd_call ?_ | with_reducible refine rd_I0 ?_ | with_reducible refine rd_U ?_ | with_reducible refine rd_eqI ?_ | with_reducible refine rd_neI ?_ | with_reducible refine rd_eqS ?_ | with_reducible refine rd_neS ?_ | with_reducible refine rd_eqB ?_ | with_reducible refine rd_neB ?_ | with_reducible refine rd_bl ?_ | with_reducible refine rd_int ?_ | with_reducible refine rd_tup ?_ | with_reducible refine rd_lst ?_ | with_reducible refine rd_gsub ?_ | with_reducible refine rd_slice ?_ | with_reducible refine rd_nopart ?_ | with_reducible refine rd_part ?_ | with_reducible refine rd_bm ?_ | with_reducible refine rd_bm0 ?_ | with_reducible refine rd_comp ?_ | with_reducible refine rd_itup ?_ | with_reducible refine rd_ilist ?_ | with_reducible refine rd_irng ?_ | with_reducible refine rd_gcons ?_ | with_reducible refine rd_gnil ?_ | with_reducible refine rd_for ?_ | with_reducible refine rd_abs ?_ | with_reducible refine rd_max ?_ | with_reducible refine rd_min ?_ | with_reducible refine rd_intB ?_ | with_reducible refine rd_dput ?_ | with_reducible refine rd_dget2 ?_ | with_reducible refine rd_dget ?_ | with_reducible refine rd_fld ?_ | with_reducible refine rd_sfld ?_ | with_reducible refine rd_meth ?_ | with_reducible refine rd_make ?_ | with_reducible refine rd_isN ?_ | with_reducible refine rd_notN ?_ | with_reducible refine rd_izip ?_ | with_reducible refine rd_izipT ?_ | with_reducible refine rd_pcons ?_ | with_reducible refine rd_pnil ?_ | with_reducible refine rd_dget1 ?_ | with_reducible refine rd_cdget ?_ | with_reducible refine iteNT ?_ | with_reducible refine iteNF ?_ | with_reducible refine iteF ?_ | with_reducible refine iteT ?_))
local macro_rules | `(tactic| walk_at "rd") => `(tactic| (repeat walk_at "rd1"))
local macro_rules | `(tactic| walk_at "mk") => `(tactic| refine ⟨mk_le rfl, ?_⟩)

section
variable {P : Program} {w : World} {K : PySem.W.Frag} {mg : Str → Option Value} {base : Heap}
theorem cut_any {xs : List V} {lo hi : Option Int} : ∃ a c, cutV xs lo hi = (xs.drop a).take c := ⟨_, _, rfl⟩
theorem tell_B {m : Nat} (h : 5 ≤ m) {w : Str} (hw : w.length ≤ 5) {ns : List Int} (hn : ns.length ≤ 5) : RowB m (w, ns.map D.int) := ⟨by dsimp only; omega, by dsimp only; rw [List.length_map]; omega, fun d hd => by
  obtain ⟨n, _, rfl⟩ := List.mem_map.mp hd
  exact .inl ⟨n, rfl⟩⟩
def sp_bent_rows : Sp := sp2 fun x y H Q => ∃ (m : Nat) (q : Addr) (ys : List V) (rs : List (Str × List D)) (b : Addr) (p0 p1 p2 p3 p4 nm : Int) (wd : Str), x = .ref q ∧ H q = some (.lst ys) ∧ Reps H (rs.map rowD) ys ∧ (∀ r ∈ rs, RowB m r) ∧ 5 ≤ m ∧ rs.length ≤ 2000 ∧ y = .ref b ∧ PickOk H b p0 p1 p2 p3 p4 nm wd ∧ ∀ (q' : Addr) (ys' : List V) (rs' : List (Str × List D)) (H' : Hp), H' q' = some (.lst ys') → Reps H' (rs'.map rowD) ys' → (∀ r ∈ rs', RowB m r) → rs'.length ≤ rs.length + 400 → Same H H' → Q (.ref q') H'
theorem sc__law_bent_rows : FnScope ["rows", "pick", "way"] ["rows", "pick"] (defScope s__law_bent_rows) := ⟨rfl, rfl, rfl, by decide +kernel, rfl, by decide +kernel, by decide +kernel⟩
theorem c__law_bent_rows (B : Blt mg) (T__law_bent_rows : TopFn K mg "_law_bent_rows" s__law_bent_rows ["rows", "pick"]) : Callee P w K mg base "_law_bent_rows" 1 ["rows", "pick"] sp_bent_rows := by
  refine T__law_bent_rows.ok2 sc__law_bent_rows fun f cdv A outer s H v1 v2 Q E hr h => ?_
  have nd := sc__law_bent_rows.nd
  obtain ⟨m, q, ys, rs, b, p0, p1, p2, p3, p4, nm, wd, rfl, hq, ry, hB, hm, hl, rfl, pk, k⟩ := h
  have hyl := ry.length
  rw [List.length_map] at hyl
  refine' go_body [some (.ref q), some (.ref b), none] rfl ?hb ?hg
  case hb =>
   refine' pss_cons ?zb ?zc
   case zb => exact (ps_setB (i := 2) nd rfl (Or.inl rfl) (pe_op op_mod (pe_ix (k_ix (K := K) rfl) (pv 1) pe_int (fun _ _ => rfl)) pe_int))
   case zc =>
    refine' pss_cons ?zd ?ze
    case zd =>
     refine' ps_if ?zf ?zg ?zh
     case zf => exact (pt_cmpR op_eq (pv 2) pe_int (nomark _))
     case zg => exact (pss_one (ps_ret (pe_slice (k_sl (K := K) rfl) (pv 0) po_none (po_some (pe_un un_neg pe_int)))))
     case zh => exact pss_nil
    case ze =>
     refine' pss_cons ?zi ?zj
     case zi => exact (ps_if (pt_cmpR op_eq (pv 2) pe_int (nomark _)) (pss_one (ps_ret (pe_lst pa_nil))) pss_nil)
     case zj =>
      refine' pss_cons ?zk ?zl
      case zk =>
       refine' ps_if ?zm ?zn ?zo
       case zm => exact (pt_cmpR op_eq (pv 2) pe_int (nomark _))
       case zn =>
        refine' pss_one ?zp
        case zp =>
         refine' ps_ret ?zq
         case zq =>
          refine' pe_op ?zr ?zs ?zt
          case zr => exact op_cat
          case zs =>
           refine' pe_op ?zu ?zv ?zw
           case zu => exact op_rep
           case zv => exact (pe_lst (pa_consT (pe_tup (pa_consK pe_str (pa_consK pe_int pa_nil))) pa_nil))
           case zw =>
            refine' pe_op ?zx ?zy ?zz
            case zx => exact op_sub
            case zy =>
             refine' pe_op ?zba ?zbb ?zbc
             case zba => exact op_add
             case zbb => exact pe_int
             case zbc =>
              refine' pe_ix ?zbd ?zbe ?zbf ?zbg
              case zbd => exact (k_ix (K := K) rfl)
              case zbe => exact (pe_lst (pa_consK pe_int (pa_consK pe_int (pa_consK pe_int pa_nil))))
              case zbf => exact (pe_ix (k_ix (K := K) rfl) (pv 1) pe_int (fun _ _ => rfl))
              case zbg => exact (fun _ _ => rfl)
            case zz => exact (pe_callB (k_len (K := K) rfl) (by rfl) B.b_len bt_len (pa_consN (pv 0) pa_nil))
          case zt => exact (pv 0)
       case zo => exact pss_nil
      case zl =>
       refine' pss_cons ?zbh ?zbi
       case zbh =>
        refine' ps_if ?zbj ?zbk ?zbl
        case zbj => exact (pt_cmpR op_eq (pv 2) pe_int (nomark _))
        case zbk =>
         refine' pss_one ?zbm
         case zbm =>
          refine' ps_ret ?zbn
          case zbn =>
           refine' pe_op ?zbo ?zbp ?zbq
           case zbo => exact op_cat
           case zbp => exact (pv 0)
           case zbq =>
            refine' pe_lst ?zbr
            case zbr =>
             refine' pa_consS ?zbs ?zbt
             case zbs =>
              refine' pe_ix ?zbu ?zbv ?zbw ?zbx
              case zbu => exact (k_ix (K := K) rfl)
              case zbv =>
               refine' pe_lst ?zby
               case zby =>
                refine' pa_consT ?zbz ?zca
                case zbz => exact (pe_tup (pa_consK pe_str (pa_consK pe_int pa_nil)))
                case zca =>
                 refine' pa_consT ?zcb ?zcc
                 case zcb => exact (pe_tup (pa_consK pe_str (pa_consK pe_int pa_nil)))
                 case zcc =>
                  refine' pa_consT ?zcd ?zce
                  case zcd => exact (pe_tup (pa_consK pe_str (pa_consK pe_int (pa_consK pe_int pa_nil))))
                  case zce => exact (pa_consT (pe_tup (pa_consK pe_str (pa_consK pe_int pa_nil))) (pa_consT (pe_tup (pa_consK pe_str (pa_consK pe_int pa_nil))) pa_nil))
              case zbw => exact (pe_ix (k_ix (K := K) rfl) (pv 1) pe_int (fun _ _ => rfl))
              case zbx => exact (fun _ _ => rfl)
             case zbt => exact pa_nil
        case zbl => exact pss_nil
       case zbi =>
        refine' pss_one ?zcf
        case zcf =>
         refine' ps_ret ?zcg
         case zcg =>
          refine' pe_slice ?zch ?zci ?zcj ?zck
          case zch => exact (k_sl (K := K) rfl)
          case zci => exact (pv 0)
          case zcj => exact po_none
          case zck =>
           refine' po_some ?zcl
           case zcl =>
            refine' pe_op ?zcm ?zcn ?zco
            case zcm => exact op_mod
            case zcn => exact (pe_ix (k_ix (K := K) rfl) (pv 1) pe_int (fun _ _ => rfl))
            case zco => exact (pe_op op_add (pe_callB (k_len (K := K) rfl) (by rfl) B.b_len bt_len (pa_consN (pv 0) pa_nil)) pe_int)
  walk_at "rd"
  refine rd_ixaL pk.at_ rfl ?_
  walk_at "rd"
  refine rd_I (by omega) ?_
  walk_at "rd"
  refine ite_dd (fun e0 => ?_) (fun n0 => ?_)
  · walk_at "rd"
    refine ⟨q, ys, rfl, SqL.of hq, fun q1 hq1 => ?_⟩
    obtain ⟨a, c, ec⟩ := cut_any (xs := ys) (lo := none) (hi := some (-1))
    have s1 := Same.new (o := .lst (cutV ys none (some (-1)))) hq1
    refine k q1 _ ((rs.drop a).take c) _ upd_same ?_ (fun r hr => hB r (List.mem_of_mem_drop (List.mem_of_mem_take hr))) (by rw [List.length_take, List.length_drop]; omega) s1
    have r := ((ry.mono s1.ts).drop a).take c
    rw [← ec, ← List.map_drop, ← List.map_take] at r
    exact r
  · walk_at "rd"
    refine ite_dd (fun e1 => ?_) (fun n1 => ?_)
    · walk_at "rd"
      walk_at "mk"; intro q1 hq1
      exact k q1 [] [] _ upd_same reps_nil (fun r hr => by cases hr) (by simp) (Same.new hq1)
    · walk_at "rd"
      refine ite_dd (fun e2 => ?_) (fun n2 => ?_)
      · walk_at "rd"
        refine ⟨show 2 ≤ PySem.sizeLine by rw [PySem.sizeLine_eq]; decide, fun qa hqa => ?_⟩
        have sa := Same.new (o := HO.tup [V.str (Str.ofString "tell"), V.int 0]) hqa
        have ea : upd H qa (HO.tup [V.str (Str.ofString "tell"), V.int 0]) qa = some (HO.tup [V.str (Str.ofString "tell"), V.int 0]) := upd_same
        generalize upd H qa (HO.tup [V.str (Str.ofString "tell"), V.int 0]) = Ha at sa ea
        walk_at "rd"
        refine ⟨show 1 ≤ PySem.sizeLine by rw [PySem.sizeLine_eq]; decide, fun qb hqb => ?_⟩
        have sb := Same.new (o := HO.lst [V.ref qa]) hqb
        have eb : upd Ha qb (HO.lst [V.ref qa]) qb = some (HO.lst [V.ref qa]) := upd_same
        generalize upd Ha qb (HO.lst [V.ref qa]) = Hb at sb eb
        walk_at "rd"
        refine ⟨show 3 ≤ PySem.sizeLine by rw [PySem.sizeLine_eq]; decide, fun qc hqc => ?_⟩
        have sc := Same.new (o := HO.lst [V.int 0, V.int 1, V.int 369]) hqc
        have ec : upd Hb qc (HO.lst [V.int 0, V.int 1, V.int 369]) qc = some (HO.lst [V.int 0, V.int 1, V.int 369]) := upd_same
        generalize upd Hb qc (HO.lst [V.int 0, V.int 1, V.int 369]) = Hc at sc ec
        walk_at "rd"
        have sac := (sa.trans sb).trans sc
        refine rd_ixaL (pk.mono sac).at_ rfl ?_
        have hsel : ∃ z : Int, atI [V.int 0, V.int 1, V.int 369] p4 = some (.int z) ∧ 0 ≤ z ∧ z ≤ 369 := by
          have h4 : p4 = 0 ∨ p4 = 1 ∨ p4 = 2 := by have := pk.b4; omega
          rcases h4 with rfl | rfl | rfl
          · exact ⟨_, rfl, by omega, by omega⟩
          · exact ⟨_, rfl, by omega, by omega⟩
          · exact ⟨_, rfl, by omega, by omega⟩
        obtain ⟨z, ez, z0, z1⟩ := hsel
        refine rd_ixaL ec ez ?_
        walk_at "rd"
        refine rd_lenL' (SqL.of (sac _ _ hq)) ?_
        walk_at "rd"
        refine ⟨qb, _, _, rfl, rfl, sc _ _ eb, by omega, by omega, small_le' (by simp; omega), fun qd hqd => ?_⟩
        generalize hn : (30 + z - (ys.length : Int)).toNat = n
        have hn' : n ≤ 399 := by omega
        have efl : (List.replicate n [V.ref qa]).flatten = List.replicate n (V.ref qa) := by
          clear hn hn'
          induction n with
          | zero => rfl
          | succ n ih => rw [List.replicate_succ, List.flatten_cons, ih]; rfl
        rw [efl]
        have sd := Same.new (o := HO.lst (List.replicate n (V.ref qa))) hqd
        have ed : upd Hc qd (.lst (List.replicate n (V.ref qa))) qd = some (.lst (List.replicate n (V.ref qa))) := upd_same
        generalize upd Hc qd (.lst (List.replicate n (V.ref qa))) = Hd at sd ed
        have sad := sac.trans sd
        walk_at "rd"
        refine rd_cat ed (sad _ _ hq) (small_le' (by simp; omega)) fun qe hqe => ?_
        have se := Same.new (o := HO.lst (List.replicate n (V.ref qa) ++ ys)) hqe
        have sae := sad.trans se
        have ra : Rep (upd Hd qe (.lst (List.replicate n (V.ref qa) ++ ys))) (rowD ("tell", [0].map D.int)) (.ref qa) := rep_tup (se _ _ (sd _ _ (sc _ _ (sb _ _ ea)))) (reps_cons (by rw [Rep]) (reps_cons rep_int reps_nil))
        have rn : Reps (upd Hd qe (.lst (List.replicate n (V.ref qa) ++ ys))) (List.replicate n (rowD ("tell", [0].map D.int))) (List.replicate n (V.ref qa)) := by
          clear hn hn' efl sd ed se sae
          generalize upd Hd qe _ = HZ at ra ⊢
          induction n with
          | zero => exact reps_nil
          | succ n ih => rw [List.replicate_succ, List.replicate_succ]; exact reps_cons ra ih
        refine k qe _ (List.replicate n (("tell" : Str), [0].map D.int) ++ rs) _ upd_same ?_ (fun r hr => ?_) (by simp; omega) sae
        · rw [List.map_append, List.map_replicate]
          exact rn.append (ry.mono sae.ts)
        · rcases List.mem_append.mp hr with hr | hr
          · rw [(List.mem_replicate.mp hr).2]
            exact tell_B hm (by decide +kernel) (by simp)
          · exact hB r hr
      · walk_at "rd"
        refine ite_dd (fun e3 => ?_) (fun n3 => ?_)
        · walk_at "rd"
          refine ⟨show 2 ≤ PySem.sizeLine by rw [PySem.sizeLine_eq]; decide, fun qa hqa => ?_⟩
          have sa := Same.new (o := HO.tup [V.str (Str.ofString "tell"), V.int 0]) hqa
          have ea : upd H qa (HO.tup [V.str (Str.ofString "tell"), V.int 0]) qa = some (HO.tup [V.str (Str.ofString "tell"), V.int 0]) := upd_same
          generalize upd H qa (HO.tup [V.str (Str.ofString "tell"), V.int 0]) = Ha at sa ea
          walk_at "rd"
          refine ⟨show 2 ≤ PySem.sizeLine by rw [PySem.sizeLine_eq]; decide, fun qb hqb => ?_⟩
          have sb := Same.new (o := HO.tup [V.str (Str.ofString "back"), V.int 0]) hqb
          have eb : upd Ha qb (HO.tup [V.str (Str.ofString "back"), V.int 0]) qb = some (HO.tup [V.str (Str.ofString "back"), V.int 0]) := upd_same
          generalize upd Ha qb (HO.tup [V.str (Str.ofString "back"), V.int 0]) = Hb at sb eb
          walk_at "rd"
          refine ⟨show 3 ≤ PySem.sizeLine by rw [PySem.sizeLine_eq]; decide, fun qc hqc => ?_⟩
          have sc := Same.new (o := HO.tup [V.str (Str.ofString "zero"), V.int 0, V.int 0]) hqc
          have ec : upd Hb qc (HO.tup [V.str (Str.ofString "zero"), V.int 0, V.int 0]) qc = some (HO.tup [V.str (Str.ofString "zero"), V.int 0, V.int 0]) := upd_same
          generalize upd Hb qc (HO.tup [V.str (Str.ofString "zero"), V.int 0, V.int 0]) = Hc at sc ec
          walk_at "rd"
          refine ⟨show 2 ≤ PySem.sizeLine by rw [PySem.sizeLine_eq]; decide, fun qd hqd => ?_⟩
          have sd := Same.new (o := HO.tup [V.str (Str.ofString "jump"), V.int 0]) hqd
          have ed : upd Hc qd (HO.tup [V.str (Str.ofString "jump"), V.int 0]) qd = some (HO.tup [V.str (Str.ofString "jump"), V.int 0]) := upd_same
          generalize upd Hc qd (HO.tup [V.str (Str.ofString "jump"), V.int 0]) = Hd at sd ed
          walk_at "rd"
          refine ⟨show 2 ≤ PySem.sizeLine by rw [PySem.sizeLine_eq]; decide, fun qe hqe => ?_⟩
          have se := Same.new (o := HO.tup [V.str (Str.ofString "take"), V.int 0]) hqe
          have ee : upd Hd qe (HO.tup [V.str (Str.ofString "take"), V.int 0]) qe = some (HO.tup [V.str (Str.ofString "take"), V.int 0]) := upd_same
          generalize upd Hd qe (HO.tup [V.str (Str.ofString "take"), V.int 0]) = He at se ee
          walk_at "rd"
          refine ⟨show 5 ≤ PySem.sizeLine by rw [PySem.sizeLine_eq]; decide, fun qf hqf => ?_⟩
          have sf := Same.new (o := HO.lst [V.ref qa, V.ref qb, V.ref qc, V.ref qd, V.ref qe]) hqf
          have ef : upd He qf (HO.lst [V.ref qa, V.ref qb, V.ref qc, V.ref qd, V.ref qe]) qf = some (HO.lst [V.ref qa, V.ref qb, V.ref qc, V.ref qd, V.ref qe]) := upd_same
          generalize upd He qf (HO.lst [V.ref qa, V.ref qb, V.ref qc, V.ref qd, V.ref qe]) = Hf at sf ef
          walk_at "rd"
          have saf := ((((sa.trans sb).trans sc).trans sd).trans se).trans sf
          refine rd_ixaL (pk.mono saf).at_ rfl ?_
          have hsel : ∃ (v : V) (w : Str) (ns : List Int), atI [V.ref qa, V.ref qb, V.ref qc, V.ref qd, V.ref qe] p4 = some v ∧ w.length ≤ 5 ∧ ns.length ≤ 5 ∧ Rep Hf (rowD (w, ns.map D.int)) v := by
            have h4 : p4 = 0 ∨ p4 = 1 ∨ p4 = 2 := by have := pk.b4; omega
            rcases h4 with rfl | rfl | rfl
            · exact ⟨_, "tell", [0], rfl, by decide +kernel, by decide, rep_tup (sf _ _ (se _ _ (sd _ _ (sc _ _ (sb _ _ ea))))) (reps_cons (by rw [Rep]) (reps_cons rep_int reps_nil))⟩
            · exact ⟨_, "back", [0], rfl, by decide +kernel, by decide, rep_tup (sf _ _ (se _ _ (sd _ _ (sc _ _ eb)))) (reps_cons (by rw [Rep]) (reps_cons rep_int reps_nil))⟩
            · exact ⟨_, "zero", [0, 0], rfl, by decide +kernel, by decide, rep_tup (sf _ _ (se _ _ (sd _ _ ec))) (reps_cons (by rw [Rep]) (reps_cons rep_int (reps_cons rep_int reps_nil)))⟩
          obtain ⟨v, w0, ns, ev, lw, ln, rv⟩ := hsel
          refine rd_ixaL ef ev ?_
          walk_at "rd"
          refine ⟨show 1 ≤ PySem.sizeLine by rw [PySem.sizeLine_eq]; decide, fun qg hqg => ?_⟩
          have sg := Same.new (o := HO.lst [v]) hqg
          have eg : upd Hf qg (HO.lst [v]) qg = some (HO.lst [v]) := upd_same
          generalize upd Hf qg (HO.lst [v]) = Hg at sg eg
          have sag := saf.trans sg
          refine rd_cat (sag _ _ hq) eg (small_le' (by simp; omega)) fun qh hqh => ?_
          have sh := Same.new (o := HO.lst (ys ++ [v])) hqh
          have sah := sag.trans sh
          refine k qh _ (rs ++ [(w0, ns.map D.int)]) _ upd_same ?_ (fun r hr => ?_) (by simp) sah
          · rw [List.map_append]
            exact (ry.mono sah.ts).append (reps_cons (rv.mono (sg.trans sh).ts) reps_nil)
          · rcases List.mem_append.mp hr with hr | hr
            · exact hB r hr
            · have : r = (w0, ns.map D.int) := by simpa using hr
              rw [this]
              exact tell_B hm lw ln
        · walk_at "rd"
          refine rd_ixaL pk.at_ rfl ?_
          walk_at "rd"
          refine rd_lenL' (SqL.of hq) ?_
          walk_at "rd"
          refine rd_I (by omega) ?_
          walk_at "rd"
          refine ⟨q, ys, rfl, SqL.of hq, fun q1 hq1 => ?_⟩
          generalize p2 % ((ys.length : Int) + 1) = hi
          obtain ⟨a, c, ec⟩ := cut_any (xs := ys) (lo := none) (hi := some hi)
          have s1 := Same.new (o := .lst (cutV ys none (some hi))) hq1
          refine k q1 _ ((rs.drop a).take c) _ upd_same ?_ (fun r hr => hB r (List.mem_of_mem_drop (List.mem_of_mem_take hr))) (by rw [List.length_take, List.length_drop]; omega) s1
          have r := ((ry.mono s1.ts).drop a).take c
          rw [← ec, ← List.map_drop, ← List.map_take] at r
          exact r

end
end My

end
section
set_option Elab.async false
set_option linter.all false
set_option maxRecDepth 100000
set_option maxHeartbeats 4000000

namespace My
open PySem L2
local macro_rules | `(tactic| walk_at "rd1") => `(tactic| (first | ((with_reducible refine' rd_var ?e ?_); (case e => exact rfl)) | with_reducible refine rd_c ?_ | with_reducible refine rd_op ?_ | with_reducible refine rd_un ?_ | with_reducible refine rd_seq ?_ | with_reducible refine rd_asg ?_ | with_reducible refine rd_gname ?_ | with_reducible refine rd_ret ?_ | with_reducible refine rd_drop ?_ | with_reducible refine rd_next ?_ | with_reducible refine rd_if ?_ | with_reducible refine rd_test ?_ | with_reducible refine rd_tb ?_ | with_reducible refine rd_and ?_ | with_reducible refine rd_or ?_ | with_reducible refine rd_not ?_ | with_reducible refine rd_true ?_ | with_reducible refine rd_andV ?_ | with_reducible refine rd_orV ?_ | with_reducible refine rd_notV ?_ | with_reducible refine rd_ifE ?_ | with_reducible refine rd_chain ?_ | with_reducible refine rd_nil ?_ | with_reducible refine rd_cons ?_ | with_reducible refine rd_cb ?_ | with_reducible refine rd_call ?_ | with_reducible refine rd_I0 ?_ | with_reducible refine rd_U ?_ | with_reducible refine rd_eqI ?_ | with_reducible refine rd_neI ?_ | with_reducible refine rd_eqS ?_ | with_reducible refine rd_neS ?_ | with_reducible refine rd_eqB ?_ | with_reducible refine rd_neB ?_ | with_reducible refine rd_bl ?_ | with_reducible refine rd_int ?_ | with_reducible refine rd_tup ?_ | with_reducible refine rd_lst ?_ | with_reducible refine rd_gsub ?_ | with_reducible refine rd_slice ?_ | with_reducible refine rd_nopart ?_ | with_reducible refine rd_part ?_ | with_reducible refine rd_bm ?_ | with_reducible refine rd_bm0 ?_ | with_reducible refine rd_comp ?_ | with_reducible refine rd_itup ?_ | with_reducible refine rd_ilist ?_ | with_reducible refine rd_irng ?_ | with_reducible refine rd_gcons ?_ | with_reducible refine rd_gnil ?_ | with_reducible refine rd_for ?_ | with_reducible refine rd_abs ?_ | with_reducible refine rd_max ?_ | with_reducible refine rd_min ?_ | with_reducible refine rd_intB ?_ | with_reducible refine rd_dput ?_ | with_reducible refine rd_dget2 ?_ | with_reducible refine rd_dget ?_ | with_reducible refine rd_fld ?_ | with_reducible refine rd_sfld ?_ | with_reducible refine rd_meth ?_ | with_reducible refine rd_make ?_ | with_reducible refine rd_isN ?_ | with_reducible refine rd_notN ?_ | with_reducible refine rd_izip ?_ | with_reducible refine rd_izipT ?_ | with_reducible refine rd_pcons ?_ | with_reducible refine rd_pnil ?_ | with_reducible refine rd_dget1 ?_ | with_reducible refine rd_cdget ?_ | with_reducible refine iteNT ?_ | with_reducible refine iteNF ?_ | with_reducible refine iteF ?_ | with_reducible refine iteT ?_))
local macro_rules | `(tactic| walk_at "rd") => `(tactic| (repeat walk_at "rd1"))
local macro_rules | `(tactic| walk_at "mk") => `(tactic| refine ⟨mk_le rfl, ?_⟩)

section
variable {P : Program} {w : World} {K : PySem.W.Frag} {mg : Str → Option Value} {base : Heap}
theorem DefsAt.sub {H : Hp} {ds : List PDef} {vs : List V} (h : DefsAt [] H ds vs) : ∀ {ws : List V}, (∀ v ∈ ws, v ∈ vs) → ∃ es, DefsAt [] H es ws ∧ (∀ e ∈ es, e ∈ ds)
  | [], _ => ⟨[], rfl, fun e he => by cases he⟩
  | v :: ws, hw => by
    obtain ⟨es, h1, h2⟩ := DefsAt.sub h (ws := ws) fun v hv => hw v (List.mem_cons_of_mem _ hv)
    obtain ⟨i, hi⟩ := List.mem_iff_getElem?.mp (hw v List.mem_cons_self)
    obtain ⟨d, ed, DA⟩ := h.get hi
    exact ⟨d :: es, ⟨v, ws, rfl, DA, h1⟩, fun e he => by
      rcases List.mem_cons.mp he with rfl | he
      · exact List.mem_of_getElem? ed
      · exact h2 e he⟩
theorem cut_mem {xs : List V} {lo hi : Option Int} : ∀ v ∈ cutV xs lo hi, v ∈ xs := fun v hv => List.mem_of_mem_drop (List.mem_of_mem_take hv)
theorem cut_lenT {xs : List V} {n : Nat} : (cutV xs none (some (n : Int))).length = min n xs.length := by
  unfold cutV
  rw [HT.sIx_nat, HT.sIx_none]
  simp
theorem cut_lenD {xs : List V} {n : Nat} : (cutV xs (some (n : Int)) none).length = xs.length - n := by
  unfold cutV
  rw [HT.sIx_nat, HT.sIx_none]
  simp
  omega
def PgB (m L : Nat) (ds : List PDef) : Prop := ∀ d ∈ ds, d.2.2.length ≤ L ∧ ∀ r ∈ d.2.2, RowB m r
def sp_bent_defs : Sp := sp2 fun x y H Q => ∃ (m L : Nat) (p : Addr) (vs : List V) (ds : List PDef) (b : Addr) (p0 p1 p2 p3 p4 nm : Int) (wd : Str), x = .ref p ∧ H p = some (.lst vs) ∧ DefsAt [] H ds vs ∧ PgB m L ds ∧ L ≤ 5000 ∧ ds.length ≤ 1000 ∧ y = .ref b ∧ PickOk H b p0 p1 p2 p3 p4 nm wd ∧ ∀ (q : Addr) (ws : List V) (es : List PDef) (H' : Hp), H' q = some (.lst ws) → DefsAt [] H' es ws → PgB m L es → es.length ≤ max ds.length 400 → Same H H' → Q (.ref q) H'
theorem sc__law_bent_defs : FnScope ["program", "pick", "way", "f"] ["program", "pick"] (defScope s__law_bent_defs) := ⟨rfl, rfl, rfl, by decide +kernel, rfl, by decide +kernel, by decide +kernel⟩
theorem c__law_bent_defs (B : Blt mg) (T__law_bent_defs : TopFn K mg "_law_bent_defs" s__law_bent_defs ["program", "pick"]) : Callee P w K mg base "_law_bent_defs" 1 ["program", "pick"] sp_bent_defs := by
  refine T__law_bent_defs.ok2 sc__law_bent_defs fun f cdv A outer s H v1 v2 Q E hr h => ?_
  have nd := sc__law_bent_defs.nd
  obtain ⟨m, L, p, vs, ds, b, p0, p1, p2, p3, p4, nm, wd, rfl, hp, D0, PB, hL, hl, rfl, pk, k⟩ := h
  have hlv := D0.length
  have fin : ∀ (q : Addr) (ws : List V) (H' : Hp), H' q = some (.lst ws) → (∀ v ∈ ws, v ∈ vs) → ws.length ≤ max ds.length 400 → Same H H' → Q (.ref q) H' := fun q ws H' e hs hn s' => by
    obtain ⟨es, h1, h2⟩ := DefsAt.sub (D0.mono s') hs
    exact k q ws es H' e h1 (fun d hd => PB d (h2 d hd)) (by rw [h1.length]; exact hn) s'
  refine' go_body [some (.ref p), some (.ref b), none, none] rfl ?hb ?hg
  case hb =>
   refine' pss_cons ?zb ?zc
   case zb => exact (ps_setB (i := 2) nd rfl (Or.inl rfl) (pe_op op_mod (pe_ix (k_ix (K := K) rfl) (pv 1) pe_int (fun _ _ => rfl)) pe_int))
   case zc =>
    refine' pss_cons ?zd ?ze
    case zd =>
     refine' ps_setB (i := 3) ?zf ?zg ?zh ?zi
     case zf => exact nd
     case zg => exact rfl
     case zh => exact (Or.inl rfl)
     case zi =>
      refine' pe_op ?zj ?zk ?zl
      case zj => exact op_mod
      case zk => exact (pe_ix (k_ix (K := K) rfl) (pv 1) pe_int (fun _ _ => rfl))
      case zl =>
       refine' pe_callB ?zm ?zn ?zo ?zp ?zq
       case zm => exact (call_max' rfl)
       case zn => exact (by rfl)
       case zo => exact B.b_max
       case zp => exact bt_max
       case zq => exact (pa_consK pe_int (pa_consC (pe_callB (k_len (K := K) rfl) (by rfl) B.b_len bt_len (pa_consN (pv 0) pa_nil)) pa_nil))
    case ze =>
     refine' pss_cons ?zr ?zs
     case zr =>
      refine' ps_if ?zt ?zu ?zv
      case zt => exact (pt_cmpR op_eq (pv 2) pe_int (nomark _))
      case zu =>
       refine' pss_one ?zw
       case zw =>
        refine' ps_ret ?zx
        case zx =>
         refine' pe_op ?zy ?zz ?zba
         case zy => exact op_cat
         case zz => exact (pe_slice (k_sl (K := K) rfl) (pv 0) po_none (po_some (pv 3)))
         case zba => exact (pe_slice (k_sl (K := K) rfl) (pv 0) (po_some (pe_op op_add (pv 3) pe_int)) po_none)
      case zv => exact pss_nil
     case zs =>
      refine' pss_cons ?zbb ?zbc
      case zbb =>
       refine' ps_if ?zbd ?zbe ?zbf
       case zbd => exact (pt_cmpR op_eq (pv 2) pe_int (nomark _))
       case zbe =>
        refine' pss_one ?zbg
        case zbg => exact (ps_ret (pe_op op_cat (pe_slice (k_sl (K := K) rfl) (pv 0) (po_some (pv 3)) po_none) (pe_slice (k_sl (K := K) rfl) (pv 0) po_none (po_some (pv 3)))))
       case zbf => exact pss_nil
      case zbc =>
       refine' pss_cons ?zbh ?zbi
       case zbh =>
        refine' ps_if ?zbj ?zbk ?zbl
        case zbj =>
         refine' PW.pt ?zbm
         case zbm =>
          refine' pw_and ?zbn ?zbo
          case zbn => exact (pt_cmpR op_eq (pv 2) pe_int (nomark _))
          case zbo => exact (pw_and1 (pt_cmpR op_eq (pe_ix (k_ix (K := K) rfl) (pv 1) pe_int (fun _ _ => rfl)) pe_int (nomark _)))
        case zbk =>
         refine' pss_one ?zbp
         case zbp =>
          refine' ps_ret ?zbq
          case zbq =>
           refine' pe_comp (LN := ["takes", "boxes", "rows"]) (FN := []) (fr := []) ?zbr ?zbs ?zbt ?zbu ?zbv ?zbw
           case zbr => exact rfl
           case zbs => exact (bk_of (by rfl))
           case zbt => exact (k_pi_list (K := K) rfl (pe_slice (k_sl (K := K) rfl) (pe_op op_rep (pv 0) pe_int) po_none (po_some pe_int)))
           case zbu =>
            intro cl C fp pins s H
            refine' k_pg_tup (K := K) (n := 3) ?zbx ?zby ?zbz
            case zbx => exact rfl
            case zby => exact rfl
            case zbz =>
             refine' pgs_cons ?zca ?zcb
             case zca => exact (pg_name (i := 0) (show ((["takes", "boxes", "rows"] : List Str) ++ ([] : List Str)).Nodup by decide +kernel) rfl (Or.inl rfl))
             case zcb =>
              refine' pgs_cons ?zcc ?zcd
              case zcc => exact (pg_name (i := 1) (show ((["takes", "boxes", "rows"] : List Str) ++ ([] : List Str)).Nodup by decide +kernel) rfl (Or.inl rfl))
              case zcd => exact (pgs_cons (pg_name (i := 2) (show ((["takes", "boxes", "rows"] : List Str) ++ ([] : List Str)).Nodup by decide +kernel) rfl (Or.inl rfl)) pgs_nil)
           case zbv =>
            intro cl C fp pins s H
            exact pts_nil
           case zbw =>
            intro cl C fp pins s H
            exact (pe_tup (pa_consN (pv 0) (pa_consN (pv 1) (pa_consS (pe_slice (k_sl (K := K) rfl) (pv 2) (po_some (pe_un un_neg pe_int)) po_none) pa_nil))))
        case zbl => exact pss_nil
       case zbi =>
        refine' pss_cons ?zce ?zcf
        case zce =>
         refine' ps_if ?zcg ?zch ?zci
         case zcg => exact (pt_cmpR op_eq (pv 2) pe_int (nomark _))
         case zch =>
          refine' pss_one ?zcj
          case zcj =>
           refine' ps_ret ?zck
           case zck =>
            refine' pe_comp (LN := ["takes", "boxes", "rows"]) (FN := []) (fr := []) ?zcl ?zcm ?zcn ?zco ?zcp ?zcq
            case zcl => exact rfl
            case zcm => exact (bk_of (by rfl))
            case zcn =>
             refine' k_pi_list (K := K) ?zcr ?zcs
             case zcr => exact rfl
             case zcs =>
              refine' pe_slice ?zct ?zcu ?zcv ?zcw
              case zct => exact (k_sl (K := K) rfl)
              case zcu => exact (pe_op op_rep (pv 0) pe_int)
              case zcv => exact po_none
              case zcw => exact (po_some (pe_op op_add pe_int (pe_ix (k_ix (K := K) rfl) (pv 1) pe_int (fun _ _ => rfl))))
            case zco =>
             intro cl C fp pins s H
             refine' k_pg_tup (K := K) (n := 3) ?zcx ?zcy ?zcz
             case zcx => exact rfl
             case zcy => exact rfl
             case zcz =>
              refine' pgs_cons ?zda ?zdb
              case zda => exact (pg_name (i := 0) (show ((["takes", "boxes", "rows"] : List Str) ++ ([] : List Str)).Nodup by decide +kernel) rfl (Or.inl rfl))
              case zdb =>
               refine' pgs_cons ?zdc ?zdd
               case zdc => exact (pg_name (i := 1) (show ((["takes", "boxes", "rows"] : List Str) ++ ([] : List Str)).Nodup by decide +kernel) rfl (Or.inl rfl))
               case zdd => exact (pgs_cons (pg_name (i := 2) (show ((["takes", "boxes", "rows"] : List Str) ++ ([] : List Str)).Nodup by decide +kernel) rfl (Or.inl rfl)) pgs_nil)
            case zcp =>
             intro cl C fp pins s H
             exact pts_nil
            case zcq =>
             intro cl C fp pins s H
             exact (pe_tup (pa_consN (pv 0) (pa_consN (pv 1) (pa_consC (pe_callTy (k_lstOf (K := K) rfl) (by rfl) B.b_list bt_list (pa_consN (pv 2) pa_nil)) pa_nil))))
         case zci => exact pss_nil
        case zcf => exact (pss_one (ps_ret (pe_lst pa_nil)))
  walk_at "rd"
  refine rd_ixaL pk.at_ rfl ?_
  walk_at "rd"
  refine rd_I (by omega) ?_
  walk_at "rd"
  refine rd_ixaL pk.at_ rfl ?_
  walk_at "rd"
  refine rd_lenL' (SqL.of hp) ?_
  walk_at "rd"
  refine rd_I (by split <;> omega) ?_
  obtain ⟨n, hn⟩ : ∃ n : Nat, (p1 % if (vs.length : Int) > 1 then (vs.length : Int) else 1) = n := ⟨_, (Int.toNat_of_nonneg (Int.emod_nonneg _ (by split <;> omega))).symm⟩
  rw [hn]
  have two : ∀ (c1 c2 : List V), (∀ v ∈ c1, v ∈ vs) → (∀ v ∈ c2, v ∈ vs) → c1.length + c2.length ≤ vs.length → ∀ (H2 : Hp) (q1 q2 : Addr), Same H H2 → H2 q1 = some (.lst c1) → H2 q2 = some (.lst c2) → rCat (.ref q1) (.ref q2) H2 Q := fun c1 c2 m1 m2 hc H2 q1 q2 s2 e1 e2 => by
    refine rd_cat e1 e2 (small_le' (by omega)) fun q3 hq3 => ?_
    refine fin q3 _ _ upd_same (fun v hv => ?_) (by rw [List.length_append]; omega) (s2.trans (Same.new hq3))
    rcases List.mem_append.mp hv with hv | hv
    · exact m1 v hv
    · exact m2 v hv
  walk_at "rd"
  refine ite_dd (fun e0 => ?_) (fun n0 => ?_)
  · walk_at "rd"
    refine ⟨p, vs, rfl, SqL.of hp, fun q1 hq1 => ?_⟩
    have s1 := Same.new (o := .lst (cutV vs none (some (n : Int)))) hq1
    have e1 : upd H q1 (.lst (cutV vs none (some (n : Int)))) q1 = some (.lst (cutV vs none (some (n : Int)))) := upd_same
    generalize upd H q1 (.lst (cutV vs none (some (n : Int)))) = H1 at s1 e1
    walk_at "rd"
    rw [show (n : Int) + 1 = ((n + 1 : Nat) : Int) by omega]
    refine ⟨p, vs, rfl, SqL.of (s1 _ _ hp), fun q2 hq2 => ?_⟩
    have s2 := Same.new (o := .lst (cutV vs (some ((n + 1 : Nat) : Int)) none)) hq2
    exact two _ _ cut_mem cut_mem (by rw [cut_lenT, cut_lenD]; omega) _ q1 q2 (s1.trans s2) (s2 _ _ e1) upd_same
  · walk_at "rd"
    refine ite_dd (fun e1 => ?_) (fun n1 => ?_)
    · walk_at "rd"
      refine ⟨p, vs, rfl, SqL.of hp, fun q1 hq1 => ?_⟩
      have s1 := Same.new (o := .lst (cutV vs (some (n : Int)) none)) hq1
      have e1 : upd H q1 (.lst (cutV vs (some (n : Int)) none)) q1 = some (.lst (cutV vs (some (n : Int)) none)) := upd_same
      generalize upd H q1 (.lst (cutV vs (some (n : Int)) none)) = H1 at s1 e1
      walk_at "rd"
      refine ⟨p, vs, rfl, SqL.of (s1 _ _ hp), fun q2 hq2 => ?_⟩
      have s2 := Same.new (o := .lst (cutV vs none (some (n : Int)))) hq2
      exact two _ _ cut_mem cut_mem (by rw [cut_lenT, cut_lenD]; omega) _ q1 q2 (s1.trans s2) (s2 _ _ e1) upd_same
    · walk_at "rd"
      refine ite_dd (fun e2 => ?_) (fun n2 => ?_)
      · walk_at "rd"
        refine rd_ixaL pk.at_ rfl ?_
        walk_at "rd"
        refine ite_dd (fun e4 => ?_) (fun n4 => ?_)
        · walk_at "rd"
          refine ⟨p, 400, vs, rfl, rfl, hp, by omega, by omega, small_le' (by show vs.length * 400 ≤ 1000000; omega), fun qa hqa => ?_⟩
          have sa := Same.new (o := .lst (List.replicate (Int.toNat 400) vs).flatten) hqa
          have ea : upd H qa (.lst (List.replicate (Int.toNat 400) vs).flatten) qa = some (.lst (List.replicate (Int.toNat 400) vs).flatten) := upd_same
          have ma : ∀ v ∈ (List.replicate (Int.toNat 400) vs).flatten, v ∈ vs := fun v hv => by
            obtain ⟨l, hl, hv⟩ := List.mem_flatten.mp hv
            rw [(List.mem_replicate.mp hl).2] at hv
            exact hv
          generalize (List.replicate (Int.toNat 400) vs).flatten = fl at sa ea ma ⊢
          generalize upd H qa (.lst fl) = Ha at sa ea
          walk_at "rd"

          refine ⟨qa, fl, rfl, SqL.of ea, fun qb hqb => ?_⟩
          have hbl : (cutV fl none (some 400)).length ≤ 400 := by have h : (cutV fl none (some 400)).length = min 400 fl.length := cut_lenT (n := 400); omega
          have sb := Same.new (o := .lst (cutV fl none (some 400))) hqb
          have eb : upd Ha qb (.lst (cutV fl none (some 400))) qb = some (.lst (cutV fl none (some 400))) := upd_same
          have mb : ∀ v ∈ cutV fl none (some 400), v ∈ vs := fun v hv => ma v (cut_mem v hv)
          generalize cutV fl none (some 400) = ws at sb eb mb hbl ⊢
          generalize upd Ha qb (.lst ws) = Hb at sb eb
          have sab := sa.trans sb
          obtain ⟨es, De, he⟩ := DefsAt.sub (D0.mono sab) mb
          have hel := De.length
          refine ilK_of (SqL.of eb) ?_
          refine cw_list (xs := ws) (small_le' (by omega)) (fun i zs σ Hy => (∃ x1 x2 x3, σ = [x1, x2, x3]) ∧ Same Hb Hy ∧ ∃ es', DefsAt [] Hy es' zs ∧ PgB m L es' ∧ es'.length ≤ i) ⟨⟨none, none, none, rfl⟩, Same.refl _, ([] : List PDef), rfl, fun d hd => (List.not_mem_nil hd).elim, Nat.le_refl _⟩ (fun i zs σ Hy _ ⟨_, s1, _⟩ => SqL.of (s1 _ _ eb)) ?_ ?_
          · rintro i x zs σ Hy hx hle hlt ⟨⟨x1, x2, x3, rfl⟩, s1, es', Dz, Pz, lz⟩
            obtain ⟨d, ed, t, q, ys, rfl, hat, hq, _, ry⟩ := De.get hx
            have hyl := ry.length
            rw [List.length_map] at hyl
            have hd := PB d (he d (List.mem_of_getElem? ed))
            refine rd_gtup (s1 _ _ hat) rfl ?_
            walk_at "rd"
            refine ⟨q, ys, rfl, SqL.of (s1 _ _ hq), fun p2 hp2 => ?_⟩
            obtain ⟨a, c, ec⟩ := cut_any (xs := ys) (lo := some (-1)) (hi := none)
            obtain ⟨ys2, rs2, ey2, r2, m2, l2⟩ : ∃ ys2 rs2, ys2 = cutV ys (some (-1)) none ∧ Reps Hb (rs2.map rowD) ys2 ∧ (∀ r ∈ rs2, r ∈ d.2.2) ∧ rs2.length ≤ d.2.2.length := ⟨_, (d.2.2.drop a).take c, rfl, by rw [ec, List.map_take, List.map_drop]; exact (ry.drop a).take c, fun r hr => List.mem_of_mem_drop (List.mem_of_mem_take hr), by rw [List.length_take, List.length_drop]; omega⟩
            rw [← ey2]
            have hd1 := hd.1
            have s2 := Same.new (o := .lst ys2) hp2
            have e2 : upd Hy p2 (.lst ys2) p2 = some (.lst ys2) := upd_same
            generalize upd Hy p2 (.lst ys2) = H2 at s2 e2
            walk_at "rd"
            refine ⟨show 3 ≤ PySem.sizeLine by rw [PySem.sizeLine_eq]; decide, fun p3 hp3 => ⟨hlt, by simpa using hle, ⟨_, _, _, rfl⟩, ?_⟩⟩
            have s3 := Same.new (o := .tup [V.int d.1, V.int d.2.1, V.ref p2]) hp3
            have e3 : upd H2 p3 (.tup [V.int d.1, V.int d.2.1, V.ref p2]) p3 = some (.tup [V.int d.1, V.int d.2.1, V.ref p2]) := upd_same
            generalize upd H2 p3 (.tup [V.int d.1, V.int d.2.1, V.ref p2]) = H3 at s3 e3
            have s13 := (s1.trans s2).trans s3
            refine ⟨s13, es' ++ [(d.1, d.2.1, rs2)], (Dz.mono (s2.trans s3)).append ⟨.ref p3, [], rfl, ⟨p3, p2, ys2, rfl, e3, s3 _ _ e2, by simp, r2.mono s13.ts⟩, rfl⟩, fun d' hd' => ?_, by simp; omega⟩
            rcases List.mem_append.mp hd' with hd' | hd'
            · exact Pz d' hd'
            · have : d' = (d.1, d.2.1, rs2) := by simpa using hd'
              subst this
              exact ⟨by dsimp only; omega, fun r hr => hd.2 r (m2 r hr)⟩
          · rintro zs σ Hy hzl ⟨⟨x1, x2, x3, rfl⟩, s1, es', Dz, Pz, lz⟩ pa hpa
            have s4 := Same.new (o := .lst zs) hpa
            exact k pa zs es' _ upd_same (Dz.mono s4) Pz (by omega) ((sab.trans s1).trans s4)
        · walk_at "rd"
          refine ite_dy e2 ?_
          walk_at "rd"
          refine ⟨p, 7, vs, rfl, rfl, hp, by omega, by omega, small_le' (by show vs.length * 7 ≤ 1000000; omega), fun qa hqa => ?_⟩
          have sa := Same.new (o := .lst (List.replicate (Int.toNat 7) vs).flatten) hqa
          have ea : upd H qa (.lst (List.replicate (Int.toNat 7) vs).flatten) qa = some (.lst (List.replicate (Int.toNat 7) vs).flatten) := upd_same
          have ma : ∀ v ∈ (List.replicate (Int.toNat 7) vs).flatten, v ∈ vs := fun v hv => by
            obtain ⟨l, hl, hv⟩ := List.mem_flatten.mp hv
            rw [(List.mem_replicate.mp hl).2] at hv
            exact hv
          generalize (List.replicate (Int.toNat 7) vs).flatten = fl at sa ea ma ⊢
          generalize upd H qa (.lst fl) = Ha at sa ea
          walk_at "rd"
          refine rd_ixaL (pk.mono sa).at_ rfl ?_
          walk_at "rd"
          refine ⟨qa, fl, rfl, SqL.of ea, fun qb hqb => ?_⟩
          have hbl : (cutV fl none (some (6 + p4))).length ≤ 400 := by obtain ⟨n6, h6⟩ := Int.eq_ofNat_of_zero_le (show 0 ≤ 6 + p4 by have := pk.b4; omega); rw [h6]; have := cut_lenT (xs := fl) (n := n6); have := pk.b4; omega
          have sb := Same.new (o := .lst (cutV fl none (some (6 + p4)))) hqb
          have eb : upd Ha qb (.lst (cutV fl none (some (6 + p4)))) qb = some (.lst (cutV fl none (some (6 + p4)))) := upd_same
          have mb : ∀ v ∈ cutV fl none (some (6 + p4)), v ∈ vs := fun v hv => ma v (cut_mem v hv)
          generalize cutV fl none (some (6 + p4)) = ws at sb eb mb hbl ⊢
          generalize upd Ha qb (.lst ws) = Hb at sb eb
          have sab := sa.trans sb
          obtain ⟨es, De, he⟩ := DefsAt.sub (D0.mono sab) mb
          have hel := De.length
          refine ilK_of (SqL.of eb) ?_
          refine cw_list (xs := ws) (small_le' (by omega)) (fun i zs σ Hy => (∃ x1 x2 x3, σ = [x1, x2, x3]) ∧ Same Hb Hy ∧ ∃ es', DefsAt [] Hy es' zs ∧ PgB m L es' ∧ es'.length ≤ i) ⟨⟨none, none, none, rfl⟩, Same.refl _, ([] : List PDef), rfl, fun d hd => (List.not_mem_nil hd).elim, Nat.le_refl _⟩ (fun i zs σ Hy _ ⟨_, s1, _⟩ => SqL.of (s1 _ _ eb)) ?_ ?_
          · rintro i x zs σ Hy hx hle hlt ⟨⟨x1, x2, x3, rfl⟩, s1, es', Dz, Pz, lz⟩
            obtain ⟨d, ed, t, q, ys, rfl, hat, hq, _, ry⟩ := De.get hx
            have hyl := ry.length
            rw [List.length_map] at hyl
            have hd := PB d (he d (List.mem_of_getElem? ed))
            refine rd_gtup (s1 _ _ hat) rfl ?_
            walk_at "rd"
            refine rd_lstOf (.inl (SqL.of (s1 _ _ hq))) fun p2 hp2 => ?_
            obtain ⟨ys2, rs2, ey2, r2, m2, l2⟩ : ∃ ys2 rs2, ys2 = ys ∧ Reps Hb (rs2.map rowD) ys2 ∧ (∀ r ∈ rs2, r ∈ d.2.2) ∧ rs2.length ≤ d.2.2.length := ⟨_, d.2.2, rfl, ry, fun r hr => hr, Nat.le_refl _⟩
            rw [← ey2]
            have hd1 := hd.1
            have s2 := Same.new (o := .lst ys2) hp2
            have e2 : upd Hy p2 (.lst ys2) p2 = some (.lst ys2) := upd_same
            generalize upd Hy p2 (.lst ys2) = H2 at s2 e2
            walk_at "rd"
            refine ⟨show 3 ≤ PySem.sizeLine by rw [PySem.sizeLine_eq]; decide, fun p3 hp3 => ⟨hlt, by simpa using hle, ⟨_, _, _, rfl⟩, ?_⟩⟩
            have s3 := Same.new (o := .tup [V.int d.1, V.int d.2.1, V.ref p2]) hp3
            have e3 : upd H2 p3 (.tup [V.int d.1, V.int d.2.1, V.ref p2]) p3 = some (.tup [V.int d.1, V.int d.2.1, V.ref p2]) := upd_same
            generalize upd H2 p3 (.tup [V.int d.1, V.int d.2.1, V.ref p2]) = H3 at s3 e3
            have s13 := (s1.trans s2).trans s3
            refine ⟨s13, es' ++ [(d.1, d.2.1, rs2)], (Dz.mono (s2.trans s3)).append ⟨.ref p3, [], rfl, ⟨p3, p2, ys2, rfl, e3, s3 _ _ e2, by simp, r2.mono s13.ts⟩, rfl⟩, fun d' hd' => ?_, by simp; omega⟩
            rcases List.mem_append.mp hd' with hd' | hd'
            · exact Pz d' hd'
            · have : d' = (d.1, d.2.1, rs2) := by simpa using hd'
              subst this
              exact ⟨by dsimp only; omega, fun r hr => hd.2 r (m2 r hr)⟩
          · rintro zs σ Hy hzl ⟨⟨x1, x2, x3, rfl⟩, s1, es', Dz, Pz, lz⟩ pa hpa
            have s4 := Same.new (o := .lst zs) hpa
            exact k pa zs es' _ upd_same (Dz.mono s4) Pz (by omega) ((sab.trans s1).trans s4)
      · walk_at "rd"
        refine ite_dn n2 ?_
        walk_at "rd"
        walk_at "mk"; intro q1 hq1
        exact k q1 [] [] _ upd_same rfl (fun d hd => by cases hd) (by simp) (Same.new hq1)

end
end My

end
section
set_option Elab.async false
set_option linter.all false
set_option maxRecDepth 100000
set_option maxHeartbeats 4000000
namespace L2
open PySem PySem.Spec PyProof.Rows
/-- a list of anything against an empty one -/
def rEqE (K : PySem.W.Frag) : R2 := fun x y H Q => ∃ a b xs, x = .ref a ∧ y = .ref b ∧ SqL K H a xs ∧ SqL K H b [] ∧ Q (.bl (decide (xs = []))) H
theorem op_eqE {X : Cx} (hu : X.A.units + 64 < cLine) : OpR X (compareOp .Eq) (rEqE X.K) := by
  rintro pins s σ H x y v u Q I rx ry ⟨a, b, xs, rfl, rfl, ha, hb, q⟩
  by_cases hx : xs = []
  · subst hx
    refine op_eqL hu pins s σ H _ _ v u Q I rx ry ⟨a, b, [], [], [], [], rfl, rfl, ha, hb, reps_nil, reps_nil, rfl, rfl, by simp [D.deps], ?_⟩
    rw [eqD_same]
    simpa using q
  · cases rx; cases ry
    obtain ⟨its, vx, ht, _⟩ := I.list ha
    obtain ⟨its', vy, ht', _⟩ := I.list hb
    have l1 := vx.length
    have l2 := vy.length
    have hl : its.length ≠ its'.length := by
      have : 0 < xs.length := List.length_pos_iff.mpr hx
      have l2 : 0 = its'.length := l2
      omega
    refine SeqAt.eq_list_lengthsAt ht.isList ht'.isList (by simpa using hl) (by omega) (fin_bl I q ?_)
    simp [hx]
theorem k_eqE {X : Cx} {K : PySem.W.Frag} (h : X.K = K) (hu : X.A.units + 64 < cLine) : OpR X (compareOp .Eq) (rEqE K) := h ▸ op_eqE hu
theorem rd_eqE {K : PySem.W.Frag} {H : Hp} {a b : Addr} {xs : List V} {Q : VK} (h1 : SqL K H a xs) (h2 : H b = some (.lst [])) (q : Q (.bl (decide (xs = []))) H) : rEqE K (.ref a) (.ref b) H Q := ⟨a, b, xs, rfl, rfl, h1, SqL.of h2, q⟩
end L2

end
section
set_option Elab.async false
set_option linter.all false
set_option maxRecDepth 100000
set_option maxHeartbeats 4000000

namespace My
open PySem L2
local macro_rules | `(tactic| walk_at "rd1") => `(tactic| (first | ((with_reducible refine' rd_var ?e ?_); (case e => exact rfl)) | with_reducible refine rd_c ?_ | with_reducible refine rd_op ?_ | with_reducible refine rd_un ?_ | with_reducible refine rd_seq ?_ | with_reducible refine rd_asg ?_ | with_reducible refine rd_gname ?_ | with_reducible refine rd_ret ?_ | with_reducible refine rd_drop ?_ | with_reducible refine rd_next ?_ | with_reducible refine rd_if ?_ | with_reducible refine rd_test ?_ | with_reducible refine rd_tb ?_ | with_reducible refine rd_and ?_ | with_reducible refine rd_or ?_ | with_reducible refine rd_not ?_ | with_reducible refine rd_true ?_ | with_reducible refine rd_andV ?_ | with_reducible refine rd_orV ?_ | with_reducible refine rd_notV ?_ | with_reducible refine rd_ifE ?_ | with_reducible refine rd_chain ?_ | with_reducible refine rd_nil ?_ | with_reducible refine rd_cons ?_ | with_reducible refine rd_cb ?_ | with_reducible refine rd_call ?_ | with_reducible refine rd_I0 ?_ | with_reducible refine rd_U ?_ | with_reducible refine rd_eqI ?_ | with_reducible refine rd_neI ?_ | with_reducible refine rd_eqS ?_ | with_reducible refine rd_neS ?_ | with_reducible refine rd_eqB ?_ | with_reducible refine rd_neB ?_ | with_reducible refine rd_bl ?_ | with_reducible refine rd_int ?_ | with_reducible refine rd_tup ?_ | with_reducible refine rd_lst ?_ | with_reducible refine rd_gsub ?_ | with_reducible refine rd_slice ?_ | with_reducible refine rd_nopart ?_ | with_reducible refine rd_part ?_ | with_reducible refine rd_bm ?_ | with_reducible refine rd_bm0 ?_ | with_reducible refine rd_comp ?_ | with_reducible refine rd_itup ?_ | with_reducible refine rd_ilist ?_ | with_reducible refine rd_irng ?_ | with_reducible refine rd_gcons ?_ | with_reducible refine rd_gnil ?_ | with_reducible refine rd_for ?_ | with_reducible refine rd_abs ?_ | with_reducible refine rd_max ?_ | with_reducible refine rd_min ?_ | with_reducible refine rd_intB ?_ | with_reducible refine rd_dput ?_ | with_reducible refine rd_dget2 ?_ | with_reducible refine rd_dget ?_ | with_reducible refine rd_fld ?_ | with_reducible refine rd_sfld ?_ | with_reducible refine rd_meth ?_ | with_reducible refine rd_make ?_ | with_reducible refine rd_isN ?_ | with_reducible refine rd_notN ?_ | with_reducible refine rd_izip ?_ | with_reducible refine rd_izipT ?_ | with_reducible refine rd_pcons ?_ | with_reducible refine rd_pnil ?_ | with_reducible refine rd_dget1 ?_ | with_reducible refine rd_cdget ?_ | with_reducible refine iteNT ?_ | with_reducible refine iteNF ?_ | with_reducible refine iteF ?_ | with_reducible refine iteT ?_))
local macro_rules | `(tactic| walk_at "rd") => `(tactic| (repeat walk_at "rd1"))
local macro_rules | `(tactic| walk_at "mk") => `(tactic| refine ⟨mk_le rfl, ?_⟩)

section
variable {P : Program} {w : World} {K : PySem.W.Frag} {mg : Str → Option Value} {base : Heap}
def OneOk (m L : Nat) (H : Hp) (v : V) : Prop := ∃ d, DefAt [] H d v ∧ d.2.2.length ≤ L + 400 ∧ ∀ r ∈ d.2.2, RowB (2 * m + 11) r
theorem OneOk.mono {m L : Nat} {H H' : Hp} {v : V} (h : OneOk m L H v) (s : Same H H') : OneOk m L H' v := by
  obtain ⟨d, h1, h2⟩ := h
  exact ⟨d, DefsAt.by1 h1 s, h2⟩
theorem RowB.mono {m n : Nat} {r : Str × List D} (h : RowB m r) (l : m ≤ n) : RowB n r := ⟨Nat.le_trans h.w l, Nat.le_trans h.n l, fun d hd => (h.p d hd).mono l⟩
theorem rowB_D {m : Nat} {r : Str × List D} (h : RowB m r) (l : m ≤ 1000) : ∀ d ∈ r.2, PartD 1 d := fun d hd => by
  rcases h.p d hd with ⟨n, rfl⟩ | ⟨ns, rfl, hn⟩
  · simp [PartD]
  · exact ⟨by rw [List.length_map]; omega, fun e he => by obtain ⟨n, _, rfl⟩ := List.mem_map.mp he; exact ⟨n, rfl⟩⟩
def sp_bent : Sp := sp2 fun x y H Q => ∃ (m L : Nat) (p : Addr) (vs : List V) (ds : List PDef) (b : Addr) (p0 p1 p2 p3 p4 nm : Int) (wd : Str), x = .ref p ∧ H p = some (.lst vs) ∧ DefsAt [] H ds vs ∧ PgB m L ds ∧ 5 ≤ m ∧ m ≤ 300 ∧ L ≤ 900 ∧ ds.length ≤ 1000 ∧ y = .ref b ∧ PickOk H b p0 p1 p2 p3 p4 nm wd ∧ ∀ (q : Addr) (ws : List V) (es : List PDef) (H' : Hp), H' q = some (.lst ws) → DefsAt [] H' es ws → PgB (2 * m + 11) (L + 400) es → es.length ≤ max ds.length 400 → Same H H' → Q (.ref q) H'
theorem sc__law_bent : FnScope ["program", "pick", "f", "takes", "boxes", "rows", "one", "at"] ["program", "pick"] (defScope s__law_bent) := ⟨rfl, rfl, rfl, by decide +kernel, rfl, by decide +kernel, by decide +kernel⟩
theorem c__law_bent (B : Blt mg) (T__law_bent : TopFn K mg "_law_bent" s__law_bent ["program", "pick"]) (C_law_bent_defs : Callee P w K mg base "_law_bent_defs" 1 ["program", "pick"] sp_bent_defs) (C_law_bent_rows : Callee P w K mg base "_law_bent_rows" 1 ["rows", "pick"] sp_bent_rows) (C_law_bent_row : Callee P w K mg base "_law_bent_row" 3 ["program", "one", "row", "pick"] sp_bent_row) : Callee P w K mg base "_law_bent" 4 ["program", "pick"] sp_bent := by
  refine T__law_bent.ok2 sc__law_bent fun f cdv A outer s H v1 v2 Q E hr h => ?_
  have nd := sc__law_bent.nd
  have hu := hr.units
  obtain ⟨m, L, p, vs, ds, b, p0, p1, p2, p3, p4, nm, wd, rfl, hp, D0, PB, hm5, hm, hL, hl, rfl, pk, k⟩ := h
  have hlv := D0.length
  have up : ∀ {es : List PDef}, PgB m L es → PgB (2 * m + 11) (L + 400) es := fun h d hd => ⟨by have := (h d hd).1; omega, fun r hr => ((h d hd).2 r hr).mono (by omega)⟩
  refine' go_body [some (.ref p), some (.ref b), none, none, none, none, none, none] rfl ?hb ?hg
  case hb =>
   refine' pss_cons ?zb ?zc
   case zb =>
    refine' ps_if ?zd ?ze ?zf
    case zd =>
     refine' PW.pt ?zg
     case zg =>
      refine' pw_or ?zh ?zi
      case zh => exact (pt_cmpR (k_eqE (K := K) rfl hu) (pv 0) (pe_lst pa_nil) (nomark _))
      case zi => exact (pw_or1 (pt_cmpR op_gt (pe_ix (k_ix (K := K) rfl) (pv 1) pe_int (fun _ _ => rfl)) pe_int (nomark _)))
    case ze => exact (pss_one (ps_ret (pv 0)))
    case zf => exact pss_nil
   case zc =>
    refine' pss_cons ?zj ?zk
    case zj =>
     refine' ps_if ?zl ?zm ?zn
     case zl => exact (pt_cmpR op_gt (pe_ix (k_ix (K := K) rfl) (pv 1) pe_int (fun _ _ => rfl)) pe_int (nomark _))
     case zm => exact (pss_one (ps_ret (pe_fn C_law_bent_defs (hr.mono (by first | decide | omega)) (by rfl) (pa_consN (pv 0) (pa_consN (pv 1) pa_nil)))))
     case zn => exact pss_nil
    case zk =>
     refine' pss_cons ?zo ?zp
     case zo =>
      refine' ps_setB (i := 2) ?zq ?zr ?zs ?zt
      case zq => exact nd
      case zr => exact rfl
      case zs => exact (Or.inl rfl)
      case zt =>
       refine' pe_op ?zu ?zv ?zw
       case zu => exact op_mod
       case zv => exact (pe_ix (k_ix (K := K) rfl) (pv 1) pe_int (fun _ _ => rfl))
       case zw => exact (pe_callB (k_len (K := K) rfl) (by rfl) B.b_len bt_len (pa_consN (pv 0) pa_nil))
     case zp =>
      refine' pss_cons ?zx ?zy
      case zx =>
       refine' ps_asg ?zz ?zba
       case zz => exact (pe_ix (k_ix (K := K) rfl) (pv 0) (pv 2) (fun _ _ => rfl))
       case zba =>
        refine' k_pg_tup (K := K) (n := 3) ?zbb ?zbc ?zbd
        case zbb => exact rfl
        case zbc => exact rfl
        case zbd =>
         refine' pgs_cons ?zbe ?zbf
         case zbe => exact (pg_name (i := 3) nd rfl (Or.inl rfl))
         case zbf => exact (pgs_cons (pg_name (i := 4) nd rfl (Or.inl rfl)) (pgs_cons (pg_name (i := 5) nd rfl (Or.inl rfl)) pgs_nil))
      case zy =>
       refine' pss_cons ?zbg ?zbh
       case zbg =>
        refine' ps_setT (i := 6) ?zbi ?zbj ?zbk ?zbl
        case zbi => exact nd
        case zbj => exact rfl
        case zbk => exact (Or.inl rfl)
        case zbl =>
         refine' pe_tup ?zbm
         case zbm =>
          refine' pa_consN ?zbn ?zbo
          case zbn => exact (pv 3)
          case zbo => exact (pa_consN (pv 4) (pa_consC (pe_fn C_law_bent_rows (hr.mono (by first | decide | omega)) (by rfl) (pa_consN (pv 5) (pa_consN (pv 1) pa_nil))) pa_nil))
       case zbh =>
        refine' pss_cons ?zbp ?zbq
        case zbp =>
         refine' ps_if ?zbr ?zbs ?zbt
         case zbr => exact (pt_cmpR op_eq (pe_ix (k_ix (K := K) rfl) (pv 1) pe_int (fun _ _ => rfl)) pe_int (nomark _))
         case zbs =>
          refine' pss_one ?zbu
          case zbu =>
           refine' ps_setT (i := 6) ?zbv ?zbw ?zbx ?zby
           case zbv => exact nd
           case zbw => exact rfl
           case zbx => exact (Or.inl rfl)
           case zby => exact (pe_tup (pa_consS (pe_ix (k_ix (K := K) rfl) (pv 1) pe_int (fun _ _ => rfl)) (pa_consN (pv 4) (pa_consN (pv 5) pa_nil))))
         case zbt => exact pss_nil
        case zbq =>
         refine' pss_cons ?zbz ?zca
         case zbz =>
          refine' ps_if ?zcb ?zcc ?zcd
          case zcb => exact (pt_cmpR op_eq (pe_ix (k_ix (K := K) rfl) (pv 1) pe_int (fun _ _ => rfl)) pe_int (nomark _))
          case zcc =>
           refine' pss_one ?zce
           case zce =>
            refine' ps_setT (i := 6) ?zcf ?zcg ?zch ?zci
            case zcf => exact nd
            case zcg => exact rfl
            case zch => exact (Or.inl rfl)
            case zci => exact (pe_tup (pa_consN (pv 3) (pa_consS (pe_ix (k_ix (K := K) rfl) (pv 1) pe_int (fun _ _ => rfl)) (pa_consN (pv 5) pa_nil))))
          case zcd => exact pss_nil
         case zca =>
          refine' pss_cons ?zcj ?zck
          case zcj =>
           refine' ps_if ?zcl ?zcm ?zcn
           case zcl =>
            refine' PW.pt ?zco
            case zco =>
             refine' pw_and ?zcp ?zcq
             case zcp => exact (pt_cmpR op_lt (pe_ix (k_ix (K := K) rfl) (pv 1) pe_int (fun _ _ => rfl)) pe_int (nomark _))
             case zcq => exact (pw_and1 (pt_cmpR (k_neL (K := K) rfl hu) (pv 5) (pe_lst pa_nil) (nomark _)))
           case zcm =>
            refine' pss_cons ?zcr ?zcs
            case zcr =>
             refine' ps_setB (i := 7) ?zct ?zcu ?zcv ?zcw
             case zct => exact nd
             case zcu => exact rfl
             case zcv => exact (Or.inl rfl)
             case zcw =>
              refine' pe_op ?zcx ?zcy ?zcz
              case zcx => exact op_mod
              case zcy => exact (pe_ix (k_ix (K := K) rfl) (pv 1) pe_int (fun _ _ => rfl))
              case zcz => exact (pe_callB (k_len (K := K) rfl) (by rfl) B.b_len bt_len (pa_consN (pv 5) pa_nil))
            case zcs =>
             refine' pss_one ?zda
             case zda =>
              refine' ps_setT (i := 6) ?zdb ?zdc ?zdd ?zde
              case zdb => exact nd
              case zdc => exact rfl
              case zdd => exact (Or.inl rfl)
              case zde =>
               refine' pe_tup ?zdf
               case zdf =>
                refine' pa_consN ?zdg ?zdh
                case zdg => exact (pv 3)
                case zdh =>
                 refine' pa_consN ?zdi ?zdj
                 case zdi => exact (pv 4)
                 case zdj =>
                  refine' pa_consB ?zdk ?zdl
                  case zdk =>
                   refine' pe_op ?zdm ?zdn ?zdo
                   case zdm => exact op_cat
                   case zdn =>
                    refine' pe_op ?zdp ?zdq ?zdr
                    case zdp => exact op_cat
                    case zdq => exact (pe_slice (k_sl (K := K) rfl) (pv 5) po_none (po_some (pv 7)))
                    case zdr =>
                     refine' pe_lst ?zds
                     case zds =>
                      refine' pa_consC ?zdt ?zdu
                      case zdt =>
                       refine' pe_fn ?zdv ?zdw ?zdx ?zdy
                       case zdv => exact C_law_bent_row
                       case zdw => exact (hr.mono (by first | decide | omega))
                       case zdx => exact (by rfl)
                       case zdy =>
                        refine' pa_consN ?zdz ?zea
                        case zdz => exact (pv 0)
                        case zea =>
                         refine' pa_consS ?zeb ?zec
                         case zeb => exact (pe_ix (k_ix (K := K) rfl) (pv 0) (pv 2) (fun _ _ => rfl))
                         case zec => exact (pa_consS (pe_ix (k_ix (K := K) rfl) (pv 5) (pv 7) (fun _ _ => rfl)) (pa_consN (pv 1) pa_nil))
                      case zdu => exact pa_nil
                   case zdo => exact (pe_slice (k_sl (K := K) rfl) (pv 5) (po_some (pe_op op_add (pv 7) pe_int)) po_none)
                  case zdl => exact pa_nil
           case zcn => exact pss_nil
          case zck =>
           refine' pss_one ?zed
           case zed =>
            refine' ps_ret ?zee
            case zee =>
             refine' pe_op ?zef ?zeg ?zeh
             case zef => exact op_cat
             case zeg => exact (pe_op op_cat (pe_slice (k_sl (K := K) rfl) (pv 0) po_none (po_some (pv 2))) (pe_lst (pa_consN (pv 6) pa_nil)))
             case zeh => exact (pe_slice (k_sl (K := K) rfl) (pv 0) (po_some (pe_op op_add (pv 2) pe_int)) po_none)
  walk_at "rd"
  walk_at "mk"; intro q0 hq0
  have s0 := Same.new (o := .lst []) hq0
  have e0 : upd H q0 (.lst []) q0 = some (.lst []) := upd_same
  generalize upd H q0 (.lst []) = H0 at s0 e0
  have D1 := D0.mono s0
  have hp1 := s0 _ _ hp
  have pk1 := pk.mono s0
  refine rd_eqE (SqL.of hp1) e0 ?_
  walk_at "rd"
  refine ite_dd (fun hx => ?_) (fun hx => ?_)
  · walk_at "rd"
    exact k p vs ds H0 hp1 D1 (up PB) (by omega) s0
  walk_at "rd"
  refine rd_ixaL pk1.at_ rfl ?_
  walk_at "rd"
  refine ite_dd (fun h12 => ?_) (fun h12 => ?_)
  · walk_at "rd"
    exact k p vs ds H0 hp1 D1 (up PB) (by omega) s0
  walk_at "rd"
  refine rd_ixaL pk1.at_ rfl ?_
  walk_at "rd"
  refine ite_dd (fun h10 => ?_) (fun h10 => ?_)
  · walk_at "rd"
    exact use2 ⟨m, L, p, vs, ds, b, p0, p1, p2, p3, p4, nm, wd, rfl, hp1, D1, PB, by omega, hl, rfl, pk1, fun q ws es H' e De Pe le s' => k q ws es H' e De (up Pe) le (s0.trans s')⟩
  have hpos : 0 < vs.length := List.length_pos_iff.mpr hx
  walk_at "rd"
  refine rd_ixaL pk1.at_ rfl ?_
  walk_at "rd"
  refine rd_lenL' (SqL.of hp1) ?_
  walk_at "rd"
  refine rd_I (by omega) ?_
  obtain ⟨n, hn⟩ : ∃ n : Nat, p1 % (vs.length : Int) = n := ⟨_, (Int.toNat_of_nonneg (Int.emod_nonneg _ (by omega))).symm⟩
  have hnl : n < vs.length := by
    have := Int.emod_lt_of_pos p1 (show (0 : Int) < vs.length by omega)
    omega
  rw [hn]
  walk_at "rd"
  obtain ⟨d, ed, DA⟩ := D1.get (List.getElem?_eq_getElem hnl)
  have hmem : d ∈ ds := List.mem_of_getElem? ed
  have hd := PB d hmem
  have DA0 := DA
  obtain ⟨t, q, ys, ev, hat, hq, _, ry⟩ := DA
  have hyl := ry.length
  rw [List.length_map] at hyl
  refine rd_ixaL hp1 (atI_at rfl (List.getElem?_eq_getElem hnl)) ?_
  rw [ev]
  refine rd_gtup hat rfl ?_
  walk_at "rd"
  have hd1 := hd.1
  refine use2 ⟨m, q, ys, d.2.2, b, p0, p1, p2, p3, p4, nm, wd, rfl, hq, ry, hd.2, hm5, by omega, rfl, pk1, fun q' ys' rs' H1 e1 r1 b1 l1 s1 => ?_⟩
  walk_at "rd"
  refine ⟨show 3 ≤ PySem.sizeLine by rw [PySem.sizeLine_eq]; decide, fun o ho => ?_⟩
  have s2 := Same.new (o := .tup [V.int d.1, V.int d.2.1, V.ref q']) ho
  have e2 : upd H1 o (.tup [V.int d.1, V.int d.2.1, V.ref q']) o = some (.tup [V.int d.1, V.int d.2.1, V.ref q']) := upd_same
  generalize upd H1 o (.tup [V.int d.1, V.int d.2.1, V.ref q']) = H2 at s2 e2
  refine rd_gname ?_
  dsimp only
  refine rd_meet (fun σ' H' => (∃ o x7, σ' = [some (.ref p), some (.ref b), some (.int (n : Int)), some (.int d.1), some (.int d.2.1), some (.ref q), some (.ref o), x7] ∧ OneOk m L H' (.ref o)) ∧ Same H0 H') ?_ fun N hN => ?_
  rotate_left
  · walk_at "rd"
    refine rd_ixaL (pk1.mono (s1.trans s2)).at_ rfl ?_
    walk_at "rd"
    refine ite_dd (fun e => ?_) (fun ne => ?_)
    · walk_at "rd"
      refine rd_ixaL (pk1.mono (s1.trans s2)).at_ rfl ?_
      walk_at "rd"
      refine ⟨show 3 ≤ PySem.sizeLine by rw [PySem.sizeLine_eq]; decide, fun o3 ho3 => ?_⟩
      have s3 := Same.new (o := .tup [V.int nm, V.int d.2.1, V.ref q]) ho3
      have e3 : upd H2 o3 (.tup [V.int nm, V.int d.2.1, V.ref q]) o3 = some (.tup [V.int nm, V.int d.2.1, V.ref q]) := upd_same
      generalize upd H2 o3 (.tup [V.int nm, V.int d.2.1, V.ref q]) = H3 at s3 e3
      walk_at "rd"
      exact hN _ _ ⟨⟨o3, _, rfl, (nm, d.2.1, d.2.2), ⟨o3, q, ys, rfl, e3, s3 _ _ (s2 _ _ (s1 _ _ hq)), by simp, ry.mono ((s1.trans s2).trans s3).ts⟩, by dsimp only; omega, fun r hr => (hd.2 r hr).mono (by omega)⟩, (s1.trans s2).trans s3⟩
    · walk_at "rd"
      exact hN _ _ ⟨⟨o, _, rfl, (d.1, d.2.1, rs'), ⟨o, q', ys', rfl, e2, s2 _ _ e1, by simp, r1.mono s2.ts⟩, by dsimp only; omega, fun r hr => (b1 r hr).mono (by omega)⟩, s1.trans s2⟩
  rintro σ' HA ⟨⟨o1, x7, rfl, ok1⟩, sA⟩
  refine rd_meet (fun σ' H' => (∃ o x7, σ' = [some (.ref p), some (.ref b), some (.int (n : Int)), some (.int d.1), some (.int d.2.1), some (.ref q), some (.ref o), x7] ∧ OneOk m L H' (.ref o)) ∧ Same H0 H') ?_ fun N hN => ?_
  rotate_left
  · walk_at "rd"
    refine rd_ixaL (pk1.mono sA).at_ rfl ?_
    walk_at "rd"
    refine ite_dd (fun e => ?_) (fun ne => ?_)
    · walk_at "rd"
      refine rd_ixaL (pk1.mono sA).at_ rfl ?_
      walk_at "rd"
      refine ⟨show 3 ≤ PySem.sizeLine by rw [PySem.sizeLine_eq]; decide, fun o3 ho3 => ?_⟩
      have s3 := Same.new (o := .tup [V.int d.1, V.int nm, V.ref q]) ho3
      have e3 : upd HA o3 (.tup [V.int d.1, V.int nm, V.ref q]) o3 = some (.tup [V.int d.1, V.int nm, V.ref q]) := upd_same
      generalize upd HA o3 (.tup [V.int d.1, V.int nm, V.ref q]) = H3 at s3 e3
      walk_at "rd"
      exact hN _ _ ⟨⟨o3, _, rfl, (d.1, nm, d.2.2), ⟨o3, q, ys, rfl, e3, s3 _ _ (sA _ _ hq), by simp, ry.mono (sA.trans s3).ts⟩, by dsimp only; omega, fun r hr => (hd.2 r hr).mono (by omega)⟩, sA.trans s3⟩
    · walk_at "rd"
      exact hN _ _ ⟨⟨o1, _, rfl, ok1⟩, sA⟩
  clear ok1 sA
  rintro σ' HB ⟨⟨o2, x8, rfl, ok2⟩, sB⟩
  refine rd_meet (fun σ' H' => (∃ o x7, σ' = [some (.ref p), some (.ref b), some (.int (n : Int)), some (.int d.1), some (.int d.2.1), some (.ref q), some (.ref o), x7] ∧ OneOk m L H' (.ref o)) ∧ Same H0 H') ?_ fun N hN => ?_
  · rintro σ' HC ⟨⟨o3, x9, rfl, ok3⟩, sC⟩
    walk_at "rd"
    refine ⟨p, vs, rfl, SqL.of (sC _ _ hp1), fun qa hqa => ?_⟩
    have sa := Same.new (o := .lst (cutV vs none (some (n : Int)))) hqa
    have ea : upd HC qa (.lst (cutV vs none (some (n : Int)))) qa = some (.lst (cutV vs none (some (n : Int)))) := upd_same
    generalize upd HC qa (.lst (cutV vs none (some (n : Int)))) = Ha at sa ea
    walk_at "rd"
    refine ⟨show 1 ≤ PySem.sizeLine by rw [PySem.sizeLine_eq]; decide, fun qb hqb => ?_⟩
    have sb := Same.new (o := .lst [V.ref o3]) hqb
    have eb : upd Ha qb (.lst [V.ref o3]) qb = some (.lst [V.ref o3]) := upd_same
    generalize upd Ha qb (.lst [V.ref o3]) = Hb at sb eb
    have lT : (cutV vs none (some (n : Int))).length = min n vs.length := cut_lenT
    refine rd_cat (sb _ _ ea) eb (small_le' (by simp; omega)) fun qc hqc => ?_
    have sc := Same.new (o := .lst (cutV vs none (some (n : Int)) ++ [V.ref o3])) hqc
    have ec : upd Hb qc (.lst (cutV vs none (some (n : Int)) ++ [V.ref o3])) qc = some (.lst (cutV vs none (some (n : Int)) ++ [V.ref o3])) := upd_same
    generalize upd Hb qc (.lst (cutV vs none (some (n : Int)) ++ [V.ref o3])) = Hc at sc ec
    have sCc := ((sC.trans sa).trans sb).trans sc
    walk_at "rd"
    rw [show (n : Int) + 1 = ((n + 1 : Nat) : Int) by omega]
    refine ⟨p, vs, rfl, SqL.of (sCc _ _ hp1), fun qd hqd => ?_⟩
    have sd := Same.new (o := .lst (cutV vs (some ((n + 1 : Nat) : Int)) none)) hqd
    have ed' : upd Hc qd (.lst (cutV vs (some ((n + 1 : Nat) : Int)) none)) qd = some (.lst (cutV vs (some ((n + 1 : Nat) : Int)) none)) := upd_same
    generalize upd Hc qd (.lst (cutV vs (some ((n + 1 : Nat) : Int)) none)) = Hd at sd ed'
    have lD : (cutV vs (some ((n + 1 : Nat) : Int)) none).length = vs.length - (n + 1) := cut_lenD
    refine rd_cat (sd _ _ ec) ed' (small_le' (by rw [List.length_append, lT, lD, List.length_singleton]; omega)) fun qe hqe => ?_
    have se := Same.new (o := .lst (cutV vs none (some (n : Int)) ++ [V.ref o3] ++ cutV vs (some ((n + 1 : Nat) : Int)) none)) hqe
    have sE := (sCc.trans sd).trans se
    obtain ⟨es1, A1, B1⟩ := DefsAt.sub (D1.mono sE) (ws := cutV vs none (some (n : Int))) cut_mem
    obtain ⟨es2, A2, B2⟩ := DefsAt.sub (D1.mono sE) (ws := cutV vs (some ((n + 1 : Nat) : Int)) none) cut_mem
    obtain ⟨d3, C1, C2, C3⟩ := ok3.mono ((((sa.trans sb).trans sc).trans sd).trans se)
    have h1 := A1.length
    have h2 := A2.length
    refine k qe _ (es1 ++ [d3] ++ es2) _ upd_same ((A1.append (show DefsAt [] _ [d3] [.ref o3] from ⟨.ref o3, [], rfl, C1, rfl⟩)).append A2) (fun d' hd' => ?_) (by rw [List.length_append, List.length_append, h1, h2, lT, lD, List.length_singleton]; omega) (s0.trans sE)
    rcases List.mem_append.mp hd' with hd' | hd'
    · rcases List.mem_append.mp hd' with hd' | hd'
      · exact up PB d' (B1 d' hd')
      · have : d' = d3 := by simpa using hd'
        subst this
        exact ⟨C2, C3⟩
    · exact up PB d' (B2 d' hd')
  · walk_at "rd"
    refine rd_ixaL (pk1.mono sB).at_ rfl ?_
    walk_at "rd"
    refine ite_dd (fun e7 => ?_) (fun n7 => ?_)
    · walk_at "rd"
      walk_at "mk"; intro qa hqa
      have sa := Same.new (o := .lst []) hqa
      have ea : upd HB qa (.lst []) qa = some (.lst []) := upd_same
      generalize upd HB qa (.lst []) = Ha at sa ea
      have sBa := sB.trans sa
      obtain ⟨pl, pdp⟩ := rows_pl fun r hr => rowB_D (hd.2 r hr) (by omega)
      refine rd_neNil (SqL.of (sBa _ _ hq)) (ry.mono sBa.ts) pl (by omega) ea ?_
      walk_at "rd"
      refine ite_nd (fun nr => ?_) (fun er => ?_)
      · have hrp : 0 < d.2.2.length := List.length_pos_iff.mpr fun z => nr (by rw [z]; rfl)
        walk_at "rd"
        refine rd_ixaL (pk1.mono sBa).at_ rfl ?_
        walk_at "rd"
        refine rd_lenL' (SqL.of (sBa _ _ hq)) ?_
        refine rd_I (by omega) ?_
        obtain ⟨j, hj⟩ : ∃ j : Nat, p2 % (ys.length : Int) = j := ⟨_, (Int.toNat_of_nonneg (Int.emod_nonneg _ (by omega))).symm⟩
        have hjl : j < ys.length := by
          have := Int.emod_lt_of_pos p2 (show (0 : Int) < ys.length by omega)
          omega
        rw [hj]
        walk_at "rd"
        refine ⟨q, ys, rfl, SqL.of (sBa _ _ hq), fun qc hqc => ?_⟩
        have sc := Same.new (o := .lst (cutV ys none (some (j : Int)))) hqc
        have ec : upd Ha qc (.lst (cutV ys none (some (j : Int)))) qc = some (.lst (cutV ys none (some (j : Int)))) := upd_same
        generalize upd Ha qc (.lst (cutV ys none (some (j : Int)))) = Hc at sc ec
        have sBc := sBa.trans sc
        walk_at "rd"
        refine rd_ixaL (sBc _ _ hp1) (atI_at rfl (List.getElem?_eq_getElem hnl)) ?_
        walk_at "rd"
        refine rd_ixaL (sBc _ _ hq) (atI_at rfl (List.getElem?_eq_getElem hjl)) ?_
        walk_at "rd"
        obtain ⟨rD, er, rr⟩ := ry.get' (List.getElem?_eq_getElem hjl)
        rw [List.getElem?_map] at er
        obtain ⟨r, er2, rfl⟩ := Option.map_eq_some_iff.mp er
        refine use4 ⟨m, p, vs, d, r, b, p0, p1, p2, p3, p4, nm, wd, rfl, sBc _ _ hp1, DefsAt.by1 DA0 sBc, rr.mono sBc.ts, hd.2 r (List.mem_of_getElem? er2), hm, rfl, pk1.mono sBc, fun r' v H4 B4 R4 s4 => ?_⟩
        walk_at "rd"
        refine ⟨show 1 ≤ PySem.sizeLine by rw [PySem.sizeLine_eq]; decide, fun qe hqe => ?_⟩
        have se := Same.new (o := .lst [v]) hqe
        have ee : upd H4 qe (.lst [v]) qe = some (.lst [v]) := upd_same
        generalize upd H4 qe (.lst [v]) = H5 at se ee
        have lT : (cutV ys none (some (j : Int))).length = min j ys.length := cut_lenT
        refine rd_cat (se _ _ (s4 _ _ ec)) ee (small_le' (by rw [lT, List.length_singleton]; omega)) fun qf hqf => ?_
        have sf := Same.new (o := .lst (cutV ys none (some (j : Int)) ++ [v])) hqf
        have ef : upd H5 qf (.lst (cutV ys none (some (j : Int)) ++ [v])) qf = some (.lst (cutV ys none (some (j : Int)) ++ [v])) := upd_same
        generalize upd H5 qf (.lst (cutV ys none (some (j : Int)) ++ [v])) = H6 at sf ef
        have sBf := ((sBc.trans s4).trans se).trans sf
        walk_at "rd"
        rw [show (j : Int) + 1 = ((j + 1 : Nat) : Int) by omega]
        refine ⟨q, ys, rfl, SqL.of (sBf _ _ hq), fun qg hqg => ?_⟩
        have sg := Same.new (o := .lst (cutV ys (some ((j + 1 : Nat) : Int)) none)) hqg
        have eg : upd H6 qg (.lst (cutV ys (some ((j + 1 : Nat) : Int)) none)) qg = some (.lst (cutV ys (some ((j + 1 : Nat) : Int)) none)) := upd_same
        generalize upd H6 qg (.lst (cutV ys (some ((j + 1 : Nat) : Int)) none)) = H7 at sg eg
        have lD : (cutV ys (some ((j + 1 : Nat) : Int)) none).length = ys.length - (j + 1) := cut_lenD
        refine rd_cat (sg _ _ ef) eg (small_le' (by rw [List.length_append, lT, lD, List.length_singleton]; omega)) fun qh hqh => ?_
        have c1 : cutV ys none (some (j : Int)) = ys.take j := cut_to (by omega)
        have c2 : cutV ys (some ((j + 1 : Nat) : Int)) none = ys.drop (j + 1) := cut_from (by omega)
        rw [c1, c2]
        have sh := Same.new (o := .lst (ys.take j ++ [v] ++ ys.drop (j + 1))) hqh
        have eh : upd H7 qh (.lst (ys.take j ++ [v] ++ ys.drop (j + 1))) qh = some (.lst (ys.take j ++ [v] ++ ys.drop (j + 1))) := upd_same
        generalize upd H7 qh (.lst (ys.take j ++ [v] ++ ys.drop (j + 1))) = H8 at sh eh
        have sBh := (sBf.trans sg).trans sh
        walk_at "rd"
        refine ⟨show 3 ≤ PySem.sizeLine by rw [PySem.sizeLine_eq]; decide, fun qi hqi => ?_⟩
        have si := Same.new (o := .tup [V.int d.1, V.int d.2.1, V.ref qh]) hqi
        have ei : upd H8 qi (.tup [V.int d.1, V.int d.2.1, V.ref qh]) qi = some (.tup [V.int d.1, V.int d.2.1, V.ref qh]) := upd_same
        generalize upd H8 qi (.tup [V.int d.1, V.int d.2.1, V.ref qh]) = H9 at si ei
        have sBi := sBh.trans si
        walk_at "rd"
        have rv : Rep H9 (rowD r') v := R4.mono ((((se.trans sf).trans sg).trans sh).trans si).ts
        refine hN _ _ ⟨⟨qi, _, rfl, (d.1, d.2.1, d.2.2.take j ++ [r'] ++ d.2.2.drop (j + 1)), ⟨qi, qh, _, rfl, ei, si _ _ eh, by simp, ?_⟩, by dsimp only; rw [List.length_append, List.length_append, List.length_take, List.length_drop, List.length_singleton]; omega, fun r2 hr2 => ?_⟩, sBi⟩
        · dsimp only
          rw [List.map_append, List.map_append, List.map_take, List.map_drop]
          exact (((ry.mono sBi.ts).take j).append (reps_cons rv reps_nil)).append ((ry.mono sBi.ts).drop (j + 1))
        · rcases List.mem_append.mp hr2 with hr2 | hr2
          · rcases List.mem_append.mp hr2 with hr2 | hr2
            · exact (hd.2 r2 (List.mem_of_mem_take hr2)).mono (by omega)
            · have : r2 = r' := by simpa using hr2
              rw [this]; exact B4
          · exact (hd.2 r2 (List.mem_of_mem_drop hr2)).mono (by omega)
      · walk_at "rd"
        exact hN _ _ ⟨⟨o2, _, rfl, ok2.mono sa⟩, sBa⟩
    · walk_at "rd"
      exact hN _ _ ⟨⟨o2, _, rfl, ok2⟩, sB⟩

end
end My

end
section
set_option Elab.async false
set_option linter.all false
set_option maxRecDepth 100000
set_option maxHeartbeats 4000000

namespace My
open PySem L2
local macro_rules | `(tactic| walk_at "rd1") => `(tactic| (first | ((with_reducible refine' rd_var ?e ?_); (case e => exact rfl)) | with_reducible refine rd_c ?_ | with_reducible refine rd_op ?_ | with_reducible refine rd_un ?_ | with_reducible refine rd_seq ?_ | with_reducible refine rd_asg ?_ | with_reducible refine rd_gname ?_ | with_reducible refine rd_ret ?_ | with_reducible refine rd_drop ?_ | with_reducible refine rd_next ?_ | with_reducible refine rd_if ?_ | with_reducible refine rd_test ?_ | with_reducible refine rd_tb ?_ | with_reducible refine rd_and ?_ | with_reducible refine rd_or ?_ | with_reducible refine rd_not ?_ | with_reducible refine rd_true ?_ | with_reducible refine rd_andV ?_ | with_reducible refine rd_orV ?_ | with_reducible refine rd_notV ?_ | with_reducible refine rd_ifE ?_ | with_reducible refine rd_chain ?_ | with_reducible refine rd_nil ?_ | with_reducible refine rd_cons ?_ | with_reducible refine rd_cb ?_ | with_reducible refine rd_call ?_ | with_reducible refine rd_I0 ?_ | with_reducible refine rd_U ?_ | with_reducible refine rd_eqI ?_ | with_reducible refine rd_neI ?_ | with_reducible refine rd_eqS ?_ | with_reducible refine rd_neS ?_ | with_reducible refine rd_eqB ?_ | with_reducible refine rd_neB ?_ | with_reducible refine rd_bl ?_ | with_reducible refine rd_int ?_ | with_reducible refine rd_tup ?_ | with_reducible refine rd_lst ?_ | with_reducible refine rd_gsub ?_ | with_reducible refine rd_slice ?_ | with_reducible refine rd_nopart ?_ | with_reducible refine rd_part ?_ | with_reducible refine rd_bm ?_ | with_reducible refine rd_bm0 ?_ | with_reducible refine rd_comp ?_ | with_reducible refine rd_itup ?_ | with_reducible refine rd_ilist ?_ | with_reducible refine rd_irng ?_ | with_reducible refine rd_gcons ?_ | with_reducible refine rd_gnil ?_ | with_reducible refine rd_for ?_ | with_reducible refine rd_abs ?_ | with_reducible refine rd_max ?_ | with_reducible refine rd_min ?_ | with_reducible refine rd_intB ?_ | with_reducible refine rd_dput ?_ | with_reducible refine rd_dget2 ?_ | with_reducible refine rd_dget ?_ | with_reducible refine iteNT ?_ | with_reducible refine iteNF ?_ | with_reducible refine iteF ?_ | with_reducible refine iteT ?_))
local macro_rules | `(tactic| walk_at "rd") => `(tactic| (repeat walk_at "rd1"))
local macro_rules | `(tactic| walk_at "mk") => `(tactic| refine ⟨mk_le rfl, ?_⟩)

section
variable {P : Program} {w : World} {K : PySem.W.Frag} {mg : Str → Option Value} {base : Heap}
theorem sc__law_draw : FnScope ["bag", "many", "found"] ["bag", "many"] (defScope s__law_draw) := ⟨rfl, rfl, rfl, by decide +kernel, rfl, by decide +kernel, by decide +kernel⟩
theorem c__law_draw (B : Blt mg) (T__law_draw : TopFn K mg "_law_draw" s__law_draw ["bag", "many"]) : Callee P w K mg base "_law_draw" 1 ["bag", "many"] sp_draw := by
  refine T__law_draw.ok2 sc__law_draw fun f cdv A outer s H v1 v2 Q E hr h => ?_
  have nd := sc__law_draw.nd
  obtain ⟨b, l, n, rfl, rfl, ⟨hn, hn2⟩, Bg, k⟩ := h
  obtain ⟨xs, i, m, st, c, hb, hl, hi, ⟨hm0, hm1⟩, ⟨hs0, hs1⟩, hxs, hlen⟩ := Bg.ex
  have nbl : l ≠ b := ne_of hl hb (by
    intro z
    injection z with z
    cases xs <;> simp [bagL] at z)
  have hl2 : ∀ o, upd H b o l = some (.lst (xs.map V.int)) := fun o => by rw [upd_ne nbl]; exact hl
  refine' go_body [some (.ref b), some (.int n), none] rfl ?hb ?hg
  case hb =>
   refine' pss_cons ?zb ?zc
   case zb =>
    refine' ps_if ?zd ?ze ?zf
    case zd =>
     refine' PW.pt ?zg
     case zg =>
      refine' pw_and ?zh ?zi
      case zh => exact (pt_cmpR op_eq (pe_ix (k_ix (K := K) rfl) (pv 0) pe_int (fun _ _ => rfl)) pe_int (nomark _))
      case zi =>
       refine' pw_and1 ?zj
       case zj =>
        refine' pt_cmpR ?zk ?zl ?zm ?zn
        case zk => exact op_lt
        case zl => exact (pe_ix (k_ix (K := K) rfl) (pv 0) pe_int (fun _ _ => rfl))
        case zm => exact (pe_callB (k_len (K := K) rfl) (by rfl) B.b_len bt_len (pa_consS (pe_ix (k_ix (K := K) rfl) (pv 0) pe_int (fun _ _ => rfl)) pa_nil))
        case zn => exact (nomark _)
    case ze =>
     refine' pss_cons ?zo ?zp
     case zo =>
      refine' ps_asg ?zq ?zr
      case zq =>
       refine' pe_ix ?zs ?zt ?zu ?zv
       case zs => exact (k_ix (K := K) rfl)
       case zt => exact (pe_ix (k_ix (K := K) rfl) (pv 0) pe_int (fun _ _ => rfl))
       case zu => exact (pe_ix (k_ix (K := K) rfl) (pv 0) pe_int (fun _ _ => rfl))
       case zv => exact (fun _ _ => rfl)
      case zr => exact (pg_sub (pv 0) pe_int set_list)
     case zp => exact (pss_one (ps_asg (pe_op op_add (pe_ix (k_ix (K := K) rfl) (pv 0) pe_int (fun _ _ => rfl)) pe_int) (pg_sub (pv 0) pe_int set_list)))
    case zf =>
     refine' pss_one ?zw
     case zw =>
      refine' ps_if ?zx ?zy ?zz
      case zx => exact (pt_cmpR op_eq (pe_ix (k_ix (K := K) rfl) (pv 0) pe_int (fun _ _ => rfl)) pe_int (nomark _))
      case zy =>
       refine' pss_cons ?zba ?zbb
       case zba => exact (ps_asg (pe_op op_add (pe_ix (k_ix (K := K) rfl) (pv 0) pe_int (fun _ _ => rfl)) pe_int) (pg_sub (pv 0) pe_int set_list))
       case zbb =>
        refine' pss_cons ?zbc ?zbd
        case zbc =>
         refine' ps_asg ?zbe ?zbf
         case zbe =>
          refine' pe_op ?zbg ?zbh ?zbi
          case zbg => exact op_mod
          case zbh =>
           refine' pe_op ?zbj ?zbk ?zbl
           case zbj => exact op_add
           case zbk =>
            refine' pe_op ?zbm ?zbn ?zbo
            case zbm => exact op_add
            case zbn =>
             refine' pe_op ?zbp ?zbq ?zbr
             case zbp => exact op_add
             case zbq => exact (pe_op op_pow (pe_ix (k_ix (K := K) rfl) (pv 0) pe_int (fun _ _ => rfl)) pe_int)
             case zbr => exact (pe_op op_mul pe_int (pe_ix (k_ix (K := K) rfl) (pv 0) pe_int (fun _ _ => rfl)))
            case zbo => exact (pe_op op_mul pe_int (pe_ix (k_ix (K := K) rfl) (pv 0) pe_int (fun _ _ => rfl)))
           case zbl => exact pe_int
          case zbi => exact pe_int
         case zbf => exact (pg_sub (pv 0) pe_int set_list)
        case zbd => exact (pss_one (ps_ret (pe_op op_mod (pe_op op_fdivB (pe_ix (k_ix (K := K) rfl) (pv 0) pe_int (fun _ _ => rfl)) pe_int) (pv 1))))
      case zz => exact pss_nil
   case zc =>
    refine' pss_cons ?zbs ?zbt
    case zbs => exact (ps_setB (i := 2) nd rfl (Or.inl rfl) (pe_op op_mod (pe_ix (k_ix (K := K) rfl) (pv 0) pe_int (fun _ _ => rfl)) (pv 1)))
    case zbt =>
     refine' pss_cons ?zbu ?zbv
     case zbu => exact (ps_asg (pe_op op_fdivB (pe_ix (k_ix (K := K) rfl) (pv 0) pe_int (fun _ _ => rfl)) (pv 1)) (pg_sub (pv 0) pe_int set_list))
     case zbv => exact (pss_one (ps_ret (pv 2)))
  have fin : ∀ (j : Nat) (m' : Int), j ≤ xs.length → 0 ≤ m' → m' ≤ 10 ^ 60 → ∀ H1, BSame b H H1 → H1 b = some (.lst (bagL l j m' st c)) → H1 l = some (.lst (xs.map V.int)) →
      Q (.int (m' % n)) (upd H1 b (.lst (bagL l j (m' / n) st c))) := by
    intro j m' hj h0 h1 H1 bs hb1 hl1
    have hd0 : 0 ≤ m' / n := Int.ediv_nonneg h0 (Int.le_of_lt hn)
    have hd1 : m' / n ≤ m' := Int.ediv_le_self _ h0
    refine k _ _ (Int.emod_nonneg _ (by omega)) (Int.emod_lt_of_pos _ hn) ⟨xs, j, m' / n, st, c, upd_same, by rw [upd_ne nbl]; exact hl1, hj, ⟨hd0, by omega⟩, ⟨hs0, hs1⟩, hxs, hlen⟩ (bs.trans BSame.wr)
  have tail : ∀ (j : Nat) (m' : Int) (σ2 : St), σ2 = [some (.ref b), some (.int n), none] → j ≤ xs.length → 0 ≤ m' → m' ≤ 10 ^ 60 → ∀ H1, BSame b H H1 → H1 b = some (.lst (bagL l j m' st c)) → H1 l = some (.lst (xs.map V.int)) →
      tSeq (tAsg (tOp (rI (fun _ j => 0 < j) fun i j => .int (i % j)) (tOp (rIxA K) (tVar 0) (tC (.int 2))) (tVar 1)) (gName 2))
        (tSeq (tAsg (tOp (rI CDivB fun i j => .int (i / j)) (tOp (rIxA K) (tVar 0) (tC (.int 2))) (tVar 1)) (gSub (tVar 0) (tC (.int 2)) rSetL)) (tRet (tVar 2))) { nx := fun _ H' => Q .non H', rt := Q } σ2 H1 := by
    intro j m' σ2 e hj h0 h1 H1 bs hb1 hl1
    subst e
    walk_at "rd"
    refine rd_ixaL (v := .int m') hb1 rfl ?_
    walk_at "rd"
    refine rd_I hn ?_
    walk_at "rd"
    refine rd_ixaL (v := .int m') hb1 rfl ?_
    walk_at "rd"
    refine rd_I (cdivb_of hn (by omega)) ?_
    walk_at "rd"
    refine rd_setL (k := 2) hb1 rfl ?_
    walk_at "rd"
    exact fin j m' hj h0 h1 H1 bs hb1 hl1
  walk_at "rd"
  refine rd_ixaL (v := .int m) hb rfl ?_
  walk_at "rd"
  refine ite_dd (fun hm => ?_) (fun hm => ?_)
  · walk_at "rd"
    refine rd_ixaL (v := .int i) hb rfl ?_
    walk_at "rd"
    refine rd_ixaL (v := .ref l) hb rfl ?_
    walk_at "rd"
    refine rd_lenL' (SqL.of hl) ?_
    walk_at "rd"
    rw [List.length_map]
    refine ite_dd (fun hi2 => ?_) (fun hi2 => ?_)
    · walk_at "rd"
      refine rd_ixaL (v := .ref l) hb rfl ?_
      walk_at "rd"
      refine rd_ixaL (v := .int i) hb rfl ?_
      walk_at "rd"
      have hil : i < xs.length := by omega
      have hxi := hxs _ (List.getElem_mem hil)
      refine rd_ixaL (v := .int xs[i]) hl (atI_at (n := i) rfl (by rw [List.getElem?_map, List.getElem?_eq_getElem hil]; rfl)) ?_
      walk_at "rd"
      refine rd_setL (k := 2) hb rfl ?_
      walk_at "rd"
      refine rd_ixaL (v := .int i) upd_same rfl ?_
      walk_at "rd"
      refine rd_setL (k := 1) upd_same rfl ?_
      exact tail (i + 1) xs[i] _ rfl (by omega) hxi.1 hxi.2 _ (BSame.wr.trans BSame.wr) upd_same (by rw [upd_ne nbl]; exact hl2 _)
    · walk_at "rd"
      refine rd_ixaL (v := .int m) hb rfl ?_
      walk_at "rd"
      refine ite_dy hm ?_
      walk_at "rd"
      refine rd_ixaL (v := .int c) hb rfl ?_
      walk_at "rd"
      refine rd_setL (k := 4) hb rfl ?_
      walk_at "rd"
      refine rd_ixaL (v := .int st) upd_same rfl ?_
      walk_at "rd"
      refine rd_I ⟨by decide, by decide, by omega⟩ ?_
      walk_at "rd"
      refine rd_ixaL (v := .int st) upd_same rfl ?_
      walk_at "rd"
      refine rd_I (.inl ⟨by decide, by decide⟩) ?_
      walk_at "rd"
      refine rd_ixaL (v := .int (c + 1)) upd_same rfl ?_
      walk_at "rd"
      refine rd_I (.inl ⟨by decide, by decide⟩) ?_
      walk_at "rd"
      refine rd_I (by decide) ?_
      walk_at "rd"
      refine rd_setL (k := 3) upd_same rfl ?_
      walk_at "rd"
      generalize hst : (st ^ (3 : Int).toNat + 48271 * st + 1013 * (c + 1) + 1) % 2147483647 = st'
      have h0 : 0 ≤ st' := by rw [← hst]; exact Int.emod_nonneg _ (by decide)
      have h1 : st' < 2147483647 := by rw [← hst]; exact Int.emod_lt_of_pos _ (by decide)
      refine rd_ixaL (v := .int st') upd_same rfl ?_
      walk_at "rd"
      refine rd_I (cdivb_of (by decide) (by decide +kernel)) ?_
      walk_at "rd"
      refine rd_I hn ?_
      refine k _ _ (Int.emod_nonneg _ (by omega)) (Int.emod_lt_of_pos _ hn) ⟨xs, i, m, st', c + 1, upd_same, by rw [upd_ne nbl]; exact hl2 _, hi, ⟨hm0, hm1⟩, ⟨h0, h1⟩, hxs, hlen⟩ (BSame.wr.trans BSame.wr)
  · walk_at "rd"
    refine rd_ixaL (v := .int m) hb rfl ?_
    walk_at "rd"
    refine ite_dn hm ?_
    exact tail i m _ rfl hi hm0 hm1 H (BSame.refl _ _) hb hl

theorem sc__law_number : FnScope ["bag"] ["bag"] (defScope s__law_number) := ⟨rfl, rfl, rfl, by decide +kernel, rfl, by decide +kernel, by decide +kernel⟩
theorem c__law_number (T__law_number : TopFn K mg "_law_number" s__law_number ["bag"]) (C_law_draw : Callee P w K mg base "_law_draw" 1 ["bag", "many"] sp_draw) : Callee P w K mg base "_law_number" 2 ["bag"] sp_number := by
  refine T__law_number.ok1 sc__law_number fun f cdv A outer s H v1 Q E hr h => ?_
  have nd := sc__law_number.nd
  obtain ⟨b, l, rfl, Bg, k⟩ := h
  refine' go_body [some (.ref b)] rfl ?hb ?hg
  case hb =>
   refine' pss_cons ?zbw ?zbx
   case zbw =>
    refine' ps_if ?zby ?zbz ?zca
    case zby => exact (pt_cmpR op_eq (pe_fn C_law_draw (hr.mono (by first | decide | omega)) (by rfl) (pa_consN (pv 0) (pa_consK pe_int pa_nil))) pe_int (nomark _))
    case zbz =>
     refine' pss_one ?zcb
     case zcb =>
      refine' ps_ret ?zcc
      case zcc =>
       refine' pe_op ?zcd ?zce ?zcf
       case zcd => exact op_mulB
       case zce =>
        refine' pe_op ?zcg ?zch ?zci
        case zcg => exact op_sub
        case zch => exact (pe_op op_mulB (pe_fn C_law_draw (hr.mono (by first | decide | omega)) (by rfl) (pa_consN (pv 0) (pa_consK pe_int pa_nil))) pe_int)
        case zci => exact pe_int
       case zcf => exact (pe_fn C_law_draw (hr.mono (by first | decide | omega)) (by rfl) (pa_consN (pv 0) (pa_consB (pe_op op_pow pe_int pe_int) pa_nil)))
    case zca => exact pss_nil
   case zbx => exact (pss_one (ps_ret (pe_op op_sub (pe_fn C_law_draw (hr.mono (by first | decide | omega)) (by rfl) (pa_consN (pv 0) (pa_consK pe_int pa_nil))) pe_int)))
  walk_at "rd"
  refine use2 ⟨b, l, 8, rfl, rfl, ⟨by decide, by decide⟩, Bg, fun r H1 h0 h1 B1 b1 => ?_⟩
  walk_at "rd"
  refine ite_dd (fun _ => ?_) (fun _ => ?_)
  · walk_at "rd"
    refine use2 ⟨b, l, 2, rfl, rfl, ⟨by decide, by decide⟩, B1, fun r2 H2 g0 g1 B2 b2 => ?_⟩
    walk_at "rd"
    refine rd_I (cbig_of (by omega) (by decide +kernel)) ?_
    walk_at "rd"
    refine rd_I cpow60 ?_
    walk_at "rd"
    refine use2 ⟨b, l, _, rfl, rfl, ⟨by decide +kernel, by decide +kernel⟩, B2, fun r3 H3 f0 f1 B3 b3 => ?_⟩
    rw [ten60] at f1
    refine rd_I (cbig_of (by omega) (by omega)) ?_
    refine k _ _ ?_ B3 ((b1.trans b2).trans b3)
    rw [Int.natAbs_mul]
    have e1 : (r2 * 2 - 1).natAbs ≤ 1 := by omega
    have e2 : r3.natAbs ≤ 10 ^ 60 := by omega
    calc (r2 * 2 - 1).natAbs * r3.natAbs ≤ 1 * 10 ^ 60 := Nat.mul_le_mul e1 e2
      _ = 10 ^ 60 := by rw [Nat.one_mul]
  · walk_at "rd"
    refine use2 ⟨b, l, 9, rfl, rfl, ⟨by decide, by decide⟩, B1, fun r2 H2 g0 g1 B2 b2 => ?_⟩
    walk_at "rd"
    exact k _ _ (by omega) B2 (b1.trans b2)

theorem sc__law_bag : FnScope ["script", "stir", "cell"] ["script"] (defScope s__law_bag) := ⟨rfl, rfl, rfl, by decide +kernel, rfl, by decide +kernel, by decide +kernel⟩
theorem c__law_bag (B : Blt mg) (T__law_bag : TopFn K mg "_law_bag" s__law_bag ["script"]) : Callee P w K mg base "_law_bag" 1 ["script"] (sp_bag K) := by
  refine T__law_bag.ok1 sc__law_bag fun f cdv A outer s H v1 Q E hr h => ?_
  have nd := sc__law_bag.nd
  obtain ⟨a, ns, rfl, hS, hlen, k⟩ := h
  refine' go_body [some (.ref a), none, none] rfl ?hb ?hg
  case hb =>
   refine' pss_cons ?zcj ?zck
   case zcj => exact (ps_set (i := 1) nd rfl (Or.inl rfl) pe_int)
   case zck =>
    refine' pss_cons ?zcl ?zcm
    case zcl =>
     refine' ps_for ?zcn ?zco ?zcp ?zcq ?zcr
     case zcn => exact PassesOwn.never
     case zco => exact rfl
     case zcp => exact (k_pi_list (K := K) rfl (pe_slice (k_sl (K := K) rfl) (pv 0) po_none (po_some pe_int)))
     case zcq => exact (pg_name (i := 2) nd rfl (Or.inl rfl))
     case zcr =>
      refine' pss_one ?zcs
      case zcs =>
       refine' ps_setB (i := 1) ?zct ?zcu ?zcv ?zcw
       case zct => exact nd
       case zcu => exact rfl
       case zcv => exact (Or.inl rfl)
       case zcw => exact (pe_op op_mod (pe_op op_add (pe_op op_add (pe_op op_mul (pv 1) pe_int) (pe_op op_mod (pv 2) pe_int)) pe_int) pe_int)
    case zcm =>
     refine' pss_one ?zcx
     case zcx =>
      refine' ps_ret ?zcy
      case zcy =>
       refine' pe_lst ?zcz
       case zcz =>
        refine' pa_consM ?zda ?zdb
        case zda =>
         refine' pe_comp (LN := ["cell"]) (FN := []) (fr := []) ?zdc ?zdd ?zde ?zdf ?zdg ?zdh
         case zdc => exact rfl
         case zdd => exact (bk_of (by rfl))
         case zde => exact (k_pi_list (K := K) rfl (pe_slice (k_sl (K := K) rfl) (pv 0) po_none (po_some pe_int)))
         case zdf =>
          intro cl C fp pins s H
          exact (pg_name (i := 0) (show ((["cell"] : List Str) ++ ([] : List Str)).Nodup by decide +kernel) rfl (Or.inl rfl))
         case zdg =>
          intro cl C fp pins s H
          exact pts_nil
         case zdh =>
          intro cl C fp pins s H
          exact (pe_op op_mod (pe_callB call_abs' (by rfl) B.b_abs bt_abs (pa_consN (pv 0) pa_nil)) (pe_op op_pow pe_int pe_int))
        case zdb => exact (pa_consK pe_int (pa_consK pe_int (pa_consN (pv 1) (pa_consK pe_int pa_nil))))
  walk_at "rd"
  refine rd_slL hS fun p hp => ?_
  obtain ⟨ms, em, hm⟩ := cutV_ints ns none (some 63)
  rw [em]
  refine ilK_of (SqL.of upd_same) ?_
  have s0 := Same.new (o := .lst (ms.map V.int)) hp
  generalize hH0 : upd H p (HO.lst (ms.map V.int)) = H0 at s0
  have hp0 : H0 p = some (.lst (ms.map V.int)) := by rw [← hH0]; exact upd_same
  refine for_list (xs := ms.map V.int) (fun i σ H1 => ∃ st c2, σ = [some (.ref a), some (.int st), c2] ∧ H1 = H0 ∧ 0 ≤ st ∧ st < 2147483647) ⟨11, none, rfl, rfl, by decide, by decide⟩ (fun i σ H1 _ ⟨_, _, _, e, _⟩ => by rw [e]; exact SqL.of hp0) ?_ ?_
  · rintro i x σ H1 hx ⟨st, c2, rfl, rfl, h0, h1⟩
    obtain ⟨z, rfl, _⟩ := ints_get hx
    walk_at "rd"
    refine rd_I (.inr ⟨by decide, by decide⟩) ?_
    walk_at "rd"
    refine rd_I (by decide) ?_
    walk_at "rd"
    refine rd_I (by decide) ?_
    walk_at "rd"
    exact ⟨_, _, rfl, rfl, Int.emod_nonneg _ (by decide), Int.emod_lt_of_pos _ (by decide)⟩
  · rintro σ H1 ⟨st, c2, rfl, rfl, h0, h1⟩
    walk_at "rd"
    refine rd_slL (s0.seq hS) fun p2 hp2 => ?_
    rw [em]
    refine ilK_of (SqL.of upd_same) ?_
    have s2 := Same.new (o := .lst (ms.map V.int)) hp2
    generalize hH2 : upd H1 p2 (HO.lst (ms.map V.int)) = H2 at s2
    have hp2' : H2 p2 = some (.lst (ms.map V.int)) := by rw [← hH2]; exact upd_same
    refine cw_list (xs := ms.map V.int) (small_le (by rw [List.length_map]; omega)) (fun i ys σ H3 => (∃ x1, σ = [x1]) ∧ H3 = H2 ∧ ∃ zs : List Int, ys = zs.map V.int ∧ ∀ z ∈ zs, 0 ≤ z ∧ z ≤ 10 ^ 60) ⟨⟨none, rfl⟩, rfl, [], rfl, fun _ h => by cases h⟩ (fun i ys σ H3 _ ⟨_, e, _⟩ => by rw [e]; exact SqL.of hp2') ?_ ?_
    · rintro i x ys σ H3 hx hle hlt ⟨⟨x1, rfl⟩, rfl, zs, rfl, hz⟩
      obtain ⟨z, rfl, _⟩ := ints_get hx
      walk_at "rd"
      refine rd_I cpow60 ?_
      refine rd_I (by decide +kernel) ?_
      rw [ten60]
      refine ⟨hlt, by simpa using hle, ⟨_, rfl⟩, rfl, zs ++ [_], by rw [List.map_append]; rfl, fun u hu => ?_⟩
      rcases List.mem_append.mp hu with hu | hu
      · exact hz u hu
      · obtain rfl := List.mem_singleton.mp hu
        omega
    · rintro ys σ H3 hyl ⟨⟨x1, rfl⟩, rfl, zs, rfl, hz⟩ l hl
      walk_at "rd"
      walk_at "mk"; intro bb hbb
      have sA := Same.new (o := .lst (zs.map V.int)) hl
      have sB := Same.new (o := .lst [V.ref l, V.int 0, V.int 0, V.int st, V.int 0]) hbb
      have sall := ((s0.trans s2).trans sA).trans sB
      rw [List.length_map, List.length_map] at hyl
      exact k bb l _ (((s0.trans s2).trans sA).free hbb) sall ⟨zs, 0, 0, st, 0, upd_same, upd_old upd_same hbb, Nat.zero_le _, ⟨by decide, by decide⟩, ⟨h0, h1⟩, hz, by omega⟩

theorem sc__law_letters : FnScope [] [] (defScope s__law_letters) := ⟨rfl, rfl, rfl, by decide +kernel, rfl, by decide +kernel, by decide +kernel⟩
theorem c__law_letters (T__law_letters : TopFn K mg "_law_letters" s__law_letters []) : Callee P w K mg base "_law_letters" 1 [] sp_letters := by
  refine T__law_letters.ok0 sc__law_letters fun f cdv A outer s H Q E hr h => ?_
  have nd := sc__law_letters.nd
  refine go_body [] rfl (t := tRet (tDisp ((lettersKV.map fun kv => (kV kv.1, kv.2)).map fun q => (tC q.1, tC q.2)))) ?hh ?_
  case hh =>
    refine pss_one ?_
    refine ps_ret ?_
    refine pe_disp ?_ ?_ ?_ ?_ ?_
    rotate_left
    · rfl
    · rfl
    · exact List.cons_ne_nil _ _
    · exact Nat.le_of_ble_eq_true rfl
    simp only [lettersKV, lettersL, List.map_cons, List.map_nil, kV]
    repeat (refine pps_cons ?_ ?_ ?_; exact pe_str; exact pe_str)
    exact pps_nil
  refine rd_ret fun p hp => ?_
  refine tPairs_c (lettersKV.map fun kv => (kV kv.1, kv.2)) ?_
  refine ⟨upd_same, lettersKV, rfl, by decide, ?_⟩
  rw [merge_letters, upd_upd]
  exact h p _ hp upd_same (Same.new hp)
def sp_part : Sp := sp5 fun x1 x2 x3 x4 x5 H Q => ∃ b l c boxes many sp xs, x1 = .ref b ∧ x2 = .str c ∧ x3 = .int boxes ∧ x4 = .int many ∧ x5 = .ref sp ∧ (1 ≤ boxes ∧ boxes ≤ 1000) ∧ (1 ≤ many ∧ many ≤ 1000) ∧ H sp = some (.lst xs) ∧ (0 < xs.length ∧ xs.length ≤ 1000) ∧ sp ≠ b ∧ BagAt H b l ∧
  ∀ n H', PartI boxes many xs.length c n → BagAt H' b l → BSame b H H' → Q (.int n) H'
theorem sc__law_part : FnScope ["bag", "letter", "boxes", "many", "signs"] ["bag", "letter", "boxes", "many", "signs"] (defScope s__law_part) := ⟨rfl, rfl, rfl, by decide +kernel, rfl, by decide +kernel, by decide +kernel⟩
theorem c__law_part (B : Blt mg) (T__law_part : TopFn K mg "_law_part" s__law_part ["bag", "letter", "boxes", "many", "signs"]) (C_law_draw : Callee P w K mg base "_law_draw" 1 ["bag", "many"] sp_draw) (C_law_number : Callee P w K mg base "_law_number" 2 ["bag"] sp_number) :
    Callee P w K mg base "_law_part" 3 ["bag", "letter", "boxes", "many", "signs"] sp_part := by
  refine T__law_part.ok5 sc__law_part fun f cdv A outer s H v1 v2 v3 v4 v5 Q E hr h => ?_
  have nd := sc__law_part.nd
  obtain ⟨b, l, c, boxes, many, sp, xs, rfl, rfl, rfl, rfl, rfl, ⟨b0, b1⟩, ⟨m0, m1⟩, hsp, ⟨x0, x1⟩, nsp, Bg, k⟩ := h
  refine' go_body [some (.ref b), some (.str c), some (.int boxes), some (.int many), some (.ref sp)] rfl ?hb ?hg
  case hb =>
   refine' pss_cons ?zdi ?zdj
   case zdi =>
    refine' ps_if ?zdk ?zdl ?zdm
    case zdk => exact (pt_cmpR op_eq (pv 1) pe_str (nomark _))
    case zdl => exact (pss_one (ps_ret (pe_fn C_law_draw (hr.mono (by first | decide | omega)) (by rfl) (pa_consN (pv 0) (pa_consN (pv 2) pa_nil)))))
    case zdm => exact pss_nil
   case zdj =>
    refine' pss_cons ?zdn ?zdo
    case zdn =>
     refine' ps_if ?zdp ?zdq ?zdr
     case zdp => exact (pt_cmpR op_eq (pv 1) pe_str (nomark _))
     case zdq => exact (pss_one (ps_ret (pe_fn C_law_draw (hr.mono (by first | decide | omega)) (by rfl) (pa_consN (pv 0) (pa_consN (pv 3) pa_nil)))))
     case zdr => exact pss_nil
    case zdo =>
     refine' pss_cons ?zds ?zdt
     case zds =>
      refine' ps_if ?zdu ?zdv ?zdw
      case zdu => exact (pt_cmpR op_eq (pv 1) pe_str (nomark _))
      case zdv =>
       refine' pss_one ?zdx
       case zdx =>
        refine' ps_ret ?zdy
        case zdy =>
         refine' pe_fn ?zdz ?zea ?zeb ?zec
         case zdz => exact C_law_draw
         case zea => exact (hr.mono (by first | decide | omega))
         case zeb => exact (by rfl)
         case zec => exact (pa_consN (pv 0) (pa_consC (pe_callB (k_len (K := K) rfl) (by rfl) B.b_len bt_len (pa_consN (pv 4) pa_nil)) pa_nil))
      case zdw => exact pss_nil
     case zdt =>
      refine' pss_cons ?zed ?zee
      case zed =>
       refine' ps_if ?zef ?zeg ?zeh
       case zef => exact (pt_cmpR op_eq (pv 1) pe_str (nomark _))
       case zeg => exact (pss_one (ps_ret (pe_op op_sub (pe_fn C_law_draw (hr.mono (by first | decide | omega)) (by rfl) (pa_consN (pv 0) (pa_consK pe_int pa_nil))) pe_int)))
       case zeh => exact pss_nil
      case zee => exact (pss_one (ps_ret (pe_fn C_law_number (hr.mono (by first | decide | omega)) (by rfl) (pa_consN (pv 0) pa_nil))))
  walk_at "rd"
  refine ite_dd (fun e => ?_) (fun np => ?_)
  · walk_at "rd"
    refine use2 ⟨b, l, boxes, rfl, rfl, ⟨by omega, by omega⟩, Bg, fun n H' n0 n1 B' b' => ?_⟩
    subst e
    exact k n H' ⟨fun _ => ⟨n0, n1⟩, fun z => absurd z (by decide), fun z => absurd z (by decide), fun z => absurd z (by decide), by omega⟩ B' b'
  · walk_at "rd"
    refine ite_dd (fun e => ?_) (fun nt => ?_)
    · walk_at "rd"
      refine use2 ⟨b, l, many, rfl, rfl, ⟨by omega, by omega⟩, Bg, fun n H' n0 n1 B' b' => ?_⟩
      subst e
      exact k n H' ⟨fun z => absurd z (by decide), fun _ => ⟨n0, n1⟩, fun z => absurd z (by decide), fun z => absurd z (by decide), by omega⟩ B' b'
    · walk_at "rd"
      refine ite_dd (fun e => ?_) (fun nf => ?_)
      · walk_at "rd"
        refine rd_lenL' (SqL.of hsp) ?_
        walk_at "rd"
        refine use2 ⟨b, l, xs.length, rfl, rfl, ⟨by omega, by omega⟩, Bg, fun n H' n0 n1 B' b' => ?_⟩
        subst e
        exact k n H' ⟨fun z => absurd z (by decide), fun z => absurd z (by decide), fun _ => ⟨n0, n1⟩, fun z => absurd z (by decide), by omega⟩ B' b'
      · walk_at "rd"
        refine ite_dd (fun e => ?_) (fun nc => ?_)
        · walk_at "rd"
          refine use2 ⟨b, l, 199, rfl, rfl, ⟨by decide, by decide⟩, Bg, fun n H' n0 n1 B' b' => ?_⟩
          subst e
          walk_at "rd"
          exact k _ H' ⟨fun z => absurd z (by decide), fun z => absurd z (by decide), fun z => absurd z (by decide), fun _ => by omega, by omega⟩ B' b'
        · walk_at "rd"
          refine use1 ⟨b, l, rfl, Bg, fun n H' n0 B' b' => ?_⟩
          exact k n H' ⟨fun z => absurd z np, fun z => absurd z nt, fun z => absurd z nf, fun z => absurd z nc, n0⟩ B' b'
def sp_row : Sp := sp5 fun x1 x2 x3 x4 x5 H Q => ∃ b l wd ls boxes many sp xs sg, x1 = .ref b ∧ x2 = .str wd ∧ x3 = .int boxes ∧ x4 = .int many ∧ x5 = .ref sp ∧ (wd, ls) ∈ lettersL ∧ (1 ≤ boxes ∧ boxes ≤ 1000) ∧ (1 ≤ many ∧ many ≤ 1000) ∧ H sp = some (.lst xs) ∧ Reps H (sg.map pairD) xs ∧ SgOk sg ∧ sp ≠ b ∧ BagAt H b l ∧
  ∀ ps v H', RowG sg boxes many wd ls ps → Rep H' (rowD (wd, ps)) v → BagAt H' b l → BSame b H H' → Q v H'
theorem sc__law_row : FnScope ["bag", "word", "boxes", "many", "signs", "row", "letter", "args"] ["bag", "word", "boxes", "many", "signs"] (defScope s__law_row) := ⟨rfl, rfl, rfl, by decide +kernel, rfl, by decide +kernel, by decide +kernel⟩
theorem c__law_row (B : Blt mg) (T__law_row : TopFn K mg "_law_row" s__law_row ["bag", "word", "boxes", "many", "signs"]) (C_law_draw : Callee P w K mg base "_law_draw" 1 ["bag", "many"] sp_draw) (C_law_letters : Callee P w K mg base "_law_letters" 1 [] sp_letters)
    (C_law_part : Callee P w K mg base "_law_part" 3 ["bag", "letter", "boxes", "many", "signs"] sp_part) : Callee P w K mg base "_law_row" 4 ["bag", "word", "boxes", "many", "signs"] sp_row := by
  refine T__law_row.ok5 sc__law_row fun f cdv A outer s H v1 v2 v3 v4 v5 Q E hr h => ?_
  have nd := sc__law_row.nd
  have hu := hr.units
  have hu1 := hu_of hr
  obtain ⟨b, l, wd, ls, boxes, many, sp, xs, sg, rfl, rfl, rfl, rfl, rfl, tab, ⟨b0, b1⟩, ⟨m0, m1⟩, hsp, rsg, SG, nsp, Bg, k⟩ := h
  refine' go_body [some (.ref b), some (.str wd), some (.int boxes), some (.int many), some (.ref sp), none, none, none] rfl ?hb ?hg
  case hb =>
   refine' pss_cons ?zei ?zej
   case zei => exact (ps_setT (i := 5) nd rfl (Or.inl rfl) (pe_tup (pa_consN (pv 1) pa_nil)))
   case zej =>
    refine' pss_cons ?zek ?zel
    case zek =>
     refine' ps_for ?zem ?zen ?zeo ?zep ?zeq
     case zem => exact PassesOwn.never
     case zen => exact rfl
     case zeo => exact (k_pi_str (K := K) rfl (pe_dget hu1 (pe_fn0 C_law_letters (hr.mono (by first | decide | omega)) (by rfl)) (pv 1) (fun _ _ => rfl)))
     case zep => exact (pg_name (i := 6) nd rfl (Or.inl rfl))
     case zeq =>
      refine' pss_one ?zer
      case zer =>
       refine' ps_if ?zes ?zet ?zeu
       case zes => exact (pt_cmpR op_eq (pv 6) pe_str (nomark _))
       case zet =>
        refine' pss_cons ?zev ?zew
        case zev =>
         refine' ps_setc (i := 7) (LN := ["k"]) (FN := ["bag", "boxes"]) (fr := [0, 2]) ?zex ?zey ?zez ?zfa ?zfb ?zfc ?zfd ?zfe ?zff
         case zex => exact rfl
         case zey => exact nd
         case zez => exact rfl
         case zfa => exact rfl
         case zfb => exact (bk_of (by rfl))
         case zfc =>
          refine' pi_range1 ?zfg ?zfh ?zfi
          case zfg => exact rfl
          case zfh => exact B.b_range
          case zfi =>
           refine' pa_consS ?zfj ?zfk
           case zfj =>
            refine' pe_ix ?zfl ?zfm ?zfn ?zfo
            case zfl => exact (k_ix (K := K) rfl)
            case zfm => exact (pe_ix (k_ix (K := K) rfl) (pv 4) (pe_ix (k_ix (K := K) rfl) (pv 5) pe_int (fun _ _ => rfl)) (fun _ _ => rfl))
            case zfn => exact pe_int
            case zfo => exact (fun _ _ => rfl)
           case zfk => exact pa_nil
         case zfd =>
          intro cl C fp pins s H
          exact (pg_name (i := 0) (show ((["k"] : List Str) ++ (["bag", "boxes"] : List Str)).Nodup by decide +kernel) rfl (Or.inl rfl))
         case zfe =>
          intro cl C fp pins s H
          exact pts_nil
         case zff =>
          intro cl C fp pins s H
          exact (pe_fn C_law_draw (hr.mono (by first | decide | omega)) (by rfl) (pa_consN (pv 1) (pa_consN (pv 2) pa_nil)))
        case zew =>
         refine' pss_one ?zfp
         case zfp =>
          refine' ps_setB (i := 5) ?zfq ?zfr ?zfs ?zft
          case zfq => exact nd
          case zfr => exact rfl
          case zfs => exact (Or.inl rfl)
          case zft =>
           refine' pe_op ?zfu ?zfv ?zfw
           case zfu => exact (k_catT (K := K) rfl)
           case zfv => exact (pv 5)
           case zfw => exact (pe_tup (pa_consC (pe_callTy (k_tupOf (K := K) rfl) (by rfl) B.b_tuple bt_tuple (pa_consN (pv 7) pa_nil)) pa_nil))
       case zeu =>
        refine' pss_one ?zfx
        case zfx =>
         refine' ps_setB (i := 5) ?zfy ?zfz ?zga ?zgb
         case zfy => exact nd
         case zfz => exact rfl
         case zga => exact (Or.inl rfl)
         case zgb =>
          refine' pe_op ?zgc ?zgd ?zge
          case zgc => exact (k_catT (K := K) rfl)
          case zgd => exact (pv 5)
          case zge =>
           refine' pe_tup ?zgf
           case zgf =>
            refine' pa_consC ?zgg ?zgh
            case zgg =>
             refine' pe_fn ?zgi ?zgj ?zgk ?zgl
             case zgi => exact C_law_part
             case zgj => exact (hr.mono (by first | decide | omega))
             case zgk => exact (by rfl)
             case zgl => exact (pa_consN (pv 0) (pa_consN (pv 6) (pa_consN (pv 2) (pa_consN (pv 3) (pa_consN (pv 4) pa_nil)))))
            case zgh => exact pa_nil
    case zel => exact (pss_one (ps_ret (pv 5)))
  walk_at "rd"
  walk_at "mk"; intro p0 hp0
  have s0 := Same.new (o := .tup [V.str wd]) hp0
  walk_at "rd"
  refine rd_istr ?_
  walk_at "rd"
  refine use0 (b := fun H Q => ∀ p H', H p = none → H' p = some (.dK lettersKV) → Same H H' → Q (.ref p) H') fun pd H1 hpd hd s1 => ?_
  walk_at "rd"
  refine ⟨pd, _, rfl, (letters_val tab) ▸ DGet.k (k := Sum.inr wd) hd, ?_⟩
  refine ⟨ls, rfl, only_ascii _ tab, ?_⟩
  have xlen := rsg.length
  rw [List.length_map] at xlen
  have hsp1 := (s0.trans s1) _ _ hsp
  refine for_str (fun i σ Hx => ∃ rt ps vs x6 x7, σ = [some (.ref b), some (.str wd), some (.int boxes), some (.int many), some (.ref sp), some (.ref rt), x6, x7] ∧ Hx rt = some (.tup (V.str wd :: vs)) ∧ Reps Hx ps vs ∧ ps.length = i ∧ BagAt Hx b l ∧ BSame b H Hx ∧
    ∀ j c, j < i → ls.cps[j]? = some c → ∃ d, ps[j]? = some d ∧ PartG sg boxes many ps ⟨#[c]⟩ d)
    ⟨p0, [], [], none, none, rfl, s1 _ _ upd_same, reps_nil, rfl, Bg.mono (s0.trans s1), (BSame.refl b H).to (s0.trans s1), fun j c hj => absurd hj (Nat.not_lt_zero _)⟩ ?_ ?_
  · rintro i c σ Hx hc ⟨rt, ps, vs, x6, x7, rfl, hrt, rps, hpl, Bx, bx, hps⟩
    have hspx : Hx sp = some (.lst xs) := bx _ _ nsp hsp
    have hvl := rps.length
    -- a part more
    have more : ∀ (d : D) (u : V) (H5 : Hp) (t1 : Addr), Rep H5 d u → (∀ c', c' = (⟨#[c]⟩ : Str) → PartG sg boxes many (ps ++ [d]) c' d) → BagAt H5 b l → BSame b H H5 → H5 rt = some (.tup (V.str wd :: vs)) → Reps H5 ps vs → H5 t1 = none →
        ∃ rt' ps' vs', (upd H5 t1 (.tup (V.str wd :: vs ++ [u]))) t1 = some (.tup (V.str wd :: vs')) ∧ rt' = t1 ∧ Reps (upd H5 t1 (.tup (V.str wd :: vs ++ [u]))) ps' vs' ∧ ps'.length = i + 1 ∧ BagAt (upd H5 t1 (.tup (V.str wd :: vs ++ [u]))) b l ∧ BSame b H (upd H5 t1 (.tup (V.str wd :: vs ++ [u]))) ∧
        ∀ j c, j < i + 1 → ls.cps[j]? = some c → ∃ d, ps'[j]? = some d ∧ PartG sg boxes many ps' ⟨#[c]⟩ d := by
      intro d u H5 t1 rd hd B5 b5 h5 r5 ht1
      have s5 := Same.new (o := .tup (V.str wd :: vs ++ [u])) ht1
      refine ⟨t1, ps ++ [d], vs ++ [u], upd_same, rfl, Reps.append (r5.mono s5.ts) (reps_cons (rd.mono s5.ts) reps_nil), by simp [hpl], B5.mono s5, b5.to s5, fun j c' hj hc' => ?_⟩
      rcases Nat.lt_or_ge j i with q | q
      · obtain ⟨d', e1, e2⟩ := hps j c' q hc'
        refine ⟨d', by rw [List.getElem?_append_left (by omega)]; exact e1, ?_⟩
        rcases e2 with e2 | ⟨e2, args, f', tk, e3, e4⟩
        · exact .inl e2
        · have hl1 : 1 < ps.length := (List.getElem?_eq_some_iff.mp e3).1
          exact .inr ⟨e2, args, f', tk, by rw [List.getElem?_append_left hl1]; exact e3, e4⟩
      · have : j = i := by omega
        subst this
        rw [hc] at hc'
        cases hc'
        exact ⟨d, by rw [List.getElem?_append_right (by omega), hpl]; simp, hd _ rfl⟩
    walk_at "rd"
    refine ite_dd (fun hq => ?_) (fun hq => ?_)
    · obtain ⟨hi2, c1, hc1, hf⟩ := q_at tab hc hq
      obtain ⟨d1, ed1, g1⟩ := hps 1 c1 (by omega) hc1
      have g3 : ∃ n, d1 = .int n ∧ PartI boxes many sg.length ⟨#[c1]⟩ n := by
        rcases g1 with g1 | g1
        · exact g1.2
        · rw [hf] at g1
          exact absurd g1.1 (by decide)
      clear g1
      obtain ⟨n1, rfl, g1⟩ := g3
      have g2 := g1.2.2.1 hf
      obtain ⟨n1, rfl⟩ := Int.eq_ofNat_of_zero_le g2.1
      obtain ⟨u1, eu1, ru1⟩ := rps.get ed1
      obtain rfl := rep_int_inv ru1
      have hn1 : n1 < sg.length := by omega
      have esg : sg[n1]? = some sg[n1] := List.getElem?_eq_getElem hn1
      have rsx := rsg.mono (bx.ts Bg)
      obtain ⟨u2, eu2, ru2⟩ := rsx.get (i := n1) (d := pairD sg[n1]) (by rw [List.getElem?_map, esg]; rfl)
      have gk := SG.all _ (List.getElem_mem hn1)
      walk_at "rd"
      refine rd_ixaT hrt (v := .int n1) (atI_at (n := 2) rfl (by simpa using eu1)) ?_
      refine rd_ixaL hspx (atI_at (n := n1) rfl eu2) ?_
      walk_at "rd"
      refine rd_ixI (n := 0) ru2 rfl rfl ?_
      walk_at "rd"
      refine irK_of (by omega) (by omega) ?_
      refine cw_range (small_le (by omega)) (fun j ys σ Hy => (∃ x1, σ = [x1, some (.ref b), some (.int boxes)]) ∧ ∃ zs : List Int, ys = zs.map V.int ∧ zs.length = j ∧ (∀ z ∈ zs, 0 ≤ z ∧ z < boxes) ∧ BagAt Hy b l ∧ BSame b Hx Hy) ⟨⟨none, rfl⟩, [], rfl, rfl, by simp, Bx, BSame.refl _ _⟩ ?_ ?_
      · rintro j ys σ Hy hj hle hlt ⟨⟨x1, rfl⟩, zs, rfl, hz, hb, By, bY⟩
        walk_at "rd"
        refine use2 ⟨b, l, boxes, rfl, rfl, ⟨by omega, by omega⟩, By, fun r H2 g0 g1' B2 b2 => ?_⟩
        refine ⟨hlt, by simpa using hle, ⟨_, rfl⟩, zs ++ [r], by simp, by simp [hz], ?_, B2, bY.trans b2⟩
        intro z hz'
        rcases List.mem_append.mp hz' with hz' | hz'
        · exact hb z hz'
        · obtain rfl := List.mem_singleton.mp hz'
          exact ⟨g0, g1'⟩
      · rintro ys σ Hy hyl ⟨⟨x1, rfl⟩, zs, rfl, hz, hb, By, bY⟩ pa hpa
        have sa := Same.new (o := .lst (zs.map V.int)) hpa
        walk_at "rd"
        refine rd_tupL (SqL.of upd_same) fun t2 ht2 => ?_
        have sb := Same.new (o := .tup (zs.map V.int)) ht2
        walk_at "mk"; intro t3 ht3
        have sc := Same.new (o := .tup [V.ref t2]) ht3
        have hb' : ∀ xs, Hx rt = some xs → rt ≠ b := fun xs _ => by
          obtain ⟨zs', hb2⟩ := Bx.lst
          exact ne_of hrt hb2 (by intro z; cases z)
        have nrt := hb' _ hrt
        have h5 := ((sa.trans sb).trans sc) _ _ (bY _ _ nrt hrt)
        refine ⟨rt, t3, _, _, rfl, rfl, SqT.of h5, SqT.of upd_same, by simp, small_le (by simp; have : ls.cps.size ≤ 3 := le3 tab; have := (Array.getElem?_eq_some_iff.mp hc).1; omega), fun z => absurd z (by simp), fun _ t4 ht4 => ?_⟩
        walk_at "rd"
        obtain ⟨rt', ps', vs', q1, rfl, q2, q3, q4, q5, q6⟩ := more (.tup (zs.map D.int)) (.ref t2) _ t4 (rep_tup (sc _ _ upd_same) (reps_of_ints zs)) (fun c' ec => .inr ⟨by rw [ec]; exact hq, zs, n1, sg[n1], by rw [List.getElem?_append_left (by omega)]; exact ed1, esg, rfl, by omega, hb⟩)
          (((By.mono sa).mono sb).mono sc) ((bx.trans bY).to ((sa.trans sb).trans sc)) h5 ((rps.mono (bY.ts Bx)).mono ((sa.trans sb).trans sc).ts) ht4
        exact ⟨_, ps', vs', _, _, rfl, q1, q2, q3, q4, q5, q6⟩
    · walk_at "rd"
      refine use5 ⟨b, l, ⟨#[c]⟩, boxes, many, sp, xs, rfl, rfl, rfl, rfl, rfl, ⟨b0, b1⟩, ⟨m0, m1⟩, hspx, ⟨by have := SG.pos; omega, by have := SG.few; omega⟩, nsp, Bx, fun n H2 hn B2 b2 => ?_⟩
      walk_at "rd"
      walk_at "mk"; intro t3 ht3
      have sc := Same.new (o := .tup [V.int n]) ht3
      obtain ⟨zs', hb2⟩ := Bx.lst
      have nrt := ne_of hrt hb2 (by intro z; cases z)
      have h5 := sc _ _ (b2 _ _ nrt hrt)
      refine ⟨rt, t3, _, _, rfl, rfl, SqT.of h5, SqT.of upd_same, by simp, small_le (by simp; have : ls.cps.size ≤ 3 := le3 tab; have := (Array.getElem?_eq_some_iff.mp hc).1; omega), fun z => absurd z (by simp), fun _ t4 ht4 => ?_⟩
      walk_at "rd"
      rw [← xlen] at hn
      obtain ⟨rt', ps', vs', q1, rfl, q2, q3, q4, q5, q6⟩ := more (.int n) (.int n) _ t4 rep_int (fun c' ec => .inl ⟨by rw [ec]; exact hq, n, rfl, by rw [ec]; exact hn⟩) (B2.mono sc) ((bx.trans b2).to sc) h5 ((rps.mono (b2.ts Bx)).mono sc.ts) ht4
      exact ⟨_, ps', vs', _, _, rfl, q1, q2, q3, q4, q5, q6⟩
  · rintro σ Hx ⟨rt, ps, vs, x6, x7, rfl, hrt, rps, hpl, Bx, bx, hps⟩
    walk_at "rd"
    exact k ps _ _ ⟨tab, hpl, fun i c e => hps i c (Array.getElem?_eq_some_iff.mp e).1 e⟩ (rep_tup hrt (reps_cons (by rw [Rep]) rps)) Bx bx

def sp_rows : Sp := sp4 fun x1 x2 x3 x4 H Q => ∃ b l boxes many sp xs sg, x1 = .ref b ∧ x2 = .int boxes ∧ x3 = .int many ∧ x4 = .ref sp ∧ (1 ≤ boxes ∧ boxes ≤ 8) ∧ (1 ≤ many ∧ many ≤ 30) ∧ H sp = some (.lst xs) ∧ Reps H (sg.map pairD) xs ∧ SgOk sg ∧ sp ≠ b ∧ BagAt H b l ∧
  ∀ rs q ys H', RowsOk sg boxes many rs → H q = none → q ≠ b → q ≠ l → H' q = some (.lst ys) → Reps H' (rs.map rowD) ys → BagAt H' b l → BSame b H H' → Q (.ref q) H'
theorem sc__law_rows : FnScope ["bag", "boxes", "many", "signs", "rows", "k", "word"] ["bag", "boxes", "many", "signs"] (defScope s__law_rows) := ⟨rfl, rfl, rfl, by decide +kernel, rfl, by decide +kernel, by decide +kernel⟩
theorem c__law_rows (B : Blt mg) (T__law_rows : TopFn K mg "_law_rows" s__law_rows ["bag", "boxes", "many", "signs"]) (C_law_draw : Callee P w K mg base "_law_draw" 1 ["bag", "many"] sp_draw) (C_law_letters : Callee P w K mg base "_law_letters" 1 [] sp_letters)
    (C_law_row : Callee P w K mg base "_law_row" 4 ["bag", "word", "boxes", "many", "signs"] sp_row) : Callee P w K mg base "_law_rows" 5 ["bag", "boxes", "many", "signs"] sp_rows := by
  refine T__law_rows.ok4 sc__law_rows fun f cdv A outer s H v1 v2 v3 v4 Q E hr h => ?_
  have nd := sc__law_rows.nd
  obtain ⟨b, l, boxes, many, sp, xs, sg, rfl, rfl, rfl, rfl, ⟨b0, b1⟩, ⟨m0, m1⟩, hsp, rsg, SG, nsp, Bg, k⟩ := h
  refine' go_body [some (.ref b), some (.int boxes), some (.int many), some (.ref sp), none, none, none] rfl ?hb ?hg
  case hb =>
   refine' pss_cons ?zgm ?zgn
   case zgm => exact (ps_setL (i := 4) nd rfl (Or.inl rfl) (pe_lst pa_nil))
   case zgn =>
    refine' pss_cons ?zgo ?zgp
    case zgo =>
     refine' ps_for ?zgq ?zgr ?zgs ?zgt ?zgu
     case zgq => exact PassesOwn.never
     case zgr => exact rfl
     case zgs => exact (pi_range1 rfl B.b_range (pa_consB (pe_op op_sub (pv 2) pe_int) pa_nil))
     case zgt => exact (pg_name (i := 5) nd rfl (Or.inl rfl))
     case zgu =>
      refine' pss_cons ?zgv ?zgw
      case zgv =>
       refine' ps_setS (i := 6) ?zgx ?zgy ?zgz ?zha
       case zgx => exact nd
       case zgy => exact rfl
       case zgz => exact (Or.inl rfl)
       case zha =>
        refine' pe_ix ?zhb ?zhc ?zhd ?zhe
        case zhb => exact (k_ix (K := K) rfl)
        case zhc => exact (pe_callTy (call_listD rfl) (by rfl) B.b_list bt_list (pa_consC (pe_fn0 C_law_letters (hr.mono (by first | decide | omega)) (by rfl)) pa_nil))
        case zhd => exact (pe_fn C_law_draw (hr.mono (by first | decide | omega)) (by rfl) (pa_consN (pv 0) (pa_consK pe_int pa_nil)))
        case zhe => exact (fun _ _ => rfl)
      case zgw =>
       refine' pss_one ?zhf
       case zhf =>
        refine' ps_expr ?zhg
        case zhg =>
         refine' k_bm (K := K) ?zhh ?zhi ?zhj ?zhk ?zhl ?zhm ?zhn
         case zhh => exact rfl
         case zhi => exact PySem.F.plainAttrs_list
         case zhj => exact PySem.F.slot_list_append
         case zhk => exact PySem.F.type_list_append
         case zhl => exact mt_append
         case zhm => exact (pv 4)
         case zhn =>
          refine' pa_consC ?zho ?zhp
          case zho =>
           refine' pe_fn ?zhq ?zhr ?zhs ?zht
           case zhq => exact C_law_row
           case zhr => exact (hr.mono (by first | decide | omega))
           case zhs => exact (by rfl)
           case zht => exact (pa_consN (pv 0) (pa_consN (pv 6) (pa_consN (pv 1) (pa_consN (pv 2) (pa_consN (pv 3) pa_nil)))))
          case zhp => exact pa_nil
    case zgp =>
     refine' pss_cons ?zhu ?zhv
     case zhu =>
      refine' ps_expr ?zhw
      case zhw =>
       refine' k_bm (K := K) ?zhx ?zhy ?zhz ?zia ?zib ?zic ?zid
       case zhx => exact rfl
       case zhy => exact PySem.F.plainAttrs_list
       case zhz => exact PySem.F.slot_list_append
       case zia => exact PySem.F.type_list_append
       case zib => exact mt_append
       case zic => exact (pv 4)
       case zid =>
        refine' pa_consC ?zie ?zif
        case zie =>
         refine' pe_fn ?zig ?zih ?zii ?zij
         case zig => exact C_law_row
         case zih => exact (hr.mono (by first | decide | omega))
         case zii => exact (by rfl)
         case zij =>
          refine' pa_consN ?zik ?zil
          case zik => exact (pv 0)
          case zil =>
           refine' pa_consS ?zim ?zin
           case zim =>
            refine' pe_ix ?zio ?zip ?ziq ?zir
            case zio => exact (k_ix (K := K) rfl)
            case zip => exact (pe_lst (pa_consK pe_str (pa_consK pe_str pa_nil)))
            case ziq => exact (pe_fn C_law_draw (hr.mono (by first | decide | omega)) (by rfl) (pa_consN (pv 0) (pa_consK pe_int pa_nil)))
            case zir => exact (fun _ _ => rfl)
           case zin => exact (pa_consN (pv 1) (pa_consN (pv 2) (pa_consN (pv 3) pa_nil)))
        case zif => exact pa_nil
     case zhv => exact (pss_one (ps_ret (pv 4)))
  walk_at "rd"
  walk_at "mk"; intro q hq
  have s0 := Same.new (o := .lst []) hq
  have nqb : q ≠ b := fun z => (Bg.ne hq).1 z.symm
  have nql : q ≠ l := fun z => (Bg.ne hq).2 z.symm
  have nqs : sp ≠ q := ne_of_none hsp hq
  walk_at "rd"
  refine irK_of (by omega) (by omega) ?_
  refine for_range (n := (many - 1).toNat) (fun i σ Hx => ∃ rs ys x5 x6, σ = [some (.ref b), some (.int boxes), some (.int many), some (.ref sp), some (.ref q), x5, x6] ∧ Hx q = some (.lst ys) ∧ Reps Hx (rs.map rowD) ys ∧ rs.length = i ∧ (∀ r ∈ rs, RowOk sg boxes many r) ∧ BagAt Hx b l ∧ BSame b H Hx)
    ⟨[], [], none, none, rfl, upd_same, reps_nil, rfl, by simp, Bg.mono s0, (BSame.refl b H).to s0⟩ ?_ ?_
  · rintro i σ Hx hi ⟨rs, ys, x5, x6, rfl, hqx, rr, hl, ok, Bx, bx⟩
    have hyl := rr.length
    rw [List.length_map] at hyl
    walk_at "rd"
    refine use0 (b := fun H Q => ∀ p H', H p = none → H' p = some (.dK lettersKV) → Same H H' → Q (.ref p) H') fun pd H1 hpd hd s1 => ?_
    walk_at "rd"
    refine ⟨pd, lettersKV, rfl, hd, fun pl hpl => ?_⟩
    have s2 := Same.new (o := .lst (lettersKV.map fun q => kV q.1)) hpl
    have B2 := (Bx.mono s1).mono s2
    walk_at "rd"
    refine use2 ⟨b, l, 12, rfl, rfl, ⟨by decide, by decide⟩, B2, fun r H3 r0 r1 B3 b3 => ?_⟩
    have npl : pl ≠ b := fun z => ((Bx.mono s1).ne hpl).1 z.symm
    obtain ⟨r, rfl⟩ := Int.eq_ofNat_of_zero_le r0
    have hr12 : r < lettersL.length := by
      have : lettersL.length = 12 := rfl
      omega
    have ew : (lettersKV.map fun q => kV q.1)[r]? = some (V.str lettersL[r].1) := by
      unfold lettersKV
      rw [List.map_map, List.getElem?_map, List.getElem?_eq_getElem hr12]
      rfl
    refine rd_ixaL (b3 _ _ npl upd_same) (atI_at (n := r) rfl ew) ?_
    walk_at "rd"
    have hqx3 : H3 q = some (.lst ys) := b3 _ _ nqb ((s1.trans s2) _ _ hqx)
    refine ⟨.inl ⟨rfl, ys, SqL.of hqx3⟩, ?_⟩
    walk_at "rd"
    have bb : BSame b H H3 := (bx.to (s1.trans s2)).trans b3
    refine use5 ⟨b, l, lettersL[r].1, lettersL[r].2, boxes, many, sp, xs, sg, rfl, rfl, rfl, rfl, rfl, List.getElem_mem hr12, ⟨b0, by omega⟩, ⟨m0, by omega⟩, bb _ _ nsp hsp, rsg.mono (bb.ts Bg), SG, nsp, B3, fun ps v H4 g4 r4 B4 b4 => ?_⟩
    walk_at "rd"
    have hq4 := b4 _ _ nqb hqx3
    refine rd_append hq4 (Nat.lt_of_le_of_lt (show ys.length ≤ 1000 by omega) (by decide)) ?_
    walk_at "rd"
    have tw : TSame H4 (upd H4 q (.lst (ys ++ [v]))) := TSame.wr (fun zs z => by rw [hq4] at z; cases z)
    refine ⟨rs ++ [(lettersL[r].1, ps)], ys ++ [v], _, _, rfl, upd_same, ?_, by simp [hl], ?_, B4.wr (Ne.symm nqb) (Ne.symm nql), (bb.trans b4).wrNew hq⟩
    · rw [List.map_append]
      exact Reps.append ((((rr.mono (s1.trans s2).ts).mono (b3.ts B2)).mono (b4.ts B3)).mono tw) (reps_cons (r4.mono tw) reps_nil)
    · intro x hx
      rcases List.mem_append.mp hx with hx | hx
      · exact ok x hx
      · obtain rfl := List.mem_singleton.mp hx
        exact ⟨_, g4⟩
  · rintro σ Hx ⟨rs, ys, x5, x6, rfl, hqx, rr, hl, ok, Bx, bx⟩
    have hyl := rr.length
    rw [List.length_map] at hyl
    walk_at "rd"
    refine ⟨.inl ⟨rfl, ys, SqL.of hqx⟩, ?_⟩
    walk_at "rd"
    walk_at "mk"; intro pl hpl
    have s2 := Same.new (o := .lst [V.str "back", V.str "jump"]) hpl
    have B2 := Bx.mono s2
    walk_at "rd"
    refine use2 ⟨b, l, 2, rfl, rfl, ⟨by decide, by decide⟩, B2, fun r H3 r0 r1 B3 b3 => ?_⟩
    have npl : pl ≠ b := fun z => (Bx.ne hpl).1 z.symm
    obtain ⟨wd, ls, tab, hw, ew⟩ : ∃ wd ls, (wd, ls) ∈ lettersL ∧ (wd = "back" ∨ wd = "jump") ∧ atI [V.str "back", V.str "jump"] r = some (.str wd) := by
      rcases (show r = 0 ∨ r = 1 by omega) with rfl | rfl
      · exact ⟨"back", "p", by decide, .inl rfl, rfl⟩
      · exact ⟨"jump", "t", by decide, .inr rfl, rfl⟩
    refine rd_ixaL (b3 _ _ npl upd_same) ew ?_
    walk_at "rd"
    have bb : BSame b H H3 := (bx.to s2).trans b3
    have hqx3 : H3 q = some (.lst ys) := b3 _ _ nqb (s2 _ _ hqx)
    refine use5 ⟨b, l, wd, ls, boxes, many, sp, xs, sg, rfl, rfl, rfl, rfl, rfl, tab, ⟨b0, by omega⟩, ⟨m0, by omega⟩, bb _ _ nsp hsp, rsg.mono (bb.ts Bg), SG, nsp, B3, fun ps v H4 g4 r4 B4 b4 => ?_⟩
    walk_at "rd"
    have hq4 := b4 _ _ nqb hqx3
    refine rd_append hq4 (Nat.lt_of_le_of_lt (show ys.length ≤ 1000 by omega) (by decide)) ?_
    walk_at "rd"
    have tw : TSame H4 (upd H4 q (.lst (ys ++ [v]))) := TSame.wr (fun zs z => by rw [hq4] at z; cases z)
    refine k (rs ++ [(wd, ps)]) q (ys ++ [v]) _ ⟨by simp; omega, ?_, ⟨(wd, ps), by simp, hw⟩⟩ hq nqb nql upd_same ?_ (B4.wr (Ne.symm nqb) (Ne.symm nql)) ((bb.trans b4).wrNew hq)
    · intro x hx
      rcases List.mem_append.mp hx with hx | hx
      · exact ok x hx
      · obtain rfl := List.mem_singleton.mp hx
        exact ⟨_, g4⟩
    · rw [List.map_append]
      exact Reps.append ((((rr.mono s2.ts).mono (b3.ts B2)).mono (b4.ts B3)).mono tw) (reps_cons (r4.mono tw) reps_nil)
def sp_signs : Sp := sp2 fun x1 x2 H Q => ∃ b l many, x1 = .ref b ∧ x2 = .int many ∧ (1 ≤ many ∧ many ≤ 6) ∧ BagAt H b l ∧ ∀ sg q ys H', SgOk sg → (sg.length : Int) = many → H q = none → q ≠ b → q ≠ l → H' q = some (.lst ys) → Reps H' (sg.map pairD) ys → BagAt H' b l → BSame b H H' → Q (.ref q) H'
theorem sc__law_signs : FnScope ["bag", "many", "signs", "k", "boxes"] ["bag", "many"] (defScope s__law_signs) := ⟨rfl, rfl, rfl, by decide +kernel, rfl, by decide +kernel, by decide +kernel⟩
theorem c__law_signs (B : Blt mg) (T__law_signs : TopFn K mg "_law_signs" s__law_signs ["bag", "many"]) (C_law_draw : Callee P w K mg base "_law_draw" 1 ["bag", "many"] sp_draw) : Callee P w K mg base "_law_signs" 2 ["bag", "many"] sp_signs := by
  refine T__law_signs.ok2 sc__law_signs fun f cdv A outer s H v1 v2 Q E hr h => ?_
  have nd := sc__law_signs.nd
  obtain ⟨b, l, many, rfl, rfl, ⟨m0, m1⟩, Bg, k⟩ := h
  refine' go_body [some (.ref b), some (.int many), none, none, none] rfl ?hb ?hg
  case hb =>
   refine' pss_cons ?zis ?zit
   case zis =>
    refine' ps_setL (i := 2) ?ziu ?ziv ?ziw ?zix
    case ziu => exact nd
    case ziv => exact rfl
    case ziw => exact (Or.inl rfl)
    case zix =>
     refine' pe_lst ?ziy
     case ziy =>
      refine' pa_consT ?ziz ?zja
      case ziz =>
       refine' pe_tup ?zjb
       case zjb =>
        refine' pa_consK ?zjc ?zjd
        case zjc => exact pe_int
        case zjd => exact (pa_consB (pe_op op_add pe_int (pe_fn C_law_draw (hr.mono (by first | decide | omega)) (by rfl) (pa_consN (pv 0) (pa_consK pe_int pa_nil)))) pa_nil)
      case zja => exact pa_nil
   case zit =>
    refine' pss_cons ?zje ?zjf
    case zje =>
     refine' ps_for ?zjg ?zjh ?zji ?zjj ?zjk
     case zjg => exact PassesOwn.never
     case zjh => exact rfl
     case zji => exact (pi_range1 rfl B.b_range (pa_consB (pe_op op_sub (pv 1) pe_int) pa_nil))
     case zjj => exact (pg_name (i := 3) nd rfl (Or.inl rfl))
     case zjk =>
      refine' pss_cons ?zjl ?zjm
      case zjl =>
       refine' ps_setB (i := 4) ?zjn ?zjo ?zjp ?zjq
       case zjn => exact nd
       case zjo => exact rfl
       case zjp => exact (Or.inl rfl)
       case zjq => exact (pe_op op_add pe_int (pe_fn C_law_draw (hr.mono (by first | decide | omega)) (by rfl) (pa_consN (pv 0) (pa_consK pe_int pa_nil))))
      case zjm =>
       refine' pss_one ?zjr
       case zjr =>
        refine' ps_expr ?zjs
        case zjs =>
         refine' k_bm (K := K) ?zjt ?zju ?zjv ?zjw ?zjx ?zjy ?zjz
         case zjt => exact rfl
         case zju => exact PySem.F.plainAttrs_list
         case zjv => exact PySem.F.slot_list_append
         case zjw => exact PySem.F.type_list_append
         case zjx => exact mt_append
         case zjy => exact (pv 2)
         case zjz =>
          refine' pa_consT ?zka ?zkb
          case zka =>
           refine' pe_tup ?zkc
           case zkc =>
            refine' pa_consC ?zkd ?zke
            case zkd =>
             refine' pe_fn ?zkf ?zkg ?zkh ?zki
             case zkf => exact C_law_draw
             case zkg => exact (hr.mono (by first | decide | omega))
             case zkh => exact (by rfl)
             case zki =>
              refine' pa_consN ?zkj ?zkk
              case zkj => exact (pv 0)
              case zkk => exact (pa_consB (pe_op op_add (pe_callB (call_min' rfl) (by rfl) B.b_min bt_min (pa_consK pe_int (pa_consN (pv 4) pa_nil))) pe_int) pa_nil)
            case zke => exact (pa_consN (pv 4) pa_nil)
          case zkb => exact pa_nil
    case zjf => exact (pss_one (ps_ret (pv 2)))
  walk_at "rd"
  refine use2 ⟨b, l, 8, rfl, rfl, ⟨by decide, by decide⟩, Bg, fun bx H1 x0 x1 B1 b1 => ?_⟩
  walk_at "rd"
  walk_at "mk"; intro t1 ht1
  have s1 := Same.new (o := .tup [V.int 0, V.int (1 + bx)]) ht1
  walk_at "mk"; intro q hq
  have s2 := Same.new (o := .lst [V.ref t1]) hq
  have B2 := (B1.mono s1).mono s2
  have nqb : q ≠ b := fun z => ((B1.mono s1).ne hq).1 z.symm
  have nql : q ≠ l := fun z => ((B1.mono s1).ne hq).2 z.symm
  have hqH : H q = none := (b1.to s1).free nqb hq
  walk_at "rd"
  refine irK_of (by omega) (by omega) ?_
  refine for_range (n := (many - 1).toNat) (fun i σ Hx => ∃ sg ys x3 x4, σ = [some (.ref b), some (.int many), some (.ref q), x3, x4] ∧ Hx q = some (.lst ys) ∧ Reps Hx (sg.map pairD) ys ∧ sg.length = i + 1 ∧ (∃ bx, sg[0]? = some (0, bx)) ∧ (∀ q ∈ sg, 0 ≤ q.1 ∧ q.1 ≤ 4 ∧ q.1 ≤ q.2 ∧ 1 ≤ q.2 ∧ q.2 ≤ 8) ∧ BagAt Hx b l ∧ BSame b H Hx)
    ⟨[(0, 1 + bx)], [V.ref t1], none, none, rfl, upd_same, reps_cons (rep_tup (s2 _ _ upd_same) (reps_cons rep_int (reps_cons rep_int reps_nil))) reps_nil, rfl, ⟨_, rfl⟩, by intro q hq; obtain rfl := List.mem_singleton.mp hq; dsimp only; omega, B2, (b1.to s1).to s2⟩ ?_ ?_
  · rintro i σ Hx hi ⟨sg, ys, x3, x4, rfl, hqx, rr, hl, h0, ok, Bx, bx⟩
    have hyl := rr.length
    rw [List.length_map] at hyl
    walk_at "rd"
    refine use2 ⟨b, l, 8, rfl, rfl, ⟨by decide, by decide⟩, Bx, fun bn H3 y0 y1 B3 b3 => ?_⟩
    walk_at "rd"
    have hqx3 : H3 q = some (.lst ys) := b3 _ _ nqb hqx
    refine ⟨.inl ⟨rfl, ys, SqL.of hqx3⟩, ?_⟩
    walk_at "rd"
    generalize hmn : (if 1 + bn < 4 then 1 + bn else 4) = mn
    have hmn2 : 1 ≤ mn ∧ mn ≤ 4 ∧ mn ≤ 1 + bn := by rw [← hmn]; split <;> omega
    refine use2 ⟨b, l, mn + 1, rfl, rfl, ⟨by omega, by omega⟩, B3, fun tk H4 z0 z1 B4 b4 => ?_⟩
    walk_at "rd"
    walk_at "mk"; intro t2 ht2
    have s4 := Same.new (o := .tup [V.int tk, V.int (1 + bn)]) ht2
    have hq4 := s4 _ _ (b4 _ _ nqb hqx3)
    walk_at "rd"
    refine rd_append hq4 (Nat.lt_of_le_of_lt (show ys.length ≤ 1000 by omega) (by decide)) ?_
    walk_at "rd"
    have tw : TSame (upd H4 t2 (.tup [V.int tk, V.int (1 + bn)])) (upd (upd H4 t2 (.tup [V.int tk, V.int (1 + bn)])) q (.lst (ys ++ [V.ref t2]))) := TSame.wr (fun zs z => by rw [hq4] at z; cases z)
    refine ⟨sg ++ [(tk, 1 + bn)], ys ++ [V.ref t2], _, _, rfl, upd_same, ?_, by simp [hl], ?_, ?_, (B4.mono s4).wr (Ne.symm nqb) (Ne.symm nql), (((bx.trans b3).trans b4).to s4).wrNew hqH⟩
    · rw [List.map_append]
      exact Reps.append ((((rr.mono (b3.ts Bx)).mono (b4.ts B3)).mono s4.ts).mono tw) (reps_cons ((rep_tup upd_same (reps_cons rep_int (reps_cons rep_int reps_nil)) : Rep _ (pairD (tk, 1 + bn)) (.ref t2)).mono tw) reps_nil)
    · obtain ⟨bx0, h0⟩ := h0
      exact ⟨bx0, by rw [List.getElem?_append_left (by omega)]; exact h0⟩
    · intro x hx
      rcases List.mem_append.mp hx with hx | hx
      · exact ok x hx
      · obtain rfl := List.mem_singleton.mp hx
        dsimp only
        omega
  · rintro σ Hx ⟨sg, ys, x3, x4, rfl, hqx, rr, hl, h0, ok, Bx, bx⟩
    walk_at "rd"
    exact k sg q ys _ ⟨by omega, by omega, h0, ok⟩ (by omega) hqH nqb nql hqx rr Bx bx
def sp_program : Sp := sp1 fun x1 H Q => ∃ b l, x1 = .ref b ∧ BagAt H b l ∧ ∀ sg ds q vs H', ProgOk sg ds → H q = none → q ≠ b → q ≠ l → H' q = some (.lst vs) → DefsAt [b, q] H' ds vs → BagAt H' b l → BSame b H H' → Q (.ref q) H'
theorem sc__law_program : FnScope ["bag", "big", "many", "signs", "program", "takes", "boxes", "size"] ["bag"] (defScope s__law_program) := ⟨rfl, rfl, rfl, by decide +kernel, rfl, by decide +kernel, by decide +kernel⟩
theorem c__law_program (B : Blt mg) (T__law_program : TopFn K mg "_law_program" s__law_program ["bag"]) (C_law_draw : Callee P w K mg base "_law_draw" 1 ["bag", "many"] sp_draw) (C_law_signs : Callee P w K mg base "_law_signs" 2 ["bag", "many"] sp_signs)
    (C_law_rows : Callee P w K mg base "_law_rows" 5 ["bag", "boxes", "many", "signs"] sp_rows) : Callee P w K mg base "_law_program" 6 ["bag"] sp_program := by
  refine T__law_program.ok1 sc__law_program fun f cdv A outer s H v1 Q E hr h => ?_
  have nd := sc__law_program.nd
  obtain ⟨b, l, rfl, Bg, k⟩ := h
  refine' go_body [some (.ref b), none, none, none, none, none, none, none] rfl ?hb ?hg
  case hb =>
   refine' pss_cons ?zkl ?zkm
   case zkl => exact (ps_setC (i := 1) nd rfl (Or.inl rfl) (pe_fn C_law_draw (hr.mono (by first | decide | omega)) (by rfl) (pa_consN (pv 0) (pa_consK pe_int pa_nil))))
   case zkm =>
    refine' pss_cons ?zkn ?zko
    case zkn =>
     refine' ps_setB (i := 2) ?zkp ?zkq ?zkr ?zks
     case zkp => exact nd
     case zkq => exact rfl
     case zkr => exact (Or.inl rfl)
     case zks => exact (pe_op op_add pe_int (pe_fn C_law_draw (hr.mono (by first | decide | omega)) (by rfl) (pa_consN (pv 0) (pa_consK pe_int pa_nil))))
    case zko =>
     refine' pss_cons ?zkt ?zku
     case zkt =>
      refine' ps_if ?zkv ?zkw ?zkx
      case zkv => exact (pt_cmpR op_eq (pv 1) pe_int (nomark _))
      case zkw =>
       refine' pss_one ?zky
       case zky =>
        refine' ps_setB (i := 2) ?zkz ?zla ?zlb ?zlc
        case zkz => exact nd
        case zla => exact rfl
        case zlb => exact (Or.inl rfl)
        case zlc => exact (pe_op op_add pe_int (pe_fn C_law_draw (hr.mono (by first | decide | omega)) (by rfl) (pa_consN (pv 0) (pa_consK pe_int pa_nil))))
      case zkx => exact pss_nil
     case zku =>
      refine' pss_cons ?zld ?zle
      case zld => exact (ps_setC (i := 3) nd rfl (Or.inl rfl) (pe_fn C_law_signs (hr.mono (by first | decide | omega)) (by rfl) (pa_consN (pv 0) (pa_consN (pv 2) pa_nil))))
      case zle =>
       refine' pss_cons ?zlf ?zlg
       case zlf => exact (ps_setL (i := 4) nd rfl (Or.inl rfl) (pe_lst pa_nil))
       case zlg =>
        refine' pss_cons ?zlh ?zli
        case zlh =>
         refine' ps_for ?zlj ?zlk ?zll ?zlm ?zln
         case zlj => exact PassesOwn.never
         case zlk => exact rfl
         case zll => exact (k_pi_list (K := K) rfl (pv 3))
         case zlm => exact (k_pg_tup (K := K) (n := 2) rfl rfl (pgs_cons (pg_name (i := 5) nd rfl (Or.inl rfl)) (pgs_cons (pg_name (i := 6) nd rfl (Or.inl rfl)) pgs_nil)))
         case zln =>
          refine' pss_cons ?zlo ?zlp
          case zlo =>
           refine' ps_setB (i := 7) ?zlq ?zlr ?zls ?zlt
           case zlq => exact nd
           case zlr => exact rfl
           case zls => exact (Or.inl rfl)
           case zlt =>
            refine' pe_op ?zlu ?zlv ?zlw
            case zlu => exact op_add
            case zlv => exact (pe_op op_add pe_int (pe_fn C_law_draw (hr.mono (by first | decide | omega)) (by rfl) (pa_consN (pv 0) (pa_consK pe_int pa_nil))))
            case zlw =>
             refine' pe_op ?zlx ?zly ?zlz
             case zlx => exact op_fdivB
             case zly => exact (pe_callB (k_len (K := K) rfl) (by rfl) B.b_len bt_len (pa_consS (pe_ix (k_ix (K := K) rfl) (pv 0) pe_int (fun _ _ => rfl)) pa_nil))
             case zlz => exact pe_int
          case zlp =>
           refine' pss_cons ?zma ?zmb
           case zma =>
            refine' ps_if ?zmc ?zmd ?zme
            case zmc =>
             refine' PW.pt ?zmf
             case zmf =>
              refine' pw_or ?zmg ?zmh
              case zmg => exact (pt_cmpR op_eq (pv 1) pe_int (nomark _))
              case zmh =>
               refine' pw_or1 ?zmi
               case zmi =>
                refine' PW.pt ?zmj
                case zmj =>
                 refine' pw_and ?zmk ?zml
                 case zmk => exact (pt_cmpR op_eq (pv 1) pe_int (nomark _))
                 case zml =>
                  refine' pw_and1 ?zmm
                  case zmm => exact (pt_cmpR op_eq (pe_fn C_law_draw (hr.mono (by first | decide | omega)) (by rfl) (pa_consN (pv 0) (pa_consK pe_int pa_nil))) pe_int (nomark _))
            case zmd =>
             refine' pss_one ?zmn
             case zmn =>
              refine' ps_setB (i := 7) ?zmo ?zmp ?zmq ?zmr
              case zmo => exact nd
              case zmp => exact rfl
              case zmq => exact (Or.inl rfl)
              case zmr => exact (pe_op op_add pe_int (pe_fn C_law_draw (hr.mono (by first | decide | omega)) (by rfl) (pa_consN (pv 0) (pa_consK pe_int pa_nil))))
            case zme => exact pss_nil
           case zmb =>
            refine' pss_one ?zms
            case zms =>
             refine' ps_expr ?zmt
             case zmt =>
              refine' k_bm (K := K) ?zmu ?zmv ?zmw ?zmx ?zmy ?zmz ?zna
              case zmu => exact rfl
              case zmv => exact PySem.F.plainAttrs_list
              case zmw => exact PySem.F.slot_list_append
              case zmx => exact PySem.F.type_list_append
              case zmy => exact mt_append
              case zmz => exact (pv 4)
              case zna =>
               refine' pa_consT ?znb ?znc
               case znb =>
                refine' pe_tup ?znd
                case znd =>
                 refine' pa_consN ?zne ?znf
                 case zne => exact (pv 5)
                 case znf =>
                  refine' pa_consN ?zng ?znh
                  case zng => exact (pv 6)
                  case znh =>
                   refine' pa_consC ?zni ?znj
                   case zni => exact (pe_fn C_law_rows (hr.mono (by first | decide | omega)) (by rfl) (pa_consN (pv 0) (pa_consN (pv 6) (pa_consN (pv 7) (pa_consN (pv 3) pa_nil)))))
                   case znj => exact pa_nil
               case znc => exact pa_nil
        case zli => exact (pss_one (ps_ret (pv 4)))
  walk_at "rd"
  refine use2 ⟨b, l, 8, rfl, rfl, ⟨by decide, by decide⟩, Bg, fun big H1 g0 g1 B1 b1 => ?_⟩
  walk_at "rd"
  refine use2 ⟨b, l, 3, rfl, rfl, ⟨by decide, by decide⟩, B1, fun m3 H2 h0 h1 B2 b2 => ?_⟩
  refine rd_I0 (rd_gname ?_)
  dsimp only
  refine rd_meet (fun σ Hx => ∃ many, σ = [some (.ref b), some (.int big), some (.int many), none, none, none, none, none] ∧ 1 ≤ many ∧ many ≤ 6 ∧ BagAt Hx b l ∧ BSame b H Hx) ?rest ?two
  case two =>
    intro N hN
    walk_at "rd"
    refine ite_dd (fun _ => ?_) (fun _ => ?_)
    · walk_at "rd"
      refine use2 ⟨b, l, 6, rfl, rfl, ⟨by decide, by decide⟩, B2, fun m6 H3 i0 i1 B3 b3 => ?_⟩
      walk_at "rd"
      exact hN _ _ ⟨1 + m6, rfl, by omega, by omega, B3, (b1.trans b2).trans b3⟩
    · walk_at "rd"
      exact hN _ _ ⟨1 + m3, rfl, by omega, by omega, B2, b1.trans b2⟩
  case rest =>
    rintro σ Hx ⟨many, rfl, m0, m1, Bx, bx⟩
    walk_at "rd"
    refine use2 ⟨b, l, many, rfl, rfl, ⟨m0, m1⟩, Bx, fun sg sq ys H3 SG sgl hsq nsb nsl hs3 r3 B3 b3 => ?_⟩
    walk_at "rd"
    walk_at "mk"; intro q hq
    have s3 := Same.new (o := .lst []) hq
    have nqb : q ≠ b := fun z => (B3.ne hq).1 z.symm
    have nql : q ≠ l := fun z => (B3.ne hq).2 z.symm
    have bb3 : BSame b H H3 := bx.trans b3
    have hqH : H q = none := bb3.free nqb hq
    have nsq : sq ≠ q := ne_of_none hs3 hq
    have hsl := r3.length
    rw [List.length_map] at hsl
    walk_at "rd"
    refine ilK_of (SqL.of (s3 _ _ hs3)) ?_
    refine for_list (xs := ys) (fun i σ Hy => ∃ ds vs x5 x6 x7, σ = [some (.ref b), some (.int big), some (.int many), some (.ref sq), some (.ref q), x5, x6, x7] ∧ Hy q = some (.lst vs) ∧ DefsAt [b, q] Hy ds vs ∧ Hy sq = some (.lst ys) ∧ Reps Hy (sg.map pairD) ys ∧ ds.map (fun d => (d.1, d.2.1)) = sg.take i ∧
        (∀ d ∈ ds, ∃ many, 1 ≤ many ∧ many ≤ 30 ∧ RowsOk sg d.2.1 many d.2.2) ∧ BagAt Hy b l ∧ BSame b H Hy)
      ⟨[], [], none, none, none, rfl, upd_same, rfl, s3 _ _ hs3, r3.mono s3.ts, rfl, by simp, B3.mono s3, bb3.to s3⟩ (fun i σ Hy _ ⟨_, _, _, _, _, _, _, _, e, _⟩ => SqL.of e) ?_ ?_
    · rintro i x σ Hy hx ⟨ds, vs, x5, x6, x7, rfl, hqy, da, hsy, ry, hm, ok, By, bY⟩
      obtain ⟨d, ed, rd⟩ := ry.get' hx
      rw [List.getElem?_map] at ed
      obtain ⟨p, ep, rfl⟩ := Option.map_eq_some_iff.mp ed
      have pok := SG.all p (List.mem_of_getElem? ep)
      obtain ⟨tp, zs, rfl, htp, rz⟩ := rep_tup_inv rd
      obtain ⟨u1, r1, rfl, e1, rz⟩ := reps_cons_inv rz
      obtain ⟨u2, r2, rfl, e2, rz⟩ := reps_cons_inv rz
      obtain rfl := reps_nil_inv rz
      obtain rfl := rep_int_inv e1
      obtain rfl := rep_int_inv e2
      refine rd_gtup htp rfl ?_
      walk_at "rd"
      refine use2 ⟨b, l, 5, rfl, rfl, ⟨by decide, by decide⟩, By, fun z H4 z0 z1 B4 b4 => ?_⟩
      obtain ⟨cs, ci, cm, cst, cc, hb4, hl4, _, _, _, _, hcs⟩ := B4.ex
      walk_at "rd"
      refine rd_ixaL (v := .ref l) hb4 rfl ?_
      walk_at "rd"
      refine rd_lenL' (SqL.of hl4) ?_
      walk_at "rd"
      refine rd_I (cdivb_of (by decide) (by decide +kernel)) ?_
      rw [List.length_map]
      refine rd_I0 (rd_gname ?_)
      have hdl := da.length
      dsimp only
      refine rd_meet (fun σ Hz => ∃ size, σ = [some (.ref b), some (.int big), some (.int many), some (.ref sq), some (.ref q), some (.int p.1), some (.int p.2), some (.int size)] ∧ 1 ≤ size ∧ size ≤ 30 ∧ BagAt Hz b l ∧ BSame b Hy Hz) ?rest2 ?two2
      case two2 =>
        intro N hN
        have one : ∀ Hw, BagAt Hw b l → BSame b Hy Hw → N [some (.ref b), some (.int big), some (.int many), some (.ref sq), some (.ref q), some (.int p.1), some (.int p.2), some (.int (1 + z + (cs.length : Int) / 8))] Hw := fun Hw Bw bw => hN _ _ ⟨_, rfl, by omega, by omega, Bw, bw⟩
        walk_at "rd"
        refine ite_dd (fun _ => ?_) (fun _ => ?_)
        · walk_at "rd"
          refine use2 ⟨b, l, 30, rfl, rfl, ⟨by decide, by decide⟩, B4, fun t H5 t0 t1 B5 b5 => ?_⟩
          walk_at "rd"
          exact hN _ _ ⟨1 + t, rfl, by omega, by omega, B5, b4.trans b5⟩
        · walk_at "rd"
          refine ite_dd (fun _ => ?_) (fun _ => ?_)
          · walk_at "rd"
            refine use2 ⟨b, l, 4, rfl, rfl, ⟨by decide, by decide⟩, B4, fun u H5 u0 u1 B5 b5 => ?_⟩
            walk_at "rd"
            refine ite_dd (fun _ => ?_) (fun _ => ?_)
            · walk_at "rd"
              refine use2 ⟨b, l, 30, rfl, rfl, ⟨by decide, by decide⟩, B5, fun t H6 t0 t1 B6 b6 => ?_⟩
              walk_at "rd"
              exact hN _ _ ⟨1 + t, rfl, by omega, by omega, B6, (b4.trans b5).trans b6⟩
            · walk_at "rd"
              exact one _ B5 (b4.trans b5)
          · walk_at "rd"
            exact one _ B4 b4
      case rest2 =>
        rintro σ Hz ⟨size, rfl, y0, y1, Bz, bz⟩
        have hqz := bz _ _ nqb hqy
        walk_at "rd"
        refine ⟨.inl ⟨rfl, vs, SqL.of hqz⟩, ?_⟩
        walk_at "rd"
        refine use4 ⟨b, l, p.2, size, sq, ys, sg, rfl, rfl, rfl, rfl, ⟨by omega, by omega⟩, ⟨y0, y1⟩, bz _ _ nsb hsy, ry.mono (bz.ts By), SG, nsb, Bz, fun rs rq zs H5 R5 hrq nrb nrl h5 rr5 B5 b5 => ?_⟩
        walk_at "rd"
        walk_at "mk"; intro t5 ht5
        have s5 := Same.new (o := .tup [V.int p.1, V.int p.2, V.ref rq]) ht5
        have hq5 := s5 _ _ (b5 _ _ nqb hqz)
        walk_at "rd"
        refine rd_append hq5 (Nat.lt_of_le_of_lt (show vs.length ≤ 1000 by have := congrArg List.length hm; simp at this; have := SG.few; omega) (by decide)) ?_
        walk_at "rd"
        have nrq : rq ≠ q := fun e => by rw [e, hqz] at hrq; cases hrq
        have d5 : DefsAt [b, q] _ ds vs := ((((da.bs bz By (by simp)).bs b5 Bz (by simp)).mono s5).wr (o := .lst (vs ++ [V.ref t5])) (by simp) hq5)
        have tw : TSame (upd H5 t5 (.tup [V.int p.1, V.int p.2, V.ref rq])) (upd (upd H5 t5 (.tup [V.int p.1, V.int p.2, V.ref rq])) q (.lst (vs ++ [V.ref t5]))) := TSame.wr (fun zs z => by rw [hq5] at z; cases z)
        have nsq5 : sq ≠ q := nsq
        refine ⟨ds ++ [(p.1, p.2, rs)], vs ++ [V.ref t5], _, _, _, rfl, upd_same, d5.append ⟨_, _, rfl, ⟨t5, rq, zs, rfl, tw _ _ upd_same, ?_, ?_, (rr5.mono s5.ts).mono tw⟩, rfl⟩, ?_, ?_, ?_, ?_, ?_, ?_⟩
        · rw [upd_ne nrq]
          exact s5 _ _ h5
        · simp only [List.mem_cons, List.not_mem_nil, or_false, not_or]
          exact ⟨nrb, nrq⟩
        · rw [upd_ne nsq5]
          exact s5 _ _ (b5 _ _ nsb (bz _ _ nsb hsy))
        · exact (((ry.mono (bz.ts By)).mono (b5.ts Bz)).mono s5.ts).mono tw
        · rw [List.map_append, hm, List.take_add_one, ep]
          rfl
        · intro d hd
          rcases List.mem_append.mp hd with hd | hd
          · exact ok d hd
          · obtain rfl := List.mem_singleton.mp hd
            exact ⟨size, y0, y1, R5⟩
        · exact (B5.mono s5).wr (Ne.symm nqb) (Ne.symm nql)
        · exact (((bY.trans bz).trans b5).to s5).wrNew hqH
    · rintro σ Hy ⟨ds, vs, x5, x6, x7, rfl, hqy, da, hsy, ry, hm, ok, By, bY⟩
      walk_at "rd"
      rw [← hsl, List.take_length] at hm
      exact k sg ds q vs _ ⟨SG, hm, ok⟩ hqH nqb nql hqy da By bY

end
end My

end
section
set_option Elab.async false
set_option linter.all false
set_option maxRecDepth 100000
set_option maxHeartbeats 4000000

namespace My
open PySem L2
local macro_rules | `(tactic| walk_at "rd1") => `(tactic| (first | ((with_reducible refine' rd_var ?e ?_); (case e => exact rfl)) | with_reducible refine rd_c ?_ | with_reducible refine rd_op ?_ | with_reducible refine rd_un ?_ | with_reducible refine rd_seq ?_ | with_reducible refine rd_asg ?_ | with_reducible refine rd_gname ?_ | with_reducible refine rd_ret ?_ | with_reducible refine rd_drop ?_ | with_reducible refine rd_next ?_ | with_reducible refine rd_if ?_ | with_reducible refine rd_test ?_ | with_reducible refine rd_tb ?_ | with_reducible refine rd_and ?_ | with_reducible refine rd_or ?_ | with_reducible refine rd_not ?_ | with_reducible refine rd_true ?_ | with_reducible refine rd_andV ?_ | with_reducible refine rd_orV ?_ | with_reducible refine rd_notV ?_ | with_reducible refine rd_ifE ?_ | with_reducible refine rd_chain ?_ | with_reducible refine rd_nil ?_ | with_reducible refine rd_cons ?_ | with_reducible refine rd_cb ?_ | with_reducible refine rd_call ?_ | with_reducible refine rd_I0 ?_ | with_reducible refine rd_U ?_ | with_reducible refine rd_eqI ?_ | with_reducible refine rd_neI ?_ | with_reducible refine rd_eqS ?_ | with_reducible refine rd_neS ?_ | with_reducible refine rd_eqB ?_ | with_reducible refine rd_neB ?_ | with_reducible refine rd_bl ?_ | with_reducible refine rd_int ?_ | with_reducible refine rd_tup ?_ | with_reducible refine rd_lst ?_ | with_reducible refine rd_gsub ?_ | with_reducible refine rd_slice ?_ | with_reducible refine rd_nopart ?_ | with_reducible refine rd_part ?_ | with_reducible refine rd_bm ?_ | with_reducible refine rd_bm0 ?_ | with_reducible refine rd_comp ?_ | with_reducible refine rd_itup ?_ | with_reducible refine rd_ilist ?_ | with_reducible refine rd_irng ?_ | with_reducible refine rd_gcons ?_ | with_reducible refine rd_gnil ?_ | with_reducible refine rd_for ?_ | with_reducible refine rd_abs ?_ | with_reducible refine rd_max ?_ | with_reducible refine rd_min ?_ | with_reducible refine rd_intB ?_ | with_reducible refine rd_dput ?_ | with_reducible refine rd_dget2 ?_ | with_reducible refine rd_dget ?_ | with_reducible refine rd_fld ?_ | with_reducible refine rd_sfld ?_ | with_reducible refine rd_meth ?_ | with_reducible refine rd_make ?_ | with_reducible refine rd_isN ?_ | with_reducible refine rd_notN ?_ | with_reducible refine rd_izip ?_ | with_reducible refine rd_izipT ?_ | with_reducible refine rd_pcons ?_ | with_reducible refine rd_pnil ?_ | with_reducible refine rd_dget1 ?_ | with_reducible refine rd_cdget ?_ | with_reducible refine iteNT ?_ | with_reducible refine iteNF ?_ | with_reducible refine iteF ?_ | with_reducible refine iteT ?_))
local macro_rules | `(tactic| walk_at "rd") => `(tactic| (repeat walk_at "rd1"))
local macro_rules | `(tactic| walk_at "mk") => `(tactic| refine ⟨mk_le rfl, ?_⟩)

section
variable {P : Program} {w : World} {K : PySem.W.Frag} {mg : Str → Option Value} {base : Heap}
theorem _root_.L2.DefsAt.free {av : List Addr} {H : Hp} : ∀ {ds : List PDef} {vs : List V}, DefsAt av H ds vs → DefsAt [] H ds vs
  | [], _, h => h
  | _ :: _, _, ⟨v, r, e, ⟨t, q, ys, e1, h1, h2, _, h3⟩, hr⟩ => ⟨v, r, e, ⟨t, q, ys, e1, h1, h2, List.not_mem_nil, h3⟩, L2.DefsAt.free hr⟩
theorem pgB_D {m L : Nat} {ds : List PDef} (h : PgB m L ds) (hm : m ≤ 1000) (hL : L ≤ 1000) (hl : ds.length ≤ 1000) : PgD ds :=
  ⟨hl, fun d hd => Nat.le_trans (h d hd).1 hL, fun d hd r hr => ⟨Nat.le_trans ((h d hd).2 r hr).n hm, rowB_D ((h d hd).2 r hr) hm⟩⟩
theorem letters_look {wd ls : Str} (h : (wd, ls) ∈ lettersL) : lettersL.lookup wd = some ls := by
  have hk : ∀ q ∈ lettersL, lettersL.lookup q.1 = some q.2 := by decide +kernel
  exact hk _ h
theorem parts_look {wd ls : Str} (h : (wd, ls) ∈ lettersL) : partsT.lookup wd = some (kindsOf ls) := by
  rw [parts_map, look_map, letters_look h]
  rfl
theorem letters_w {wd ls : Str} (h : (wd, ls) ∈ lettersL) : wd.length ≤ 10 := by
  have hk : ∀ q ∈ lettersL, q.1.length ≤ 10 := by decide +kernel
  exact hk _ h
theorem letters_call {ls : Str} (h : (("call" : Str), ls) ∈ lettersL) : ls = "pfq" := by
  have hk : ∀ q ∈ lettersL, q.1 = "call" → q.2 = "pfq" := by decide +kernel
  exact hk _ h rfl
theorem part_fits_of {sg : List (Int × Int)} {bx rw : Int} {ps : List D} {c : Str} {d : D} (hc : c ∈ ltrs) (h : PartG sg bx rw ps c d) : partFits bx rw sg.length (kindOf c) d = true := by
  rcases h with ⟨hq, n, rfl, hp⟩ | ⟨rfl, args, f, tk, _, _, rfl, _, hb⟩
  · simp only [ltrs, List.mem_cons, List.not_mem_nil, or_false] at hc
    rcases hc with rfl | rfl | rfl | rfl | rfl | rfl
    · have := hp.1 rfl
      rw [show partFits bx rw sg.length (kindOf "p") (.int n) = (true && (decide (0 ≤ n) && decide (n < bx))) from rfl]
      simp [this]
    · rfl
    · have := hp.2.2.2.1 rfl
      rw [show partFits bx rw sg.length (kindOf "c") (.int n) = (true && (decide (-99 ≤ n) && decide (n ≤ 99))) from rfl]
      simp [this]
    · have := hp.2.1 rfl
      rw [show partFits bx rw sg.length (kindOf "t") (.int n) = (true && (decide (0 ≤ n) && decide (n < rw))) from rfl]
      simp [this]
    · have := hp.2.2.1 rfl
      rw [show partFits bx rw sg.length (kindOf "f") (.int n) = (true && (decide (0 ≤ n) && decide (n < (sg.length : Int)))) from rfl]
      simp [this]
    · exact absurd rfl hq
  · rw [show partFits bx rw sg.length (kindOf "q") (.tup (args.map D.int)) = (true && (args.map D.int).all (boxFits bx rw sg.length)) from rfl]
    rw [Bool.true_and, List.all_eq_true]
    intro e he
    obtain ⟨n, hn, rfl⟩ := List.mem_map.mp he
    have := hb n hn
    rw [show boxFits bx rw sg.length (.int n) = (decide (0 ≤ n) && decide (n < bx)) from rfl]
    simp [this]
theorem row_fits_of {sg : List (Int × Int)} {ds : List PDef} {bx rw : Int} {r : Str × List D} (hs : ds.map (fun d => (d.1, d.2.1)) = sg) (h : RowOk sg bx rw r) : rowFits bx rw ds r = true := by
  obtain ⟨ls, g⟩ := h
  have hl : sg.length = ds.length := by rw [← hs, List.length_map]
  unfold rowFits
  rw [parts_look g.tab]
  have k1 : r.2.length = (kindsOf ls).length := by rw [g.len]; simp [kindsOf]
  have k2 : zipFits bx rw ds.length r.2 (kindsOf ls) = true := by
    unfold zipFits
    rw [List.all_eq_true]
    intro q hq
    obtain ⟨i, hi⟩ := List.mem_iff_getElem?.mp hq
    obtain ⟨e1, e2⟩ := List.getElem?_zip_eq_some.mp hi
    unfold kindsOf at e2
    rw [List.getElem?_map, Array.getElem?_toList] at e2
    cases ec : ls.cps[i]? with
    | none => rw [ec] at e2; cases e2
    | some c =>
      rw [ec] at e2
      obtain ⟨d, ed, gd⟩ := g.parts i c ec
      rw [e1] at ed
      cases ed
      have e3 : kindOf ⟨#[c]⟩ = q.2 := Option.some.inj e2
      rw [← e3, ← hl]
      exact part_fits_of (ls_ltrs (letters_look g.tab) c (Array.mem_toList_iff.mpr (Array.mem_of_getElem? ec))) gd
  have k3 : (!decide (r.1 = "call") || callFits ds r) = true := by
    by_cases e : r.1 = "call"
    · have tb := g.tab
      rw [e] at tb
      obtain rfl := letters_call tb
      obtain ⟨d0, e0, g0⟩ := g.parts 0 112 rfl
      obtain ⟨d2, e2, g2⟩ := g.parts 2 113 rfl
      rcases g2 with ⟨z, _⟩ | ⟨_, args, f, tk, ef, et, rfl, ha, _⟩
      · exact absurd rfl z
      · have l3 : r.2.length = 3 := g.len
        obtain ⟨w, ps⟩ := r
        obtain ⟨x, y, z, rfl⟩ : ∃ x y z, ps = [x, y, z] := by
          match ps, l3 with
          | [x, y, z], _ => exact ⟨x, y, z, rfl⟩
        cases e2
        cases ef
        have : callFits ds (w, [x, .int f, .tup (args.map D.int)]) = decide (((args.map D.int).length : Int) = takesOf ds f) := rfl
        rw [this]
        have et' : takesOf ds f = tk.1 := by
          unfold takesOf
          rw [Int.toNat_natCast]
          rw [← hs, List.getElem?_map] at et
          cases ed : ds[f]? with
          | none => rw [ed] at et; cases et
          | some d => rw [ed] at et; cases et; rfl
        rw [et']
        simp [ha]
    · simp [e]
  show (decide (r.2.length = (kindsOf ls).length) && zipFits bx rw ds.length r.2 (kindsOf ls) && (!decide (r.1 = "call") || callFits ds r)) = true
  rw [k2, k3]
  simp [k1]
theorem formed_of {sg : List (Int × Int)} {ds : List PDef} (h : ProgOk sg ds) : formedB ds = true := by
  have hl : sg.length = ds.length := by rw [← h.heads, List.length_map]
  have hp := h.sgs.pos
  have hf := h.sgs.few
  have k1 : ds.all headFits = true := by
    rw [List.all_eq_true]
    intro d hd
    have hq := h.sgs.all (d.1, d.2.1) (by rw [← h.heads]; exact List.mem_map.mpr ⟨d, hd, rfl⟩)
    obtain ⟨many, m1, m2, R⟩ := h.rows d hd
    have := R.len
    simp only at hq
    unfold headFits
    simp only [Bool.and_eq_true, decide_eq_true_eq]
    refine ⟨⟨by omega, by omega⟩, ⟨by omega, by split <;> omega⟩, by omega, by omega⟩
  have k2 : ds.all (defFits ds) = true := by
    rw [List.all_eq_true]
    intro d hd
    obtain ⟨many, m1, m2, R⟩ := h.rows d hd
    unfold defFits
    rw [Bool.and_eq_true]
    constructor
    · rw [List.all_eq_true]
      intro r hr
      rw [R.len]
      exact row_fits_of h.heads (R.all r hr)
    · obtain ⟨r, e, hr⟩ := R.last
      rw [List.getLast?_eq_getElem?, e]
      show (decide (r.1 = "jump") || decide (r.1 = "back")) = true
      rcases hr with z | z <;> simp [z]
  have k3 : (ds.map (·.1)).headD 0 = 0 := by
    obtain ⟨bx, e⟩ := h.sgs.first
    rw [← h.heads, List.getElem?_map] at e
    cases ds with
    | nil => cases e
    | cons d ds =>
      have e := Option.some.inj e
      exact congrArg (·.1) e
  unfold formedB
  rw [k1, k2, k3]
  simp only [Bool.and_eq_true, decide_eq_true_eq]
  exact ⟨⟨by omega, by omega⟩, trivial, trivial, trivial⟩
theorem progB {sg : List (Int × Int)} {ds : List PDef} (h : ProgOk sg ds) : PgB 10 30 ds := by
  intro d hd
  obtain ⟨many, m1, m2, R⟩ := h.rows d hd
  refine ⟨by have := R.len; omega, fun r hr => ?_⟩
  obtain ⟨ls, g⟩ := R.all r hr
  refine ⟨letters_w g.tab, by have := g.len; have := le3 g.tab; omega, fun p hp => ?_⟩
  obtain ⟨i, hi⟩ := List.mem_iff_getElem?.mp hp
  have hi' : i < ls.cps.size := by rw [← g.len]; exact (List.getElem?_eq_some_iff.mp hi).1
  obtain ⟨e, ee, ge⟩ := g.parts i ls.cps[i] (Array.getElem?_eq_getElem hi')
  rw [hi] at ee
  cases ee
  rcases ge with ⟨_, n, rfl, _⟩ | ⟨_, args, f, tk, _, et, rfl, ha, _⟩
  · exact .inl ⟨n, rfl⟩
  · have := h.sgs.all tk (List.mem_of_getElem? et)
    exact .inr ⟨args, rfl, by omega⟩

theorem PickOk.bs {H H' : Hp} {b bg : Addr} {p0 p1 p2 p3 p4 nm : Int} {wd : Str} (h : PickOk H b p0 p1 p2 p3 p4 nm wd) (n : b ≠ bg) (s : BSame bg H H') : PickOk H' b p0 p1 p2 p3 p4 nm wd := ⟨s _ _ n h.at_, h.b0, h.b1, h.b2, h.b3, h.b4, h.bw⟩
def PickV (H : Hp) (bg : Addr) (v : V) : Prop := ∃ b p0 p1 p2 p3 p4 nm wd, v = .ref b ∧ b ≠ bg ∧ PickOk H b p0 p1 p2 p3 p4 nm wd
theorem PickV.bs {H H' : Hp} {bg : Addr} {v : V} (h : PickV H bg v) (s : BSame bg H H') : PickV H' bg v := by
  obtain ⟨b, p0, p1, p2, p3, p4, nm, wd, e, n, k⟩ := h
  exact ⟨b, p0, p1, p2, p3, p4, nm, wd, e, n, k.bs n s⟩
theorem PickV.mono {H H' : Hp} {bg : Addr} {v : V} (h : PickV H bg v) (s : Same H H') : PickV H' bg v := h.bs (BSame.of s)
/-- how far two spoils may take it -/
def mAt (i : Nat) : Nat := if i = 0 then 10 else if i = 1 then 31 else 73
theorem sc_law : FnScope ["script", "bag", "picks", "program", "pick", "handed", "found"] ["script"] (defScope s_law) := ⟨rfl, rfl, rfl, by decide +kernel, rfl, by decide +kernel, by decide +kernel⟩
theorem law_fn {f : Addr} {fd : FuncData} (B : Blt mg) (G : Glb K w mg) (T_is_whole : TopFn K mg "is_whole" s_is_whole ["thing"]) (T_part_fits : TopFn K mg "part_fits" s_part_fits ["part", "kind", "counts"]) (T_row_fits : TopFn K mg "row_fits" s_row_fits ["program", "row", "counts"]) (T_rows_fit : TopFn K mg "rows_fit" s_rows_fit ["program", "f"]) (T_head_fits : TopFn K mg "head_fits" s_head_fits ["one"]) (T_formed : TopFn K mg "formed" s_formed ["program"])
    (T__law_bag : TopFn K mg "_law_bag" s__law_bag ["script"]) (T__law_draw : TopFn K mg "_law_draw" s__law_draw ["bag", "many"]) (T__law_number : TopFn K mg "_law_number" s__law_number ["bag"]) (T__law_letters : TopFn K mg "_law_letters" s__law_letters []) (T__law_part : TopFn K mg "_law_part" s__law_part ["bag", "letter", "boxes", "many", "signs"]) (T__law_row : TopFn K mg "_law_row" s__law_row ["bag", "word", "boxes", "many", "signs"]) (T__law_rows : TopFn K mg "_law_rows" s__law_rows ["bag", "boxes", "many", "signs"])
    (T__law_signs : TopFn K mg "_law_signs" s__law_signs ["bag", "many"]) (T__law_program : TopFn K mg "_law_program" s__law_program ["bag"]) (T__law_pick : TopFn K mg "_law_pick" s__law_pick ["bag"]) (T__law_bound : TopFn K mg "_law_bound" s__law_bound ["program", "one", "row", "k"]) (T__law_bent_args : TopFn K mg "_law_bent_args" s__law_bent_args ["args", "pick", "mend"]) (T__law_bent_row : TopFn K mg "_law_bent_row" s__law_bent_row ["program", "one", "row", "pick"])
    (T__law_bent_rows : TopFn K mg "_law_bent_rows" s__law_bent_rows ["rows", "pick"]) (T__law_bent_defs : TopFn K mg "_law_bent_defs" s__law_bent_defs ["program", "pick"]) (T__law_bent : TopFn K mg "_law_bent" s__law_bent ["program", "pick"]) (T__law_part_good : TopFn K mg "_law_part_good" s__law_part_good ["program", "one", "letter", "part"]) (T__law_row_good : TopFn K mg "_law_row_good" s__law_row_good ["program", "one", "row"]) (T__law_formed : TopFn K mg "_law_formed" s__law_formed ["program"])
    (T__law_copy : TopFn K mg "_law_copy" s__law_copy ["program"]) (T__law_alike : TopFn K mg "_law_alike" s__law_alike ["found", "due"]) (T_law : Fun K "law" "law" s_law f fd) : FnOk P w K mg base CX0 12 f fd ["script"] (spLaw K) := by
  have Cis_whole := c_is_whole (P := P) (w := w) (base := base) B T_is_whole
  have Cpart_fits := part_step (P := P) (w := w) (base := base) B G T_part_fits Cis_whole (by decide) (part_step B G T_part_fits Cis_whole (by decide) (part_0 T_part_fits))
  have Crow_fits := c_row_fits (P := P) (w := w) (base := base) B G T_row_fits Cpart_fits
  have Crows_fit := c_rows_fit (P := P) (w := w) (base := base) B G T_rows_fit Crow_fits
  have Chead_fits := c_head_fits (P := P) (w := w) (base := base) B G T_head_fits Cis_whole
  have Cformed := c_formed (P := P) (w := w) (base := base) B G T_formed Chead_fits Crows_fit
  have C_law_bag := c__law_bag (P := P) (w := w) (base := base) B T__law_bag
  have C_law_draw := c__law_draw (P := P) (w := w) (base := base) B T__law_draw
  have C_law_number := c__law_number (P := P) (w := w) (base := base) T__law_number C_law_draw
  have C_law_letters := c__law_letters (P := P) (w := w) (base := base) T__law_letters
  have C_law_part := c__law_part (P := P) (w := w) (base := base) B T__law_part C_law_draw C_law_number
  have C_law_row := c__law_row (P := P) (w := w) (base := base) B T__law_row C_law_draw C_law_letters C_law_part
  have C_law_rows := c__law_rows (P := P) (w := w) (base := base) B T__law_rows C_law_draw C_law_letters C_law_row
  have C_law_signs := c__law_signs (P := P) (w := w) (base := base) B T__law_signs C_law_draw
  have C_law_program := c__law_program (P := P) (w := w) (base := base) B T__law_program C_law_draw C_law_signs C_law_rows
  have C_law_pick := c__law_pick (P := P) (w := w) (base := base) B T__law_pick C_law_draw C_law_number
  have C_law_bound := c__law_bound (P := P) (w := w) (base := base) B T__law_bound C_law_letters
  have C_law_bent_args := c__law_bent_args (P := P) (w := w) (base := base) B T__law_bent_args
  have C_law_bent_row := c__law_bent_row (P := P) (w := w) (base := base) B T__law_bent_row C_law_letters C_law_bound C_law_bent_args
  have C_law_bent_rows := c__law_bent_rows (P := P) (w := w) (base := base) B T__law_bent_rows
  have C_law_bent_defs := c__law_bent_defs (P := P) (w := w) (base := base) B T__law_bent_defs
  have C_law_bent := c__law_bent (P := P) (w := w) (base := base) B T__law_bent C_law_bent_defs C_law_bent_rows C_law_bent_row
  have C_law_part_good := c__law_part_good (P := P) (w := w) (base := base) B T__law_part_good
  have C_law_row_good := c__law_row_good (P := P) (w := w) (base := base) B T__law_row_good C_law_letters C_law_part_good
  have C_law_formed := c__law_formed (P := P) (w := w) (base := base) B T__law_formed C_law_row_good
  have C_law_copy := c__law_copy (P := P) (w := w) (base := base) B T__law_copy
  have C_law_alike := al_step (P := P) (w := w) (base := base) B T__law_alike (al_step B T__law_alike (al_step B T__law_alike (al_step B T__law_alike (al_step B T__law_alike (al_step B T__law_alike (al_0 T__law_alike))))))
  refine T_law.law (k := 11) sc_law fun cdv A outer s H a ns Q E hr hS hlen k => ?_
  have nd := sc_law.nd
  refine' go_body [some (.ref a), none, none, none, none, none, none] rfl ?hb ?hg
  case hb =>
   refine' pss_cons ?zb ?zc
   case zb => exact (ps_setC (i := 1) nd rfl (Or.inr rfl) (pe_fn C_law_bag (hr.mono (by first | decide | omega)) (by rfl) (pa_consN (pv 0) pa_nil)))
   case zc =>
    refine' pss_cons ?zd ?ze
    case zd =>
     refine' ps_setc (i := 2) (LN := ["k"]) (FN := ["bag"]) (fr := [1]) ?zf ?zg ?zh ?zi ?zj ?zk ?zl ?zm ?zn
     case zf => exact rfl
     case zg => exact nd
     case zh => exact rfl
     case zi => exact rfl
     case zj => exact (bk_of (by rfl))
     case zk => exact (pi_range1 rfl B.b_range (pa_consK pe_int pa_nil))
     case zl =>
      intro cl C fp pins s H
      exact (pg_name (i := 0) (show ((["k"] : List Str) ++ (["bag"] : List Str)).Nodup by decide +kernel) rfl (Or.inl rfl))
     case zm =>
      intro cl C fp pins s H
      exact pts_nil
     case zn =>
      intro cl C fp pins s H
      exact (pe_fn C_law_pick (hr.mono (by first | decide | omega)) (by rfl) (pa_consN (pv 1) pa_nil))
    case ze =>
     refine' pss_cons ?zo ?zp
     case zo => exact (ps_setC (i := 3) nd rfl (Or.inl rfl) (pe_fn C_law_program (hr.mono (by first | decide | omega)) (by rfl) (pa_consN (pv 1) pa_nil)))
     case zp =>
      refine' pss_cons ?zq ?zr
      case zq =>
       refine' ps_if ?zs ?zt ?zu
       case zs =>
        refine' pt_cmpR ?zv ?zw ?zx ?zy
        case zv => exact op_isnotB'
        case zw =>
         refine' pe_fn ?zz ?zba ?zbb ?zbc
         case zz => exact Cformed
         case zba => exact (hr.mono (by first | decide | omega))
         case zbb => exact (by rfl)
         case zbc => exact (pa_consC (pe_fn C_law_copy (hr.mono (by first | decide | omega)) (by rfl) (pa_consN (pv 3) pa_nil)) pa_nil)
        case zx => exact pe_bl
        case zy => exact (nomark _)
       case zt => exact (pss_one (ps_ret pe_bl))
       case zu => exact pss_nil
      case zr =>
       refine' pss_cons ?zbd ?zbe
       case zbd =>
        refine' ps_for ?zbf ?zbg ?zbh ?zbi ?zbj
        case zbf => exact PassesOwn.never
        case zbg => exact rfl
        case zbh => exact (k_pi_list (K := K) rfl (pv 2))
        case zbi => exact (pg_name (i := 4) nd rfl (Or.inl rfl))
        case zbj =>
         refine' pss_one ?zbk
         case zbk => exact (ps_setC (i := 3) nd rfl (Or.inl rfl) (pe_fn C_law_bent (hr.mono (by first | decide | omega)) (by rfl) (pa_consN (pv 3) (pa_consN (pv 4) pa_nil))))
       case zbe =>
        refine' pss_cons ?zbl ?zbm
        case zbl => exact (ps_setC (i := 5) nd rfl (Or.inl rfl) (pe_fn C_law_copy (hr.mono (by first | decide | omega)) (by rfl) (pa_consN (pv 3) pa_nil)))
        case zbm =>
         refine' pss_cons ?zbn ?zbo
         case zbn => exact (ps_setC (i := 6) nd rfl (Or.inl rfl) (pe_fn Cformed (hr.mono (by first | decide | omega)) (by rfl) (pa_consN (pv 5) pa_nil)))
         case zbo =>
          refine' pss_one ?zbp
          case zbp =>
           refine' ps_ret ?zbq
           case zbq =>
            refine' pe_and ?zbr ?zbs
            case zbr =>
             refine' pe_callB ?zbt ?zbu ?zbv ?zbw ?zbx
             case zbt => exact call_isi
             case zbu => exact (by rfl)
             case zbv => exact B.b_isinstance
             case zbw => exact bt_isinstance
             case zbx => exact (pa_consN (pv 6) (pa_consN (pe_bltn (v := .ty "bool") (by rfl) B.b_bool bt_bool rfl) pa_nil))
            case zbs =>
             refine' pe_and ?zby ?zbz
             case zby => exact (pe_cmpR op_eq (pv 6) (pe_fn C_law_formed (hr.mono (by first | decide | omega)) (by rfl) (pa_consN (pv 3) pa_nil)) (nomark _))
             case zbz => exact (pe_one (pe_fn C_law_alike (hr.mono (by first | decide | omega)) (by rfl) (pa_consN (pv 5) (pa_consN (pv 3) pa_nil))))
  walk_at "rd"
  refine use1 ⟨a, ns, rfl, hS, hlen, fun b l H1 _ _ B1 => ?_⟩
  walk_at "rd"
  refine irK_of (by omega) (by omega) ?_
  refine cw_range (small_le (by omega)) (fun j ys σ Hy => (∃ x1, σ = [x1, some (.ref b)]) ∧ ys.length = j ∧ (∀ y ∈ ys, PickV Hy b y) ∧ BagAt Hy b l ∧ BSame b H1 Hy) ⟨⟨none, rfl⟩, rfl, by simp, B1, BSame.refl _ _⟩ ?_ ?_
  · rintro j ys σ Hy hj hle hlt ⟨⟨x1, rfl⟩, hz, hb, By, bY⟩
    walk_at "rd"
    refine use1 ⟨b, l, rfl, By, fun q p0 p1 p2 p3 p4 nm wd H2 pk nb nl B2 b2 => ?_⟩
    refine ⟨hlt, by simpa using hle, ⟨_, rfl⟩, by simp [hz], fun y hy => ?_, B2, bY.trans b2⟩
    rcases List.mem_append.mp hy with hy | hy
    · exact (hb y hy).bs b2
    · rw [List.mem_singleton] at hy
      exact ⟨q, p0, p1, p2, p3, p4, nm, wd, hy, nb, pk⟩
  rintro ys σ Hy hyl ⟨⟨x1, rfl⟩, hz, hb, By, bY⟩ pk hpk
  have npk := By.ne hpk
  have s2 := Same.new (o := .lst ys) hpk
  have e2 : upd Hy pk (.lst ys) pk = some (.lst ys) := upd_same
  generalize upd Hy pk (.lst ys) = H2 at s2 e2
  have B2 := By.mono s2
  have hb2 : ∀ y ∈ ys, PickV H2 b y := fun y hy => (hb y hy).mono s2
  walk_at "rd"
  refine use1 ⟨b, l, rfl, B2, fun sg ds q vs H3 PO hq nqb nql hq3 D3 B3 b3 => ?_⟩
  have e3 := b3 _ _ (Ne.symm npk.1) e2
  have hb3 : ∀ y ∈ ys, PickV H3 b y := fun y hy => (hb2 y hy).bs b3
  have D3 := D3.free
  have hd : ds.length ≤ 6 := by
    have := PO.sgs.few
    rw [← PO.heads, List.length_map] at this
    exact this
  have PB := progB PO
  have PD := pgB_D PB (by omega) (by omega) (by omega)
  walk_at "rd"
  refine use1 ⟨q, vs, ds, rfl, hq3, D3, PD, fun q4 ws H4 hq4 D4 s4 => ?_⟩
  walk_at "rd"
  refine use1 ⟨q4, ws, ds, rfl, hq4, D4, PD, fun H5 s5 => ?_⟩
  rw [formed_of PO]
  walk_at "rd"
  refine rd_isnotB ?_
  walk_at "rd"
  rw [if_neg (show ¬ (true != true) = true by decide)]
  walk_at "rd"
  have s35 := s4.trans s5
  refine ilK_of (SqL.of (s35 _ _ e3)) ?_
  refine for_list (xs := ys) (fun i σ Hx => ∃ c4 q vs ds, σ = [some (.ref a), some (.ref b), some (.ref pk), some (.ref q), c4, none, none] ∧ Hx q = some (.lst vs) ∧ DefsAt [] Hx ds vs ∧ PgB (mAt i) (30 + 400 * i) ds ∧ ds.length ≤ 400 ∧ Same H5 Hx) ⟨none, q, vs, ds, rfl, s35 _ _ hq3, D3.mono s35, PB, by omega, Same.refl _⟩ (fun i σ Hx _ ⟨_, _, _, _, _, _, _, _, _, sx⟩ => SqL.of (sx _ _ (s35 _ _ e3))) ?_ ?_
  · rintro i x σ Hx hx ⟨c4, q, vs, ds, rfl, hqx, Dx, Px, lx, sx⟩
    obtain ⟨bb, p0, p1, p2, p3, p4, nm, wd, rfl, nb, pk⟩ := hb3 x (List.mem_of_getElem? hx)
    have hi : i < 2 := by
      have := (List.getElem?_eq_some_iff.mp hx).1
      omega
    have hm : mAt i ≤ 31 ∧ 10 ≤ mAt i ∧ mAt (i + 1) = 2 * mAt i + 11 := by
      match i, hi with
      | 0, _ => decide
      | 1, _ => decide
    walk_at "rd"
    refine use2 ⟨mAt i, 30 + 400 * i, q, vs, ds, bb, p0, p1, p2, p3, p4, nm, wd, rfl, hqx, Dx, Px, by omega, by omega, by omega, by omega, rfl, pk.mono (s35.trans sx), fun q6 ws es H6 e6 De Pe le s6 => ?_⟩
    refine ⟨_, q6, ws, es, rfl, e6, De, ?_, by omega, sx.trans s6⟩
    rw [hm.2.2]
    exact Pe
  · rintro σ Hx ⟨c4, q, vs, ds, rfl, hqx, Dx, Px, lx, sx⟩
    have PDx : PgD ds := pgB_D Px (by rw [hz]; decide) (by omega) (by omega)
    walk_at "rd"
    refine use1 ⟨q, vs, ds, rfl, hqx, Dx, PDx, fun q7 ws H7 hq7 D7 s7 => ?_⟩
    walk_at "rd"
    refine use1 ⟨q7, ws, ds, rfl, hq7, D7, PDx, fun H8 s8 => ?_⟩
    have s78 := s7.trans s8
    walk_at "rd"
    refine rd_isi (t := "bool") rfl (by decide) ?_
    refine ⟨_, rfl, ?_⟩
    refine ite_yes (by decide) ?_
    walk_at "rd"
    refine use1 ⟨q, vs, ds, rfl, s78 _ _ hqx, Dx.mono s78, PDx, fun H9 s9 => ?_⟩
    walk_at "rd"
    refine ite_yes (by simp) ?_
    walk_at "rd"
    refine use2 ⟨al_prog ((s8.trans s9) _ _ hq7) ((s78.trans s9) _ _ hqx) (D7.mono (s8.trans s9)) (Dx.mono (s78.trans s9)) PDx (fun d hd r hr => ?_), ?_⟩
    · have h1 := ((Px d hd).2 r hr).n
      have h2 : mAt ys.length = 73 := by rw [hz]; rfl
      omega
    exact k _

end
end My

end
set_option Elab.async false
set_option linter.all false
set_option maxRecDepth 100000
set_option maxHeartbeats 4000000

namespace My
open PySem L2
theorem all_mk {l : PySem.W.OpenLaw} {w : World} {K : PySem.W.Frag} {h : Heap} {mg : Str → Option Value} {fa : Addr} (X : K.In h) (G : h.Ns mainGlobals mg) (hfa : mg "law" = some (.ref fa))
    {f0 : Addr} {od0 an0 : Option Addr} {sl0 : Array (Option Value)} {oc0 kV0 dc0 pm0 cd0 ct0 : Value}
    {f1 : Addr} {od1 an1 : Option Addr} {sl1 : Array (Option Value)} {oc1 kV1 dc1 pm1 cd1 ct1 : Value}
    {f2 : Addr} {od2 an2 : Option Addr} {sl2 : Array (Option Value)} {oc2 kV2 dc2 pm2 cd2 ct2 : Value}
    {f3 : Addr} {od3 an3 : Option Addr} {sl3 : Array (Option Value)} {oc3 kV3 dc3 pm3 cd3 ct3 : Value}
    {f4 : Addr} {od4 an4 : Option Addr} {sl4 : Array (Option Value)} {oc4 kV4 dc4 pm4 cd4 ct4 : Value}
    {f5 : Addr} {od5 an5 : Option Addr} {sl5 : Array (Option Value)} {oc5 kV5 dc5 pm5 cd5 ct5 : Value}
    {f6 : Addr} {od6 an6 : Option Addr} {sl6 : Array (Option Value)} {oc6 kV6 dc6 pm6 cd6 ct6 : Value}
    {f7 : Addr} {od7 an7 : Option Addr} {sl7 : Array (Option Value)} {oc7 kV7 dc7 pm7 cd7 ct7 : Value}
    {f8 : Addr} {od8 an8 : Option Addr} {sl8 : Array (Option Value)} {oc8 kV8 dc8 pm8 cd8 ct8 : Value}
    {f9 : Addr} {od9 an9 : Option Addr} {sl9 : Array (Option Value)} {oc9 kV9 dc9 pm9 cd9 ct9 : Value}
    {f10 : Addr} {od10 an10 : Option Addr} {sl10 : Array (Option Value)} {oc10 kV10 dc10 pm10 cd10 ct10 : Value}
    {f11 : Addr} {od11 an11 : Option Addr} {sl11 : Array (Option Value)} {oc11 kV11 dc11 pm11 cd11 ct11 : Value}
    {f12 : Addr} {od12 an12 : Option Addr} {sl12 : Array (Option Value)} {oc12 kV12 dc12 pm12 cd12 ct12 : Value}
    {f13 : Addr} {od13 an13 : Option Addr} {sl13 : Array (Option Value)} {oc13 kV13 dc13 pm13 cd13 ct13 : Value}
    {f14 : Addr} {od14 an14 : Option Addr} {sl14 : Array (Option Value)} {oc14 kV14 dc14 pm14 cd14 ct14 : Value}
    {f15 : Addr} {od15 an15 : Option Addr} {sl15 : Array (Option Value)} {oc15 kV15 dc15 pm15 cd15 ct15 : Value}
    {f16 : Addr} {od16 an16 : Option Addr} {sl16 : Array (Option Value)} {oc16 kV16 dc16 pm16 cd16 ct16 : Value}
    {f17 : Addr} {od17 an17 : Option Addr} {sl17 : Array (Option Value)} {oc17 kV17 dc17 pm17 cd17 ct17 : Value}
    {f18 : Addr} {od18 an18 : Option Addr} {sl18 : Array (Option Value)} {oc18 kV18 dc18 pm18 cd18 ct18 : Value}
    {f19 : Addr} {od19 an19 : Option Addr} {sl19 : Array (Option Value)} {oc19 kV19 dc19 pm19 cd19 ct19 : Value}
    {f20 : Addr} {od20 an20 : Option Addr} {sl20 : Array (Option Value)} {oc20 kV20 dc20 pm20 cd20 ct20 : Value}
    {f21 : Addr} {od21 an21 : Option Addr} {sl21 : Array (Option Value)} {oc21 kV21 dc21 pm21 cd21 ct21 : Value}
    {f22 : Addr} {od22 an22 : Option Addr} {sl22 : Array (Option Value)} {oc22 kV22 dc22 pm22 cd22 ct22 : Value}
    {f23 : Addr} {od23 an23 : Option Addr} {sl23 : Array (Option Value)} {oc23 kV23 dc23 pm23 cd23 ct23 : Value}
    {f24 : Addr} {od24 an24 : Option Addr} {sl24 : Array (Option Value)} {oc24 kV24 dc24 pm24 cd24 ct24 : Value}
    {f25 : Addr} {od25 an25 : Option Addr} {sl25 : Array (Option Value)} {oc25 kV25 dc25 pm25 cd25 ct25 : Value}
    {f26 : Addr} {od26 an26 : Option Addr} {sl26 : Array (Option Value)} {oc26 kV26 dc26 pm26 cd26 ct26 : Value}
    {f27 : Addr} {od27 an27 : Option Addr} {sl27 : Array (Option Value)} {oc27 kV27 dc27 pm27 cd27 ct27 : Value}
    {t_MOST_BOXES : Tok}
    {t_MOST_DEFS : Tok}
    {t_MOST_FACTOR : Tok}
    {t_MOST_ROWS : Tok}
    {t_MOST_TAKES : Tok}
    {a_PARTS : Addr} {ep_PARTS : Nat}
    {t_PARTS_0 : Tok} {a_PARTS_0 : Addr} {od_PARTS_0 : Option Addr} {n_PARTS_0 : Nat} {sl_PARTS_0 : Array (Option Value)} {t_PARTS_0_0 t_PARTS_0_1 : Tok}
    {t_PARTS_1 : Tok} {a_PARTS_1 : Addr} {od_PARTS_1 : Option Addr} {n_PARTS_1 : Nat} {sl_PARTS_1 : Array (Option Value)} {t_PARTS_1_0 t_PARTS_1_1 : Tok}
    {t_PARTS_2 : Tok} {a_PARTS_2 : Addr} {od_PARTS_2 : Option Addr} {n_PARTS_2 : Nat} {sl_PARTS_2 : Array (Option Value)} {t_PARTS_2_0 t_PARTS_2_1 t_PARTS_2_2 : Tok}
    {t_PARTS_3 : Tok} {a_PARTS_3 : Addr} {od_PARTS_3 : Option Addr} {n_PARTS_3 : Nat} {sl_PARTS_3 : Array (Option Value)} {t_PARTS_3_0 t_PARTS_3_1 t_PARTS_3_2 : Tok}
    {t_PARTS_4 : Tok} {a_PARTS_4 : Addr} {od_PARTS_4 : Option Addr} {n_PARTS_4 : Nat} {sl_PARTS_4 : Array (Option Value)} {t_PARTS_4_0 t_PARTS_4_1 t_PARTS_4_2 : Tok}
    {t_PARTS_5 : Tok} {a_PARTS_5 : Addr} {od_PARTS_5 : Option Addr} {n_PARTS_5 : Nat} {sl_PARTS_5 : Array (Option Value)} {t_PARTS_5_0 : Tok}
    {t_PARTS_6 : Tok} {a_PARTS_6 : Addr} {od_PARTS_6 : Option Addr} {n_PARTS_6 : Nat} {sl_PARTS_6 : Array (Option Value)} {t_PARTS_6_0 : Tok}
    {t_PARTS_7 : Tok} {a_PARTS_7 : Addr} {od_PARTS_7 : Option Addr} {n_PARTS_7 : Nat} {sl_PARTS_7 : Array (Option Value)} {t_PARTS_7_0 : Tok}
    {t_PARTS_8 : Tok} {a_PARTS_8 : Addr} {od_PARTS_8 : Option Addr} {n_PARTS_8 : Nat} {sl_PARTS_8 : Array (Option Value)} {t_PARTS_8_0 t_PARTS_8_1 : Tok}
    {t_PARTS_9 : Tok} {a_PARTS_9 : Addr} {od_PARTS_9 : Option Addr} {n_PARTS_9 : Nat} {sl_PARTS_9 : Array (Option Value)} {t_PARTS_9_0 t_PARTS_9_1 : Tok}
    {t_PARTS_10 : Tok} {a_PARTS_10 : Addr} {od_PARTS_10 : Option Addr} {n_PARTS_10 : Nat} {sl_PARTS_10 : Array (Option Value)} {t_PARTS_10_0 t_PARTS_10_1 t_PARTS_10_2 : Tok}
    {t_PARTS_11 : Tok} {a_PARTS_11 : Addr} {od_PARTS_11 : Option Addr} {n_PARTS_11 : Nat} {sl_PARTS_11 : Array (Option Value)} {t_PARTS_11_0 : Tok}
    (a0 : PySem.W.nsIn K mainGlobals "is_whole" = some (some (.ref f0))) (l0 : K.lookup f0 = some ⟨oc0, od0, .func (PySem.W.fnOf "is_whole" "is_whole" (defArgs s_is_whole) (defBody s_is_whole) (defScope s_is_whole) .none kV0 dc0 pm0 an0 cd0 ct0), sl0⟩) (c0 : PySem.W.codeIn K cd0 "is_whole" = true) (k0 : PySem.W.keepIn K (.ref f0) = true)
    (a1 : PySem.W.nsIn K mainGlobals "formed" = some (some (.ref f1))) (l1 : K.lookup f1 = some ⟨oc1, od1, .func (PySem.W.fnOf "formed" "formed" (defArgs s_formed) (defBody s_formed) (defScope s_formed) .none kV1 dc1 pm1 an1 cd1 ct1), sl1⟩) (c1 : PySem.W.codeIn K cd1 "formed" = true) (k1 : PySem.W.keepIn K (.ref f1) = true)
    (a2 : PySem.W.nsIn K mainGlobals "head_fits" = some (some (.ref f2))) (l2 : K.lookup f2 = some ⟨oc2, od2, .func (PySem.W.fnOf "head_fits" "head_fits" (defArgs s_head_fits) (defBody s_head_fits) (defScope s_head_fits) .none kV2 dc2 pm2 an2 cd2 ct2), sl2⟩) (c2 : PySem.W.codeIn K cd2 "head_fits" = true) (k2 : PySem.W.keepIn K (.ref f2) = true)
    (a3 : PySem.W.nsIn K mainGlobals "rows_fit" = some (some (.ref f3))) (l3 : K.lookup f3 = some ⟨oc3, od3, .func (PySem.W.fnOf "rows_fit" "rows_fit" (defArgs s_rows_fit) (defBody s_rows_fit) (defScope s_rows_fit) .none kV3 dc3 pm3 an3 cd3 ct3), sl3⟩) (c3 : PySem.W.codeIn K cd3 "rows_fit" = true) (k3 : PySem.W.keepIn K (.ref f3) = true)
    (a4 : PySem.W.nsIn K mainGlobals "row_fits" = some (some (.ref f4))) (l4 : K.lookup f4 = some ⟨oc4, od4, .func (PySem.W.fnOf "row_fits" "row_fits" (defArgs s_row_fits) (defBody s_row_fits) (defScope s_row_fits) .none kV4 dc4 pm4 an4 cd4 ct4), sl4⟩) (c4 : PySem.W.codeIn K cd4 "row_fits" = true) (k4 : PySem.W.keepIn K (.ref f4) = true)
    (a5 : PySem.W.nsIn K mainGlobals "part_fits" = some (some (.ref f5))) (l5 : K.lookup f5 = some ⟨oc5, od5, .func (PySem.W.fnOf "part_fits" "part_fits" (defArgs s_part_fits) (defBody s_part_fits) (defScope s_part_fits) .none kV5 dc5 pm5 an5 cd5 ct5), sl5⟩) (c5 : PySem.W.codeIn K cd5 "part_fits" = true) (k5 : PySem.W.keepIn K (.ref f5) = true)
    (a6 : PySem.W.nsIn K mainGlobals "_law_bag" = some (some (.ref f6))) (l6 : K.lookup f6 = some ⟨oc6, od6, .func (PySem.W.fnOf "_law_bag" "_law_bag" (defArgs s__law_bag) (defBody s__law_bag) (defScope s__law_bag) .none kV6 dc6 pm6 an6 cd6 ct6), sl6⟩) (c6 : PySem.W.codeIn K cd6 "_law_bag" = true) (k6 : PySem.W.keepIn K (.ref f6) = true)
    (a7 : PySem.W.nsIn K mainGlobals "_law_draw" = some (some (.ref f7))) (l7 : K.lookup f7 = some ⟨oc7, od7, .func (PySem.W.fnOf "_law_draw" "_law_draw" (defArgs s__law_draw) (defBody s__law_draw) (defScope s__law_draw) .none kV7 dc7 pm7 an7 cd7 ct7), sl7⟩) (c7 : PySem.W.codeIn K cd7 "_law_draw" = true) (k7 : PySem.W.keepIn K (.ref f7) = true)
    (a8 : PySem.W.nsIn K mainGlobals "_law_number" = some (some (.ref f8))) (l8 : K.lookup f8 = some ⟨oc8, od8, .func (PySem.W.fnOf "_law_number" "_law_number" (defArgs s__law_number) (defBody s__law_number) (defScope s__law_number) .none kV8 dc8 pm8 an8 cd8 ct8), sl8⟩) (c8 : PySem.W.codeIn K cd8 "_law_number" = true) (k8 : PySem.W.keepIn K (.ref f8) = true)
    (a9 : PySem.W.nsIn K mainGlobals "_law_letters" = some (some (.ref f9))) (l9 : K.lookup f9 = some ⟨oc9, od9, .func (PySem.W.fnOf "_law_letters" "_law_letters" (defArgs s__law_letters) (defBody s__law_letters) (defScope s__law_letters) .none kV9 dc9 pm9 an9 cd9 ct9), sl9⟩) (c9 : PySem.W.codeIn K cd9 "_law_letters" = true) (k9 : PySem.W.keepIn K (.ref f9) = true)
    (a10 : PySem.W.nsIn K mainGlobals "_law_part" = some (some (.ref f10))) (l10 : K.lookup f10 = some ⟨oc10, od10, .func (PySem.W.fnOf "_law_part" "_law_part" (defArgs s__law_part) (defBody s__law_part) (defScope s__law_part) .none kV10 dc10 pm10 an10 cd10 ct10), sl10⟩) (c10 : PySem.W.codeIn K cd10 "_law_part" = true) (k10 : PySem.W.keepIn K (.ref f10) = true)
    (a11 : PySem.W.nsIn K mainGlobals "_law_row" = some (some (.ref f11))) (l11 : K.lookup f11 = some ⟨oc11, od11, .func (PySem.W.fnOf "_law_row" "_law_row" (defArgs s__law_row) (defBody s__law_row) (defScope s__law_row) .none kV11 dc11 pm11 an11 cd11 ct11), sl11⟩) (c11 : PySem.W.codeIn K cd11 "_law_row" = true) (k11 : PySem.W.keepIn K (.ref f11) = true)
    (a12 : PySem.W.nsIn K mainGlobals "_law_rows" = some (some (.ref f12))) (l12 : K.lookup f12 = some ⟨oc12, od12, .func (PySem.W.fnOf "_law_rows" "_law_rows" (defArgs s__law_rows) (defBody s__law_rows) (defScope s__law_rows) .none kV12 dc12 pm12 an12 cd12 ct12), sl12⟩) (c12 : PySem.W.codeIn K cd12 "_law_rows" = true) (k12 : PySem.W.keepIn K (.ref f12) = true)
    (a13 : PySem.W.nsIn K mainGlobals "_law_signs" = some (some (.ref f13))) (l13 : K.lookup f13 = some ⟨oc13, od13, .func (PySem.W.fnOf "_law_signs" "_law_signs" (defArgs s__law_signs) (defBody s__law_signs) (defScope s__law_signs) .none kV13 dc13 pm13 an13 cd13 ct13), sl13⟩) (c13 : PySem.W.codeIn K cd13 "_law_signs" = true) (k13 : PySem.W.keepIn K (.ref f13) = true)
    (a14 : PySem.W.nsIn K mainGlobals "_law_program" = some (some (.ref f14))) (l14 : K.lookup f14 = some ⟨oc14, od14, .func (PySem.W.fnOf "_law_program" "_law_program" (defArgs s__law_program) (defBody s__law_program) (defScope s__law_program) .none kV14 dc14 pm14 an14 cd14 ct14), sl14⟩) (c14 : PySem.W.codeIn K cd14 "_law_program" = true) (k14 : PySem.W.keepIn K (.ref f14) = true)
    (a15 : PySem.W.nsIn K mainGlobals "_law_pick" = some (some (.ref f15))) (l15 : K.lookup f15 = some ⟨oc15, od15, .func (PySem.W.fnOf "_law_pick" "_law_pick" (defArgs s__law_pick) (defBody s__law_pick) (defScope s__law_pick) .none kV15 dc15 pm15 an15 cd15 ct15), sl15⟩) (c15 : PySem.W.codeIn K cd15 "_law_pick" = true) (k15 : PySem.W.keepIn K (.ref f15) = true)
    (a16 : PySem.W.nsIn K mainGlobals "_law_bound" = some (some (.ref f16))) (l16 : K.lookup f16 = some ⟨oc16, od16, .func (PySem.W.fnOf "_law_bound" "_law_bound" (defArgs s__law_bound) (defBody s__law_bound) (defScope s__law_bound) .none kV16 dc16 pm16 an16 cd16 ct16), sl16⟩) (c16 : PySem.W.codeIn K cd16 "_law_bound" = true) (k16 : PySem.W.keepIn K (.ref f16) = true)
    (a17 : PySem.W.nsIn K mainGlobals "_law_bent_args" = some (some (.ref f17))) (l17 : K.lookup f17 = some ⟨oc17, od17, .func (PySem.W.fnOf "_law_bent_args" "_law_bent_args" (defArgs s__law_bent_args) (defBody s__law_bent_args) (defScope s__law_bent_args) .none kV17 dc17 pm17 an17 cd17 ct17), sl17⟩) (c17 : PySem.W.codeIn K cd17 "_law_bent_args" = true) (k17 : PySem.W.keepIn K (.ref f17) = true)
    (a18 : PySem.W.nsIn K mainGlobals "_law_bent_row" = some (some (.ref f18))) (l18 : K.lookup f18 = some ⟨oc18, od18, .func (PySem.W.fnOf "_law_bent_row" "_law_bent_row" (defArgs s__law_bent_row) (defBody s__law_bent_row) (defScope s__law_bent_row) .none kV18 dc18 pm18 an18 cd18 ct18), sl18⟩) (c18 : PySem.W.codeIn K cd18 "_law_bent_row" = true) (k18 : PySem.W.keepIn K (.ref f18) = true)
    (a19 : PySem.W.nsIn K mainGlobals "_law_bent_rows" = some (some (.ref f19))) (l19 : K.lookup f19 = some ⟨oc19, od19, .func (PySem.W.fnOf "_law_bent_rows" "_law_bent_rows" (defArgs s__law_bent_rows) (defBody s__law_bent_rows) (defScope s__law_bent_rows) .none kV19 dc19 pm19 an19 cd19 ct19), sl19⟩) (c19 : PySem.W.codeIn K cd19 "_law_bent_rows" = true) (k19 : PySem.W.keepIn K (.ref f19) = true)
    (a20 : PySem.W.nsIn K mainGlobals "_law_bent_defs" = some (some (.ref f20))) (l20 : K.lookup f20 = some ⟨oc20, od20, .func (PySem.W.fnOf "_law_bent_defs" "_law_bent_defs" (defArgs s__law_bent_defs) (defBody s__law_bent_defs) (defScope s__law_bent_defs) .none kV20 dc20 pm20 an20 cd20 ct20), sl20⟩) (c20 : PySem.W.codeIn K cd20 "_law_bent_defs" = true) (k20 : PySem.W.keepIn K (.ref f20) = true)
    (a21 : PySem.W.nsIn K mainGlobals "_law_bent" = some (some (.ref f21))) (l21 : K.lookup f21 = some ⟨oc21, od21, .func (PySem.W.fnOf "_law_bent" "_law_bent" (defArgs s__law_bent) (defBody s__law_bent) (defScope s__law_bent) .none kV21 dc21 pm21 an21 cd21 ct21), sl21⟩) (c21 : PySem.W.codeIn K cd21 "_law_bent" = true) (k21 : PySem.W.keepIn K (.ref f21) = true)
    (a22 : PySem.W.nsIn K mainGlobals "_law_part_good" = some (some (.ref f22))) (l22 : K.lookup f22 = some ⟨oc22, od22, .func (PySem.W.fnOf "_law_part_good" "_law_part_good" (defArgs s__law_part_good) (defBody s__law_part_good) (defScope s__law_part_good) .none kV22 dc22 pm22 an22 cd22 ct22), sl22⟩) (c22 : PySem.W.codeIn K cd22 "_law_part_good" = true) (k22 : PySem.W.keepIn K (.ref f22) = true)
    (a23 : PySem.W.nsIn K mainGlobals "_law_row_good" = some (some (.ref f23))) (l23 : K.lookup f23 = some ⟨oc23, od23, .func (PySem.W.fnOf "_law_row_good" "_law_row_good" (defArgs s__law_row_good) (defBody s__law_row_good) (defScope s__law_row_good) .none kV23 dc23 pm23 an23 cd23 ct23), sl23⟩) (c23 : PySem.W.codeIn K cd23 "_law_row_good" = true) (k23 : PySem.W.keepIn K (.ref f23) = true)
    (a24 : PySem.W.nsIn K mainGlobals "_law_formed" = some (some (.ref f24))) (l24 : K.lookup f24 = some ⟨oc24, od24, .func (PySem.W.fnOf "_law_formed" "_law_formed" (defArgs s__law_formed) (defBody s__law_formed) (defScope s__law_formed) .none kV24 dc24 pm24 an24 cd24 ct24), sl24⟩) (c24 : PySem.W.codeIn K cd24 "_law_formed" = true) (k24 : PySem.W.keepIn K (.ref f24) = true)
    (a25 : PySem.W.nsIn K mainGlobals "_law_copy" = some (some (.ref f25))) (l25 : K.lookup f25 = some ⟨oc25, od25, .func (PySem.W.fnOf "_law_copy" "_law_copy" (defArgs s__law_copy) (defBody s__law_copy) (defScope s__law_copy) .none kV25 dc25 pm25 an25 cd25 ct25), sl25⟩) (c25 : PySem.W.codeIn K cd25 "_law_copy" = true) (k25 : PySem.W.keepIn K (.ref f25) = true)
    (a26 : PySem.W.nsIn K mainGlobals "_law_alike" = some (some (.ref f26))) (l26 : K.lookup f26 = some ⟨oc26, od26, .func (PySem.W.fnOf "_law_alike" "_law_alike" (defArgs s__law_alike) (defBody s__law_alike) (defScope s__law_alike) .none kV26 dc26 pm26 an26 cd26 ct26), sl26⟩) (c26 : PySem.W.codeIn K cd26 "_law_alike" = true) (k26 : PySem.W.keepIn K (.ref f26) = true)
    (a27 : PySem.W.nsIn K mainGlobals "law" = some (some (.ref f27))) (l27 : K.lookup f27 = some ⟨oc27, od27, .func (PySem.W.fnOf "law" "law" (defArgs s_law) (defBody s_law) (defScope s_law) .none kV27 dc27 pm27 an27 cd27 ct27), sl27⟩) (c27 : PySem.W.codeIn K cd27 "law" = true) (k27 : PySem.W.keepIn K (.ref f27) = true)
    (g_MOST_BOXES : PySem.W.nsIn K mainGlobals "MOST_BOXES" = some (some (.int 8 t_MOST_BOXES)))
    (g_MOST_DEFS : PySem.W.nsIn K mainGlobals "MOST_DEFS" = some (some (.int 6 t_MOST_DEFS)))
    (g_MOST_FACTOR : PySem.W.nsIn K mainGlobals "MOST_FACTOR" = some (some (.int 99 t_MOST_FACTOR)))
    (g_MOST_ROWS : PySem.W.nsIn K mainGlobals "MOST_ROWS" = some (some (.int 30 t_MOST_ROWS)))
    (g_MOST_TAKES : PySem.W.nsIn K mainGlobals "MOST_TAKES" = some (some (.int 4 t_MOST_TAKES)))
    (g_PARTS : PySem.W.nsIn K mainGlobals "PARTS" = some (some (.ref a_PARTS))) (h_PARTS : K.lookup a_PARTS = some { cls := .type "dict", data := .dict #[⟨hashStr w "put", .str "put" t_PARTS_0, .ref a_PARTS_0⟩, ⟨hashStr w "copy", .str "copy" t_PARTS_1, .ref a_PARTS_1⟩, ⟨hashStr w "plus", .str "plus" t_PARTS_2, .ref a_PARTS_2⟩, ⟨hashStr w "less", .str "less" t_PARTS_3, .ref a_PARTS_3⟩, ⟨hashStr w "times", .str "times" t_PARTS_4, .ref a_PARTS_4⟩, ⟨hashStr w "take", .str "take" t_PARTS_5, .ref a_PARTS_5⟩, ⟨hashStr w "tell", .str "tell" t_PARTS_6, .ref a_PARTS_6⟩, ⟨hashStr w "jump", .str "jump" t_PARTS_7, .ref a_PARTS_7⟩, ⟨hashStr w "zero", .str "zero" t_PARTS_8, .ref a_PARTS_8⟩, ⟨hashStr w "below", .str "below" t_PARTS_9, .ref a_PARTS_9⟩, ⟨hashStr w "call", .str "call" t_PARTS_10, .ref a_PARTS_10⟩, ⟨hashStr w "back", .str "back" t_PARTS_11, .ref a_PARTS_11⟩] ep_PARTS }) (s_PARTS : (a_PARTS == sysModules) = false)
    (h_PARTS_0 : K.lookup a_PARTS_0 = some ⟨.type "tuple", od_PARTS_0, .seq #[.str "box" t_PARTS_0_0, .str "number" t_PARTS_0_1] n_PARTS_0, sl_PARTS_0⟩)
    (h_PARTS_1 : K.lookup a_PARTS_1 = some ⟨.type "tuple", od_PARTS_1, .seq #[.str "box" t_PARTS_1_0, .str "box" t_PARTS_1_1] n_PARTS_1, sl_PARTS_1⟩)
    (h_PARTS_2 : K.lookup a_PARTS_2 = some ⟨.type "tuple", od_PARTS_2, .seq #[.str "box" t_PARTS_2_0, .str "box" t_PARTS_2_1, .str "box" t_PARTS_2_2] n_PARTS_2, sl_PARTS_2⟩)
    (h_PARTS_3 : K.lookup a_PARTS_3 = some ⟨.type "tuple", od_PARTS_3, .seq #[.str "box" t_PARTS_3_0, .str "box" t_PARTS_3_1, .str "box" t_PARTS_3_2] n_PARTS_3, sl_PARTS_3⟩)
    (h_PARTS_4 : K.lookup a_PARTS_4 = some ⟨.type "tuple", od_PARTS_4, .seq #[.str "box" t_PARTS_4_0, .str "box" t_PARTS_4_1, .str "factor" t_PARTS_4_2] n_PARTS_4, sl_PARTS_4⟩)
    (h_PARTS_5 : K.lookup a_PARTS_5 = some ⟨.type "tuple", od_PARTS_5, .seq #[.str "box" t_PARTS_5_0] n_PARTS_5, sl_PARTS_5⟩)
    (h_PARTS_6 : K.lookup a_PARTS_6 = some ⟨.type "tuple", od_PARTS_6, .seq #[.str "box" t_PARTS_6_0] n_PARTS_6, sl_PARTS_6⟩)
    (h_PARTS_7 : K.lookup a_PARTS_7 = some ⟨.type "tuple", od_PARTS_7, .seq #[.str "row" t_PARTS_7_0] n_PARTS_7, sl_PARTS_7⟩)
    (h_PARTS_8 : K.lookup a_PARTS_8 = some ⟨.type "tuple", od_PARTS_8, .seq #[.str "box" t_PARTS_8_0, .str "row" t_PARTS_8_1] n_PARTS_8, sl_PARTS_8⟩)
    (h_PARTS_9 : K.lookup a_PARTS_9 = some ⟨.type "tuple", od_PARTS_9, .seq #[.str "box" t_PARTS_9_0, .str "row" t_PARTS_9_1] n_PARTS_9, sl_PARTS_9⟩)
    (h_PARTS_10 : K.lookup a_PARTS_10 = some ⟨.type "tuple", od_PARTS_10, .seq #[.str "box" t_PARTS_10_0, .str "def" t_PARTS_10_1, .str "boxes" t_PARTS_10_2] n_PARTS_10, sl_PARTS_10⟩)
    (h_PARTS_11 : K.lookup a_PARTS_11 = some ⟨.type "tuple", od_PARTS_11, .seq #[.str "box" t_PARTS_11_0] n_PARTS_11, sl_PARTS_11⟩)
    (z_abs : PySem.W.nsIn K mainGlobals "abs" = some none)
    (z_all : PySem.W.nsIn K mainGlobals "all" = some none)
    (z_bool : PySem.W.nsIn K mainGlobals "bool" = some none)
    (z_int : PySem.W.nsIn K mainGlobals "int" = some none)
    (z_isinstance : PySem.W.nsIn K mainGlobals "isinstance" = some none)
    (z_len : PySem.W.nsIn K mainGlobals "len" = some none)
    (z_list : PySem.W.nsIn K mainGlobals "list" = some none)
    (z_max : PySem.W.nsIn K mainGlobals "max" = some none)
    (z_min : PySem.W.nsIn K mainGlobals "min" = some none)
    (z_range : PySem.W.nsIn K mainGlobals "range" = some none)
    (z_str : PySem.W.nsIn K mainGlobals "str" = some none)
    (z_tuple : PySem.W.nsIn K mainGlobals "tuple" = some none)
    (z_zip : PySem.W.nsIn K mainGlobals "zip" = some none)
    : ∃ fd : FuncData, (∀ (s : Shared) (v : Value), BindsTo s fd ⟨[v], []⟩ [("script", v)]) ∧ ∀ base : Heap, K.In base → base.Ns mainGlobals mg → FnOk l.prog w K mg base CX0 12 fa fd ["script"] (spLaw K) := by
  have B : Blt mg := ⟨PySem.W.mg_none_of X G z_abs, PySem.W.mg_none_of X G z_all, PySem.W.mg_none_of X G z_bool, PySem.W.mg_none_of X G z_int, PySem.W.mg_none_of X G z_isinstance, PySem.W.mg_none_of X G z_len, PySem.W.mg_none_of X G z_list, PySem.W.mg_none_of X G z_max, PySem.W.mg_none_of X G z_min, PySem.W.mg_none_of X G z_range, PySem.W.mg_none_of X G z_str, PySem.W.mg_none_of X G z_tuple, PySem.W.mg_none_of X G z_zip⟩
  have GG : Glb K w mg := ⟨⟨_, PySem.W.mg_of X G g_MOST_BOXES⟩, ⟨_, PySem.W.mg_of X G g_MOST_DEFS⟩, ⟨_, PySem.W.mg_of X G g_MOST_FACTOR⟩, ⟨_, PySem.W.mg_of X G g_MOST_ROWS⟩, ⟨_, PySem.W.mg_of X G g_MOST_TAKES⟩, ⟨_, PySem.W.mg_of X G g_PARTS, s_PARTS, by decide +kernel, [("put", t_PARTS_0, a_PARTS_0), ("copy", t_PARTS_1, a_PARTS_1), ("plus", t_PARTS_2, a_PARTS_2), ("less", t_PARTS_3, a_PARTS_3), ("times", t_PARTS_4, a_PARTS_4), ("take", t_PARTS_5, a_PARTS_5), ("tell", t_PARTS_6, a_PARTS_6), ("jump", t_PARTS_7, a_PARTS_7), ("zero", t_PARTS_8, a_PARTS_8), ("below", t_PARTS_9, a_PARTS_9), ("call", t_PARTS_10, a_PARTS_10), ("back", t_PARTS_11, a_PARTS_11)], ep_PARTS, h_PARTS, .cons ⟨rfl, ⟨_, _, _, h_PARTS_0, rfl, rfl, mk_le rfl, .cons ⟨_, rfl⟩ (.cons ⟨_, rfl⟩ (.nil))⟩⟩ (.cons ⟨rfl, ⟨_, _, _, h_PARTS_1, rfl, rfl, mk_le rfl, .cons ⟨_, rfl⟩ (.cons ⟨_, rfl⟩ (.nil))⟩⟩ (.cons ⟨rfl, ⟨_, _, _, h_PARTS_2, rfl, rfl, mk_le rfl, .cons ⟨_, rfl⟩ (.cons ⟨_, rfl⟩ (.cons ⟨_, rfl⟩ (.nil)))⟩⟩ (.cons ⟨rfl, ⟨_, _, _, h_PARTS_3, rfl, rfl, mk_le rfl, .cons ⟨_, rfl⟩ (.cons ⟨_, rfl⟩ (.cons ⟨_, rfl⟩ (.nil)))⟩⟩ (.cons ⟨rfl, ⟨_, _, _, h_PARTS_4, rfl, rfl, mk_le rfl, .cons ⟨_, rfl⟩ (.cons ⟨_, rfl⟩ (.cons ⟨_, rfl⟩ (.nil)))⟩⟩ (.cons ⟨rfl, ⟨_, _, _, h_PARTS_5, rfl, rfl, mk_le rfl, .cons ⟨_, rfl⟩ (.nil)⟩⟩ (.cons ⟨rfl, ⟨_, _, _, h_PARTS_6, rfl, rfl, mk_le rfl, .cons ⟨_, rfl⟩ (.nil)⟩⟩ (.cons ⟨rfl, ⟨_, _, _, h_PARTS_7, rfl, rfl, mk_le rfl, .cons ⟨_, rfl⟩ (.nil)⟩⟩ (.cons ⟨rfl, ⟨_, _, _, h_PARTS_8, rfl, rfl, mk_le rfl, .cons ⟨_, rfl⟩ (.cons ⟨_, rfl⟩ (.nil))⟩⟩ (.cons ⟨rfl, ⟨_, _, _, h_PARTS_9, rfl, rfl, mk_le rfl, .cons ⟨_, rfl⟩ (.cons ⟨_, rfl⟩ (.nil))⟩⟩ (.cons ⟨rfl, ⟨_, _, _, h_PARTS_10, rfl, rfl, mk_le rfl, .cons ⟨_, rfl⟩ (.cons ⟨_, rfl⟩ (.cons ⟨_, rfl⟩ (.nil)))⟩⟩ (.cons ⟨rfl, ⟨_, _, _, h_PARTS_11, rfl, rfl, mk_le rfl, .cons ⟨_, rfl⟩ (.nil)⟩⟩ (.nil))))))))))))⟩⟩
  have F0 := fun_mk (st := s_is_whole) l0 c0 k0
  have T_is_whole : TopFn K mg "is_whole" s_is_whole ["thing"] := ⟨_, _, F0, PySem.W.mg_of X G a0, F0.binds (ps := ["thing"]) fun _ _ _ _ _ _ us hl => match us, hl with | [_], _ => rfl⟩
  have F1 := fun_mk (st := s_formed) l1 c1 k1
  have T_formed : TopFn K mg "formed" s_formed ["program"] := ⟨_, _, F1, PySem.W.mg_of X G a1, F1.binds (ps := ["program"]) fun _ _ _ _ _ _ us hl => match us, hl with | [_], _ => rfl⟩
  have F2 := fun_mk (st := s_head_fits) l2 c2 k2
  have T_head_fits : TopFn K mg "head_fits" s_head_fits ["one"] := ⟨_, _, F2, PySem.W.mg_of X G a2, F2.binds (ps := ["one"]) fun _ _ _ _ _ _ us hl => match us, hl with | [_], _ => rfl⟩
  have F3 := fun_mk (st := s_rows_fit) l3 c3 k3
  have T_rows_fit : TopFn K mg "rows_fit" s_rows_fit ["program", "f"] := ⟨_, _, F3, PySem.W.mg_of X G a3, F3.binds (ps := ["program", "f"]) fun _ _ _ _ _ _ us hl => match us, hl with | [_, _], _ => rfl⟩
  have F4 := fun_mk (st := s_row_fits) l4 c4 k4
  have T_row_fits : TopFn K mg "row_fits" s_row_fits ["program", "row", "counts"] := ⟨_, _, F4, PySem.W.mg_of X G a4, F4.binds (ps := ["program", "row", "counts"]) fun _ _ _ _ _ _ us hl => match us, hl with | [_, _, _], _ => rfl⟩
  have F5 := fun_mk (st := s_part_fits) l5 c5 k5
  have T_part_fits : TopFn K mg "part_fits" s_part_fits ["part", "kind", "counts"] := ⟨_, _, F5, PySem.W.mg_of X G a5, F5.binds (ps := ["part", "kind", "counts"]) fun _ _ _ _ _ _ us hl => match us, hl with | [_, _, _], _ => rfl⟩
  have F6 := fun_mk (st := s__law_bag) l6 c6 k6
  have T__law_bag : TopFn K mg "_law_bag" s__law_bag ["script"] := ⟨_, _, F6, PySem.W.mg_of X G a6, F6.binds (ps := ["script"]) fun _ _ _ _ _ _ us hl => match us, hl with | [_], _ => rfl⟩
  have F7 := fun_mk (st := s__law_draw) l7 c7 k7
  have T__law_draw : TopFn K mg "_law_draw" s__law_draw ["bag", "many"] := ⟨_, _, F7, PySem.W.mg_of X G a7, F7.binds (ps := ["bag", "many"]) fun _ _ _ _ _ _ us hl => match us, hl with | [_, _], _ => rfl⟩
  have F8 := fun_mk (st := s__law_number) l8 c8 k8
  have T__law_number : TopFn K mg "_law_number" s__law_number ["bag"] := ⟨_, _, F8, PySem.W.mg_of X G a8, F8.binds (ps := ["bag"]) fun _ _ _ _ _ _ us hl => match us, hl with | [_], _ => rfl⟩
  have F9 := fun_mk (st := s__law_letters) l9 c9 k9
  have T__law_letters : TopFn K mg "_law_letters" s__law_letters [] := ⟨_, _, F9, PySem.W.mg_of X G a9, F9.binds (ps := []) fun _ _ _ _ _ _ us hl => match us, hl with | [], _ => rfl⟩
  have F10 := fun_mk (st := s__law_part) l10 c10 k10
  have T__law_part : TopFn K mg "_law_part" s__law_part ["bag", "letter", "boxes", "many", "signs"] := ⟨_, _, F10, PySem.W.mg_of X G a10, F10.binds (ps := ["bag", "letter", "boxes", "many", "signs"]) fun _ _ _ _ _ _ us hl => match us, hl with | [_, _, _, _, _], _ => rfl⟩
  have F11 := fun_mk (st := s__law_row) l11 c11 k11
  have T__law_row : TopFn K mg "_law_row" s__law_row ["bag", "word", "boxes", "many", "signs"] := ⟨_, _, F11, PySem.W.mg_of X G a11, F11.binds (ps := ["bag", "word", "boxes", "many", "signs"]) fun _ _ _ _ _ _ us hl => match us, hl with | [_, _, _, _, _], _ => rfl⟩
  have F12 := fun_mk (st := s__law_rows) l12 c12 k12
  have T__law_rows : TopFn K mg "_law_rows" s__law_rows ["bag", "boxes", "many", "signs"] := ⟨_, _, F12, PySem.W.mg_of X G a12, F12.binds (ps := ["bag", "boxes", "many", "signs"]) fun _ _ _ _ _ _ us hl => match us, hl with | [_, _, _, _], _ => rfl⟩
  have F13 := fun_mk (st := s__law_signs) l13 c13 k13
  have T__law_signs : TopFn K mg "_law_signs" s__law_signs ["bag", "many"] := ⟨_, _, F13, PySem.W.mg_of X G a13, F13.binds (ps := ["bag", "many"]) fun _ _ _ _ _ _ us hl => match us, hl with | [_, _], _ => rfl⟩
  have F14 := fun_mk (st := s__law_program) l14 c14 k14
  have T__law_program : TopFn K mg "_law_program" s__law_program ["bag"] := ⟨_, _, F14, PySem.W.mg_of X G a14, F14.binds (ps := ["bag"]) fun _ _ _ _ _ _ us hl => match us, hl with | [_], _ => rfl⟩
  have F15 := fun_mk (st := s__law_pick) l15 c15 k15
  have T__law_pick : TopFn K mg "_law_pick" s__law_pick ["bag"] := ⟨_, _, F15, PySem.W.mg_of X G a15, F15.binds (ps := ["bag"]) fun _ _ _ _ _ _ us hl => match us, hl with | [_], _ => rfl⟩
  have F16 := fun_mk (st := s__law_bound) l16 c16 k16
  have T__law_bound : TopFn K mg "_law_bound" s__law_bound ["program", "one", "row", "k"] := ⟨_, _, F16, PySem.W.mg_of X G a16, F16.binds (ps := ["program", "one", "row", "k"]) fun _ _ _ _ _ _ us hl => match us, hl with | [_, _, _, _], _ => rfl⟩
  have F17 := fun_mk (st := s__law_bent_args) l17 c17 k17
  have T__law_bent_args : TopFn K mg "_law_bent_args" s__law_bent_args ["args", "pick", "mend"] := ⟨_, _, F17, PySem.W.mg_of X G a17, F17.binds (ps := ["args", "pick", "mend"]) fun _ _ _ _ _ _ us hl => match us, hl with | [_, _, _], _ => rfl⟩
  have F18 := fun_mk (st := s__law_bent_row) l18 c18 k18
  have T__law_bent_row : TopFn K mg "_law_bent_row" s__law_bent_row ["program", "one", "row", "pick"] := ⟨_, _, F18, PySem.W.mg_of X G a18, F18.binds (ps := ["program", "one", "row", "pick"]) fun _ _ _ _ _ _ us hl => match us, hl with | [_, _, _, _], _ => rfl⟩
  have F19 := fun_mk (st := s__law_bent_rows) l19 c19 k19
  have T__law_bent_rows : TopFn K mg "_law_bent_rows" s__law_bent_rows ["rows", "pick"] := ⟨_, _, F19, PySem.W.mg_of X G a19, F19.binds (ps := ["rows", "pick"]) fun _ _ _ _ _ _ us hl => match us, hl with | [_, _], _ => rfl⟩
  have F20 := fun_mk (st := s__law_bent_defs) l20 c20 k20
  have T__law_bent_defs : TopFn K mg "_law_bent_defs" s__law_bent_defs ["program", "pick"] := ⟨_, _, F20, PySem.W.mg_of X G a20, F20.binds (ps := ["program", "pick"]) fun _ _ _ _ _ _ us hl => match us, hl with | [_, _], _ => rfl⟩
  have F21 := fun_mk (st := s__law_bent) l21 c21 k21
  have T__law_bent : TopFn K mg "_law_bent" s__law_bent ["program", "pick"] := ⟨_, _, F21, PySem.W.mg_of X G a21, F21.binds (ps := ["program", "pick"]) fun _ _ _ _ _ _ us hl => match us, hl with | [_, _], _ => rfl⟩
  have F22 := fun_mk (st := s__law_part_good) l22 c22 k22
  have T__law_part_good : TopFn K mg "_law_part_good" s__law_part_good ["program", "one", "letter", "part"] := ⟨_, _, F22, PySem.W.mg_of X G a22, F22.binds (ps := ["program", "one", "letter", "part"]) fun _ _ _ _ _ _ us hl => match us, hl with | [_, _, _, _], _ => rfl⟩
  have F23 := fun_mk (st := s__law_row_good) l23 c23 k23
  have T__law_row_good : TopFn K mg "_law_row_good" s__law_row_good ["program", "one", "row"] := ⟨_, _, F23, PySem.W.mg_of X G a23, F23.binds (ps := ["program", "one", "row"]) fun _ _ _ _ _ _ us hl => match us, hl with | [_, _, _], _ => rfl⟩
  have F24 := fun_mk (st := s__law_formed) l24 c24 k24
  have T__law_formed : TopFn K mg "_law_formed" s__law_formed ["program"] := ⟨_, _, F24, PySem.W.mg_of X G a24, F24.binds (ps := ["program"]) fun _ _ _ _ _ _ us hl => match us, hl with | [_], _ => rfl⟩
  have F25 := fun_mk (st := s__law_copy) l25 c25 k25
  have T__law_copy : TopFn K mg "_law_copy" s__law_copy ["program"] := ⟨_, _, F25, PySem.W.mg_of X G a25, F25.binds (ps := ["program"]) fun _ _ _ _ _ _ us hl => match us, hl with | [_], _ => rfl⟩
  have F26 := fun_mk (st := s__law_alike) l26 c26 k26
  have T__law_alike : TopFn K mg "_law_alike" s__law_alike ["found", "due"] := ⟨_, _, F26, PySem.W.mg_of X G a26, F26.binds (ps := ["found", "due"]) fun _ _ _ _ _ _ us hl => match us, hl with | [_, _], _ => rfl⟩
  have F27 := fun_mk (st := s_law) l27 c27 k27
  have e := hfa.symm.trans (PySem.W.mg_of X G a27)
  cases e
  refine ⟨PySem.W.fnOf "law" "law" (defArgs s_law) (defBody s_law) (defScope s_law) .none kV27 dc27 pm27 an27 cd27 ct27, fun s v => .of_eq rfl, fun base _ _ => ?_⟩
  exact law_fn (B := B) (G := GG) (T_is_whole := T_is_whole) (T_formed := T_formed) (T_head_fits := T_head_fits) (T_rows_fit := T_rows_fit) (T_row_fits := T_row_fits) (T_part_fits := T_part_fits) (T__law_bag := T__law_bag) (T__law_draw := T__law_draw) (T__law_number := T__law_number) (T__law_letters := T__law_letters) (T__law_part := T__law_part) (T__law_row := T__law_row) (T__law_rows := T__law_rows) (T__law_signs := T__law_signs) (T__law_program := T__law_program) (T__law_pick := T__law_pick) (T__law_bound := T__law_bound) (T__law_bent_args := T__law_bent_args) (T__law_bent_row := T__law_bent_row) (T__law_bent_rows := T__law_bent_rows) (T__law_bent_defs := T__law_bent_defs) (T__law_bent := T__law_bent) (T__law_part_good := T__law_part_good) (T__law_row_good := T__law_row_good) (T__law_formed := T__law_formed) (T__law_copy := T__law_copy) (T__law_alike := T__law_alike) (T_law := F27)

end My
open PySem PySem.W PyProof.Rows
set_option maxRecDepth 100000 in
set_option maxHeartbeats 0 in
theorem PySem.Challenge.cw_midlanes_k12_formed_holds : PySem.Challenge.rw_midlanes_k12_formed.Holds := by
  w_on; o_law; k_head; (case hw => w_witness2)
  k_fill
  refine L2.walk_of (l := PySem.Challenge.rw_midlanes_k12_formed) (n := 63) (k := 12) (x := "script") (CX := fun _ => L2.CX0) (sp := fun w => L2.spLaw _) rfl (by decide) rfl ⟨rfl, by decide, by decide⟩ (fun w h Y => PySem.W.kIn_of Y) ?F (fun _ _ a ns hl _ hS => L2.spLaw_of hl hS) (fun _ _ _ _ _ z => z)
  case F =>
    intro w mg fa h KX G hmg
    refine' My.all_mk KX G hmg ?a0 ?l0 ?c0 ?k0 ?a1 ?l1 ?c1 ?k1 ?a2 ?l2 ?c2 ?k2 ?a3 ?l3 ?c3 ?k3 ?a4 ?l4 ?c4 ?k4 ?a5 ?l5 ?c5 ?k5 ?a6 ?l6 ?c6 ?k6 ?a7 ?l7 ?c7 ?k7 ?a8 ?l8 ?c8 ?k8 ?a9 ?l9 ?c9 ?k9 ?a10 ?l10 ?c10 ?k10 ?a11 ?l11 ?c11 ?k11 ?a12 ?l12 ?c12 ?k12 ?a13 ?l13 ?c13 ?k13 ?a14 ?l14 ?c14 ?k14 ?a15 ?l15 ?c15 ?k15 ?a16 ?l16 ?c16 ?k16 ?a17 ?l17 ?c17 ?k17 ?a18 ?l18 ?c18 ?k18 ?a19 ?l19 ?c19 ?k19 ?a20 ?l20 ?c20 ?k20 ?a21 ?l21 ?c21 ?k21 ?a22 ?l22 ?c22 ?k22 ?a23 ?l23 ?c23 ?k23 ?a24 ?l24 ?c24 ?k24 ?a25 ?l25 ?c25 ?k25 ?a26 ?l26 ?c26 ?k26 ?a27 ?l27 ?c27 ?k27 ?g_MOST_BOXES ?g_MOST_DEFS ?g_MOST_FACTOR ?g_MOST_ROWS ?g_MOST_TAKES ?g_PARTS ?h_PARTS ?s_PARTS ?h_PARTS_0 ?h_PARTS_1 ?h_PARTS_2 ?h_PARTS_3 ?h_PARTS_4 ?h_PARTS_5 ?h_PARTS_6 ?h_PARTS_7 ?h_PARTS_8 ?h_PARTS_9 ?h_PARTS_10 ?h_PARTS_11 ?z_abs ?z_all ?z_bool ?z_int ?z_isinstance ?z_len ?z_list ?z_max ?z_min ?z_range ?z_str ?z_tuple ?z_zip
    (case a0 => k_is)
    (case l0 => k_is)
    (case c0 => k_is)
    (case k0 => k_is)
    (case a1 => k_is)
    (case l1 => k_is)
    (case c1 => k_is)
    (case k1 => k_is)
    (case a2 => k_is)
    (case l2 => k_is)
    (case c2 => k_is)
    (case k2 => k_is)
    (case a3 => k_is)
    (case l3 => k_is)
    (case c3 => k_is)
    (case k3 => k_is)
    (case a4 => k_is)
    (case l4 => k_is)
    (case c4 => k_is)
    (case k4 => k_is)
    (case a5 => k_is)
    (case l5 => k_is)
    (case c5 => k_is)
    (case k5 => k_is)
    (case a6 => k_is)
    (case l6 => k_is)
    (case c6 => k_is)
    (case k6 => k_is)
    (case a7 => k_is)
    (case l7 => k_is)
    (case c7 => k_is)
    (case k7 => k_is)
    (case a8 => k_is)
    (case l8 => k_is)
    (case c8 => k_is)
    (case k8 => k_is)
    (case a9 => k_is)
    (case l9 => k_is)
    (case c9 => k_is)
    (case k9 => k_is)
    (case a10 => k_is)
    (case l10 => k_is)
    (case c10 => k_is)
    (case k10 => k_is)
    (case a11 => k_is)
    (case l11 => k_is)
    (case c11 => k_is)
    (case k11 => k_is)
    (case a12 => k_is)
    (case l12 => k_is)
    (case c12 => k_is)
    (case k12 => k_is)
    (case a13 => k_is)
    (case l13 => k_is)
    (case c13 => k_is)
    (case k13 => k_is)
    (case a14 => k_is)
    (case l14 => k_is)
    (case c14 => k_is)
    (case k14 => k_is)
    (case a15 => k_is)
    (case l15 => k_is)
    (case c15 => k_is)
    (case k15 => k_is)
    (case a16 => k_is)
    (case l16 => k_is)
    (case c16 => k_is)
    (case k16 => k_is)
    (case a17 => k_is)
    (case l17 => k_is)
    (case c17 => k_is)
    (case k17 => k_is)
    (case a18 => k_is)
    (case l18 => k_is)
    (case c18 => k_is)
    (case k18 => k_is)
    (case a19 => k_is)
    (case l19 => k_is)
    (case c19 => k_is)
    (case k19 => k_is)
    (case a20 => k_is)
    (case l20 => k_is)
    (case c20 => k_is)
    (case k20 => k_is)
    (case a21 => k_is)
    (case l21 => k_is)
    (case c21 => k_is)
    (case k21 => k_is)
    (case a22 => k_is)
    (case l22 => k_is)
    (case c22 => k_is)
    (case k22 => k_is)
    (case a23 => k_is)
    (case l23 => k_is)
    (case c23 => k_is)
    (case k23 => k_is)
    (case a24 => k_is)
    (case l24 => k_is)
    (case c24 => k_is)
    (case k24 => k_is)
    (case a25 => k_is)
    (case l25 => k_is)
    (case c25 => k_is)
    (case k25 => k_is)
    (case a26 => k_is)
    (case l26 => k_is)
    (case c26 => k_is)
    (case k26 => k_is)
    (case a27 => k_is)
    (case l27 => k_is)
    (case c27 => k_is)
    (case k27 => k_is)
    (case g_MOST_BOXES => k_is)
    (case g_MOST_DEFS => k_is)
    (case g_MOST_FACTOR => k_is)
    (case g_MOST_ROWS => k_is)
    (case g_MOST_TAKES => k_is)
    (case g_PARTS => k_is)
    (case h_PARTS => k_is)
    (case s_PARTS => first | rfl | decide)
    (case h_PARTS_0 => k_is)
    (case h_PARTS_1 => k_is)
    (case h_PARTS_2 => k_is)
    (case h_PARTS_3 => k_is)
    (case h_PARTS_4 => k_is)
    (case h_PARTS_5 => k_is)
    (case h_PARTS_6 => k_is)
    (case h_PARTS_7 => k_is)
    (case h_PARTS_8 => k_is)
    (case h_PARTS_9 => k_is)
    (case h_PARTS_10 => k_is)
    (case h_PARTS_11 => k_is)
    (case z_abs => k_is)
    (case z_all => k_is)
    (case z_bool => k_is)
    (case z_int => k_is)
    (case z_isinstance => k_is)
    (case z_len => k_is)
    (case z_list => k_is)
    (case z_max => k_is)
    (case z_min => k_is)
    (case z_range => k_is)
    (case z_str => k_is)
    (case z_tuple => k_is)
    (case z_zip => k_is)

