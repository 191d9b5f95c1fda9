import PyProof.Rows.All
import Wide.All
import OpenK.AllK
import Wide.FinOn
import Lean
import PyProof.EqAt
import PyProof.EqKinds
import PyProof.TupleCall
import PyProof.NeKinds
import KE.KDictSum
import PyProof.Rows.SortRuns
import PySem.SetOps
import PyProof.Rows.SetFrom
import PyProof.DictWalks
import PyProof.FactsAll.set_1
import PyProof.FactsAll.set_2
import PyProof.MakeMany
import PyProof.CollectWalk
import PyProof.Rows.SortShell
import PyProof.StrWalks
import PyProof.StrLoop
import PyProof.ZipIter
import KE.KUnpack
import PySem.Challenge.RW_midlanes_k24_ends
section
set_option Elab.async false
set_option linter.all false
set_option maxRecDepth 100000
/-! THE HAND LAYER, for ints, bools, texts, own classes, LISTS and tuples (index, slices, in, append, pop ..), calls, loops. Paste it whole ahead of your own text; what your proof does not reach may be deleted. -/
namespace L2
open PySem PySem.Spec PyProof.Rows

/-- a key: an int or a str -/
abbrev Key := Sum Int Str
def keyIs : Key → Value → Bool
  | .inl k, v => Value.isInt k v
  | .inr x, v => Value.isStrOf x v
def keyH (w : World) : Key → Int
  | .inl k => hashInt k
  | .inr x => hashStr w x
theorem keyIs_shape : ∀ {k : Key} {v : Value}, keyIs k v = true → (∃ i t, k = Sum.inl i ∧ v = Value.int i t) ∨ (∃ x t, k = Sum.inr x ∧ v = Value.str x t)
  | .inl i, v, h => by
    obtain ⟨t, e⟩ := Value.isInt_shape (k := i) (v := v) h
    exact .inl ⟨i, t, rfl, e⟩
  | .inr x, v, h => by
    obtain ⟨t, e⟩ := Value.isStrOf_shape (x := x) (v := v) h
    exact .inr ⟨x, t, rfl, e⟩
theorem key_ll (a b : Int) : decide ((Sum.inl a : Key) = Sum.inl b) = (a == b) := by
  by_cases e : a = b
  · subst e; simp
  · have h : ¬ (Sum.inl a : Key) = Sum.inl b := fun q => e (Sum.inl.inj q)
    rw [decide_eq_false h]
    exact (beq_eq_false_iff_ne.mpr e).symm
theorem key_rr (a b : Str) : decide ((Sum.inr a : Key) = Sum.inr b) = decide (a = b) := by
  by_cases e : a = b
  · subst e; simp
  · have h : ¬ (Sum.inr a : Key) = Sum.inr b := fun q => e (Sum.inr.inj q)
    rw [decide_eq_false h, decide_eq_false e]
theorem key_lr (a : Int) (b : Str) : decide ((Sum.inl a : Key) = Sum.inr b) = false := decide_eq_false (fun q => nomatch q)
theorem key_rl (a : Str) (b : Int) : decide ((Sum.inr a : Key) = Sum.inl b) = false := decide_eq_false (fun q => nomatch q)

def mixKind (prog : Program) (w : World) : PySem.KeyKind prog w Key where
  is := keyIs
  hash := keyH w
  inj := fun v a b ha hb => by
    rcases keyIs_shape ha with ⟨i, t, rfl, rfl⟩ | ⟨x, t, rfl, rfl⟩
    · rcases keyIs_shape hb with ⟨j, u, rfl, e⟩ | ⟨y, u, rfl, e⟩
      · injection e with e1 _; rw [e1]
      · exact nomatch e
    · rcases keyIs_shape hb with ⟨j, u, rfl, e⟩ | ⟨y, u, rfl, e⟩
      · exact nomatch e
      · injection e with e1 _; rw [e1]
  byValue := fun k v h => by
    rcases keyIs_shape h with ⟨i, t, rfl, rfl⟩ | ⟨x, t, rfl, rfl⟩ <;> rfl
  pyHash := fun hv h => by
    rcases keyIs_shape hv with ⟨i, t, rfl, rfl⟩ | ⟨x, t, rfl, rfl⟩
    · exact wpAny_pyHash_int h
    · exact wpAny_pyHash_str h
  eqBool := fun hu hv h => by
    rcases keyIs_shape hu with ⟨i, t, rfl, rfl⟩ | ⟨x, t, rfl, rfl⟩
    · rcases keyIs_shape hv with ⟨j, u, rfl, rfl⟩ | ⟨y, u, rfl, rfl⟩
      · rw [key_ll] at h; exact wpAny_eqBool_int h
      · rw [key_lr] at h; exact SeqAt.EqAt.int_str i t y u _ _ _ _ h
    · rcases keyIs_shape hv with ⟨j, u, rfl, rfl⟩ | ⟨y, u, rfl, rfl⟩
      · rw [key_rl] at h; exact SeqAt.EqAt.str_int x t j u _ _ _ _ h
      · rw [key_rr] at h; exact wpAny_eqBool_str h
  «strs» := fun k x t v h => by
    rcases keyIs_shape h with ⟨i, u, rfl, e⟩ | ⟨y, u, rfl, e⟩
    · exact nomatch e
    · injection e with e1 _
      subst e1
      cases v <;> rfl

end L2

namespace L2
open PySem PySem.Spec PyProof.Rows

/-- a value, without the heap -/
inductive V where
  | non | bl (b : Bool) | int (i : Int) | str (x : Str) | byt (b : Array UInt8) | flt (b : UInt64) | ref (a : Addr) | ty (n : String)
  deriving DecidableEq

def RelV : V → Value → Prop
  | .non, u => u = Value.none
  | .bl b, u => u = Value.bool b
  | .int i, u => ∃ t, u = Value.int i t
  | .str x, u => ∃ t, u = Value.str x t
  | .byt b, u => ∃ t, u = Value.bytes b t
  | .flt b, u => ∃ t, u = Value.float b t
  | .ref a, u => u = Value.ref a
  | .ty n, u => u = Value.type n

abbrev Vals : List V → List Value → Prop := Paired RelV
theorem Vals.length {xs : List V} {us : List Value} (r : Vals xs us) : xs.length = us.length := Paired.length r
theorem Vals.get : ∀ {xs : List V} {us : List Value} {i : Nat} {x : V}, Vals xs us → xs[i]? = some x → ∃ u, us[i]? = some u ∧ RelV x u
  | _, _, _, _, .nil, e => by simp at e
  | _, _, 0, _, .cons r _, e => by simp at e; subst e; exact ⟨_, rfl, r⟩
  | _, _, i + 1, x, .cons _ t, e => by
    obtain ⟨u, h1, h2⟩ := Vals.get (i := i) (x := x) t (by simpa using e)
    exact ⟨u, by simpa using h1, h2⟩
theorem Vals.set {x : V} {u : Value} (r : RelV x u) : ∀ {xs : List V} {us : List Value} (i : Nat), Vals xs us → Vals (xs.set i x) (us.set i u)
  | _, _, _, .nil => .nil
  | _, _, 0, .cons _ t => .cons r t
  | _, _, i + 1, .cons q t => .cons q (Vals.set r i t)
theorem Vals.append : ∀ {xs ys : List V} {us ws : List Value}, Vals xs us → Vals ys ws → Vals (xs ++ ys) (us ++ ws)
  | _, _, _, _, .nil, s => s
  | _, _, _, _, .cons r t, s => .cons r (Vals.append t s)
theorem Vals.take : ∀ {xs : List V} {us : List Value} (n : Nat), Vals xs us → Vals (xs.take n) (us.take n)
  | _, _, 0, _ => .nil
  | _, _, _ + 1, .nil => .nil
  | _, _, n + 1, .cons r t => .cons r (Vals.take n t)
theorem Vals.drop : ∀ {xs : List V} {us : List Value} (n : Nat), Vals xs us → Vals (xs.drop n) (us.drop n)
  | _, _, 0, r => r
  | _, _, _ + 1, .nil => .nil
  | _, _, n + 1, .cons _ t => Vals.drop n t
def RelO : Option V → Option Value → Prop
  | some v, some u => RelV v u
  | none, none => True
  | _, _ => False
def KV {κ : Type} : List (κ × V) → List (κ × Value) → Prop := Paired fun (p : κ × V) (q : κ × Value) => p.1 = q.1 ∧ RelV p.2 q.2

/-- a key of a dict (00_mix): an int or a text -/
def kV : Key → V
  | .inl i => .int i
  | .inr x => .str x

/-- what stands at a tracked address -/
inductive HO where
  /-- a list -/
  | lst (xs : List V)
  /-- a tuple (never changes) -/
  | tup (xs : List V)
  /-- a dict whose keys are ints and texts; one whose keys are tuples of ints and texts (the empty one is both) -/
  | dK (kvs : List (Key × V)) | dT (kvs : List (List Key × V))
  /-- a set of ints: its members, its size -/
  | set (S : Int → Bool) (n : Nat)
  /-- an instance of the class at C, its dict at dx, its attributes -/
  | ins (C dx : Addr) (fs : List (Str × V))
  /-- the dict of the instance at x -/
  | own (x : Addr)
  /-- the dict of an exception -/
  | xd (fs : List (Str × V))
  /-- a bound method, f of x -/
  | met (f x : Addr)
  /-- a range object lo, lo + 1, .. below hi -/
  | rng (lo hi : Int)
  /-- a thing that is known to the object (the script; a dict while a loop walks it): read, never written while it is so -/
  | frz (o : Obj) (u : HO)
  /-- a code object's table -/
  | tbl (ps : Array Value)
  /-- any other thing, by what is true of its one object (a def of one's own: SetO a S n := HO.ext fun h => ..) -/
  | ext (φ : Heap → Prop)

abbrev Hp := Addr → Option HO
def upd (H : Hp) (a : Addr) (o : HO) : Hp := fun b => if b = a then some o else H b
theorem upd_same {H : Hp} {a : Addr} {o : HO} : upd H a o a = some o := by unfold upd; rw [if_pos rfl]
theorem upd_ne {H : Hp} {a b : Addr} {o : HO} (h : b ≠ a) : upd H a o b = H b := by unfold upd; rw [if_neg h]
/-- two objects of different content stand apart -/
theorem ne_of {H : Hp} {a b : Addr} {o u : HO} (h : H a = some o) (h' : H b = some u) (d : o ≠ u) : a ≠ b := by
  intro e; subst e; rw [h] at h'; exact d (Option.some.inj h')
theorem ne_of_none {H : Hp} {a b : Addr} {o : HO} (h : H a = some o) (h' : H b = none) : a ≠ b := by
  intro e; subst e; rw [h] at h'; cases h'

section
variable (P : Program) (w : World)
def ObjOk (H : Hp) (h : Heap) (a : Addr) : HO → Prop
  | .lst xs => xs.length ≤ sizeLine ∧ ∃ (its : List Value) (n : Nat), Vals xs its ∧ h.get? a = some { cls := .type "list", data := .seq its.toArray n }
  | .tup xs => xs.length ≤ sizeLine ∧ ∃ its : List Value, Vals xs its ∧ IsTup h a its.toArray
  | .dK kvs => kvs.length ≤ sizeLine ∧ (a == sysModules) = false ∧ ∃ vs, KV kvs vs ∧ h.DictOf (mixKind P w) a vs
  | .dT kvs => kvs.length ≤ sizeLine ∧ (a == sysModules) = false ∧ ∃ xs : List (List Key × Addr × Value),
      Paired (fun (p : List Key × V) (q : List Key × Addr × Value) => p.1 = q.1 ∧ H q.2.1 = some (.tup (p.1.map kV)) ∧ RelV p.2 q.2.2) kvs xs ∧
      ∃ o es ep, h.get? a = some o ∧ o.ExactDict ∧ o.data = .dict es ep ∧ es.toList = xs.map (entryOfKey (tupleKind (mixKind P w))) ∧ (xs.map (·.1)).Nodup
  | .set S n => h.SetOf (intKind P w) a S n
  | .ins C dx fs => H dx = some (.own a) ∧ fs.length ≤ 1000 ∧ dx ≠ a ∧ h.get? a = some (PySem.W.instObj C dx) ∧
      ∃ mA, h.Ns1 dx mA ∧ (∀ f, RelO (fs.lookup f) (mA f)) ∧ PySem.Within mA (fs.map (·.1))
  | .own _ => ∃ o, h.get? a = some o
  | .xd fs => ∃ mA, h.Ns1 a mA ∧ ∀ f, RelO (fs.lookup f) (mA f)
  | .rng lo hi => ∃ t u v, h.get? a = some { cls := .type "range", data := .fields #[.int lo t, .int hi u, .int 1 v] }
  | .frz o u => h.get? a = some o ∧ ObjOk H h a u
  | .tbl ps => h.get? a = some { cls := .none, data := .fields ps }
  | .met f x => h.get? a = some (PySem.W.methodObj (.ref f) (.ref x))
  | .ext φ => φ h ∧ (∃ o, h.get? a = some o) ∧ ∀ h1 h2 : Heap, φ h1 → (∀ o, h1.get? a = some o → h2.get? a = some o) → φ h2
/-- the abstract heap is held -/
def HOk (H : Hp) (h : Heap) : Prop := ∀ a o, H a = some o → ObjOk P w H h a o
end

section
variable {P : Program} {w : World} {H H' : Hp} {h h' : Heap} {a : Addr} {o : HO}
theorem ObjOk.lt (x : ObjOk P w H h a o) : a < h.objs.size := by
  cases o with
  | lst xs => obtain ⟨_, _, _, _, e⟩ := x; exact Heap.lt_size e
  | tup xs => obtain ⟨_, _, _, p⟩ := x; exact p.lt
  | dK kvs => obtain ⟨_, _, _, _, o, _, _, e, _⟩ := x; exact Heap.lt_size e
  | dT kvs => obtain ⟨_, _, _, _, o, _, _, e, _⟩ := x; exact Heap.lt_size e
  | set S n => obtain ⟨o, _, _, _, e, _⟩ := x; exact Heap.lt_size e
  | ins C dx fs => obtain ⟨_, _, _, e, _⟩ := x; exact Heap.lt_size e
  | own y => obtain ⟨_, e⟩ := x; exact Heap.lt_size e
  | xd fs => obtain ⟨_, ⟨_, _, _, e, _⟩, _⟩ := x; exact Heap.lt_size e
  | rng lo hi => obtain ⟨_, _, _, e⟩ := x; exact Heap.lt_size e
  | frz ob u => obtain ⟨e, _⟩ := x; exact Heap.lt_size e
  | tbl ps => exact Heap.lt_size (show h.get? a = some _ from x)
  | met f y => exact Heap.lt_size (show h.get? a = some _ from x)
  | ext φ => obtain ⟨_, ⟨_, e⟩, _⟩ := x; exact Heap.lt_size e
theorem Paired.mapP {α β : Type} {F G : α → β → Prop} : ∀ {l₁ : List α} {l₂ : List β}, Paired F l₁ l₂ → (∀ a b, F a b → G a b) → Paired G l₁ l₂
  | _, _, .nil, _ => .nil
  | _, _, .cons r t, f => .cons (f _ _ r) (Paired.mapP t f)
/-- what an object's description leans on: its own object, its own dict, the tuples -/
theorem ObjOk.stay (x : ObjOk P w H h a o) (k : ∀ b u, (b = a ∨ H b = some (.own a)) → h.get? b = some u → h'.get? b = some u)
    (ho : ∀ b, H b = some (.own a) → H' b = some (.own a)) (ht : ∀ b xs, H b = some (.tup xs) → H' b = some (.tup xs)) : ObjOk P w H' h' a o := by
  induction o with
  | lst xs => obtain ⟨z, its, n, r, e⟩ := x; exact ⟨z, its, n, r, k _ _ (.inl rfl) e⟩
  | tup xs => obtain ⟨z, its, r, ob, e, c⟩ := x; exact ⟨z, its, r, ob, k _ _ (.inl rfl) e, c⟩
  | dK kvs => obtain ⟨z, y, vs, r, ob, es, ep, e, c⟩ := x; exact ⟨z, y, vs, r, ob, es, ep, k _ _ (.inl rfl) e, c⟩
  | dT kvs =>
    obtain ⟨z, y, xs, r, ob, es, ep, e, c⟩ := x
    exact ⟨z, y, xs, Paired.mapP r fun p q z => ⟨z.1, ht _ _ z.2.1, z.2.2⟩, ob, es, ep, k _ _ (.inl rfl) e, c⟩
  | set S n => obtain ⟨ob, es, ep, t, e, c⟩ := x; exact ⟨ob, es, ep, t, k _ _ (.inl rfl) e, c⟩
  | ins C dx fs =>
    obtain ⟨d, z, ne, e, mA, ⟨od, es, ep, e2, c⟩, r⟩ := x
    exact ⟨ho _ d, z, ne, k _ _ (.inl rfl) e, mA, ⟨od, es, ep, k _ _ (.inr d) e2, c⟩, r⟩
  | own y => obtain ⟨ob, e⟩ := x; exact ⟨ob, k _ _ (.inl rfl) e⟩
  | xd fs => obtain ⟨mA, ⟨od, es, ep, e, c⟩, r⟩ := x; exact ⟨mA, ⟨od, es, ep, k _ _ (.inl rfl) e, c⟩, r⟩
  | rng lo hi => obtain ⟨t, u, v, e⟩ := x; exact ⟨t, u, v, k _ _ (.inl rfl) e⟩
  | frz ob u ih => obtain ⟨e, q⟩ := x; exact ⟨k _ _ (.inl rfl) e, ih q⟩
  | tbl ps =>
    have e : h.get? a = some { cls := .none, data := .fields ps } := x
    show h'.get? a = some { cls := .none, data := .fields ps }
    exact k a _ (.inl rfl) e
  | met f y =>
    have e : h.get? a = some (PySem.W.methodObj (.ref f) (.ref y)) := x
    show h'.get? a = some (PySem.W.methodObj (.ref f) (.ref y))
    exact k a _ (.inl rfl) e
  | ext φ => obtain ⟨p, ⟨o, e⟩, st⟩ := x; exact ⟨st _ _ p fun o q => k _ _ (.inl rfl) q, ⟨o, k _ _ (.inl rfl) e⟩, st⟩
theorem HOk.lt (x : HOk P w H h) (e : H a = some o) : a < h.objs.size := (x a o e).lt
theorem HOk.fresh (x : HOk P w H h) (e : h.objs.size ≤ a) : H a = none := by
  cases q : H a with
  | none => rfl
  | some u => exact absurd (Nat.lt_of_lt_of_le (x.lt q) e) (Nat.lt_irrefl _)
/-- every object of the heap is kept -/
theorem HOk.kept (x : HOk P w H h) (k : ∀ b u, h.get? b = some u → h'.get? b = some u) : HOk P w H h' := fun a o e =>
  (x a o e).stay (fun b u _ q => k b u q) (fun _ q => q) fun _ _ q => q
/-- a new object is laid and tracked -/
theorem HOk.laid (x : HOk P w H h) (k : ∀ b u, h.get? b = some u → h'.get? b = some u) (hp : h.objs.size ≤ a) (new : ObjOk P w (upd H a o) h' a o) : HOk P w (upd H a o) h' := fun b u e => by
  have hn := x.fresh hp
  by_cases hb : b = a
  · subst hb; rw [upd_same] at e; cases e; exact new
  · rw [upd_ne hb] at e
    exact (x b u e).stay (fun c v _ q => k c v q) (fun c q => by rw [upd_ne (ne_of_none q hn)]; exact q) fun c xs q => by rw [upd_ne (ne_of_none q hn)]; exact q
end

/-- what may be read as u: it is u, or a known u -/
def Rd (H : Hp) (a : Addr) (u : HO) : Prop := H a = some u ∨ ∃ o, H a = some (.frz o u)
theorem Rd.ok {P : Program} {w : World} {H : Hp} {h : Heap} {a : Addr} {u : HO} (r : Rd H a u) (x : HOk P w H h) : ObjOk P w H h a u := by
  rcases r with r | ⟨o, r⟩
  · exact x a u r
  · obtain ⟨_, q⟩ := x a _ r
    exact q
/-- what may be written -/
def Mut : Option HO → Prop
  | some (.lst _) => True
  | some (.dK _) => True
  | some (.dT _) => True
  | some (.set _ _) => True
  | some (.ins _ _ _) => True
  | some (.ext _) => True
  | _ => False
section
variable {P : Program} {w : World} {H : Hp} {h h' : Heap} {x e : Addr} {o' : HO}
/-- the object at e is changed: x itself, or the dict of the instance x -/
theorem HOk.write (ok : HOk P w H h) (mu : Mut (H x)) (he : e = x ∨ H e = some (.own x)) (k : ∀ b u, b ≠ e → h.get? b = some u → h'.get? b = some u) (heo : ∃ u, h'.get? e = some u)
    (new : ObjOk P w (upd H x o') h' x o') : HOk P w (upd H x o') h' := fun b u q => by
  have nown : ∀ c y, H c = some (.own y) → c ≠ x := fun c y r z => by subst z; rw [r] at mu; exact mu
  have ntup : ∀ c xs, H c = some (.tup xs) → c ≠ x := fun c xs r z => by subst z; rw [r] at mu; exact mu
  by_cases hb : b = x
  · subst hb; rw [upd_same] at q; cases q; exact new
  · rw [upd_ne hb] at q
    by_cases hbe : b = e
    · have q' : H b = some (.own x) := by
        rcases he with z | z
        · exact absurd (hbe.trans z) hb
        · rw [hbe]; exact z
      rw [q] at q'; cases q'
      obtain ⟨v, hv⟩ := heo
      exact ⟨v, by rw [hbe]; exact hv⟩
    · refine (ok b u q).stay (fun c v hc r => k c v ?_ r) (fun c r => by rw [upd_ne (nown c b r)]; exact r) fun c xs r => by rw [upd_ne (ntup c xs r)]; exact r
      rcases hc with rfl | hc
      · exact hbe
      · rintro rfl
        rcases he with z | z
        · exact nown c b hc z
        · rw [hc] at z; cases z; exact hb rfl
end

/-! ### kept unless tracked; of the frames at fs (the callers') the slots may change (an exception that passes writes there); of the records at ex (iterators) nothing is said -/
structure Un (fs ex : List Addr) (H H' : Hp) (h h' : Heap) : Prop where
  keep : ∀ b o, h.get? b = some o → H b = none → b ∉ fs → b ∉ ex → h'.get? b = some o
  slot : ∀ b o, h.get? b = some o → H b = none → b ∈ fs → b ∉ ex → ∃ sl, h'.get? b = some { o with slots := sl }
  free : ∀ b o, h.get? b = some o → H b = none → b ∉ ex → H' b = none
  there : ∀ b o, h.get? b = some o → b ∉ ex → ∃ o', h'.get? b = some o'
  tups : ∀ b xs, H b = some (.tup xs) → H' b = some (.tup xs)
  frzs : ∀ b o u, H b = some (.frz o u) → H' b = some (.frz o u)
  tbls : ∀ b ps, H b = some (.tbl ps) → ∃ more, H' b = some (.tbl (ps ++ more))
section
variable {fs fs' ex ex' : List Addr} {H H1 H2 : Hp} {h h1 h2 h' : Heap} {a x e : Addr} {o : HO}
theorem Un.any (u : Un fs ex H H1 h h1) {b : Addr} {ob : Obj} (q : h.get? b = some ob) (n : H b = none) (hx : b ∉ ex) : ∃ sl, h1.get? b = some { ob with slots := sl } := by
  by_cases hb : b ∈ fs
  · exact u.slot b ob q n hb hx
  · exact ⟨ob.slots, u.keep b ob q n hb hx⟩
theorem Un.kept (k : ∀ b u, h.get? b = some u → h'.get? b = some u) : Un fs ex H H h h' :=
  ⟨fun b ob q _ _ _ => k b ob q, fun b ob q _ _ _ => ⟨ob.slots, k b ob q⟩, fun _ _ _ n _ => n, fun b ob q _ => ⟨ob, k b ob q⟩, fun _ _ q => q, fun _ _ _ q => q, fun _ ps q => ⟨#[], by rw [q]; simp⟩⟩
theorem Un.refl : Un fs ex H H h h := Un.kept fun _ _ q => q
theorem Un.laid (k : ∀ b u, h.get? b = some u → h'.get? b = some u) (hp : h.objs.size ≤ a) (hn : H a = none) : Un fs ex H (upd H a o) h h' where
  keep := fun b u q _ _ _ => k b u q
  slot := fun b u q _ _ _ => ⟨u.slots, k b u q⟩
  free := fun b u q n _ => by rw [upd_ne (Nat.ne_of_lt (Nat.lt_of_lt_of_le (Heap.lt_size q) hp))]; exact n
  there := fun b u q _ => ⟨u, k b u q⟩
  tups := fun b xs q => by rw [upd_ne (ne_of_none q hn)]; exact q
  frzs := fun b u xs q => by rw [upd_ne (ne_of_none q hn)]; exact q
  tbls := fun b ps q => ⟨#[], by rw [upd_ne (ne_of_none q hn), q]; simp⟩
theorem Un.write (mu : Mut (H x)) (he : e = x ∨ H e = some (.own x)) (k : ∀ b u, b ≠ e → h.get? b = some u → h'.get? b = some u) (heo : ∃ u, h'.get? e = some u) : Un fs ex H (upd H x o) h h' := by
  have hx : ∀ b, H b = none → b ≠ x := fun b n z => by subst z; rw [n] at mu; exact mu
  have hb : ∀ b, H b = none → b ≠ e := fun b n z => by
    subst z
    rcases he with r | r
    · exact hx b n r
    · rw [n] at r; cases r
  have hm : ∀ b u, H b = some u → ¬ Mut (some u) → b ≠ x := fun b u q nm z => by subst z; rw [q] at mu; exact nm mu
  refine ⟨fun b u q n _ _ => k b u (hb b n) q, fun b u q n _ _ => ⟨u.slots, k b u (hb b n) q⟩, fun b u q n _ => by rw [upd_ne (hx b n)]; exact n, fun b u q _ => ?_,
    fun b xs q => by rw [upd_ne (hm b _ q fun z => z)]; exact q, fun b u xs q => by rw [upd_ne (hm b _ q fun z => z)]; exact q, fun b ps q => ⟨#[], by rw [upd_ne (hm b _ q fun z => z), q]; simp⟩⟩
  by_cases hbe : b = e
  · subst hbe; exact heo
  · exact ⟨u, k b u hbe q⟩
end

/-! ### the heap without what is tracked -/
def trk (h : Heap) (H : Hp) : List Addr := (List.range h.objs.size).filter fun a => (H a).isSome
def hidT (h : Heap) (H : Hp) : Heap := PySem.W.hideAll h (trk h H)
theorem hidT_size (h : Heap) (H : Hp) : (hidT h H).objs.size = h.objs.size := PySem.W.hideAll_size _ _
theorem hidT_get {h : Heap} {H : Hp} {b : Addr} {o : Obj} (e : h.get? b = some o) (n : H b = none) : (hidT h H).get? b = some o :=
  PySem.W.hideAll_get _ e fun hm => by
    have q : (H b).isSome = true := (List.mem_filter.mp hm).2
    rw [n] at q; simp at q
theorem of_hidT {h : Heap} {H : Hp} {b : Addr} {o : Obj} (e : (hidT h H).get? b = some o) : h.get? b = some o ∧ H b = none := by
  have e' : h.get? b = some o := PySem.W.of_hideAll (trk h H) e
  refine ⟨e', ?_⟩
  cases q : H b with
  | none => rfl
  | some x =>
    have hm : b ∈ trk h H := List.mem_filter.mpr ⟨List.mem_range.mpr (Heap.lt_size e'), by simp [q]⟩
    have z : (hidT h H).get? b = none := PySem.W.hideAll_none (trk h H) hm
    rw [z] at e; cases e

/-! ### OpenK's ledger, filled with every new object but one -/
def allNews (g h : Heap) (L : Addr) : List (Addr × Obj) := (List.range h.objs.size).filterMap fun a => if a = L ∨ (g.get? a).isSome = true then none else (h.get? a).map fun o => (a, o)
def rest (g h : Heap) (L d : Addr) : List (Addr × Obj) := (allNews g h L).filter fun p => decide (p.1 ≠ d)
end L2

namespace L2
open PySem PySem.Spec PyProof.Rows

/-- the module's facts, over the base: the heap at the law's entry without what is tracked there -/
structure Mod (K : PySem.W.Frag) (mg : Str → Option Value) (base : Heap) : Prop where
  kin : K.In base
  glob : base.Ns mainGlobals mg
  blt : ∃ mb, base.Ns builtinsNs mb ∧ ∀ x : Str, x ≠ "__name__" → mb x = bootBuiltins x
  nolimit : base.NoLimit

/-- the context: a def's body (or a comprehension's block) running. base: fixed through the whole law; s₀, H₀: the entry; outer: the frames whose slots others may change (a def's callers); stack: all frames that run;
   ex: iterators that were made ahead of the entry and are walked here (a comprehension's); fn: the names whose cells were made at the entry (a def: all; a comprehension's block: its own); calm: not within an except suite; pn: pins that every state bears; xe: what is wanted of an exception that leaves the code -/
structure Cx where
  prog : Program
  w : World
  K : PySem.W.Frag
  mg : Str → Option Value
  base : Heap
  A : Around
  N : List Str
  s₀ : Shared
  H₀ : Hp
  env : Env
  outer : List Env
  stack : List Env
  ex : List Addr
  fn : Str → Bool
  calm : Bool
  pn : List (Addr × Obj)
  xe : Value → Shared → Prop
/-- the callers' frames -/
def frs (l : List Env) : List Addr := l.filterMap (·.frame)
abbrev Cx.fs (X : Cx) : List Addr := frs X.outer

def Vis (sc : Scope) (x : Str) : Prop := sc.names.lookup x = some .local ∨ sc.names.lookup x = some .cell ∨ sc.names.lookup x = some .free
def Loc (sc : Scope) (x : Str) : Prop := sc.names.lookup x = some .local ∨ sc.names.lookup x = some .cell
def Look (env : Env) (h : Heap) (m : Str → Option Value) (x : Str) (u : Value) : Prop :=
  (env.kindOf x = some .local ∧ m x = some u) ∨ ((env.kindOf x = some .cell ∨ env.kindOf x = some .free) ∧ ∃ c, env.cells.lookup x = some c ∧ h.IsCell c (some u))

structure Cx.Ok (X : Cx) : Prop where
  mod : Mod X.K X.mg X.base
  kind : X.env.scope.kind = .function
  glob : X.env.globals = mainGlobals
  blt : X.env.builtins = builtinsNs
  above : X.s₀.heap.objs.size ≤ X.env.locals
  inj : ∀ x y c, X.env.cells.lookup x = some c → X.env.cells.lookup y = some c → x = y
  has : ∀ x, (X.env.kindOf x = some .cell ∨ X.env.kindOf x = some .free) → ∃ c, X.env.cells.lookup x = some c
  cab : ∀ x c, X.fn x = true → X.env.cells.lookup x = some c → X.s₀.heap.objs.size ≤ c
  hd : X.calm = true → X.A.handled = none
  frames : X.A.frames = some X.stack
  stk : X.stack = X.outer ∨ (X.stack = X.env :: X.outer ∧ X.env.frame = some X.env.locals)
  exf : ∀ b ∈ X.ex, b ≠ X.env.locals ∧ ∀ x c, X.env.cells.lookup x = some c → c ≠ b
  bs : ∀ b o, X.base.get? b = some o → X.s₀.heap.get? b = some o ∧ X.H₀ b = none
  bsz : X.base.objs.size ≤ X.s₀.heap.objs.size
  noex : ∀ b o, X.base.get? b = some o → b ∉ X.ex
  exfs : ∀ b ∈ X.ex, b ∉ X.fs
  funs : X.s₀.heap.FunFrames X.base X.outer
  frf : ∀ b ∈ X.fs, X.H₀ b = none

structure Inv (X : Cx) (pins : List (Addr × Obj)) (σ : List (Option V)) (H : Hp) (s : Shared) : Prop where
  ok : X.Ok
  os : s.os = X.s₀.os
  bare : AllBare s.gens
  base : Un X.fs X.ex X.H₀ H X.s₀.heap s.heap
  loc : ∃ m, s.heap.Ns X.env.locals m ∧ ∀ (i : Nat) (x : Str) (v : V), X.N[i]? = some x → σ[i]? = some (some v) → Vis X.env.scope x → ∃ u, RelV v u ∧ Look X.env s.heap m x u
  cell : ∀ x c, X.env.cells.lookup x = some c → ∃ v, s.heap.IsCell c v
  free : H X.env.locals = none
  freeC : ∀ x c, X.env.cells.lookup x = some c → H c = none
  pin : ∀ p ∈ X.pn ++ pins, s.heap.get? p.1 = some p.2 ∧ H p.1 = none ∧ p.1 ≠ X.env.locals ∧ p.1 ∉ X.fs ∧ ∀ v, p.2.data ≠ .cell v
  hok : HOk X.prog X.w H s.heap
  len : σ.length = X.N.length

section
variable {X : Cx} {pins : List (Addr × Obj)} {σ : List (Option V)} {H H' : Hp} {s : Shared} {h' : Heap}

theorem Cx.Ok.nofr (ok : X.Ok) {b : Addr} {o : Obj} (e : X.base.get? b = some o) : b ∉ X.fs := fun hb => by
  have := (ok.funs.mem hb).1
  rw [e] at this; cases this
theorem Inv.bs (I : Inv X pins σ H s) : ∀ b o, X.base.get? b = some o → s.heap.get? b = some o ∧ H b = none := fun b o e =>
  ⟨I.base.keep b o (I.ok.bs b o e).1 (I.ok.bs b o e).2 (I.ok.nofr e) (I.ok.noex b o e), I.base.free b o (I.ok.bs b o e).1 (I.ok.bs b o e).2 (I.ok.noex b o e)⟩
theorem Inv.bk (I : Inv X pins σ H s) : ∀ b o, X.base.get? b = some o → s.heap.get? b = some o := fun b o e => (I.bs b o e).1
theorem Inv.mod (I : Inv X pins σ H s) : Mod X.K X.mg X.base := I.ok.mod
theorem Inv.kIn (I : Inv X pins σ H s) : X.K.In s.heap := I.ok.mod.kin.keeps I.bk
theorem Inv.lt (I : Inv X pins σ H s) : X.env.locals < s.heap.objs.size := let ⟨_, hn, _⟩ := I.loc; hn.lt
theorem Inv.sz (I : Inv X pins σ H s) : X.s₀.heap.objs.size ≤ s.heap.objs.size := Nat.le_trans I.ok.above (Nat.le_of_lt I.lt)
theorem Inv.nofs (I : Inv X pins σ H s) {a : Addr} (h : s.heap.objs.size ≤ a) : a ∉ X.fs := fun hb => by
  obtain ⟨_, o, ho, _⟩ := I.ok.funs.mem hb
  exact absurd (Nat.lt_of_lt_of_le (Heap.lt_size ho) (Nat.le_trans I.sz h)) (Nat.lt_irrefl _)
theorem Inv.cne (I : Inv X pins σ H s) : ∀ x c, X.env.cells.lookup x = some c → c ≠ X.env.locals := fun x c e z => by
  obtain ⟨v, o, ho, hd⟩ := I.cell x c e
  obtain ⟨m, ⟨o', es, ep, ho', hd', _⟩, _⟩ := I.loc
  rw [z, ho'] at ho; cases ho; rw [hd'] at hd; cases hd
theorem Inv.funs (I : Inv X pins σ H s) : s.heap.FunFrames X.base X.outer := by
  have all : ∀ (l : List Env), (∀ b ∈ frs l, b ∈ X.fs) → X.s₀.heap.FunFrames X.base l → s.heap.FunFrames X.base l := by
    intro l
    induction l with
    | nil => intro _ _; trivial
    | cons env r ih =>
      intro hs hl
      obtain ⟨hk, ⟨L, o, hf, hn, ho, hd⟩, hr⟩ := hl
      have hL : L ∈ X.fs := hs L (by unfold frs; rw [List.filterMap_cons, hf]; exact List.mem_cons_self)
      obtain ⟨sl, e⟩ := I.base.slot L o ho (I.ok.frf L hL) hL fun z => I.ok.exfs L z hL
      exact ⟨hk, ⟨L, _, hf, hn, e, hd⟩, ih (fun b hb => hs b (by unfold frs; rw [List.filterMap_cons, hf]; exact List.mem_cons_of_mem _ hb)) hr⟩
  exact all X.outer (fun _ hb => hb) I.ok.funs

/-- the frames that run, for a call -/
theorem Inv.stack (I : Inv X pins σ H s) : s.heap.FunFrames X.base X.stack := by
  rcases I.ok.stk with e | ⟨e, hf⟩
  · rw [e]; exact I.funs
  · rw [e]
    obtain ⟨m, hn, _⟩ := I.loc
    refine .cons (by rw [I.ok.kind]; decide) hf hn ?_ I.funs
    exact Heap.get?_none_of_le (Nat.le_trans I.ok.bsz I.ok.above)
theorem Inv.stkSub (I : Inv X pins σ H s) : ∀ b ∈ frs X.stack, b ∈ X.env.locals :: X.fs := fun b hb => by
  rcases I.ok.stk with e | ⟨e, hf⟩
  · rw [e] at hb; exact List.mem_cons_of_mem _ hb
  · rw [e] at hb
    unfold frs at hb
    rw [List.filterMap_cons, hf] at hb
    exact hb
theorem Inv.stkFree (I : Inv X pins σ H s) : ∀ b ∈ frs X.stack, H b = none := fun b hb => by
  rcases List.mem_cons.mp (I.stkSub b hb) with e | hb
  · rw [e]; exact I.free
  · obtain ⟨_, o, ho, _⟩ := I.ok.funs.mem hb
    exact I.base.free b o ho (I.ok.frf b hb) fun z => I.ok.exfs b z hb

/-- THE STEP: the untracked objects but the frame and the records at ch are kept (the callers' frames up to slots), the frame's map is kept, the new abstract heap is held -/
theorem Inv.step {g' : Array GenState} {t' : Nat} {d' : Drawn} {ch : List Addr} (I : Inv X pins σ H s)
    (hch : ∀ b ∈ ch, (b ∈ X.ex ∨ X.s₀.heap.objs.size ≤ b) ∧ b ≠ X.env.locals ∧ (∀ x c, X.env.cells.lookup x = some c → c ≠ b) ∧ ∀ p ∈ X.pn ++ pins, p.1 ≠ b)
    (keep : ∀ b o, b ≠ X.env.locals → b ∉ X.fs → b ∉ ch → s.heap.get? b = some o → H b = none → h'.get? b = some o)
    (slot : ∀ b o, b ≠ X.env.locals → b ∈ X.fs → b ∉ ch → s.heap.get? b = some o → H b = none → ∃ sl, h'.get? b = some { o with slots := sl }) (free : ∀ b o, b ∉ ch → s.heap.get? b = some o → H b = none → H' b = none)
    (there : ∀ b o, b ∉ ch → s.heap.get? b = some o → ∃ o', h'.get? b = some o')
    (tups : ∀ b xs, H b = some (.tup xs) → H' b = some (.tup xs)) (frzs : ∀ b o u, H b = some (.frz o u) → H' b = some (.frz o u)) (tbls : ∀ b ps, H b = some (.tbl ps) → ∃ more, H' b = some (.tbl (ps ++ more)))
    (ns : ∀ m, s.heap.Ns X.env.locals m → h'.Ns X.env.locals m) (hok : HOk X.prog X.w H' h') (hg : AllBare g') :
    Inv X pins σ H' { s with heap := h', gens := g', drawn := d', toks := t' } := by
  have neL : ∀ b o, X.s₀.heap.get? b = some o → b ≠ X.env.locals := fun b o e => Nat.ne_of_lt (Nat.lt_of_lt_of_le (Heap.lt_size e) I.ok.above)
  have neC : ∀ b o, X.s₀.heap.get? b = some o → b ∉ X.ex → b ∉ ch := fun b o e hx hb => by
    rcases (hch b hb).1 with z | z
    · exact hx z
    · exact absurd (Nat.lt_of_lt_of_le (Heap.lt_size e) z) (Nat.lt_irrefl _)
  have cellK : ∀ x c, X.env.cells.lookup x = some c → ∀ v, s.heap.IsCell c v → h'.IsCell c v := fun x c e v ⟨o, ho, hd⟩ => by
    have nch : c ∉ ch := fun z => (hch c z).2.2.1 x c e rfl
    by_cases hc : c ∈ X.fs
    · obtain ⟨sl, q⟩ := slot c o (I.cne x c e) hc nch ho (I.freeC x c e)
      exact ⟨_, q, hd⟩
    · exact ⟨o, keep c o (I.cne x c e) hc nch ho (I.freeC x c e), hd⟩
  refine ⟨I.ok, I.os, hg, ⟨fun b o e n hb hx => ?_, fun b o e n hb hx => ?_, fun b o e n hx => ?_, fun b o e hx => ?_, fun b xs e => tups b xs (I.base.tups b xs e), fun b o xs e => frzs b o xs (I.base.frzs b o xs e), fun b ps e => ?_⟩, ?_, fun x c e => ?_, ?_, fun x c e => ?_, fun p hp => ?_, hok, I.len⟩
  · exact keep b o (neL b o e) hb (neC b o e hx) (I.base.keep b o e n hb hx) (I.base.free b o e n hx)
  · obtain ⟨sl, e1⟩ := I.base.slot b o e n hb hx
    obtain ⟨sl', e2⟩ := slot b _ (neL b o e) hb (neC b o e hx) e1 (I.base.free b o e n hx)
    exact ⟨sl', e2⟩
  · obtain ⟨o', e1⟩ := I.base.there b o e hx
    exact free b o' (neC b o e hx) e1 (I.base.free b o e n hx)
  · obtain ⟨o', e1⟩ := I.base.there b o e hx
    exact there b o' (neC b o e hx) e1
  · obtain ⟨m1, e1⟩ := I.base.tbls b ps e
    obtain ⟨m2, e2⟩ := tbls b _ e1
    exact ⟨m1 ++ m2, by rw [e2, Array.append_assoc]⟩
  · obtain ⟨m, hn, hl⟩ := I.loc
    refine ⟨m, ns m hn, fun i x v e1 e2 e3 => ?_⟩
    obtain ⟨u, r, l⟩ := hl i x v e1 e2 e3
    refine ⟨u, r, ?_⟩
    rcases l with l | ⟨k, c, e, z⟩
    · exact .inl l
    · exact .inr ⟨k, c, e, cellK x c e _ z⟩
  · obtain ⟨v, z⟩ := I.cell x c e
    exact ⟨v, cellK x c e v z⟩
  · obtain ⟨m, ⟨o, _, _, ho, _⟩, _⟩ := I.loc
    exact free _ o (fun z => (hch _ z).2.1 rfl) ho I.free
  · obtain ⟨v, o, ho, hd⟩ := I.cell x c e
    exact free c o (fun z => (hch c z).2.2.1 x c e rfl) ho (I.freeC x c e)
  · obtain ⟨e, n, ne, nf, d⟩ := I.pin p hp
    have nch : p.1 ∉ ch := fun z => (hch p.1 z).2.2.2 p hp rfl
    exact ⟨keep p.1 p.2 ne nf nch e n, free p.1 p.2 nch e n, ne, nf, d⟩
/-- .. where the frame's own object is kept too -/
theorem Inv.un {t' : Nat} (I : Inv X pins σ H s) (u : Un X.fs [] H H' s.heap h') (hok : HOk X.prog X.w H' h') : Inv X pins σ H' { s with heap := h', toks := t' } := by
  obtain ⟨m, ⟨o, es, ep, ho, r⟩, _⟩ := id I.loc
  obtain ⟨sl, hL⟩ := u.any ho I.free (by simp)
  exact I.step (g' := s.gens) (d' := s.drawn) (ch := []) (fun _ z => nomatch z) (fun b o _ hb _ e n => u.keep b o e n hb (by simp)) (fun b o _ hb _ e n => u.slot b o e n hb (by simp)) (fun b o _ e n => u.free b o e n (by simp)) (fun b o _ e => u.there b o e (by simp)) u.tups u.frzs u.tbls (fun m' hm => by
    obtain ⟨o', es', ep', ho', r'⟩ := hm
    rw [ho] at ho'; cases ho'
    exact ⟨_, es', ep', hL, r'⟩) hok I.bare
/-- behind a call (or a comprehension's block): the slots of this frame may have changed too, the records at ch may have turned -/
theorem Inv.call {g' : Array GenState} {t' : Nat} {d' : Drawn} {ch : List Addr} (I : Inv X pins σ H s) (u : Un (frs X.stack) ch H H' s.heap h') (hok : HOk X.prog X.w H' h') (hg : AllBare g')
    (hch : ∀ b ∈ ch, (b ∈ X.ex ∨ X.s₀.heap.objs.size ≤ b) ∧ b ≠ X.env.locals ∧ (∀ x c, X.env.cells.lookup x = some c → c ≠ b) ∧ ∀ p ∈ X.pn ++ pins, p.1 ≠ b) :
    Inv X pins σ H' { s with heap := h', gens := g', drawn := d', toks := t' } := by
  obtain ⟨m, ⟨o, es, ep, ho, r⟩, _⟩ := id I.loc
  obtain ⟨sl, hL⟩ := u.any ho I.free fun z => (hch _ z).2.1 rfl
  exact I.step (ch := ch) hch (fun b o hL hb hc e n => u.keep b o e n (fun z => (List.mem_cons.mp (I.stkSub b z)).elim hL hb) hc) (fun b o _ _ hc e n => u.any e n hc) (fun b o hc e n => u.free b o e n hc) (fun b o hc e => u.there b o e hc) u.tups u.frzs u.tbls (fun m' hm => by
    obtain ⟨o', es', ep', ho', r'⟩ := hm
    rw [ho] at ho'; cases ho'
    exact ⟨_, es', ep', hL, r'⟩) hok hg
/-- an untracked record of ours (an iterator) has turned -/
theorem Inv.turned {t' : Nat} {it : Addr} (I : Inv X pins σ H s) (k : ∀ b o, b ≠ it → s.heap.get? b = some o → h'.get? b = some o) (hn : H it = none) (hL : it ≠ X.env.locals)
    (h1 : it ∈ X.ex ∨ X.s₀.heap.objs.size ≤ it) (h2 : ∀ x c, X.env.cells.lookup x = some c → c ≠ it) (h3 : ∀ p ∈ X.pn ++ pins, p.1 ≠ it) : Inv X pins σ H { s with heap := h', toks := t' } := by
  have nit : ∀ b u, H b = some u → b ≠ it := fun b u e z => by rw [z, hn] at e; cases e
  refine I.step (g' := s.gens) (d' := s.drawn) (ch := [it]) (fun b hb => ?_) (fun b o _ _ hc e _ => k b o (fun z => hc (by simp [z])) e) (fun b o _ _ hc e _ => ⟨o.slots, k b o (fun z => hc (by simp [z])) e⟩) (fun _ _ _ _ n => n)
    (fun b o hc e => ⟨o, k b o (fun z => hc (by simp [z])) e⟩) (fun _ _ e => e) (fun _ _ _ e => e) (fun b ps e => ⟨#[], by rw [e]; simp⟩) (fun m hm => ?_) (fun b u e => ?_) I.bare
  · have e : b = it := by simpa using hb
    subst e
    exact ⟨h1, hL, h2, h3⟩
  · obtain ⟨o, es, ep, ho, r⟩ := hm
    exact ⟨o, es, ep, k _ o (Ne.symm hL) ho, r⟩
  · refine (I.hok b u e).stay (fun c v hc q => k c v ?_ q) (fun _ q => q) fun _ _ q => q
    rcases hc with z | z
    · rw [z]; exact nit b u e
    · exact nit c _ z
theorem Inv.tok (I : Inv X pins σ H s) (t : Nat) : Inv X pins σ H { s with toks := t } := I.un (h' := s.heap) (t' := t) Un.refl I.hok
/-- all objects kept -/
theorem Inv.kept {t' : Nat} (I : Inv X pins σ H s) (k : ∀ b u, s.heap.get? b = some u → h'.get? b = some u) : Inv X pins σ H { s with heap := h', toks := t' } := I.un (Un.kept k) (I.hok.kept k)
/-- a new object laid and tracked -/
theorem Inv.laid {a : Addr} {o : HO} {t' : Nat} (I : Inv X pins σ H s) (k : ∀ b u, s.heap.get? b = some u → h'.get? b = some u) (hp : s.heap.objs.size ≤ a) (new : ObjOk X.prog X.w (upd H a o) h' a o) :
    Inv X pins σ (upd H a o) { s with heap := h', toks := t' } := I.un (Un.laid k hp (I.hok.fresh hp)) (I.hok.laid k hp new)
/-- an object written -/
theorem Inv.write {x e : Addr} {o : HO} {t' : Nat} (I : Inv X pins σ H s) (mu : Mut (H x)) (he : e = x ∨ H e = some (.own x)) (k : ∀ b u, b ≠ e → s.heap.get? b = some u → h'.get? b = some u) (heo : ∃ u, h'.get? e = some u)
    (new : ObjOk X.prog X.w (upd H x o) h' x o) : Inv X pins σ (upd H x o) { s with heap := h', toks := t' } := I.un (Un.write mu he k heo) (I.hok.write mu he k heo new)
theorem Inv.pins_of {pins' : List (Addr × Obj)} (I : Inv X pins σ H s) (h : ∀ p ∈ pins', s.heap.get? p.1 = some p.2 ∧ H p.1 = none ∧ p.1 ≠ X.env.locals ∧ p.1 ∉ X.fs ∧ ∀ v, p.2.data ≠ .cell v) : Inv X pins' σ H s :=
  ⟨I.ok, I.os, I.bare, I.base, I.loc, I.cell, I.free, I.freeC, fun p hp => (List.mem_append.mp hp).elim (fun z => I.pin p (List.mem_append_left _ z)) (h p), I.hok, I.len⟩

theorem nodup_ix {N : List Str} (hN : N.Nodup) {i j : Nat} {x : Str} (a : N[i]? = some x) (b : N[j]? = some x) : i = j := by
  obtain ⟨h1, e1⟩ := List.getElem?_eq_some_iff.mp a
  obtain ⟨h2, e2⟩ := List.getElem?_eq_some_iff.mp b
  exact (List.getElem_inj hN).mp (e1.trans e2.symm)

/-- a name is stored; what changed -/
theorem store_ok2 {M : Model} {A : Around} {E : Value → Shared → Prop} {i : Nat} {x : Str} {v : V} {u : Value} {Q : Unit → Shared → Prop} (I : Inv X pins σ H s) (hN : X.N.Nodup) (hi : X.N[i]? = some x) (hx : Loc X.env.scope x) (r : RelV v u)
    (h : ∀ s', Inv X pins (σ.set i (some v)) H s' → (∃ a, Heap.SameBut a s.heap s'.heap ∧ (a = X.env.locals ∨ X.env.cells.lookup x = some a)) → Q () s') (hf : X.fn x = true ∨ X.env.scope.names.lookup x = some .local := by first | exact .inl rfl | exact .inr rfl | assumption) : wpAny M A (storeName X.env x u) Q E s := by
  obtain ⟨m, hn, hl⟩ := id I.loc
  have hcls : (X.env.scope.kind == .class || (X.env.scope.kind == .module && X.env.locals != X.env.globals)) = false := by rw [I.ok.kind]; rfl
  have hiσ : i < σ.length := by rw [I.len]; exact (List.getElem?_eq_some_iff.mp hi).1
  have cne := I.cne
  have tracked : ∀ {a : Addr} {h' : Heap}, (∃ o, s.heap.get? a = some o ∧ H a = none) → Heap.SameBut a s.heap h' → HOk X.prog X.w H h' := fun {a h'} ha hs b ob e => by
    obtain ⟨_, _, hfree⟩ := ha
    refine (I.hok b ob e).stay (fun c w' hc q => (hs.2 c ?_).trans q) (fun _ q => q) fun _ _ q => q
    rintro rfl
    rcases hc with rfl | hc
    · rw [hfree] at e; cases e
    · rw [hfree] at hc; cases hc
  rcases hx with hk | hk
  · refine wpAny_storeName_local hk hn (fun h' hn' hs => ?_) hcls
    obtain ⟨oL, _, _, hoL, _⟩ := id hn
    refine h _ ⟨I.ok, I.os, I.bare, ⟨fun b o e n hb hx => ?_, fun b o e n hb hx => ?_, I.base.free, fun b o e hx => ?_, I.base.tups, I.base.frzs, I.base.tbls⟩, ⟨_, hn', fun j y v' e1 e2 e3 => ?_⟩, fun y c e => ?_, I.free, I.freeC, fun p hp => ?_, tracked ⟨oL, hoL, I.free⟩ hs, by simpa using I.len⟩ ⟨_, hs, .inl rfl⟩
    · exact (hs.2 b (Nat.ne_of_lt (Nat.lt_of_lt_of_le (Heap.lt_size e) I.ok.above))).trans (I.base.keep b o e n hb hx)
    · obtain ⟨sl, e1⟩ := I.base.slot b o e n hb hx
      exact ⟨sl, (hs.2 b (Nat.ne_of_lt (Nat.lt_of_lt_of_le (Heap.lt_size e) I.ok.above))).trans e1⟩
    · obtain ⟨o', e1⟩ := I.base.there b o e hx
      exact ⟨o', (hs.2 b (Nat.ne_of_lt (Nat.lt_of_lt_of_le (Heap.lt_size e) I.ok.above))).trans e1⟩
    · by_cases hj : j = i
      · subst hj
        rw [hi] at e1; cases e1
        rw [List.getElem?_set_self hiσ] at e2
        cases e2
        exact ⟨u, r, .inl ⟨hk, by simp⟩⟩
      · rw [List.getElem?_set_ne (Ne.symm hj)] at e2
        obtain ⟨u', r', q⟩ := hl j y v' e1 e2 e3
        refine ⟨u', r', ?_⟩
        rcases q with ⟨k, e⟩ | ⟨k, c, e, z⟩
        · refine .inl ⟨k, ?_⟩
          have : y ≠ x := fun e => hj (nodup_ix hN e1 (e ▸ hi))
          simp [this, e]
        · exact .inr ⟨k, c, e, z.sameBut hs (cne y c e)⟩
    · obtain ⟨w', z⟩ := I.cell y c e
      exact ⟨w', z.sameBut hs (cne y c e)⟩
    · obtain ⟨e, n, ne, nf, d⟩ := I.pin p hp
      exact ⟨(hs.2 p.1 ne).trans e, n, ne, nf, d⟩
  · have hfn : X.fn x = true := by
      rcases hf with z | z
      · exact z
      · rw [z] at hk; cases hk
    obtain ⟨c, hc⟩ := I.ok.has x (.inl hk)
    obtain ⟨w', z⟩ := I.cell x c hc
    refine wpAny_storeName_cell I.ok.kind hk hc z (fun h' hc' hs => ?_)
    obtain ⟨oc, hoc, hocd⟩ := id z
    refine h { s with heap := h' } ⟨I.ok, I.os, I.bare, ⟨fun b o e n hb hx => ?_, fun b o e n hb hx => ?_, I.base.free, fun b o e hx => ?_, I.base.tups, I.base.frzs, I.base.tbls⟩, ⟨m, hn.sameBut hs (Ne.symm (cne x c hc)), fun j y v' e1 e2 e3 => ?_⟩, fun y c' e => ?_, I.free, I.freeC, fun p hp => ?_, tracked ⟨oc, hoc, I.freeC x c hc⟩ hs, by simpa using I.len⟩ ⟨c, hs, .inr hc⟩
    · exact (hs.2 b (Nat.ne_of_lt (Nat.lt_of_lt_of_le (Heap.lt_size e) (I.ok.cab x c hfn hc)))).trans (I.base.keep b o e n hb hx)
    · obtain ⟨sl, e1⟩ := I.base.slot b o e n hb hx
      exact ⟨sl, (hs.2 b (Nat.ne_of_lt (Nat.lt_of_lt_of_le (Heap.lt_size e) (I.ok.cab x c hfn hc)))).trans e1⟩
    · obtain ⟨o', e1⟩ := I.base.there b o e hx
      exact ⟨o', (hs.2 b (Nat.ne_of_lt (Nat.lt_of_lt_of_le (Heap.lt_size e) (I.ok.cab x c hfn hc)))).trans e1⟩
    · by_cases hj : j = i
      · subst hj
        rw [hi] at e1; cases e1
        rw [List.getElem?_set_self hiσ] at e2
        cases e2
        exact ⟨u, r, .inr ⟨.inl hk, c, hc, hc'⟩⟩
      · rw [List.getElem?_set_ne (Ne.symm hj)] at e2
        obtain ⟨u', r', q⟩ := hl j y v' e1 e2 e3
        refine ⟨u', r', ?_⟩
        rcases q with q | ⟨k, c', e, z'⟩
        · exact .inl q
        · refine .inr ⟨k, c', e, z'.sameBut hs ?_⟩
          rintro rfl
          exact hj (nodup_ix hN e1 (I.ok.inj _ _ _ e hc ▸ hi))
    · by_cases hcc : c' = c
      · subst hcc; exact ⟨_, hc'⟩
      · obtain ⟨w2, z2⟩ := I.cell y c' e
        exact ⟨w2, z2.sameBut hs hcc⟩
    · obtain ⟨e, n, ne, nf, d⟩ := I.pin p hp
      refine ⟨(hs.2 p.1 ?_).trans e, n, ne, nf, d⟩
      intro q
      rw [q, hoc] at e
      have q' : oc = p.2 := Option.some.inj e
      exact d w' (by rw [← q']; exact hocd)
theorem store_ok {M : Model} {A : Around} {E : Value → Shared → Prop} {i : Nat} {x : Str} {v : V} {u : Value} {Q : Unit → Shared → Prop} (I : Inv X pins σ H s) (hN : X.N.Nodup) (hi : X.N[i]? = some x) (hx : Loc X.env.scope x) (r : RelV v u)
    (h : ∀ s', Inv X pins (σ.set i (some v)) H s' → Q () s') (hf : X.fn x = true ∨ X.env.scope.names.lookup x = some .local := by first | exact .inl rfl | exact .inr rfl | assumption) : wpAny M A (storeName X.env x u) Q E s :=
  store_ok2 I hN hi hx r (fun s' I' _ => h s' I') hf
/-- behind a call or a block, the state as it is -/
theorem Inv.call' {s' : Shared} {ch : List Addr} (I : Inv X pins σ H s) (ho : s'.os = s.os) (u : Un (frs X.stack) ch H H' s.heap s'.heap) (hok : HOk X.prog X.w H' s'.heap) (hg : AllBare s'.gens)
    (hch : ∀ b ∈ ch, (b ∈ X.ex ∨ X.s₀.heap.objs.size ≤ b) ∧ b ≠ X.env.locals ∧ (∀ x c, X.env.cells.lookup x = some c → c ≠ b) ∧ ∀ p ∈ X.pn ++ pins, p.1 ≠ b) : Inv X pins σ H' s' := by
  obtain ⟨h', g', d', t', o'⟩ := s'
  have e : o' = s.os := ho
  subst e
  exact I.call (g' := g') (t' := t') (d' := d') u hok hg hch
end

/-! ### the judgements -/
/-- an exception: its class, its own dict's address (where it has one), the abstract heap behind it -/
abbrev XK := Value → Option Addr → Hp → Prop
abbrev St := List (Option V)
abbrev VK := V → Hp → Prop
/-- an expression's reading; a test's; an argument list's -/
abbrev TE := St → Hp → VK → Prop
abbrev TT := St → Hp → (Bool → Hp → Prop) → Prop
abbrev TA := St → Hp → (List V → Hp → Prop) → Prop
/-- what is wanted behind a statement -/
structure Ends where
  nx : St → Hp → Prop
  rt : VK
  bk : St → Hp → Prop := fun _ _ => False
  ct : St → Hp → Prop := fun _ _ => False
abbrev TS := Ends → St → Hp → Prop

def EP (X : Cx) (pins : List (Addr × Obj)) (σ : St) (Q : VK) (u : Value) (s' : Shared) : Prop := ∃ v H', Inv X pins σ H' s' ∧ RelV v u ∧ Q v H'
def TP (X : Cx) (pins : List (Addr × Obj)) (σ : St) (Q : Bool → Hp → Prop) (b : Bool) (s' : Shared) : Prop := ∃ H', Inv X pins σ H' s' ∧ Q b H'
def AP (X : Cx) (pins : List (Addr × Obj)) (σ : St) (Q : List V → Hp → Prop) (us : List Value) (s' : Shared) : Prop := ∃ vs H', Inv X pins σ H' s' ∧ Vals vs us ∧ Q vs H'
def SP (X : Cx) (pins : List (Addr × Obj)) (D : Ends) (f : Flow) (s' : Shared) : Prop :=
  match f with
  | .next => ∃ σ' H', Inv X pins σ' H' s' ∧ D.nx σ' H'
  | .brk => ∃ σ' H', Inv X pins σ' H' s' ∧ D.bk σ' H'
  | .cont => ∃ σ' H', Inv X pins σ' H' s' ∧ D.ct σ' H'
  | .ret u => ∃ v σ' H', Inv X pins σ' H' s' ∧ RelV v u ∧ D.rt v H'

def PE (X : Cx) (e : Expr) (t : TE) : Prop :=
  ∀ (pins : List (Addr × Obj)) (s : Shared) (σ : St) (H : Hp) (Q : VK), Inv X pins σ H s → t σ H Q → wpAny (model X.prog X.w) X.A (eval e X.env) (EP X pins σ Q) X.xe s
def PT (X : Cx) (e : Expr) (t : TT) : Prop :=
  ∀ (pins : List (Addr × Obj)) (s : Shared) (σ : St) (H : Hp) (Q : Bool → Hp → Prop), Inv X pins σ H s → t σ H Q → wpAny (model X.prog X.w) X.A (isTrue e X.env (eval e X.env)) (TP X pins σ Q) X.xe s
/-- a test whatever its 'whole' is (and, or) -/
def PW (X : Cx) (e : Expr) (t : TT) : Prop :=
  ∀ (whole : Sem Value) (pins : List (Addr × Obj)) (s : Shared) (σ : St) (H : Hp) (Q : Bool → Hp → Prop), Inv X pins σ H s → t σ H Q → wpAny (model X.prog X.w) X.A (isTrue e X.env whole) (TP X pins σ Q) X.xe s
theorem PW.pt {X : Cx} {e : Expr} {t : TT} (h : PW X e t) : PT X e t := h _
/-- an argument list (no star), from the left -/
def PA (X : Cx) (es : List Expr) (t : TA) : Prop :=
  ∀ (pos : Pos) (pins : List (Addr × Obj)) (s : Shared) (σ : St) (H : Hp) (Q : List V → Hp → Prop), Inv X pins σ H s → t σ H Q → wpAny (model X.prog X.w) X.A (spliced (backTo pos (starEach es X.env))) (AP X pins σ Q) X.xe s
def PS (X : Cx) (st : Stmt) (t : TS) : Prop :=
  ∀ (pins : List (Addr × Obj)) (s : Shared) (σ : St) (H : Hp) (D : Ends), Inv X pins σ H s → t D σ H → wpAny (model X.prog X.w) X.A (exec st X.env) (SP X pins D) X.xe s
def PSs (X : Cx) (st : List Stmt) (t : TS) : Prop :=
  ∀ (pins : List (Addr × Obj)) (s : Shared) (σ : St) (H : Hp) (D : Ends), Inv X pins σ H s → t D σ H → wpAny (model X.prog X.w) X.A (execs st X.env) (SP X pins D) X.xe s
/-- weaken the end -/
theorem thn {α : Type} {t : Sem α} {Q Q' : α → Shared → Prop} {M : Model} {A : Around} {E : Value → Shared → Prop} {s : Shared} (h : wpAny M A t Q E s) (hQ : ∀ a s, Q a s → Q' a s) : wpAny M A t Q' E s := wpAny_mono h hQ fun _ _ x => x
end L2

namespace L2
open PySem PySem.Spec PyProof.Rows
section
variable {X : Cx}

/-- two expressions in a row -/
theorem bin {a b : Expr} {ta tb : TE} (ha : PE X a ta) (hb : PE X b tb) {pins : List (Addr × Obj)} {s : Shared} {σ : St} {H : Hp} {R : V → V → Hp → Prop} (I : Inv X pins σ H s) (h : ta σ H fun x H1 => tb σ H1 fun y H2 => R x y H2)
    {α : Type} {Q : α → Shared → Prop} {f : Value → Value → Sem α}
    (hf : ∀ v u s2 x y H2, Inv X pins σ H2 s2 → RelV x v → RelV y u → R x y H2 → wpAny (model X.prog X.w) X.A (f v u) Q X.xe s2) :
    wpAny (model X.prog X.w) X.A (eval a X.env) (fun v s₁ => wpAny (model X.prog X.w) X.A (eval b X.env) (fun u s₂ => wpAny (model X.prog X.w) X.A (f v u) Q X.xe s₂) X.xe s₁) X.xe s := by
  refine thn (ha pins s σ H _ I h) fun v s1 ⟨x, H1, I1, r1, q1⟩ => ?_
  refine thn (hb pins s1 σ H1 _ I1 q1) fun u s2 ⟨y, H2, I2, r2, q2⟩ => ?_
  exact hf v u s2 x y H2 I2 r1 r2 q2

/-! ### names and constants -/
def tVar (i : Nat) : TE := fun σ H Q => ∃ v, σ[i]? = some (some v) ∧ Q v H
def tC (v : V) : TE := fun _ H Q => Q v H
theorem pe_var {i : Nat} {x : Str} {pos : Pos} (hN : X.N[i]? = some x) (hv : Vis X.env.scope x) (hd : (x == ("__debug__" : Str)) = false := by decide) (hcd : (x == ("__classdict__" : Str)) = false := by decide) : PE X (.Name x pos) (tVar i) := by
  intro pins s σ H Q I h
  obtain ⟨v, e, h⟩ := h
  obtain ⟨m, hn, hl⟩ := I.loc
  obtain ⟨u, r, l⟩ := hl i x v hN e hv
  have fin : EP X pins σ Q u s := ⟨v, H, I, r, h⟩
  rcases l with ⟨hk, hm⟩ | ⟨hk, c, hc, hcell⟩
  · exact wpAny_Name (wpAny_loadName_local I.ok.kind hk hn hm fin) hd
  · rcases hk with hk | hk
    · exact wpAny_Name (wpAny_loadName_cell I.ok.kind hk hc hcell fin) hd
    · exact wpAny_Name (wpAny_loadName_free I.ok.kind hk hc hcell fin hcd) hd
theorem pe_int {i j pos} : PE X (.Constant (.int i) j pos) (tC (.int i)) := fun _ _ _ H _ I h => wpAny_Constant_int ⟨.int i, H, I.tok _, ⟨_, rfl⟩, h⟩
theorem pe_bl {b j pos} : PE X (.Constant (.bool b) j pos) (tC (.bl b)) := fun _ _ _ H _ I h => Constant_bool ⟨.bl b, H, I, rfl, h⟩
theorem pe_non {j pos} : PE X (.Constant .none j pos) (tC .non) := fun _ _ _ H _ I h => Constant_none ⟨.non, H, I, rfl, h⟩
theorem pe_str {x j pos} : PE X (.Constant (.str x) j pos) (tC (.str x)) := fun _ _ _ H _ I h => Calls.Constant_str ⟨.str x, H, I.tok _, ⟨_, rfl⟩, h⟩

/-- a global name of the def -/
def Gl (X : Cx) (x : Str) : Prop := X.env.kindOf x = some .globalImplicit
theorem ld_glob {E : Value → Shared → Prop} {pins : List (Addr × Obj)} {s : Shared} {σ : St} {H : Hp} {x : Str} {u : Value} {pos : Pos} {Q : Value → Shared → Prop} (I : Inv X pins σ H s) (hg : Gl X x) (hm : X.mg x = some u) (h : Q u s)
    (hd : (x == ("__debug__" : Str)) = false := by decide) : wpAny (model X.prog X.w) X.A (eval (.Name x pos) X.env) Q E s :=
  Calls.Name_function_global I.ok.kind hg (Calls.loadGlobal_global (by rw [I.ok.glob]; exact I.mod.glob.keeps I.bk) hm h) hd
theorem ld_blt {E : Value → Shared → Prop} {pins : List (Addr × Obj)} {s : Shared} {σ : St} {H : Hp} {x : Str} {u : Value} {pos : Pos} {Q : Value → Shared → Prop} (I : Inv X pins σ H s) (hg : Gl X x) (hm : X.mg x = none) (hv : bootBuiltins x = some u) (h : Q u s)
    (hn : x ≠ "__name__" := by decide) (hd : (x == ("__debug__" : Str)) = false := by decide) : wpAny (model X.prog X.w) X.A (eval (.Name x pos) X.env) Q E s := by
  obtain ⟨mb, h1, h2⟩ := I.mod.blt
  exact Calls.Name_function_global I.ok.kind hg (Calls.loadGlobal_builtin (by rw [I.ok.glob]; exact I.mod.glob.keeps I.bk) hm (by rw [I.ok.blt]; exact h1.keeps I.bk) ((h2 x hn).trans hv) h) hd
/-- a module's constant, a class, a function, as a value -/
theorem pe_glob {x : Str} {v : V} {u : Value} {pos : Pos} (hg : Gl X x) (hm : X.mg x = some u) (r : RelV v u) (hd : (x == ("__debug__" : Str)) = false := by decide) : PE X (.Name x pos) (tC v) :=
  fun _ _ _ H _ I h => ld_glob I hg hm ⟨v, H, I, r, h⟩ hd
theorem pe_bltn {x : Str} {v : V} {u : Value} {pos : Pos} (hg : Gl X x) (hm : X.mg x = none) (hv : bootBuiltins x = some u) (r : RelV v u) (hn : x ≠ "__name__" := by decide) (hd : (x == ("__debug__" : Str)) = false := by decide) : PE X (.Name x pos) (tC v) :=
  fun _ _ _ H _ I h => ld_blt I hg hm hv ⟨v, H, I, r, h⟩ hn hd

/-! ### arithmetic -/
variable {a b : Expr} {ta tb : TE} {pos : Pos}
/-! ### comparisons -/
def PC (X : Cx) (op : CmpOp) (a b : Expr) (t : TE) : Prop :=
  ∀ (pins : List (Addr × Obj)) (s : Shared) (σ : St) (H : Hp) (Q : VK), Inv X pins σ H s → t σ H Q →
    wpAny (model X.prog X.w) X.A (eval a X.env) (fun v s₁ => wpAny (model X.prog X.w) X.A (eval b X.env) (fun u s₂ => wpAny (model X.prog X.w) X.A (compareOp op v u) (EP X pins σ Q) X.xe s₂) X.xe s₁) X.xe s
theorem nobehind (b : Expr) {op : CmpOp} (h : op ≠ .In) (h2 : op ≠ .NotIn) : behindInMarks op b = false := by
  have e1 : (op == CmpOp.In) = false := by cases op <;> first | rfl | exact absurd rfl h
  have e2 : (op == CmpOp.NotIn) = false := by cases op <;> first | rfl | exact absurd rfl h2
  cases b <;> simp [behindInMarks, e1, e2]
/-- a comparison as a value, as a test -/
def tB (t : TE) : TT := fun σ H Q => t σ H fun x H1 => ∃ c, x = .bl c ∧ Q c H1
theorem pt_cmp {op : CmpOp} {t : TE} (h : PC X op a b t) (h1 : behindInMarks op b = false := by first | exact nobehind _ (by decide) (by decide) | rfl) : PT X (.Compare a [op] [b] pos) (tB t) := by
  intro pins s σ H Q I hw
  refine wpAny_isTrue_Compare1 (thn (h pins s σ H _ I hw) fun v s1 h1 => thn h1 fun u s2 h2 => thn h2 fun c s3 ⟨x, H1, I1, r1, q1⟩ => ?_) h1
  obtain ⟨d, rfl, q⟩ := q1
  cases r1
  exact wpAny_truthy_bool ⟨H1, I1, q⟩
/-- an expression whose value is a bool, as a test -/
theorem pt_val {e : Expr} {t : TE} (h : PE X e t) (he : ∀ whole, isTrue e X.env whole = (do let v ← whole; standAt e.pos; holding [v] (truthy v)) := by intro _; rfl) : PT X e (tB t) := by
  intro pins s σ H Q I hw
  refine isTrue_plain (thn (h pins s σ H _ I hw) fun v s1 ⟨x, H1, I1, r1, q1⟩ => ?_) (he _)
  obtain ⟨d, rfl, q⟩ := q1
  cases r1
  exact wpAny_truthy_bool ⟨H1, I1, q⟩

/-! ### and, or, not -/
variable {tA tB' : TT} {rest : List Expr}
def tAnd (t u : TT) : TT := fun σ H Q => t σ H fun c H1 => if c = true then u σ H1 Q else Q false H1
def tOr (t u : TT) : TT := fun σ H Q => t σ H fun c H1 => if c = true then Q true H1 else u σ H1 Q
def tNot (t : TT) : TT := fun σ H Q => t σ H fun c H1 => Q (!c) H1
theorem pw_and1 (ha : PT X a tA) : PW X (.BoolOp .And [a] pos) tA := by
  intro wh pins s σ H Q I h
  refine isTrue_and (thn (ha pins s σ H Q I h) fun c s1 e => ?_)
  cases c with
  | true => exact isTrue_and_nil e
  | false => exact e
theorem pw_or1 (ha : PT X a tA) : PW X (.BoolOp .Or [a] pos) tA := by
  intro wh pins s σ H Q I h
  refine isTrue_or (thn (ha pins s σ H Q I h) fun c s1 e => ?_)
  cases c with
  | false => exact isTrue_or_nil e
  | true => exact e
theorem pw_and (ha : PT X a tA) (hb : PW X (.BoolOp .And (b :: rest) pos) tB') : PW X (.BoolOp .And (a :: b :: rest) pos) (tAnd tA tB') := by
  intro wh pins s σ H Q I h
  refine isTrue_and (thn (ha pins s σ H _ I h) fun c s1 ⟨H1, I1, q1⟩ => ?_)
  cases c with
  | true => exact hb wh pins s1 σ H1 Q I1 q1
  | false => exact ⟨H1, I1, q1⟩
theorem pw_or (ha : PT X a tA) (hb : PW X (.BoolOp .Or (b :: rest) pos) tB') : PW X (.BoolOp .Or (a :: b :: rest) pos) (tOr tA tB') := by
  intro wh pins s σ H Q I h
  refine isTrue_or (thn (ha pins s σ H _ I h) fun c s1 ⟨H1, I1, q1⟩ => ?_)
  cases c with
  | true => exact ⟨H1, I1, q1⟩
  | false => exact hb wh pins s1 σ H1 Q I1 q1
theorem pt_not (ha : PT X a tA) : PT X (.UnaryOp .Not a pos) (tNot tA) := by
  intro pins s σ H Q I h
  exact isTrue_not (ha pins s σ H (fun c H1 => Q (!c) H1) I h)
/-- .. as values (bools) -/
def tAndV (ta tb : TE) : TE := fun σ H Q => ta σ H fun x H1 => ∃ c, x = .bl c ∧ if c = true then tb σ H1 Q else Q (.bl false) H1
def tNotV (ta : TE) : TE := fun σ H Q => ta σ H fun x H1 => ∃ c, x = .bl c ∧ Q (.bl (!c)) H1
theorem pe_one {op} {t : TE} (h : PE X a t) : PE X (.BoolOp op [a] pos) t := fun pins s σ H Q I hw => BoolOp_one (h pins s σ H Q I hw)
theorem pe_and (ha : PE X a ta) (hb : PE X (.BoolOp .And (b :: rest) pos) tb) : PE X (.BoolOp .And (a :: b :: rest) pos) (tAndV ta tb) := by
  intro pins s σ H Q I h
  refine BoolOp_and (thn (ha pins s σ H _ I h) fun v s1 ⟨x, H1, I1, r1, q1⟩ => ?_)
  obtain ⟨c, rfl, q1⟩ := q1
  cases r1
  refine wpAny_truthy_bool ?_
  cases c with
  | true => exact hb pins s1 σ H1 Q I1 q1
  | false => exact ⟨.bl false, H1, I1, rfl, q1⟩
theorem pe_not (ha : PE X a ta) : PE X (.UnaryOp .Not a pos) (tNotV ta) := by
  intro pins s σ H Q I h
  refine UnaryOp_ (thn (ha pins s σ H _ I h) fun v s1 ⟨x, H1, I1, r1, q1⟩ => ?_)
  obtain ⟨c, rfl, q1⟩ := q1
  cases r1
  exact not_of (wpAny_truthy_bool ⟨.bl (!c), H1, I1, rfl, q1⟩)
/-- a if t else b -/
def tIf (t : TT) (ta tb : TE) : TE := fun σ H Q => t σ H fun c H1 => if c = true then ta σ H1 Q else tb σ H1 Q
theorem pe_ifExp {c : Expr} (hc : PT X c tA) (ha : PE X a ta) (hb : PE X b tb) : PE X (.IfExp c a b pos) (tIf tA ta tb) := by
  intro pins s σ H Q I h
  refine wpAny_IfExp (thn (hc pins s σ H _ I h) fun d s1 ⟨H1, I1, q1⟩ => ?_)
  cases d with
  | true => exact ha pins s1 σ H1 Q I1 q1
  | false => exact hb pins s1 σ H1 Q I1 q1
end
end L2

namespace L2
open PySem PySem.Spec PyProof.Rows

/-! ### a list, a tuple that is read: tracked, frozen, or an object of the module -/
def SqL (K : PySem.W.Frag) (H : Hp) (a : Addr) (xs : List V) : Prop :=
  Rd H a (.lst xs) ∨
    ∃ (o : Obj) (its : Array Value) (n : Nat), K.lookup a = some o ∧ o.cls = .type "list" ∧ o.dict = none ∧ o.data = .seq its n ∧ its.size ≤ sizeLine ∧ Vals xs its.toList
def SqT (K : PySem.W.Frag) (H : Hp) (a : Addr) (xs : List V) : Prop :=
  Rd H a (.tup xs) ∨
    ∃ (o : Obj) (its : Array Value) (n : Nat), K.lookup a = some o ∧ o.cls = .type "tuple" ∧ o.data = .seq its n ∧ its.size ≤ sizeLine ∧ Vals xs its.toList
def absV : Value → Option V
  | .none => some .non
  | .bool b => some (.bl b)
  | .int i _ => some (.int i)
  | .str x _ => some (.str x)
  | .bytes b _ => some (.byt b)
  | .float b _ => some (.flt b)
  | .ref a => some (.ref a)
  | .type n => some (.ty n)
  | _ => none
theorem RelV.abs {x : V} {u : Value} (r : RelV x u) : absV u = some x := by
  cases x with
  | non => cases r; rfl
  | bl _ => cases r; rfl
  | int _ => obtain ⟨t, rfl⟩ := r; rfl
  | str _ => obtain ⟨t, rfl⟩ := r; rfl
  | byt _ => obtain ⟨t, rfl⟩ := r; rfl
  | flt _ => obtain ⟨t, rfl⟩ := r; rfl
  | ref _ => cases r; rfl
  | ty _ => cases r; rfl
theorem RelV.inj {x y : V} {u : Value} (r : RelV x u) (q : RelV y u) : x = y := Option.some.inj (r.abs.symm.trans q.abs)
theorem Vals.inj : ∀ {xs ys : List V} {us : List Value}, Vals xs us → Vals ys us → xs = ys
  | _, _, _, .nil, .nil => rfl
  | _, _, _, .cons r t, .cons r' t' => by rw [r.inj r', Vals.inj t t']
section
variable {X : Cx} {pins : List (Addr × Obj)} {σ : St} {H : Hp} {s : Shared} {a : Addr} {xs ys : List V}
theorem SqL.of {K : PySem.W.Frag} (h : H a = some (.lst xs)) : SqL K H a xs := .inl (.inl h)
theorem SqT.of {K : PySem.W.Frag} (h : H a = some (.tup xs)) : SqT K H a xs := .inl (.inl h)
theorem Inv.list (I : Inv X pins σ H s) (h : SqL X.K H a xs) : ∃ its : List Value, Vals xs its ∧ PlainL s.heap a its.toArray ∧ xs.length ≤ sizeLine := by
  rcases h with h | ⟨o, its, n, hk, hc, hd, hs, hz, r⟩
  · obtain ⟨z, its, n, r, e⟩ := h.ok I.hok
    exact ⟨its, r, ⟨_, n, e, rfl, rfl, rfl⟩, z⟩
  · refine ⟨its.toList, r, ⟨o, n, I.kIn a o hk, hc, hd, by simpa using hs⟩, ?_⟩
    have e := r.length
    simp only [Array.length_toList] at e
    omega
theorem Inv.tuple (I : Inv X pins σ H s) (h : SqT X.K H a xs) : ∃ its : List Value, Vals xs its ∧ IsTup s.heap a its.toArray ∧ xs.length ≤ sizeLine := by
  rcases h with h | ⟨o, its, n, hk, hc, hs, hz, r⟩
  · obtain ⟨z, its, r, p⟩ := h.ok I.hok
    exact ⟨its, r, p, z⟩
  · refine ⟨its.toList, r, ⟨o, I.kIn a o hk, hc, n, by simpa using hs⟩, ?_⟩
    have e := r.length
    simp only [Array.length_toList] at e
    omega
theorem Inv.list_inj (I : Inv X pins σ H s) (h : SqL X.K H a xs) (h' : SqL X.K H a ys) : xs = ys := by
  obtain ⟨its, r, ⟨o, n, e, _, _, d⟩, _⟩ := I.list h
  obtain ⟨its', r', ⟨o', n', e', _, _, d'⟩, _⟩ := I.list h'
  rw [e] at e'; cases e'
  rw [d] at d'
  injection d' with d1 _
  have : its = its' := by simpa using congrArg Array.toList d1
  subst this
  exact r.inj r'
theorem Inv.tuple_inj (I : Inv X pins σ H s) (h : SqT X.K H a xs) (h' : SqT X.K H a ys) : xs = ys := by
  obtain ⟨its, r, ⟨o, e, _, n, d⟩, _⟩ := I.tuple h
  obtain ⟨its', r', ⟨o', e', _, n', d'⟩, _⟩ := I.tuple h'
  rw [e] at e'; cases e'
  rw [d] at d'
  injection d' with d1 _
  have : its = its' := by simpa using congrArg Array.toList d1
  subst this
  exact r.inj r'
end

/-! ### another wish about exceptions -/
abbrev Cx.wish (X : Cx) (E : Value → Shared → Prop) : Cx := { X with xe := E }
/-- no exception leaves -/
abbrev Cx.nox (X : Cx) : Cx := X.wish fun _ _ => False
theorem Cx.Ok.wish {X : Cx} (ok : X.Ok) (E : Value → Shared → Prop) : (X.wish E).Ok :=
  ⟨ok.mod, ok.kind, ok.glob, ok.blt, ok.above, ok.inj, ok.has, ok.cab, ok.hd, ok.frames, ok.stk, ok.exf, ok.bs, ok.bsz, ok.noex, ok.exfs, ok.funs, ok.frf⟩
theorem Cx.Ok.unwish {X : Cx} {E : Value → Shared → Prop} (ok : (X.wish E).Ok) : X.Ok :=
  ⟨ok.mod, ok.kind, ok.glob, ok.blt, ok.above, ok.inj, ok.has, ok.cab, ok.hd, ok.frames, ok.stk, ok.exf, ok.bs, ok.bsz, ok.noex, ok.exfs, ok.funs, ok.frf⟩
section
variable {X : Cx} {pins : List (Addr × Obj)} {σ : St} {H : Hp} {s : Shared} {E : Value → Shared → Prop}
theorem Inv.wish (I : Inv X pins σ H s) (E : Value → Shared → Prop) : Inv (X.wish E) pins σ H s := ⟨I.ok.wish E, I.os, I.bare, I.base, I.loc, I.cell, I.free, I.freeC, I.pin, I.hok, I.len⟩
theorem Inv.unwish (I : Inv (X.wish E) pins σ H s) : Inv X pins σ H s := ⟨I.ok.unwish, I.os, I.bare, I.base, I.loc, I.cell, I.free, I.freeC, I.pin, I.hok, I.len⟩
theorem SP.unwish {D : Ends} {f : Flow} {s' : Shared} (h : SP (X.wish E) pins D f s') : SP X pins D f s' := by
  cases f with
  | next => obtain ⟨σ', H', I, q⟩ := h; exact ⟨σ', H', I.unwish, q⟩
  | brk => obtain ⟨σ', H', I, q⟩ := h; exact ⟨σ', H', I.unwish, q⟩
  | cont => obtain ⟨σ', H', I, q⟩ := h; exact ⟨σ', H', I.unwish, q⟩
  | ret u => obtain ⟨v, σ', H', I, r, q⟩ := h; exact ⟨v, σ', H', I.unwish, r, q⟩
theorem PSs.nox {st : List Stmt} {t : TS} (h : PSs X.nox st t) : PSs X st t := fun pins s σ H D I hw =>
  wpAny_mono (h pins s σ H D (I.wish _) hw) (fun _ _ q => q.unwish) fun _ _ z => False.elim z
end

/-! ### blocks and small statements -/
section
variable {X : Cx} {st : Stmt} {rest : List Stmt} {t u : TS} {e : Expr} {te : TE} {pos : Pos}
def tNext : TS := fun D σ H => D.nx σ H
def tSeq (t u : TS) : TS := fun D σ H => t { D with nx := u D } σ H
theorem pss_nil : PSs X [] tNext := fun _ _ σ H _ I h => wpAny_execs_nil ⟨σ, H, I, h⟩
theorem pss_cons (h1 : PS X st t) (h2 : PSs X rest u) : PSs X (st :: rest) (tSeq t u) := by
  intro pins s σ H D I h
  refine wpAny_execs_cons (thn (h1 pins s σ H { D with nx := u D } I h) fun f s1 q => ?_)
  cases f with
  | next =>
    obtain ⟨σ', H', I', q⟩ := q
    exact h2 pins s1 σ' H' D I' q
  | ret v => exact q
  | brk => exact q
  | cont => exact q
theorem pss_one (h1 : PS X st t) : PSs X [st] t := by
  intro pins s σ H D I h
  refine wpAny_execs_cons (thn (h1 pins s σ H D I h) fun f s1 q => ?_)
  cases f with
  | next => exact wpAny_execs_nil q
  | ret v => exact q
  | brk => exact q
  | cont => exact q
/-- in a def's body nothing is shown -/
theorem Inv.quiet {pins : List (Addr × Obj)} {σ : St} {H : Hp} {s : Shared} (I : Inv X pins σ H s) : interactive X.env = false := by simp [interactive, I.ok.kind]
/-- an expression whose value is dropped -/
def tDrop (te : TE) : TS := fun D σ H => te σ H fun _ H1 => D.nx σ H1
theorem ps_expr (he : PE X e te) (hs : swapsWith e none pos.line X.env = pure false := by rfl) : PS X (.Expr e pos) (tDrop te) := by
  intro pins s σ H D I h
  exact wpAny_Expr_any (thn (he pins s σ H _ I h) fun v s1 ⟨x, H1, I1, r1, q1⟩ => ⟨σ, H1, I1, q1⟩) I.quiet hs
def tRet (te : TE) : TS := fun D σ H => te σ H D.rt
theorem ps_ret (he : PE X e te) : PS X (.Return (some e) pos) (tRet te) := by
  intro pins s σ H D I h
  exact wpAny_Return_some (thn (he pins s σ H _ I h) fun v s1 ⟨x, H1, I1, r1, q1⟩ => ⟨x, σ, H1, I1, r1, q1⟩)
def tIfS (c : TT) (t u : TS) : TS := fun D σ H => c σ H fun b H1 => if b = true then t D σ H1 else u D σ H1
theorem ps_if {c : Expr} {a b : List Stmt} {tc : TT} (hc : PT X c tc) (ha : PSs X a t) (hb : PSs X b u) : PS X (.If c a b pos) (tIfS tc t u) := by
  intro pins s σ H D I h
  refine wpAny_If (thn (hc pins s σ H _ I h) fun d s1 ⟨H1, I1, q1⟩ => ?_)
  cases d with
  | true => exact ha pins s1 σ H1 D I1 q1
  | false => exact hb pins s1 σ H1 D I1 q1
end

/-! ### targets -/
abbrev TG := V → St → Hp → (St → Hp → Prop) → Prop
abbrev TGs := List V → St → Hp → (St → Hp → Prop) → Prop
def PG (X : Cx) (target : Expr) (t : TG) : Prop :=
  ∀ (pins : List (Addr × Obj)) (s : Shared) (σ : St) (H : Hp) (v : V) (u : Value) (Q : St → Hp → Prop), Inv X pins σ H s → RelV v u → t v σ H Q →
    wpAny (model X.prog X.w) X.A (assign target X.env u) (fun _ s' => ∃ σ' H', Inv X pins σ' H' s' ∧ Q σ' H') X.xe s
/-- several targets, one after another -/
def PGs (X : Cx) (ts : List Expr) (t : TGs) : Prop :=
  ∀ (pins : List (Addr × Obj)) (s : Shared) (σ : St) (H : Hp) (vs : List V) (us : List Value) (Q : St → Hp → Prop), Inv X pins σ H s → Vals vs us → t vs σ H Q →
    wpAny (model X.prog X.w) X.A (assignInOrder ((assignEach ts X.env).map (·.2)) us) (fun _ s' => ∃ σ' H', Inv X pins σ' H' s' ∧ Q σ' H') X.xe s
/-- o[i] = v, by values -/
abbrev TSet := V → V → V → Hp → (Hp → Prop) → Prop
def PSet (X : Cx) (t : TSet) : Prop :=
  ∀ (pins : List (Addr × Obj)) (s : Shared) (σ : St) (H : Hp) (o i v : V) (ov iv u : Value) (Q : Hp → Prop), Inv X pins σ H s → RelV o ov → RelV i iv → RelV v u → t o i v H Q →
    wpAny (model X.prog X.w) X.A (setItem ov iv u) (fun _ s' => ∃ H', Inv X pins σ H' s' ∧ Q H') X.xe s
section
variable {X : Cx} {pos : Pos}
def gName (i : Nat) : TG := fun v σ H Q => Q (σ.set i (some v)) H
theorem pg_name {i : Nat} {x : Str} (hN : X.N.Nodup) (hi : X.N[i]? = some x) (hx : Loc X.env.scope x) (hf : X.fn x = true ∨ X.env.scope.names.lookup x = some .local := by first | exact .inl rfl | exact .inr rfl | assumption) : PG X (.Name x pos) (gName i) := by
  intro pins s σ H v u Q I r h
  exact wpAny_assign_Name (store_ok I hN hi hx r (fun s' I' => ⟨_, H, I', h⟩) hf)
def gNil : TGs := fun vs σ H Q => vs = [] ∧ Q σ H
def gCons (t : TG) (u : TGs) : TGs := fun vs σ H Q => ∃ v r, vs = v :: r ∧ t v σ H fun σ' H' => u r σ' H' Q
theorem pgs_nil : PGs X [] gNil := by
  intro pins s σ H vs us Q I r h
  obtain ⟨e, h⟩ := h
  subst e
  cases r
  exact assignInOrder_nil ⟨σ, H, I, h⟩
theorem pgs_cons {e : Expr} {es : List Expr} {t : TG} {u : TGs} (h1 : PG X e t) (h2 : PGs X es u)
    (hs : (assignEach (e :: es) X.env).map (·.2) = assign e X.env :: (assignEach es X.env).map (·.2) := by rfl) : PGs X (e :: es) (gCons t u) := by
  intro pins s σ H vs us Q I r h
  obtain ⟨v, vr, e1, h⟩ := h
  subst e1
  cases r with
  | cons r rr =>
    rw [hs]
    refine assignInOrder_cons (thn (h1 pins s σ H _ _ _ I r h) fun _ s1 ⟨σ1, H1, I1, q1⟩ => ?_)
    exact h2 pins s1 σ1 H1 _ _ Q I1 rr q1
/-- (a, b, ..) = a tuple of that length -/
def gTup (K : PySem.W.Frag) (n : Nat) (t : TGs) : TG := fun v σ H Q => ∃ a xs, v = .ref a ∧ SqT K H a xs ∧ xs.length = n ∧ t xs σ H Q
theorem pg_tup {es : List Expr} {k : Nat} {t : TGs} {n : Nat} (hc : X.calm = true) (h : PGs X es t)
    (hn : (assignEach es X.env).length = n := by rfl) (hst : (assignEach es X.env).findIdx? (·.1) = none := by rfl) : PG X (.Tuple es k pos) (gTup X.K n t) := by
  intro pins s σ H v u Q I r hw
  obtain ⟨a, xs, e1, hq, hl, hw⟩ := hw
  subst e1
  cases r
  obtain ⟨its, rv, ht, hz⟩ := I.tuple hq
  refine assign_Tuple_tuple (I.ok.hd hc) ht (by simp [hn, ← hl, rv.length]) hst fun h' hx => ?_
  have I1 : Inv X pins σ H { s with heap := h' } := I.kept (t' := s.toks) fun b o e => hx b o (Nat.ne_of_lt (Heap.lt_size e)) e
  exact h pins _ σ H xs _ Q I1 (by simpa using rv) hw
/-- o[i] = .. -/
def gSub (to ti : TE) (t : TSet) : TG := fun v σ H Q => to σ H fun o H1 => ti σ H1 fun i H2 => t o i v H2 fun H3 => Q σ H3
theorem pg_sub {o i : Expr} {to ti : TE} {t : TSet} (ho : PE X o to) (hi : PE X i ti) (hs : PSet X t)
    (ha : ∀ v, assign (.Subscript o i pos) X.env v = (do
      let ov ← holding [v] (eval o X.env)
      let iv ← holding [v, ov] (eval i X.env)
      standAt pos
      holding [v, ov, iv] (setItem ov iv v)
      release [v, ov, iv] []) := by intro _; rfl) : PG X (.Subscript o i pos) (gSub to ti t) := by
  intro pins s σ H v u Q I r h
  rw [ha]
  refine wpAny_bind (wpAny_holding (thn (ho pins s σ H _ I h) fun ov s1 ⟨x, H1, I1, r1, q1⟩ => ?_))
  refine wpAny_bind (wpAny_holding (thn (hi pins s1 σ H1 _ I1 q1) fun iv s2 ⟨y, H2, I2, r2, q2⟩ => ?_))
  refine wpAny_bind (wpAny_standAt (wpAny_bind (wpAny_holding (thn (hs pins s2 σ H2 x y v ov iv u _ I2 r1 r2 r q2) fun _ s3 ⟨H3, I3, q3⟩ => ?_))))
  exact wpAny_release ⟨σ, H3, I3, q3⟩
/-- target = value -/
def tAsg (te : TE) (g : TG) : TS := fun D σ H => te σ H fun x H1 => g x σ H1 D.nx
theorem ps_asg {tg e : Expr} {te : TE} {g : TG} (he : PE X e te) (hg : PG X tg g) (hs : swapsWithSole [tg] e pos.line X.env = pure false := by rfl) (hw : swappedStores [tg] e X.env = pure none := by rfl)
    (h1 : (assignEach [tg] X.env).map (·.2) = [assign tg X.env] := by rfl) : PS X (.Assign [tg] e pos) (tAsg te g) := by
  intro pins s σ H D I h
  refine wpAny_Assign_stores (thn (he pins s σ H _ I h) fun v s1 ⟨x, H1, I1, r1, q1⟩ => ?_) hs hw
  rw [h1]
  exact thn (hg pins s1 σ H1 x v _ I1 r1 q1) fun _ s2 q => q
/-- name = value -/
theorem ps_set {i : Nat} {x : Str} {e : Expr} {te : TE} {pos' : Pos} (hN : X.N.Nodup) (hi : X.N[i]? = some x) (hx : Loc X.env.scope x) (he : PE X e te) (hs : swapsWith e (some (.Name x pos')) pos.line X.env = pure false := by rfl) (hf : X.fn x = true ∨ X.env.scope.names.lookup x = some .local := by first | exact .inl rfl | exact .inr rfl | assumption) :
    PS X (.Assign [.Name x pos'] e pos) (tAsg te (gName i)) := by
  intro pins s σ H D I h
  refine wpAny_Assign_Name (thn (he pins s σ H _ I h) fun v s1 ⟨y, H1, I1, r1, q1⟩ => ?_) hs
  exact store_ok I1 hN hi hx r1 (fun s2 I2 => ⟨_, H1, I2, q1⟩) hf
end

/-! ### while -/
section
variable {X : Cx} {pos : Pos}
/-- the invariant W with its measure -/
def tWhile (c : TT) (tb : TS) : TS := fun D σ H => ∃ W : Nat → St → Hp → Prop, (∃ m, W m σ H) ∧ ∀ m σ H, W m σ H →
  c σ H fun b H1 => if b = true then ∃ N : St → Hp → Prop, (∀ σ' H', N σ' H' → ∃ m', m' < m ∧ W m' σ' H') ∧ tb { D with nx := N, ct := N, bk := D.nx } σ H1 else D.nx σ H1
theorem ps_while {c : Expr} {body : List Stmt} {tc : TT} {tb : TS} (hp : PassesOwn (model X.prog X.w) X.A X.env X.xe) (hc : PT X c tc) (hb : PSs X body tb) : PS X (.While c body [] pos) (tWhile tc tb) := by
  intro pins s σ H D I h
  obtain ⟨W, ⟨m0, w0⟩, turn⟩ := h
  refine wpAny_While (codeAny_whileLoop (fun n s' => ∃ σ' H', Inv X pins σ' H' s' ∧ W n σ' H') ?_ m0 ⟨σ, H, I, w0⟩)
  rintro n s1 ⟨σ1, H1, I1, w1⟩
  refine wpAny_passesOwn hp (thn (hc pins s1 σ1 H1 _ I1 (turn n σ1 H1 w1)) fun b s2 ⟨H2, I2, q2⟩ => ?_)
  cases b with
  | true =>
    obtain ⟨N, hN, q2⟩ := q2
    rw [if_pos rfl]
    refine wpAny_passesOwn hp (thn (hb pins s2 σ1 H2 _ I2 q2) fun f s3 q3 => ?_)
    cases f with
    | next =>
      obtain ⟨σ3, H3, I3, n3⟩ := q3
      obtain ⟨m', hm, w3⟩ := hN σ3 H3 n3
      exact ⟨m', hm, σ3, H3, I3, w3⟩
    | cont =>
      obtain ⟨σ3, H3, I3, n3⟩ := q3
      obtain ⟨m', hm, w3⟩ := hN σ3 H3 n3
      exact ⟨m', hm, σ3, H3, I3, w3⟩
    | brk => exact q3
    | ret v => exact q3
  | false =>
    rw [if_neg Bool.false_ne_true]
    exact wpAny_execs_nil ⟨σ1, H2, I2, q2⟩
end

/-! ### what a loop or a comprehension walks -/
/-- at turn i: it yields x (the heap may grow), or it stops -/
structure It where
  go : Nat → Hp → Prop
  yld : Nat → Hp → V → Hp → Prop
  stop : Nat → Hp → Prop
/-- the iterator's own objects may turn: they are not the frame's, not pinned, younger than the entry (or a comprehension's own) -/
def FpOk (X : Cx) (pins : List (Addr × Obj)) (H : Hp) (b : Addr) : Prop :=
  H b = none ∧ b ≠ X.env.locals ∧ b ∉ X.fs ∧ (b ∈ X.ex ∨ X.s₀.heap.objs.size ≤ b) ∧ (∀ x c, X.env.cells.lookup x = some c → c ≠ b) ∧ ∀ p ∈ X.pn ++ pins, p.1 ≠ b
theorem Inv.fpOk {X : Cx} {pins : List (Addr × Obj)} {σ : St} {H H' : Hp} {s : Shared} {b : Addr} (I : Inv X pins σ H s) (hb : s.heap.objs.size ≤ b) (hn : H' b = none) : FpOk X pins H' b := by
  refine ⟨hn, Nat.ne_of_gt (Nat.lt_of_lt_of_le I.lt hb), I.nofs hb, .inr (Nat.le_trans I.sz hb), fun x c e z => ?_, fun p hp z => ?_⟩
  · obtain ⟨v, q⟩ := I.cell x c e
    exact absurd (Nat.lt_of_lt_of_le q.lt (by rw [z]; exact hb)) (Nat.lt_irrefl _)
  · exact absurd (Nat.lt_of_lt_of_le (Heap.lt_size (I.pin p hp).1) (by rw [z]; exact hb)) (Nat.lt_irrefl _)
structure Turn (P : Program) (w : World) (K : PySem.W.Frag) (tg : Expr) (J : It) (fp : List Addr) (it : Addr) (tn : Nat → Heap → Prop) : Prop where
  mem : it ∈ fp
  obj : ∀ i h, tn i h → ∀ b ∈ fp, ∃ o, h.get? b = some o ∧ ∀ v, o.data ≠ .cell v
  keep : ∀ i h h', tn i h → (∀ b ∈ fp, ∀ o, h.get? b = some o → h'.get? b = some o) → tn i h'
  item : ∀ (X : Cx), X.prog = P → X.w = w → X.K = K → X.calm = true → ∀ (i : Nat) (pins : List (Addr × Obj)) (s : Shared) (σ : St) (H : Hp) (E : Value → Shared → Prop), Inv X pins σ H s → (∀ b ∈ fp, FpOk X pins H b) → tn i s.heap → J.go i H →
    wpAny (model P w) X.A (pyNext (.ref it)) (fun r s1 => ∃ u, r = some u ∧
      wpAny (model P w) X.A (letOwnedTupleGo tg (.ref it) u) (fun _ s2 => ∃ x H', Inv X pins σ H' s2 ∧ RelV x u ∧ J.yld i H x H' ∧ tn (i + 1) s2.heap ∧ ∀ b ∈ fp, H' b = none) E s1) E s
  done : ∀ (X : Cx), X.prog = P → X.w = w → X.K = K → X.calm = true → ∀ (i : Nat) (pins : List (Addr × Obj)) (s : Shared) (σ : St) (H : Hp) (E : Value → Shared → Prop), Inv X pins σ H s → (∀ b ∈ fp, FpOk X pins H b) → tn i s.heap → J.stop i H →
    wpAny (model P w) X.A (pyNext (.ref it)) (fun r s1 => r = none ∧ Inv X pins σ H s1) E s
  self : ∀ (A : Around) (i : Nat) (s : Shared) (Q : Value → Shared → Prop) (E : Value → Shared → Prop), tn i s.heap → Q (.ref it) s → wpAny (model P w) A (pyIter (.ref it)) Q E s
abbrev TI := St → Hp → (It → Hp → Prop) → Prop
/-- an iterator has come -/
def PIE (X : Cx) (pins : List (Addr × Obj)) (σ : St) (tg : Expr) (R : It → Hp → Prop) (itv : Value) (s2 : Shared) : Prop :=
  ∃ (it : Addr) (fp : List Addr) (tn : Nat → Heap → Prop) (J : It) (H' : Hp), itv = .ref it ∧ Inv X pins σ H' s2 ∧ Turn X.prog X.w X.K tg J fp it tn ∧ tn 0 s2.heap ∧ (∀ b ∈ fp, FpOk X pins H' b) ∧ R J H'
def PI (X : Cx) (tg iter : Expr) (wi : TI) : Prop :=
  ∀ (pins : List (Addr × Obj)) (s : Shared) (σ : St) (H : Hp) (R : It → Hp → Prop), Inv X pins σ H s → wi σ H R →
    wpAny (model X.prog X.w) X.A (eval iter X.env) (fun v s1 => wpAny (model X.prog X.w) X.A (pyIter v) (PIE X pins σ tg R) X.xe s1) X.xe s

/-- the step ahead of the store is nothing for an iterator that keeps no tuple -/
theorem go_of {M : Model} {A : Around} {E : Value → Shared → Prop} {s : Shared} {tg : Expr} {it : Addr} {u : Value} {o : Obj} {n : String} {vs : Array Value} {Q : Unit → Shared → Prop} (ho : s.heap.get? it = some o) (hc : o.cls = .type n) (hd : o.data = .fields vs)
    (hn : ["enumerate", "zip", "dict_itemiterator", "dict_reverseitemiterator", "odict_iterator", "itertools.zip_longest", "itertools.pairwise"].contains n = false) (hQ : Q () s) : wpAny M A (letOwnedTupleGo tg (.ref it) u) Q E s := by
  unfold letOwnedTupleGo
  cases tg <;> first
    | exact wpAny_pure hQ
    | (cases u <;> first
        | exact wpAny_pure hQ
        | (refine wpAny_bind (wpAny_load ho ?_)
           rw [hc, hd]
           show wpAny M A (if (["enumerate", "zip", "dict_itemiterator", "dict_reverseitemiterator", "odict_iterator", "itertools.zip_longest", "itertools.pairwise"].contains n && vs[0]? == some (rawInt _)) = true then _ else _) Q E s
           rw [if_neg (by intro h; rw [hn, Bool.false_and] at h; cases h)]
           exact wpAny_pure hQ))

/-- the list at a, as it stands at each turn (a loop may append to it) -/
def Itl (K : PySem.W.Frag) (a : Addr) : It :=
  ⟨fun i H => ∃ xs x, SqL K H a xs ∧ xs[i]? = some x, fun i H x H' => H' = H ∧ ∀ xs, SqL K H a xs → xs[i]? = some x, fun i H => ∃ xs, SqL K H a xs ∧ xs.length ≤ i⟩
def Itt (K : PySem.W.Frag) (a : Addr) : It :=
  ⟨fun i H => ∃ xs x, SqT K H a xs ∧ xs[i]? = some x, fun i H x H' => H' = H ∧ ∀ xs, SqT K H a xs → xs[i]? = some x, fun i H => ∃ xs, SqT K H a xs ∧ xs.length ≤ i⟩
/-- lo, lo + 1, .. (n of them) -/
def Itr (lo : Int) (n : Nat) : It := ⟨fun i _ => i < n, fun i H x H' => H' = H ∧ x = .int (lo + i), fun i _ => n ≤ i⟩
theorem turn_list {P : Program} {w : World} {K : PySem.W.Frag} {tg : Expr} (a it : Addr) : Turn P w K tg (Itl K a) [it] it (fun i h => h.IsListIter it a i) where
  mem := by simp
  obj := fun i h st b hb => by
    have e : b = it := by simpa using hb
    subst e
    obtain ⟨o, e, c, d⟩ := st
    exact ⟨o, e, fun v z => by rw [d] at z; cases z⟩
  keep := fun i h h' st k => st.at fun o e => k it (by simp) o e
  item := by
    intro X hP hw hK hc i pins s σ H E I hf st hg
    subst hP hw hK
    obtain ⟨xs, x, hq, hx⟩ := hg
    obtain ⟨its, rv, p, hz⟩ := I.list hq
    obtain ⟨u, hu, ru⟩ := rv.get hx
    obtain ⟨f0, f1, f2, f3, f4, f5⟩ := hf it (by simp)
    refine wpAny_pyNext_list_item st p.isList (x := u) (by simpa using hu) fun h' st' sb => ?_
    have I1 : Inv X pins σ H { s with heap := h' } := I.turned (t' := s.toks) (fun b o hb e => (sb.2 b hb).trans e) f0 f1 f3 f4 f5
    obtain ⟨o, e, c, d⟩ := id st'
    exact ⟨u, rfl, go_of (s := { s with heap := h' }) e c d (by decide) ⟨x, H, I1, ru, ⟨rfl, fun ys hy => by rw [I.list_inj hy hq]; exact hx⟩, st', fun b hb => (hf b hb).1⟩⟩
  done := by
    intro X hP hw hK hc i pins s σ H E I hf st hg
    subst hP hw hK
    obtain ⟨xs, hq, hx⟩ := hg
    obtain ⟨its, rv, p, hz⟩ := I.list hq
    obtain ⟨f0, f1, f2, f3, f4, f5⟩ := hf it (by simp)
    have hl := rv.length
    exact wpAny_pyNext_list_end (I.ok.hd hc) st p.isList (by simp; omega) fun h' eb => ⟨rfl, I.turned (t' := s.toks) (fun b o hb e => eb b o hb e) f0 f1 f3 f4 f5⟩
  self := fun _ _ _ _ _ st h => wpAny_pyIter_listiter st h
theorem turn_tuple {P : Program} {w : World} {K : PySem.W.Frag} {tg : Expr} (a it : Addr) : Turn P w K tg (Itt K a) [it] it (fun i h => h.IsTupleIter it a i) where
  mem := by simp
  obj := fun i h st b hb => by
    have e : b = it := by simpa using hb
    subst e
    obtain ⟨o, e, c, d⟩ := st
    exact ⟨o, e, fun v z => by rw [d] at z; cases z⟩
  keep := fun i h h' st k => st.at fun o e => k it (by simp) o e
  item := by
    intro X hP hw hK hc i pins s σ H E I hf st hg
    subst hP hw hK
    obtain ⟨xs, x, hq, hx⟩ := hg
    obtain ⟨its, rv, p, hz⟩ := I.tuple hq
    obtain ⟨u, hu, ru⟩ := rv.get hx
    obtain ⟨f0, f1, f2, f3, f4, f5⟩ := hf it (by simp)
    refine wpAny_pyNext_tuple_item st (show s.heap.IsTuple a its.toArray from p) (x := u) (by simpa using hu) fun h' st' sb => ?_
    have I1 : Inv X pins σ H { s with heap := h' } := I.turned (t' := s.toks) (fun b o hb e => (sb.2 b hb).trans e) f0 f1 f3 f4 f5
    obtain ⟨o, e, c, d⟩ := id st'
    exact ⟨u, rfl, go_of (s := { s with heap := h' }) e c d (by decide) ⟨x, H, I1, ru, ⟨rfl, fun ys hy => by rw [I.tuple_inj hy hq]; exact hx⟩, st', fun b hb => (hf b hb).1⟩⟩
  done := by
    intro X hP hw hK hc i pins s σ H E I hf st hg
    subst hP hw hK
    obtain ⟨xs, hq, hx⟩ := hg
    obtain ⟨its, rv, p, hz⟩ := I.tuple hq
    obtain ⟨f0, f1, f2, f3, f4, f5⟩ := hf it (by simp)
    have hl := rv.length
    exact wpAny_pyNext_tuple_end (I.ok.hd hc) st (show s.heap.IsTuple a its.toArray from p) (by simp; omega) fun h' eb => ⟨rfl, I.turned (t' := s.toks) (fun b o hb e => eb b o hb e) f0 f1 f3 f4 f5⟩
  self := fun _ _ _ _ _ st h => wpAny_pyIter_tupleiter st h
theorem turn_range {P : Program} {w : World} {K : PySem.W.Frag} {tg : Expr} (it : Addr) (lo : Int) (n : Nat) : Turn P w K tg (Itr lo n) [it] it (fun i h => IsRangeIter h it (lo + (i : Nat) * 1) ((n : Int) - (i : Nat)) 1) where
  mem := by simp
  obj := fun i h st b hb => by
    have e : b = it := by simpa using hb
    subst e
    exact ⟨_, st, fun v z => by
      have z' : Data.fields _ = Data.cell v := z
      cases z'⟩
  keep := fun i h h' st k => k it (by simp) _ st
  item := by
    intro X hP hw hK hc i pins s σ H E I hf st hg
    subst hP hw hK
    obtain ⟨f0, f1, f2, f3, f4, f5⟩ := hf it (by simp)
    have W := Walks.range (prog := X.prog) (w := X.w) (I.ok.hd hc) it lo 1 n
    refine W.item i s _ _ hg st fun v h' tk hv st' kk => ?_
    obtain ⟨t, rfl⟩ := hv
    have I1 : Inv X pins σ H { s with heap := h', toks := tk } := I.turned (fun b o hb e => kk b o (by simpa using hb) e) f0 f1 f3 f4 f5
    refine ⟨_, rfl, go_of (s := { s with heap := h', toks := tk }) (n := "range_iterator") st' rfl rfl (by decide) ⟨.int (lo + i), H, I1, ⟨t, ?_⟩, ⟨rfl, rfl⟩, st', fun b hb => (hf b hb).1⟩⟩
    rw [Int.mul_one]
  done := by
    intro X hP hw hK hc i pins s σ H E I hf st hg
    subst hP hw hK
    obtain ⟨f0, f1, f2, f3, f4, f5⟩ := hf it (by simp)
    exact wpAny_pyNext_range_end (I.ok.hd hc) st (by have : n ≤ i := hg; omega) fun h' eb => ⟨rfl, I.turned (t' := s.toks) (fun b o hb e => eb b o hb e) f0 f1 f3 f4 f5⟩
  self := fun _ _ _ _ _ st h => wpAny_pyIter_rangeiter st h
end L2

namespace L2
open PySem PySem.Spec PyProof.Rows
section
variable {X : Cx} {tg : Expr}
def iList (K : PySem.W.Frag) (tl : TE) : TI := fun σ H R => tl σ H fun x H1 => ∃ a, x = .ref a ∧ (∃ xs, SqL K H1 a xs) ∧ R (Itl K a) H1
def iTup (K : PySem.W.Frag) (tl : TE) : TI := fun σ H R => tl σ H fun x H1 => ∃ a, x = .ref a ∧ (∃ xs, SqT K H1 a xs) ∧ R (Itt K a) H1
theorem pi_list {l : Expr} {tl : TE} (hl : PE X l tl) : PI X tg l (iList X.K tl) := by
  intro pins s σ H R I h
  refine thn (hl pins s σ H _ I h) fun v s1 ⟨x, H1, I1, r1, q1⟩ => ?_
  obtain ⟨a, e, ⟨xs, hq⟩, q⟩ := q1
  subst e
  cases r1
  obtain ⟨its, rv, p, hz⟩ := I1.list hq
  refine wpAny_pyIter_list p.isList ?_
  refine ⟨s1.heap.objs.size, [s1.heap.objs.size], _, _, H1, rfl, I1.kept (t' := s1.toks) fun b o e => Heap.get?_push_of_some _ e, turn_list a _, ⟨_, Heap.get?_push_size _ rfl, rfl, rfl⟩, fun b hb => ?_, q⟩
  have e : b = s1.heap.objs.size := by simpa using hb
  subst e
  exact I1.fpOk (Nat.le_refl _) (I1.hok.fresh (Nat.le_refl _))
theorem pi_tup {l : Expr} {tl : TE} (hl : PE X l tl) : PI X tg l (iTup X.K tl) := by
  intro pins s σ H R I h
  refine thn (hl pins s σ H _ I h) fun v s1 ⟨x, H1, I1, r1, q1⟩ => ?_
  obtain ⟨a, e, ⟨xs, hq⟩, q⟩ := q1
  subst e
  cases r1
  obtain ⟨its, rv, p, hz⟩ := I1.tuple hq
  refine wpAny_pyIter_tuple (show s1.heap.IsTuple a its.toArray from p) ?_
  refine ⟨s1.heap.objs.size, [s1.heap.objs.size], _, _, H1, rfl, I1.kept (t' := s1.toks) fun b o e => Heap.get?_push_of_some _ e, turn_tuple a _, ⟨_, Heap.get?_push_size _ rfl, rfl, rfl⟩, fun b hb => ?_, q⟩
  have e : b = s1.heap.objs.size := by simpa using hb
  subst e
  exact I1.fpOk (Nat.le_refl _) (I1.hok.fresh (Nat.le_refl _))
/-- a range object just made, walked -/
theorem range_it {pins : List (Addr × Obj)} {σ : St} {H : Hp} {s : Shared} {R : It → Hp → Prop} {E : Value → Shared → Prop} {lo hi : Int} {t u v : Tok} {tk : Nat} (I : Inv X pins σ H s) (h1 : -(2 ^ 62) ≤ lo) (h2 : lo < 2 ^ 62) (h3 : -(2 ^ 62) ≤ hi) (h4 : hi < 2 ^ 62)
    (q : R (Itr lo (hi - lo).toNat) H) : wpAny (model X.prog X.w) X.A (pyIter (.ref s.heap.objs.size)) (PIE X pins σ tg R) E { s with heap := s.heap.push { cls := .type "range", data := .fields #[.int lo t, .int hi u, .int 1 v] }, toks := tk } := by
  refine wpAny_pyIter_range (IsRange.new ..) (small_one h1 h2 h3 h4) ?_
  have I1 : Inv X pins σ H { s with heap := s.heap.push { cls := .type "range", data := .fields #[.int lo t, .int hi u, .int 1 v] }, toks := tk } := I.kept fun b o e => Heap.get?_push_of_some _ e
  refine ⟨(s.heap.push { cls := .type "range", data := .fields #[.int lo t, .int hi u, .int 1 v] }).objs.size, [(s.heap.push { cls := .type "range", data := .fields #[.int lo t, .int hi u, .int 1 v] }).objs.size], _, _, H, rfl,
    I1.kept (t' := tk) fun b o e => Heap.get?_push_of_some _ e, turn_range _ lo (hi - lo).toNat, ?_, fun b hb => ?_, q⟩
  · have e1 : lo + ((0 : Nat) : Int) * 1 = lo := by simp
    have e2 : (((hi - lo).toNat : Nat) : Int) - ((0 : Nat) : Int) = Builtin.Range.rangeSize lo hi 1 := by rw [rangeSize_one]; split <;> omega
    show IsRangeIter _ _ (lo + ((0 : Nat) : Int) * 1) ((((hi - lo).toNat : Nat) : Int) - ((0 : Nat) : Int)) 1
    rw [e1, e2]
    exact Heap.get?_push_size _ rfl
  · have e : b = (s.heap.push { cls := .type "range", data := .fields #[.int lo t, .int hi u, .int 1 v] }).objs.size := by simpa using hb
    subst e
    exact I1.fpOk (Nat.le_refl _) (I1.hok.fresh (Nat.le_refl _))
def iRng1 (ta : TA) : TI := fun σ H R => ta σ H fun vs H1 => ∃ j : Int, vs = [.int j] ∧ -(2 ^ 62) ≤ j ∧ j < 2 ^ 62 ∧ R (Itr 0 j.toNat) H1
theorem pi_range1 {a : Expr} {ta : TA} {p pos : Pos} (hg : Gl X "range") (hm : X.mg "range" = none) (ha : PA X [a] ta) (hs : starEach [a] X.env = [(false, eval a X.env)] := by rfl) : PI X tg (.Call (.Name "range" p) [a] [] pos) (iRng1 ta) := by
  intro pins s σ H R I h
  refine Call_ (ld_blt I hg hm boot_range (PyProof.Rows.callWith_type1 (thn (ha pos pins s σ H _ I h) fun us s1 ⟨vs, H1, I1, r1, q1⟩ => ?_) hs rfl))
  obtain ⟨j, e, q1, q2, q⟩ := q1
  subst e
  cases r1 with
  | cons r rr =>
    cases rr
    obtain ⟨t, rfl⟩ := r
    exact call_range_1 (range_it I1 (by omega) (by omega) q1 q2 (by simpa using q))
/-! ### for -/
/-- W: the invariant by the turn and a measure; N: what the body is to reach -/
def tFor (wi : TI) (g : TG) (tb : TS) : TS := fun D σ H => wi σ H fun J H1 => ∃ W : Nat → Nat → St → Hp → Prop, (∃ m, W 0 m σ H1) ∧ ∀ i m σ H, W i m σ H →
  (J.stop i H ∧ D.nx σ H) ∨ (J.go i H ∧ ∃ N : St → Hp → Prop, (∀ σ' H', N σ' H' → ∃ m', m' < m ∧ W (i + 1) m' σ' H') ∧ ∀ x H', J.yld i H x H' → g x σ H' fun σ2 H2 => tb { D with nx := N, ct := N, bk := D.nx } σ2 H2)
/-- the records at fp as they stand -/
def pinsAt (fp : List Addr) (h : Heap) : List (Addr × Obj) := fp.filterMap fun b => (h.get? b).map fun o => (b, o)
theorem mem_pinsAt {fp : List Addr} {h : Heap} {b : Addr} {o : Obj} (hb : b ∈ fp) (e : h.get? b = some o) : (b, o) ∈ pinsAt fp h := List.mem_filterMap.mpr ⟨b, hb, by rw [e]; rfl⟩
theorem of_pinsAt {fp : List Addr} {h : Heap} {p : Addr × Obj} (hp : p ∈ pinsAt fp h) : p.1 ∈ fp ∧ h.get? p.1 = some p.2 := by
  obtain ⟨b, hb, e⟩ := List.mem_filterMap.mp hp
  cases q : h.get? b with
  | none => rw [q] at e; cases e
  | some o =>
    rw [q] at e
    have e' : (b, o) = p := Option.some.inj e
    subst e'
    exact ⟨hb, q⟩
theorem Inv.pinned {pins : List (Addr × Obj)} {σ : St} {H : Hp} {s : Shared} {fp : List Addr} (I : Inv X pins σ H s) (hf : ∀ b ∈ fp, FpOk X pins H b) (ho : ∀ b ∈ fp, ∃ o, s.heap.get? b = some o ∧ ∀ v, o.data ≠ .cell v) : Inv X (pins ++ pinsAt fp s.heap) σ H s :=
  I.pins_of fun p hp => (List.mem_append.mp hp).elim (fun z => I.pin p (List.mem_append_right _ z)) fun z => by
    obtain ⟨hb, e⟩ := of_pinsAt z
    obtain ⟨f0, f1, f2, _⟩ := hf p.1 hb
    obtain ⟨o, e', d⟩ := ho p.1 hb
    rw [e] at e'; cases e'
    exact ⟨e, f0, f1, f2, d⟩
theorem Inv.unpinned {pins pl : List (Addr × Obj)} {σ : St} {H : Hp} {s : Shared} (I : Inv X (pins ++ pl) σ H s) : Inv X pins σ H s := I.pins_of fun p hp => I.pin p (List.mem_append_right _ (List.mem_append_left _ hp))
theorem ps_for {iter : Expr} {body : List Stmt} {wi : TI} {g : TG} {tb : TS} {pos : Pos} (hp : PassesOwn (model X.prog X.w) X.A X.env X.xe) (hc : X.calm = true) (hi : PI X tg iter wi) (hg : PG X tg g) (hb : PSs X body tb)
    (hs : ∀ x, foldedSetIterable iter X.env x = pure x := by intro _; rfl) : PS X (.For tg iter body [] pos) (tFor wi g tb) := by
  intro pins s σ H D I h
  refine wpAny_For (thn (hi pins s σ H _ I h) fun v s1 h1 => thn h1 fun itv s2 h2 => ?_) hs
  obtain ⟨it, fp, tn, J, H2, e, I2, T, st2, f2, W, ⟨m0, w0⟩, turn⟩ := h2
  subst e
  -- what stays true of the iterator's objects through the loop
  have stat : ∀ {H' : Hp}, (∀ b ∈ fp, H' b = none) → ∀ b ∈ fp, FpOk X pins H' b := fun hn b hb => ⟨hn b hb, (f2 b hb).2⟩
  refine codeAny_forLoop_any (fun n s' => ∃ i σ' H', Inv X pins σ' H' s' ∧ tn i s'.heap ∧ (∀ b ∈ fp, H' b = none) ∧ W i n σ' H') ?_ m0 ⟨0, σ, H2, I2, st2, fun b hb => (f2 b hb).1, w0⟩
  rintro n s3 ⟨i, σ3, H3, I3, st3, fr3, w3⟩
  rcases turn i n σ3 H3 w3 with ⟨stop, qn⟩ | ⟨go, N, hN, step⟩
  · refine wpAny_passesOwn hp (thn (T.done X rfl rfl rfl hc i pins s3 σ3 H3 X.xe I3 (stat fr3) st3 stop) fun r s4 ⟨hr, I4⟩ => ?_)
    subst hr
    exact wpAny_execs_nil ⟨σ3, H3, I4, qn⟩
  · refine wpAny_passesOwn hp (thn (T.item X rfl rfl rfl hc i pins s3 σ3 H3 X.xe I3 (stat fr3) st3 go) fun r s4 ⟨u, hr, h4⟩ => ?_)
    subst hr
    refine wpAny_passesOwn hp (thn h4 fun _ s5 ⟨x, H5, I5, r5, y5, st5, fr5⟩ => ?_)
    have I5' := I5.pinned (stat fr5) (T.obj _ _ st5)
    refine wpAny_passesOwn hp (thn (hg _ s5 σ3 H5 x u _ I5' r5 (step x H5 y5)) fun _ s6 ⟨σ6, H6, I6, q6⟩ => ?_)
    refine wpAny_passesOwn hp (thn (hb _ s6 σ6 H6 _ I6 q6) fun f s7 q7 => ?_)
    have again : ∀ {σ7 : St} {H7 : Hp}, Inv X (pins ++ pinsAt fp s5.heap) σ7 H7 s7 → N σ7 H7 → ∃ m, m < n ∧ ∃ i σ' H', Inv X pins σ' H' s7 ∧ tn i s7.heap ∧ (∀ b ∈ fp, H' b = none) ∧ W i m σ' H' := fun {σ7 H7} I7 n7 => by
      obtain ⟨m', hm, w7⟩ := hN σ7 H7 n7
      refine ⟨m', hm, i + 1, σ7, H7, I7.unpinned, T.keep _ _ _ st5 fun b hb o e => (I7.pin (b, o) (List.mem_append_right _ (List.mem_append_right _ (mem_pinsAt hb e)))).1, fun b hb => ?_, w7⟩
      obtain ⟨o, e, d⟩ := T.obj _ _ st5 b hb
      exact (I7.pin (b, o) (List.mem_append_right _ (List.mem_append_right _ (mem_pinsAt hb e)))).2.1
    cases f with
    | next => obtain ⟨σ7, H7, I7, n7⟩ := q7; exact again I7 n7
    | cont => obtain ⟨σ7, H7, I7, n7⟩ := q7; exact again I7 n7
    | brk => obtain ⟨σ7, H7, I7, q7⟩ := q7; exact ⟨σ7, H7, I7.unpinned, q7⟩
    | ret v => obtain ⟨x7, σ7, H7, I7, r7, q7⟩ := q7; exact ⟨x7, σ7, H7, I7.unpinned, r7, q7⟩
end

/-! ### the forms one uses -/
/-- over a list that the body leaves as it is -/
theorem for_list {K : PySem.W.Frag} {a : Addr} {xs : List V} {g : TG} {tb : TS} {D : Ends} {σ : St} {H : Hp} (Pv : Nat → St → Hp → Prop) (h0 : Pv 0 σ H) (hl : ∀ i σ H, i ≤ xs.length → Pv i σ H → SqL K H a xs)
    (hs : ∀ i x σ H, xs[i]? = some x → Pv i σ H → g x σ H fun σ2 H2 => tb { D with nx := Pv (i + 1), ct := Pv (i + 1), bk := D.nx } σ2 H2) (hd : ∀ σ H, Pv xs.length σ H → D.nx σ H) :
    ∃ W : Nat → Nat → St → Hp → Prop, (∃ m, W 0 m σ H) ∧ ∀ i m σ H, W i m σ H →
      ((Itl K a).stop i H ∧ D.nx σ H) ∨ ((Itl K a).go i H ∧ ∃ N : St → Hp → Prop, (∀ σ' H', N σ' H' → ∃ m', m' < m ∧ W (i + 1) m' σ' H') ∧ ∀ x H', (Itl K a).yld i H x H' → g x σ H' fun σ2 H2 => tb { D with nx := N, ct := N, bk := D.nx } σ2 H2) := by
  refine ⟨fun i m σ H => m = xs.length - i ∧ i ≤ xs.length ∧ Pv i σ H, ⟨xs.length, by simp, Nat.zero_le _, h0⟩, ?_⟩
  rintro i m σ H ⟨rfl, hi, p⟩
  have q := hl i σ H hi p
  by_cases hlt : i < xs.length
  · refine .inr ⟨⟨xs, xs[i], q, by simp [hlt]⟩, Pv (i + 1), fun σ' H' p' => ⟨xs.length - (i + 1), by omega, rfl, hlt, p'⟩, fun x H' y => ?_⟩
    obtain ⟨e, y⟩ := y
    subst e
    exact hs i x σ _ (y xs q) p
  · have e : i = xs.length := by omega
    subst e
    exact .inl ⟨⟨xs, q, Nat.le_refl _⟩, hd σ H p⟩
theorem for_range {lo : Int} {n : Nat} {g : TG} {tb : TS} {D : Ends} {σ : St} {H : Hp} (Pv : Nat → St → Hp → Prop) (h0 : Pv 0 σ H)
    (hs : ∀ i σ H, i < n → Pv i σ H → g (.int (lo + i)) σ H fun σ2 H2 => tb { D with nx := Pv (i + 1), ct := Pv (i + 1), bk := D.nx } σ2 H2) (hd : ∀ σ H, Pv n σ H → D.nx σ H) :
    ∃ W : Nat → Nat → St → Hp → Prop, (∃ m, W 0 m σ H) ∧ ∀ i m σ H, W i m σ H →
      ((Itr lo n).stop i H ∧ D.nx σ H) ∨ ((Itr lo n).go i H ∧ ∃ N : St → Hp → Prop, (∀ σ' H', N σ' H' → ∃ m', m' < m ∧ W (i + 1) m' σ' H') ∧ ∀ x H', (Itr lo n).yld i H x H' → g x σ H' fun σ2 H2 => tb { D with nx := N, ct := N, bk := D.nx } σ2 H2) := by
  refine ⟨fun i m σ H => m = n - i ∧ i ≤ n ∧ Pv i σ H, ⟨n, by simp, Nat.zero_le _, h0⟩, ?_⟩
  rintro i m σ H ⟨rfl, hi, p⟩
  by_cases hlt : i < n
  · refine .inr ⟨hlt, Pv (i + 1), fun σ' H' p' => ⟨n - (i + 1), by omega, rfl, hlt, p'⟩, fun x H' y => ?_⟩
    obtain ⟨e, y⟩ := y
    subst e y
    exact hs i σ _ hlt p
  · have e : i = n := by omega
    subst e
    exact .inl ⟨Nat.le_refl _, hd σ H p⟩
end L2

namespace L2
open PySem PySem.Spec PyProof.Rows

abbrev R2 := V → V → Hp → VK → Prop
/-- a two-place operation on values: f is binaryOp op, inplaceOp op or compareOp op -/
def OpR (X : Cx) (f : Value → Value → Sem Value) (r : R2) : Prop :=
  ∀ (pins : List (Addr × Obj)) (s : Shared) (σ : St) (H : Hp) (x y : V) (v u : Value) (Q : VK), Inv X pins σ H s → RelV x v → RelV y u → r x y H Q →
    wpAny (model X.prog X.w) X.A (f v u) (EP X pins σ Q) X.xe s
/-- a one-place operation -/
def UnR (X : Cx) (f : Value → Sem Value) (r : V → Hp → VK → Prop) : Prop :=
  ∀ (pins : List (Addr × Obj)) (s : Shared) (σ : St) (H : Hp) (x : V) (v : Value) (Q : VK), Inv X pins σ H s → RelV x v → r x H Q →
    wpAny (model X.prog X.w) X.A (f v) (EP X pins σ Q) X.xe s
/-- a call of a value that is known (a builtin, a type) with values -/
def CallR (X : Cx) (f : Value) (r : List V → Hp → VK → Prop) : Prop :=
  ∀ (pins : List (Addr × Obj)) (s : Shared) (σ : St) (H : Hp) (xs : List V) (us : List Value) (Q : VK), Inv X pins σ H s → Vals xs us → r xs H Q →
    wpAny (model X.prog X.w) X.A (call f us) (EP X pins σ Q) X.xe s
/-- a value's truth -/
def TruR (X : Cx) (r : V → Hp → (Bool → Hp → Prop) → Prop) : Prop :=
  ∀ (pins : List (Addr × Obj)) (s : Shared) (σ : St) (H : Hp) (x : V) (v : Value) (Q : Bool → Hp → Prop), Inv X pins σ H s → RelV x v → r x H Q →
    wpAny (model X.prog X.w) X.A (truthy v) (TP X pins σ Q) X.xe s

def tOp (r : R2) (ta tb : TE) : TE := fun σ H Q => ta σ H fun x H1 => tb σ H1 fun y H2 => r x y H2 Q
def tUn (r : V → Hp → VK → Prop) (ta : TE) : TE := fun σ H Q => ta σ H fun x H1 => r x H1 Q
/-- ints in, under C, and a value out -/
def rI (C : Int → Int → Prop) (g : Int → Int → V) : R2 := fun x y H Q => ∃ i j, x = .int i ∧ y = .int j ∧ C i j ∧ Q (g i j) H
def rI0 (g : Int → Int → V) : R2 := fun x y H Q => ∃ i j, x = .int i ∧ y = .int j ∧ Q (g i j) H
def rU (g : Int → V) : V → Hp → VK → Prop := fun x H Q => ∃ i, x = .int i ∧ Q (g i) H

section
variable {X : Cx} {a b c : Expr} {ta tb tc : TE} {pos : Pos}

theorem binT (ha : PE X a ta) (hb : PE X b tb) {pins : List (Addr × Obj)} {s : Shared} {σ : St} {H : Hp} {R : V → V → Hp → Prop} (I : Inv X pins σ H s)
    (h : ta σ H fun x H1 => tb σ H1 fun y H2 => R x y H2) {Q : Value → Shared → Prop} {f : Value → Value → Sem Value}
    (hf : ∀ v u s2 x y H2, Inv X pins σ H2 s2 → RelV x v → RelV y u → R x y H2 → wpAny (model X.prog X.w) X.A (f v u) Q X.xe s2) :
    wpAny (model X.prog X.w) X.A (eval a X.env) (fun v s₁ => wpAny (model X.prog X.w) X.A (eval b X.env) (fun u s₂ => wpAny (model X.prog X.w) X.A (f v u) Q X.xe s₂) X.xe s₁) X.xe s := by
  refine thn (ha pins s σ H _ I h) fun v s1 ⟨x, H1, I1, r1, q1⟩ => ?_
  refine thn (hb pins s1 σ H1 _ I1 q1) fun u s2 ⟨y, H2, I2, r2, q2⟩ => ?_
  exact hf v u s2 x y H2 I2 r1 r2 q2

theorem pe_op {op : Operator} {r : R2} (ho : OpR X (binaryOp op) r) (ha : PE X a ta) (hb : PE X b tb) : PE X (.BinOp a op b pos) (tOp r ta tb) := by
  intro pins s σ H Q I h
  exact wpAny_BinOp (binT ha hb I h fun v u s2 x y H2 I2 rx ry q => ho pins s2 σ H2 x y v u Q I2 rx ry q)
theorem pe_un {op : UnaryOp} {r : V → Hp → VK → Prop} (ho : UnR X (unaryOp op) r) (ha : PE X a ta) : PE X (.UnaryOp op a pos) (tUn r ta) := by
  intro pins s σ H Q I h
  exact UnaryOp_ (thn (ha pins s σ H _ I h) fun v s1 ⟨x, H1, I1, r1, q1⟩ => ho pins s1 σ H1 x v Q I1 r1 q1)
/-! ### ints -/
theorem opI {f : Value → Value → Sem Value} {C : Int → Int → Prop} {g : Int → Int → Int}
    (rule : ∀ (i j : Int) (t u : Tok) (s : Shared) (Q : Value → Shared → Prop) (E : Value → Shared → Prop), C i j → Q (.int (g i j) s.toks) { s with toks := s.toks + 1 } → wpAny (model X.prog X.w) X.A (f (.int i t) (.int j u)) Q E s) :
    OpR X f (rI C fun i j => .int (g i j)) := by
  intro pins s σ H x y v u Q I rx ry h
  obtain ⟨i, j, rfl, rfl, hc, q⟩ := h
  obtain ⟨t, rfl⟩ := rx
  obtain ⟨t', rfl⟩ := ry
  exact rule i j t t' s _ _ hc ⟨.int (g i j), H, I.tok _, ⟨_, rfl⟩, q⟩
theorem opI0 {f : Value → Value → Sem Value} {g : Int → Int → Int}
    (rule : ∀ (i j : Int) (t u : Tok) (s : Shared) (Q : Value → Shared → Prop) (E : Value → Shared → Prop), Q (.int (g i j) s.toks) { s with toks := s.toks + 1 } → wpAny (model X.prog X.w) X.A (f (.int i t) (.int j u)) Q E s) :
    OpR X f (rI0 fun i j => .int (g i j)) := by
  intro pins s σ H x y v u Q I rx ry h
  obtain ⟨i, j, rfl, rfl, q⟩ := h
  obtain ⟨t, rfl⟩ := rx
  obtain ⟨t', rfl⟩ := ry
  exact rule i j t t' s _ _ ⟨.int (g i j), H, I.tok _, ⟨_, rfl⟩, q⟩
theorem opB0 {f : Value → Value → Sem Value} {g : Int → Int → Bool}
    (rule : ∀ (i j : Int) (t u : Tok) (s : Shared) (Q : Value → Shared → Prop) (E : Value → Shared → Prop), Q (.bool (g i j)) s → wpAny (model X.prog X.w) X.A (f (.int i t) (.int j u)) Q E s) :
    OpR X f (rI0 fun i j => .bl (g i j)) := by
  intro pins s σ H x y v u Q I rx ry h
  obtain ⟨i, j, rfl, rfl, q⟩ := h
  obtain ⟨t, rfl⟩ := rx
  obtain ⟨t', rfl⟩ := ry
  exact rule i j t t' s _ _ ⟨.bl (g i j), H, I, rfl, q⟩

def CPow (i j : Int) : Prop := 0 ≤ j ∧ j ≤ 1000000 ∧ i.natAbs < 2 ^ 64
def CMul (i j : Int) : Prop := (-(2 ^ 64) < i ∧ i < 2 ^ 64) ∨ (-(2 ^ 64) < j ∧ j < 2 ^ 64)
theorem CMul.ok {i j : Int} (h : CMul i j) : IntMulOk i j := by
  rcases h with ⟨h1, h2⟩ | ⟨h1, h2⟩
  · exact .of_left (intBits_le_64 h1 h2)
  · exact .of_right (intBits_le_64 h1 h2)
theorem op_add : OpR X (binaryOp .Add) (rI0 fun i j => .int (i + j)) := opI0 fun _ _ _ _ _ _ _ q => add_int q
theorem op_sub : OpR X (binaryOp .Sub) (rI0 fun i j => .int (i - j)) := opI0 fun _ _ _ _ _ _ _ q => sub_int q
theorem op_mul : OpR X (binaryOp .Mult) (rI CMul fun i j => .int (i * j)) := opI fun _ _ _ _ _ _ _ hc q => mul_int q hc.ok
/-- % by a positive divisor of any size -/
theorem op_mod : OpR X (binaryOp .Mod) (rI (fun _ j => 0 < j) fun i j => .int (i % j)) := opI fun i j _ _ _ _ _ hc q => by
  have h1 : (0 : Int) < j := hc
  exact mod_int' (by omega) (by rw [Int.fmod_eq_emod_of_nonneg i (by omega)]; exact q)
theorem op_pow : OpR X (binaryOp .Pow) (rI CPow fun i j => .int (i ^ j.toNat)) := opI fun _ _ _ _ _ _ _ hc q => pow_int_small hc.1 hc.2.1 hc.2.2 q
theorem unI {f : Value → Sem Value} {g : Int → Int}
    (rule : ∀ (i : Int) (t : Tok) (s : Shared) (Q : Value → Shared → Prop) (E : Value → Shared → Prop), Q (.int (g i) s.toks) { s with toks := s.toks + 1 } → wpAny (model X.prog X.w) X.A (f (.int i t)) Q E s) :
    UnR X f (rU fun i => .int (g i)) := by
  intro pins s σ H x v Q I rx h
  obtain ⟨i, rfl, q⟩ := h
  obtain ⟨t, rfl⟩ := rx
  exact rule i t s _ _ ⟨.int (g i), H, I.tok _, ⟨_, rfl⟩, q⟩
theorem un_neg : UnR X (unaryOp .USub) (rU fun i => .int (-i)) := unI fun _ _ _ _ _ q => neg_int q
/-! ### bools among ints: n += (a < b) -/
end

/-! ### comparisons -/
/-- the scalars that == tells apart as data does -/
def scal : V → V → Bool
  | .non, .non => true | .non, .int _ => true | .int _, .non => true | .non, .bl _ => true | .bl _, .non => true | .non, .str _ => true | .str _, .non => true
  | .int _, .int _ => true | .bl _, .bl _ => true | .str _, .str _ => true | .byt _, .byt _ => true
  | .int _, .str _ => true | .str _, .int _ => true | .bl _, .str _ => true | .str _, .bl _ => true
  | _, _ => false
def rEq : R2 := fun x y H Q => scal x y = true ∧ Q (.bl (decide (x = y))) H
def rNe : R2 := fun x y H Q => scal x y = true ∧ Q (.bl (!decide (x = y))) H

theorem dec_int {i j : Int} : decide (V.int i = V.int j) = (i == j) := by
  rw [Bool.eq_iff_iff]
  simp
theorem dec_bl {i j : Bool} : decide (V.bl i = V.bl j) = (i == j) := by
  rw [Bool.eq_iff_iff]
  simp
theorem dec_str {i j : Str} : decide (V.str i = V.str j) = (i == j) := by
  rw [Bool.eq_iff_iff]
  simp
theorem dec_byt {i j : Array UInt8} : decide (V.byt i = V.byt j) = (i.toList == j.toList) := by
  rw [Bool.eq_iff_iff]
  cases i
  cases j
  simp

section
variable {X : Cx} {a b c : Expr} {ta tb tc : TE} {pos : Pos}
theorem fin_bl {pins : List (Addr × Obj)} {σ : St} {H : Hp} {s : Shared} {Q : VK} {k k' : Bool} (I : Inv X pins σ H s) (q : Q (.bl k) H) (e : k = k') : EP X pins σ Q (.bool k') s := by
  subst e
  exact ⟨.bl k, H, I, rfl, q⟩
theorem op_eq : OpR X (compareOp .Eq) rEq := by
  intro pins s σ H x y v u Q I rx ry h
  obtain ⟨hs, q⟩ := h
  cases x with
  | non =>
    cases rx
    cases y with
    | non => cases ry; exact PySem.EqNone.eq_none_none (fin_bl I q (by simp))
    | bl j => cases ry; exact PySem.EqNone.eq_none_bool (fin_bl I q (by simp))
    | int j => obtain ⟨t', rfl⟩ := ry; exact PySem.EqNone.eq_none_int (fin_bl I q (by simp))
    | str j => obtain ⟨t', rfl⟩ := ry; exact PySem.EqNone.eq_none_str (fin_bl I q (by simp))
    | _ => exact absurd (show false = true from hs) Bool.false_ne_true
  | bl i =>
    cases rx
    cases y with
    | non => cases ry; exact PySem.EqNone.eq_bool_none (fin_bl I q (by simp))
    | bl j => cases ry; exact eq_bool (fin_bl I q dec_bl)
    | str j => obtain ⟨t', rfl⟩ := ry; exact PySem.EqMixed.eq_bool_str (fin_bl I q (by simp))
    | _ => exact absurd (show false = true from hs) Bool.false_ne_true
  | int i =>
    obtain ⟨t, rfl⟩ := rx
    cases y with
    | non => cases ry; exact PySem.EqNone.eq_int_none (fin_bl I q (by simp))
    | int j => obtain ⟨t', rfl⟩ := ry; exact eq_int (fin_bl I q dec_int)
    | str j => obtain ⟨t', rfl⟩ := ry; exact PySem.EqMixed.eq_int_str (fin_bl I q (by simp))
    | _ => exact absurd (show false = true from hs) Bool.false_ne_true
  | str i =>
    obtain ⟨t, rfl⟩ := rx
    cases y with
    | non => cases ry; exact PySem.EqNone.eq_str_none (fin_bl I q (by simp))
    | bl j => cases ry; exact PySem.EqMixed.eq_str_bool (fin_bl I q (by simp))
    | int j => obtain ⟨t', rfl⟩ := ry; exact PySem.EqMixed.eq_str_int (fin_bl I q (by simp))
    | str j => obtain ⟨t', rfl⟩ := ry; exact eq_str (fin_bl I q dec_str)
    | _ => exact absurd (show false = true from hs) Bool.false_ne_true
  | byt i =>
    obtain ⟨t, rfl⟩ := rx
    cases y with
    | byt j => obtain ⟨t', rfl⟩ := ry; exact PySem.W.eq_bytes (fin_bl I q dec_byt)
    | _ => exact absurd (show false = true from hs) Bool.false_ne_true
  | _ => cases y <;> exact absurd (show false = true from hs) Bool.false_ne_true
theorem op_ne : OpR X (compareOp .NotEq) rNe := by
  intro pins s σ H x y v u Q I rx ry h
  obtain ⟨hs, q⟩ := h
  cases x with
  | non =>
    cases rx
    cases y with
    | non => cases ry; exact PySem.EqNone.ne_none_none (fin_bl I q (by simp))
    | bl j => cases ry; exact PySem.EqNone.ne_none_bool (fin_bl I q (by simp))
    | int j => obtain ⟨t', rfl⟩ := ry; exact PySem.EqNone.ne_none_int (fin_bl I q (by simp))
    | str j => obtain ⟨t', rfl⟩ := ry; exact PySem.EqNone.ne_none_str (fin_bl I q (by simp))
    | _ => exact absurd (show false = true from hs) Bool.false_ne_true
  | bl i =>
    cases rx
    cases y with
    | non => cases ry; exact PySem.EqNone.ne_bool_none (fin_bl I q (by simp))
    | bl j => cases ry; exact ne_bool (fin_bl I q (congrArg not dec_bl))
    | str j => obtain ⟨t', rfl⟩ := ry; exact PySem.EqMixed.ne_bool_str (fin_bl I q (by simp))
    | _ => exact absurd (show false = true from hs) Bool.false_ne_true
  | int i =>
    obtain ⟨t, rfl⟩ := rx
    cases y with
    | non => cases ry; exact PySem.EqNone.ne_int_none (fin_bl I q (by simp))
    | int j => obtain ⟨t', rfl⟩ := ry; exact ne_int (fin_bl I q (congrArg not dec_int))
    | str j => obtain ⟨t', rfl⟩ := ry; exact PySem.EqMixed.ne_int_str (fin_bl I q (by simp))
    | _ => exact absurd (show false = true from hs) Bool.false_ne_true
  | str i =>
    obtain ⟨t, rfl⟩ := rx
    cases y with
    | non => cases ry; exact PySem.EqNone.ne_str_none (fin_bl I q (by simp))
    | bl j => cases ry; exact PySem.EqMixed.ne_str_bool (fin_bl I q (by simp))
    | int j => obtain ⟨t', rfl⟩ := ry; exact PySem.EqMixed.ne_str_int (fin_bl I q (by simp))
    | str j => obtain ⟨t', rfl⟩ := ry; exact ne_str (fin_bl I q (congrArg not dec_str))
    | _ => exact absurd (show false = true from hs) Bool.false_ne_true
  | byt i =>
    obtain ⟨t, rfl⟩ := rx
    cases y with
    | byt j => obtain ⟨t', rfl⟩ := ry; exact PySem.W.ne_bytes (fin_bl I q (congrArg not dec_byt))
    | _ => exact absurd (show false = true from hs) Bool.false_ne_true
  | _ => cases y <;> exact absurd (show false = true from hs) Bool.false_ne_true

theorem op_lt : OpR X (compareOp .Lt) (rI0 fun i j => .bl (decide (i < j))) := opB0 fun _ _ _ _ _ _ _ q => lt_int q
theorem op_gt : OpR X (compareOp .Gt) (rI0 fun i j => .bl (decide (j < i))) := opB0 fun _ _ _ _ _ _ _ q => gt_int q
theorem op_ge : OpR X (compareOp .GtE) (rI0 fun i j => .bl (decide (j ≤ i))) := opB0 fun _ _ _ _ _ _ _ q => ge_int q
/-- is None, is not None: the right side a value none -/
theorem op_isN : OpR X (compareOp .Is) (fun x y H Q => y = .non ∧ Q (.bl (decide (x = .non))) H) := by
  intro pins s σ H x y v u Q I rx ry h
  obtain ⟨rfl, q⟩ := h
  cases ry
  refine is_none_gen (fin_bl I q ?_)
  cases x <;> first
    | (cases rx; rfl)
    | (obtain ⟨t, rfl⟩ := rx; rfl)
theorem nomark (b : Expr) {op : CmpOp} (h : op ≠ .In := by decide) (h2 : op ≠ .NotIn := by decide) : behindInMarks op b = false := by
  have e1 : (op == CmpOp.In) = false := by cases op <;> first | rfl | exact absurd rfl h
  have e2 : (op == CmpOp.NotIn) = false := by cases op <;> first | rfl | exact absurd rfl h2
  cases b <;> simp [behindInMarks, e1, e2]
/-- a comparison as a value; hm: nomark b, or (for in, not in) by with_unfolding_all rfl -/
theorem pe_cmpR {op : CmpOp} {r : R2} (ho : OpR X (compareOp op) r) (ha : PE X a ta) (hb : PE X b tb) (hm : behindInMarks op b = false) : PE X (.Compare a [op] [b] pos) (tOp r ta tb) := by
  intro pins s σ H Q I h
  exact wpAny_Compare1 (binT ha hb I h fun v u s2 x y H2 I2 rx ry q => ho pins s2 σ H2 x y v u Q I2 rx ry q) hm
/-- a reading of a value as a test -/
def tTest (t : TE) : TT := fun σ H Q => t σ H fun x H' => ∃ k, x = .bl k ∧ Q k H'
theorem pt_cmpR {op : CmpOp} {r : R2} (ho : OpR X (compareOp op) r) (ha : PE X a ta) (hb : PE X b tb) (hm : behindInMarks op b = false) : PT X (.Compare a [op] [b] pos) (tTest (tOp r ta tb)) := by
  intro pins s σ H Q I h
  refine wpAny_isTrue_Compare1 (thn (ha pins s σ H _ I h) fun v s1 ⟨x, H1, I1, r1, q1⟩ => thn (hb pins s1 σ H1 _ I1 q1) fun u s2 ⟨y, H2, I2, r2, q2⟩ =>
    thn (ho pins s2 σ H2 x y v u _ I2 r1 r2 q2) fun c s3 ⟨z, H3, I3, r3, k, e, q3⟩ => ?_) hm
  subst e
  cases r3
  exact wpAny_truthy_bool ⟨H3, I3, q3⟩
/-! ### truth -/
/-- a value's truth by the abstract heap -/
def TruV (K : PySem.W.Frag) (x : V) (H : Hp) (k : Bool) : Prop :=
  match x with
  | .non => k = false
  | .bl b => k = b
  | .int i => k = (i != 0)
  | .str y => y.length ≤ sizeLine ∧ k = ((y.length : Int) != 0)
  | .byt y => y.size ≤ sizeLine ∧ k = ((y.size : Int) != 0)
  | .ref p => (∃ xs, SqL K H p xs ∧ k = !xs.isEmpty) ∨ (∃ xs, SqT K H p xs ∧ k = !xs.isEmpty) ∨ ∃ kvs, H p = some (.dK kvs) ∧ k = !kvs.isEmpty
  | _ => False
theorem isEmpty_kv {κ : Type} {kvs : List (κ × V)} {vs : List (κ × Value)} (r : KV kvs vs) : (!vs.isEmpty) = !kvs.isEmpty := by
  cases r <;> rfl
theorem isEmpty_of {xs : List V} {its : List Value} (r : Vals xs its) : (!its.toArray.isEmpty) = !xs.isEmpty := by
  cases r <;> simp
theorem line63 : (sizeLine : Nat) < 2 ^ 63 := by rw [sizeLine_eq]; decide
theorem tru_ok : TruR X (fun x H Q => ∃ k, TruV X.K x H k ∧ Q k H) := by
  intro pins s σ H x v Q I rx h
  obtain ⟨k, e, q⟩ := h
  have hl := line63
  have hs : sizeLine = 16777216 := sizeLine_eq
  cases x with
  | non =>
    cases rx
    have e' : k = false := e
    subst e'
    exact truthy_none ⟨H, I, q⟩
  | bl b =>
    cases rx
    have e' : k = b := e
    subst e'
    exact wpAny_truthy_bool ⟨H, I, q⟩
  | int i =>
    obtain ⟨t, rfl⟩ := rx
    have e' : k = (i != 0) := e
    subst e'
    exact PySem.P.truthy_int ⟨H, I, q⟩
  | str y =>
    obtain ⟨t, rfl⟩ := rx
    obtain ⟨hy, e'⟩ : y.length ≤ sizeLine ∧ k = ((y.length : Int) != 0) := e
    subst e'
    exact PySem.P.truthy_str (by omega) ⟨H, I.tok _, q⟩
  | byt y =>
    obtain ⟨t, rfl⟩ := rx
    obtain ⟨hy, e'⟩ : y.size ≤ sizeLine ∧ k = ((y.size : Int) != 0) := e
    subst e'
    exact PySem.W.truthy_bytes (by omega) ⟨H, I.tok _, q⟩
  | ref p =>
    cases rx
    have e' : (∃ xs, SqL X.K H p xs ∧ k = !xs.isEmpty) ∨ (∃ xs, SqT X.K H p xs ∧ k = !xs.isEmpty) ∨ ∃ kvs, H p = some (.dK kvs) ∧ k = !kvs.isEmpty := e
    rcases e' with ⟨xs, hx, e'⟩ | ⟨xs, hx, e'⟩ | ⟨kvs, hx, e'⟩
    · subst e'
      obtain ⟨its, r, pl, hz⟩ := I.list hx
      have hlen := r.length
      exact wpAny_truthy_list pl.isList (by simp only [List.size_toArray]; omega) ⟨H, I.tok _, by rw [isEmpty_of r]; exact q⟩
    · subst e'
      obtain ⟨its, r, pl, hz⟩ := I.tuple hx
      have hlen := r.length
      exact truthy_tuple pl (by simp only [List.size_toArray]; omega) ⟨H, I.tok _, by rw [isEmpty_of r]; exact q⟩
    · subst e'
      obtain ⟨hz, hS, vs, r, m⟩ : kvs.length ≤ sizeLine ∧ (p == sysModules) = false ∧ ∃ vs, KV kvs vs ∧ s.heap.DictOf (mixKind X.prog X.w) p vs := I.hok p _ hx
      have hlen : kvs.length = vs.length := Paired.length r
      exact wpAny_truthy_dict hS m (by omega) ⟨H, I.tok _, by rw [isEmpty_kv r]; exact q⟩
  | _ => exact (show False from e).elim
/-! ### strs and bytes -/
/-! ### scalar builtins, by CallR -/
theorem vals1 {x : V} {us : List Value} (r : Vals [x] us) : ∃ u, us = [u] ∧ RelV x u := by
  cases r with
  | cons r1 r2 => cases r2; exact ⟨_, rfl, r1⟩
theorem vals2 {x y : V} {us : List Value} (r : Vals [x, y] us) : ∃ u w', us = [u, w'] ∧ RelV x u ∧ RelV y w' := by
  cases r with
  | cons r1 r2 =>
    cases r2 with
    | cons r3 r4 => cases r4; exact ⟨_, _, rfl, r1, r3⟩
theorem call_abs : CallR X (.builtin "abs") (fun xs H Q => ∃ i, xs = [.int i] ∧ Q (.int (if i < 0 then -i else i)) H) := by
  intro pins s σ H xs us Q I r h
  obtain ⟨i, rfl, q⟩ := h
  obtain ⟨u, rfl, t, rfl⟩ := vals1 r
  exact call_abs_int fun u tk => ⟨.int (if i < 0 then -i else i), H, I.tok _, ⟨_, rfl⟩, q⟩
theorem call_max2 (hc : X.calm = true) : CallR X (.builtin "max") (fun xs H Q => ∃ i j, xs = [.int i, .int j] ∧ Q (.int (if j > i then j else i)) H) := by
  intro pins s σ H xs us Q I r h
  obtain ⟨i, j, rfl, q⟩ := h
  obtain ⟨u, w', rfl, ⟨t, rfl⟩, ⟨t', rfl⟩⟩ := vals2 r
  refine max_two_ints (I.ok.hd hc) fun h' tk k => ⟨_, H, I.kept k, ?_, q⟩
  by_cases hj : j > i
  · rw [if_pos hj, if_pos hj]; exact ⟨_, rfl⟩
  · rw [if_neg hj, if_neg hj]; exact ⟨_, rfl⟩
/-- len of a str, a bytes, a list, a tuple -/
def LenV (K : PySem.W.Frag) (x : V) (H : Hp) (n : Nat) : Prop :=
  match x with
  | .str y => y.length ≤ sizeLine ∧ n = y.length
  | .byt y => y.size ≤ sizeLine ∧ n = y.size
  | .ref p => (∃ xs, SqL K H p xs ∧ n = xs.length) ∨ ∃ xs, SqT K H p xs ∧ n = xs.length
  | _ => False
theorem call_len : CallR X (.builtin "len") (fun xs H Q => ∃ x n, xs = [x] ∧ LenV X.K x H n ∧ Q (.int n) H) := by
  intro pins s σ H xs us Q I r h
  obtain ⟨x, n, rfl, e, q⟩ := h
  obtain ⟨u, rfl, rx⟩ := vals1 r
  have hl := line63
  have hs : sizeLine = 16777216 := sizeLine_eq
  cases x with
  | str y =>
    obtain ⟨t, rfl⟩ := rx
    obtain ⟨hy, e'⟩ : y.length ≤ sizeLine ∧ n = y.length := e
    subst e'
    exact len_str (by omega) ⟨.int _, H, I.tok _, ⟨_, rfl⟩, q⟩
  | byt y =>
    obtain ⟨t, rfl⟩ := rx
    obtain ⟨hy, e'⟩ : y.size ≤ sizeLine ∧ n = y.size := e
    subst e'
    exact PySem.W.len_bytes (by omega) ⟨.int _, H, I.tok _, ⟨_, rfl⟩, q⟩
  | ref p =>
    cases rx
    have e' : (∃ xs, SqL X.K H p xs ∧ n = xs.length) ∨ ∃ xs, SqT X.K H p xs ∧ n = xs.length := e
    rcases e' with ⟨xs, hx, e'⟩ | ⟨xs, hx, e'⟩
    · subst e'
      obtain ⟨its, r', pl, hz⟩ := I.list hx
      have hlen := r'.length
      exact Calls.call_len_list pl.isList (by simp only [List.size_toArray]; omega) ⟨.int xs.length, H, I.tok _, ⟨_, by simp only [List.size_toArray]; rw [hlen]⟩, q⟩
    · subst e'
      obtain ⟨its, r', pl, hz⟩ := I.tuple hx
      have hlen := r'.length
      exact len_tuple pl (by simp only [List.size_toArray]; omega) ⟨.int xs.length, H, I.tok _, ⟨_, by simp only [List.size_toArray]; rw [hlen]⟩, q⟩
  | _ => exact (show False from e).elim
end
end L2

namespace L2
open PySem PySem.Spec PyProof.Rows

/-! ### an instance, its attributes a map -/
structure ObjM (h : Heap) (x dx C : Addr) (mA : Str → Option Value) : Prop where
  obj : h.get? x = some (PySem.W.instObj C dx)
  ns : h.Ns1 dx mA
  ne : dx ≠ x

theorem lookIn_ns {h : Heap} {dx : Addr} {mA : Str → Option Value} (n : h.Ns1 dx mA) : ∃ od, h.get? dx = some od ∧ ∀ name, PySem.W.lookIn name od = some (mA name) := by
  obtain ⟨o, es, ep, ho, hd, hk, _, hm⟩ := n
  refine ⟨o, ho, fun name => ?_⟩
  have e := hm name
  unfold nsFind findBy at e
  rw [← Array.find?_toList] at e
  unfold PySem.W.lookIn
  rw [hd]
  dsimp only
  split
  · rename_i y q
    rw [q] at e
    exact congrArg some e
  · rename_i q
    rw [q] at e
    have a : es.toList.any (·.refKey) = false := by
      rw [List.any_eq_false]
      intro y hy
      obtain ⟨z, t, hkey⟩ := hk y (Array.mem_toList_iff.mp hy)
      simp [DictEntry.refKey, hkey]
    have a' : ¬ es.toList.any (·.refKey) = true := by rw [a]; exact Bool.false_ne_true
    rw [if_neg a']
    exact congrArg some e

theorem ObjM.look {h : Heap} {x dx C : Addr} {mA : Str → Option Value} (I : ObjM h x dx C mA) : ∃ od, PySem.W.InstAt h x (PySem.W.instObj C dx) C (some od) ∧ ∀ name, PySem.W.lookIn name od = some (mA name) :=
  let ⟨od, ho, hl⟩ := lookIn_ns I.ns
  ⟨od, ⟨I.obj, rfl, rfl, ho⟩, hl⟩

section
variable {prog : Program} {w : World} {A : Around} {E : Value → Shared → Prop} {s : Shared} {K : PySem.W.Frag} {x dx C f : Addr} {mA : Str → Option Value} {name : Str} {v : Value}

theorem get_map {expr : Bool} {Q : Value → Shared → Prop} (X : K.In s.heap) (I : ObjM s.heap x dx C mA) (hg : PySem.W.plainGet K C name = true) (hh : PySem.W.hasDictIn K C = true)
    (ha : PySem.W.findIn K (.ref C) name = some none) (hv : mA name = some v) (hv' : PySem.W.handedIn v = true) (h : Q v { s with toks := s.toks + 1 }) :
    wpAny (model prog w) A (getAttr (.ref x) name expr) Q E s := by
  obtain ⟨od, J, hl⟩ := I.look
  exact PySem.W.get_value X J (PySem.W.plainGet_of hg).1 (PySem.W.findObj_own hh ha rfl (by rw [hl, hv])) hv' h

theorem get_meth {pl : Sem Bool} {Q : Value × List Value → Shared → Prop} (X : K.In s.heap) (I : ObjM s.heap x dx C mA) (hg : PySem.W.plainGet K C name = true)
    (hf : PySem.W.findIn K (.ref C) name = some (some (.ref f))) (ht : PySem.W.isFn K (.ref f) = true) (hv : mA name = none) (h : Q (.ref f, [.ref x]) s) :
    wpAny (model prog w) A (getMethod (.ref x) name pl) Q E s := by
  obtain ⟨od, J, hl⟩ := I.look
  exact PySem.W.method_fn X J (PySem.W.plainGet_of hg).1 (PySem.W.plainGet_of hg).2 hf (beq_iff_eq.mp ht) (by show (PySem.W.lookIn name od).map (·.isSome) = some false; rw [hl, hv]; rfl) h

theorem set_map {ns : List Str} {Q : Unit → Shared → Prop} (X : K.In s.heap) (I : ObjM s.heap x dx C mA)
    (hs : PySem.W.findIn K (.ref C) "__setattr__" = some (some (.builtin "object.__setattr__"))) (hp : PySem.W.plainOver K C = true) (ht : PySem.W.takerIn K C name = some none) (hh : PySem.W.hasDictIn K C = true)
    (hw : PySem.Within mA ns) (hsz : ns.length ≤ sizeLine)
    (h : ∀ h', ObjM h' x dx C (fun y => if y = name then some v else mA y) → Heap.SameBut dx s.heap h' → Q () { s with heap := h', toks := s.toks + 2 }) :
    wpAny (model prog w) A (setAttr (.ref x) name v) Q E s := by
  obtain ⟨od, J, hl⟩ := I.look
  refine PySem.W.set_plain X J hs (PySem.W.osa_open (s := { s with toks := s.toks + 1 }) (r := none) X J hp ht fun b => ?_)
  obtain ⟨cd, hc, hd'⟩ := PySem.W.any_some hh
  have hx : s.heap.get? x = some ⟨.ref C, some dx, .plain, #[]⟩ := I.obj
  refine wpAny_bind (wpAny_pure (wpAny_bind (wpAny_bind (wpAny_loadPart hx (wpAny_bind (PySem.W.Looks.here (s := { s with toks := s.toks + 1 }) (PySem.W.looks_clsIn X hc) ?_))))))
  rw [hd']
  refine wpAny_pure (a := some dx) (wpAny_bind (wpAny_pure (wpAny_bind ?_)))
  refine wpAny_nsSet1 (s := { s with toks := s.toks + 1 }) I.ns fun h' hn2 hs2 => ?_
  obtain ⟨oD, esD, epD, hoD, hdD, hcD⟩ := hn2.count (PySem.Within.cons name v hw)
  refine wpAny_bind (wpAny_lookBehind hoD (by rw [hdD]; exact pastItsLine_dict (Nat.le_trans hcD (by rw [List.length_cons]; omega))) ?_)
  exact wpAny_pure (h _ ⟨(hs2.2 _ (Ne.symm I.ne)).trans I.obj, hn2, I.ne⟩ hs2)

/-- C(..): the dict at the heap's end, the instance behind it; then its __init__ -/
theorem make_map {R : Result → Shared → Prop} {vs : List Value} {kw : List (Str × Value)} (X : K.In s.heap) (hm : PySem.W.makesIn K C = true)
    (hi : PySem.W.findIn K (.ref C) "__init__" = some (some (.ref f))) (hf : PySem.W.typeIn K (.ref f) = some (.type "function"))
    (h : codeAny (model prog w) (A.under (.builtin "type.__call__" ⟨.ref C :: vs, kw⟩)) (.call (.ref f) ⟨.ref (s.heap.objs.size + 1) :: vs, kw⟩) (PySem.W.InitBack (s.heap.objs.size + 1) R)
      { s with heap := (s.heap.push PySem.W.emptyDict).push (PySem.W.instObj C s.heap.objs.size) }) :
    codeAny (model prog w) A (.call (.ref C) ⟨vs, kw⟩) R s := by
  obtain ⟨hh, g, d, t, os⟩ := s
  exact PySem.W.make_core (PySem.W.makes_of X hm) (PySem.W.looks_findIn X hi) (fun self => PySem.W.bind_fn X self hf) (.inl rfl) h
end

/-! ### the attributes as a list of pairs -/
def putF (f : Str) (v : V) : List (Str × V) → List (Str × V)
  | [] => [(f, v)]
  | (g, x) :: r => if g = f then (g, v) :: r else (g, x) :: putF f v r
theorem lookup_putF (f g : Str) (v : V) : ∀ fs : List (Str × V), (putF f v fs).lookup g = if g = f then some v else fs.lookup g
  | [] => by
    show List.lookup g [(f, v)] = _
    by_cases h : g = f
    · have hb : (g == f) = true := beq_iff_eq.mpr h
      simp only [List.lookup, hb, if_pos h]
    · have hb : (g == f) = false := beq_eq_false_iff_ne.mpr h
      simp only [List.lookup, hb, if_neg h]
  | (k, x) :: r => by
    have ih := lookup_putF f g v r
    rw [show putF f v ((k, x) :: r) = (if k = f then (k, v) :: r else (k, x) :: putF f v r) from rfl]
    by_cases hk : k = f
    · rw [if_pos hk]
      by_cases h : g = k
      · have hb : (g == k) = true := beq_iff_eq.mpr h
        simp only [List.lookup, hb, if_pos (h.trans hk)]
      · have hb : (g == k) = false := beq_eq_false_iff_ne.mpr h
        simp only [List.lookup, hb, if_neg (fun e : g = f => h (e.trans hk.symm))]
    · rw [if_neg hk]
      by_cases h : g = k
      · have hb : (g == k) = true := beq_iff_eq.mpr h
        simp only [List.lookup, hb, if_neg (fun e : g = f => hk (h.symm.trans e))]
      · have hb : (g == k) = false := beq_eq_false_iff_ne.mpr h
        simp only [List.lookup, hb]
        exact ih
theorem keys_putF (f : Str) (v : V) : ∀ fs : List (Str × V), f ∈ (putF f v fs).map (·.1) ∧ ∀ g, g ∈ fs.map (·.1) → g ∈ (putF f v fs).map (·.1)
  | [] => ⟨by simp [putF], fun g h => by simp at h⟩
  | (k, x) :: r => by
    obtain ⟨i1, i2⟩ := keys_putF f v r
    rw [show putF f v ((k, x) :: r) = (if k = f then (k, v) :: r else (k, x) :: putF f v r) from rfl]
    by_cases hk : k = f
    · rw [if_pos hk]
      subst hk
      exact ⟨by simp, fun g h => by simpa using h⟩
    · rw [if_neg hk]
      refine ⟨?_, fun g h => ?_⟩
      · rw [List.map_cons]
        exact List.mem_cons_of_mem _ i1
      · rw [List.map_cons] at h ⊢
        rcases List.mem_cons.mp h with e | e
        · exact List.mem_cons.mpr (.inl e)
        · exact List.mem_cons_of_mem _ (i2 g e)
theorem length_putF (f : Str) (v : V) : ∀ fs : List (Str × V), (putF f v fs).length ≤ fs.length + 1
  | [] => by simp [putF]
  | (k, x) :: r => by
    have ih := length_putF f v r
    rw [show putF f v ((k, x) :: r) = (if k = f then (k, v) :: r else (k, x) :: putF f v r) from rfl]
    by_cases hk : k = f
    · rw [if_pos hk, List.length_cons, List.length_cons]; omega
    · rw [if_neg hk, List.length_cons, List.length_cons]; omega

theorem RelO.some_of {v : V} {o : Option Value} (r : RelO (some v) o) : ∃ u, o = some u ∧ RelV v u := by
  cases o with
  | none => exact (show False from r).elim
  | some u => exact ⟨u, rfl, r⟩
theorem RelO.none_of {o : Option Value} (r : RelO none o) : o = none := by
  cases o with
  | none => rfl
  | some u => exact (show False from r).elim
theorem handed_of {v : V} {u : Value} (r : RelV v u) : PySem.W.handedIn u = true := by
  cases v with
  | non => cases (show u = Value.none from r); rfl
  | bl b => cases (show u = Value.bool b from r); rfl
  | int i => obtain ⟨t, e⟩ := (show ∃ t, u = Value.int i t from r); cases e; rfl
  | str x => obtain ⟨t, e⟩ := (show ∃ t, u = Value.str x t from r); cases e; rfl
  | byt b => obtain ⟨t, e⟩ := (show ∃ t, u = Value.bytes b t from r); cases e; rfl
  | flt b => obtain ⟨t, e⟩ := (show ∃ t, u = Value.float b t from r); cases e; rfl
  | ref a => cases (show u = Value.ref a from r); rfl
  | ty n => cases (show u = Value.type n from r); rfl

section
variable {P : Program} {w : World} {H H' : Hp} {h h' : Heap} {a C dx : Addr} {fs fs' : List (Str × V)}
theorem ins_get (hok : HOk P w H h) (e : H a = some (.ins C dx fs)) : ∃ mA, ObjM h a dx C mA ∧ (∀ f, RelO (fs.lookup f) (mA f)) ∧ PySem.Within mA (fs.map (·.1)) ∧ fs.length ≤ 1000 ∧ H dx = some (.own a) := by
  obtain ⟨d, z, ne, ob, mA, n, r, q⟩ := (show ObjOk P w H h a (.ins C dx fs) from hok a _ e)
  exact ⟨mA, ⟨ob, n, ne⟩, r, q, z, d⟩
end

/-! ### what of the text a class must have -/
structure Cls (K : PySem.W.Frag) (C : Addr) : Prop where
  pg : PySem.W.plainGet K C Str.empty = true
  hd : PySem.W.hasDictIn K C = true
  po : PySem.W.plainOver K C = true
  sa : PySem.W.findIn K (.ref C) "__setattr__" = some (some (.builtin "object.__setattr__"))
theorem Cls.get {K : PySem.W.Frag} {C : Addr} (c : Cls K C) (f : Str) : PySem.W.plainGet K C f = true := c.pg
/-- no class of it has the name -/
def NoAttr (K : PySem.W.Frag) (C : Addr) (f : Str) : Prop := PySem.W.findIn K (.ref C) f = some none
theorem NoAttr.taker {K : PySem.W.Frag} {C : Addr} {f : Str} (n : NoAttr K C f) : PySem.W.takerIn K C f = some none := by
  unfold PySem.W.takerIn
  rw [show PySem.W.findIn K (.ref C) f = some none from n]
  rfl
/-- a constant of the class -/
structure Con (K : PySem.W.Frag) (C : Addr) (f : Str) (v : V) (u : Value) : Prop where
  at_ : PySem.W.findIn K (.ref C) f = some (some u)
  rel : RelV v u
  get : PySem.W.specialIn K u "__get__" = some none
  cp : PySem.W.copiedNames.contains f = false
/-- a method: a plain def of the class or of one above it -/
structure Meth (K : PySem.W.Frag) (C : Addr) (m : Str) (f : Addr) : Prop where
  at_ : PySem.W.findIn K (.ref C) m = some (some (.ref f))
  fn : PySem.W.isFn K (.ref f) = true
  kp : PySem.W.keepIn K (.ref f) = true

section
variable {X : Cx} {pins : List (Addr × Obj)} {σ : St} {H : Hp} {s : Shared} {a C dx : Addr} {fs : List (Str × V)} {f : Str} {v : V} {A : Around} {E : Value → Shared → Prop}

theorem getattr_ok {b : Bool} {Q : Value → Shared → Prop} (I : Inv X pins σ H s) (e : H a = some (.ins C dx fs)) (c : Cls X.K C) (n : NoAttr X.K C f) (l : fs.lookup f = some v)
    (h : ∀ u s', Inv X pins σ H s' → RelV v u → Q u s') : wpAny (model X.prog X.w) A (getAttr (.ref a) f b) Q E s := by
  obtain ⟨mA, O, r, _, _, _⟩ := ins_get I.hok e
  obtain ⟨u, hu, ru⟩ := RelO.some_of (v := v) (o := mA f) (by rw [← l]; exact r f)
  exact get_map I.kIn O (c.get f) c.hd n hu (handed_of ru) (h u _ (I.tok _) ru)

theorem getmeth_ok {m : Str} {g : Addr} {pl : Sem Bool} {Q : Value × List Value → Shared → Prop} (I : Inv X pins σ H s) (e : H a = some (.ins C dx fs)) (c : Cls X.K C) (k : Meth X.K C m g) (l : fs.lookup m = none)
    (h : Q (.ref g, [.ref a]) s) : wpAny (model X.prog X.w) A (getMethod (.ref a) m pl) Q E s := by
  obtain ⟨mA, O, r, _, _, _⟩ := ins_get I.hok e
  have hn : mA m = none := RelO.none_of (by rw [← l]; exact r m)
  exact get_meth I.kIn O (c.get m) k.at_ k.fn hn h

theorem setattr_ok {y : V} {u : Value} {Q : Unit → Shared → Prop} (I : Inv X pins σ H s) (e : H a = some (.ins C dx fs)) (c : Cls X.K C) (n : NoAttr X.K C f) (hl : fs.length < 1000) (ry : RelV y u)
    (h : ∀ s', Inv X pins σ (upd H a (.ins C dx (putF f y fs))) s' → Q () s') : wpAny (model X.prog X.w) A (setAttr (.ref a) f u) Q E s := by
  obtain ⟨mA, O, r, wi, _, ho⟩ := ins_get I.hok e
  have hz : (fs.map (·.1)).length ≤ sizeLine := by rw [List.length_map, sizeLine_eq]; omega
  refine set_map I.kIn O c.sa c.po n.taker c.hd wi hz fun h' O' sb => h _ ?_
  have hd : ∃ o, h'.get? dx = some o := let ⟨o, _, _, e', _⟩ := O'.ns; ⟨o, e'⟩
  refine I.write (x := a) (e := dx) (by rw [e]; exact True.intro) (.inr ho) (fun b q hb z => (sb.2 b hb).trans z) hd ?_
  refine ⟨by rw [upd_ne O.ne]; exact ho, ?_, O.ne, O'.obj, _, O'.ns, fun g => ?_, fun g hg => ?_⟩
  · have := length_putF f y fs; omega
  · show RelO ((putF f y fs).lookup g) (if g = f then some u else mA g)
    rw [lookup_putF]
    by_cases q : g = f
    · rw [if_pos q, if_pos q]; exact ry
    · rw [if_neg q, if_neg q]; exact r g
  · by_cases q : g = f
    · rw [q]; exact (keys_putF f y fs).1
    · refine (keys_putF f y fs).2 g (wi g fun z => hg ?_)
      show (if g = f then some u else mA g) = none
      rw [if_neg q]; exact z

/-- a new instance, tracked, without attributes -/
theorem Inv.made (I : Inv X pins σ H s) : Inv X pins σ (upd (upd H s.heap.objs.size (.own (s.heap.objs.size + 1))) (s.heap.objs.size + 1) (.ins C s.heap.objs.size []))
    { s with heap := (s.heap.push PySem.W.emptyDict).push (PySem.W.instObj C s.heap.objs.size) } := by
  have e1 : (s.heap.push PySem.W.emptyDict).get? s.heap.objs.size = some PySem.W.emptyDict := Heap.get?_push_size s.heap rfl
  have e2 : ((s.heap.push PySem.W.emptyDict).push (PySem.W.instObj C s.heap.objs.size)).get? (s.heap.objs.size + 1) = some (PySem.W.instObj C s.heap.objs.size) := by
    have := Heap.get?_push_size (s.heap.push PySem.W.emptyDict) (o := PySem.W.instObj C s.heap.objs.size) rfl
    rwa [Heap.size_push] at this
  have e3 : (s.heap.push PySem.W.emptyDict).Ns s.heap.objs.size (fun _ => none) := ⟨PySem.W.emptyDict, #[], _, e1, rfl, (fun e he => absurd he (by simp)), fun _ => rfl⟩
  have I1 := I.laid (a := s.heap.objs.size) (o := .own (s.heap.objs.size + 1)) (h' := s.heap.push PySem.W.emptyDict) (t' := s.toks) (fun b u q => Heap.get?_push_of_some _ q) (Nat.le_refl _) ⟨_, e1⟩
  refine I1.laid (a := s.heap.objs.size + 1) (o := .ins C s.heap.objs.size []) (t' := s.toks) (fun b u q => Heap.get?_push_of_some _ q) (Nat.le_of_eq (Heap.size_push _ _)) ?_
  have ne : s.heap.objs.size ≠ s.heap.objs.size + 1 := Nat.ne_of_lt (Nat.lt_succ_self _)
  refine ⟨by rw [upd_ne ne, upd_same], Nat.zero_le _, ne, e2, fun _ => none, (Heap.Ns1.of_empty e3).at fun o q => Heap.get?_push_of_some _ q, fun _ => True.intro, fun y hy => absurd rfl hy⟩

/-- e.f where nothing but the object is asked: through attributeBase (super) and the last hold -/
theorem attr_of {prog : Program} {w : World} {env : Env} {e : Expr} {f : Str} {pos : Pos} {s : Shared} {Q : Value → Shared → Prop} (hb : attributeBase e f env (eval e env) = eval e env)
    (h : wpAny (model prog w) A (eval e env) (fun o s₁ => wpAny (model prog w) A (getAttr o f true) Q E s₁) E s) : wpAny (model prog w) A (eval (.Attribute e f pos) env) Q E s :=
  Attribute_any_ h (by rw [arm_eval_Attribute, hb])
end

/-! ### readings and rules -/
/-- e.f, an attribute of the instance -/
def tFld (K : PySem.W.Frag) (ta : TE) (f : Str) : TE := fun σ H Q => ta σ H fun x H1 => ∃ a C dx fs v, x = .ref a ∧ H1 a = some (.ins C dx fs) ∧ Cls K C ∧ NoAttr K C f ∧ fs.lookup f = some v ∧ Q v H1
/-- e.f = value -/
def sFld (K : PySem.W.Frag) (ta tv : TE) (f : Str) : TS := fun D σ H => tv σ H fun y H1 => ta σ H1 fun x H2 => ∃ a C dx fs, x = .ref a ∧ H2 a = some (.ins C dx fs) ∧ Cls K C ∧ NoAttr K C f ∧ fs.length < 1000 ∧
  D.nx σ (upd H2 a (.ins C dx (putF f y fs)))
section
variable {X : Cx} {o e value : Expr} {f : Str} {pos pos' tpos : Pos} {ta tv : TE}
theorem pe_fld (he : PE X e ta) (hb : attributeBase e f X.env (eval e X.env) = eval e X.env) : PE X (.Attribute e f pos) (tFld X.K ta f) := by
  intro pins s σ H Q I h
  refine attr_of hb (thn (he pins s σ H _ I h) fun u s1 ⟨x, H1, I1, rx, a, C, dx, fs, v, ex, ea, c, n, l, q⟩ => ?_)
  subst ex
  obtain rfl : u = Value.ref a := rx
  exact getattr_ok I1 ea c n l fun u' s2 I2 ru => ⟨v, H1, I2, ru, q⟩
theorem ps_fld (ha : PE X o ta) (hv : PE X value tv) (hs : swapsWith value (some (.Attribute o f pos')) pos.line X.env = pure false) : PS X (.Assign [.Attribute o f pos'] value pos) (sFld X.K ta tv f) := by
  intro pins s σ H D I h
  refine plainObj_wpAny_Assign_Attribute (thn (hv pins s σ H _ I h) fun u s1 ⟨y, H1, I1, ry, q⟩ => thn (ha pins s1 σ H1 _ I1 q) fun ov s2 ⟨x, H2, I2, rx, a, C, dx, fs, ex, ea, c, n, l, q2⟩ => ?_) hs
  subst ex
  obtain rfl : ov = Value.ref a := rx
  exact setattr_ok I2 ea c n l ry fun s3 I3 => ⟨σ, _, I3, q2⟩
/-- what is between an instance and its method: the tree of a method call -/
theorem methcall_of {pl : Sem Bool} {m : Str} {apos : Pos} {args : List Expr} {pins : List (Addr × Obj)} {s : Shared} {σ : St} {H : Hp} {Q : Value → Shared → Prop} {te : TE} (he : PE X e te) (I : Inv X pins σ H s)
    (h : te σ H fun x H1 => ∃ a C dx fs g, x = .ref a ∧ H1 a = some (.ins C dx fs) ∧ Cls X.K C ∧ Meth X.K C m g ∧ fs.lookup m = none ∧
      ∀ s1, Inv X pins σ H1 s1 → wpAny (model X.prog X.w) X.A (callWith pos (.ref g) [.ref a] (backTo pos (starEach args X.env)) (backToKw pos (keywordEach [] X.env))) Q X.xe s1)
    (ht : eval (.Call (.Attribute e m apos) args [] pos) X.env = (do
      let ov ← eval e X.env
      standAt apos.atName
      let (f, first) ← holding [ov] (getMethod ov m pl)
      callWith pos f first (backTo pos (starEach args X.env)) (backToKw pos (keywordEach [] X.env)))) :
    wpAny (model X.prog X.w) X.A (eval (.Call (.Attribute e m apos) args [] pos) X.env) Q X.xe s := by
  refine PySem.W.methodCall_KW (pl := pl) (thn (he pins s σ H _ I h) fun u s1 ⟨x, H1, I1, rx, a, C, dx, fs, g, ex, ea, c, k, l, q⟩ => ?_) ht
  subst ex
  obtain rfl : u = Value.ref a := rx
  exact getmeth_ok I1 ea c k l (q s1 I1)
end

/-! ### isinstance -/
section
variable {X : Cx} {pins : List (Addr × Obj)} {σ : St} {H : Hp} {s : Shared} {A : Around} {E : Value → Shared → Prop} {Q : Value → Shared → Prop} {c : Value} {b : Bool}
/-- the type of a value, as the fragment's deciders take it; for an instance its class -/
inductive TyOf (K : PySem.W.Frag) (H : Hp) : V → Value → Prop where
  | non : TyOf K H .non (.type "NoneType")
  | bl (x : Bool) : TyOf K H (.bl x) (.type "bool")
  | int (i : Int) : TyOf K H (.int i) (.type "int")
  | str (x : Str) : TyOf K H (.str x) (.type "str")
  | flt (x : UInt64) : TyOf K H (.flt x) (.type "float")
  | lst {a : Addr} {xs : List V} (e : H a = some (.lst xs)) : TyOf K H (.ref a) (.type "list")
  | frz {a : Addr} {o : Obj} {xs : List V} (e : H a = some (.frz o (.lst xs))) : TyOf K H (.ref a) (.type "list")
  | tup {a : Addr} {xs : List V} (e : H a = some (.tup xs)) : TyOf K H (.ref a) (.type "tuple")
  | dK {a : Addr} {kvs : List (Key × V)} (e : H a = some (.dK kvs)) : TyOf K H (.ref a) (.type "dict")
  | dT {a : Addr} {kvs : List (List Key × V)} (e : H a = some (.dT kvs)) : TyOf K H (.ref a) (.type "dict")
  | ins {a C dx : Addr} {fs : List (Str × V)} (e : H a = some (.ins C dx fs)) (cl : Cls K C) (ha : PySem.W.findIn K (.ref C) "__class__" = some (some (.builtin "object.__class__")))
      (hn : PySem.W.specialIn K (.builtin "object.__class__") "__get__" = some (some (.builtin "getset_descriptor.__get__"))) (htk : PySem.W.takesIn K (.builtin "object.__class__") = some true)
      (hm : PySem.W.mroIn K C (.type "object") = some true) : TyOf K H (.ref a) (.ref C)
/-- isinstance(x, c) for one class c, a built-in or an own one: kitOne's answer -/
theorem isinst_ok {x : V} {u t : Value} (I : Inv X pins σ H s) (rx : RelV x u) (ty : TyOf X.K H x t) (e : PySem.W.kitOne X.K t c = some b) (h : ∀ tk, Q (.bool b) { s with toks := tk }) :
    wpAny (model X.prog X.w) A (call (.builtin "isinstance") [u, c]) Q E s := by
  cases ty with
  | non => cases (show u = Value.none from rx); exact PySem.W.kia_one PySem.W.kitx_none I.kIn True.intro e (fun z => nomatch z) h
  | bl y => cases (show u = Value.bool y from rx); exact PySem.W.kia_one PySem.W.kitx_bool I.kIn True.intro e (fun z => nomatch z) h
  | int i => obtain ⟨t, q⟩ := (show ∃ t, u = Value.int i t from rx); cases q; exact PySem.W.kia_one PySem.W.kitx_int I.kIn True.intro e (fun z => nomatch z) h
  | str y => obtain ⟨t, q⟩ := (show ∃ t, u = Value.str y t from rx); cases q; exact PySem.W.kia_one PySem.W.kitx_str I.kIn True.intro e (fun z => nomatch z) h
  | flt y => obtain ⟨t, q⟩ := (show ∃ t, u = Value.float y t from rx); cases q; exact PySem.W.kia_one PySem.W.kitx_float I.kIn True.intro e (fun z => nomatch z) h
  | @lst a xs ea =>
    cases (show u = Value.ref a from rx)
    obtain ⟨_, _, n, _, h1⟩ := (show ObjOk X.prog X.w H s.heap a (.lst xs) from I.hok a _ ea)
    exact PySem.W.kia_one PySem.W.kitx_list I.kIn ⟨_, h1, rfl⟩ e (fun z => nomatch z) h
  | @frz a ob xs ea =>
    cases (show u = Value.ref a from rx)
    obtain ⟨_, _, _, n, _, h1⟩ := (show ObjOk X.prog X.w H s.heap a (.frz ob (.lst xs)) from I.hok a _ ea)
    exact PySem.W.kia_one PySem.W.kitx_list I.kIn ⟨_, h1, rfl⟩ e (fun z => nomatch z) h
  | @tup a xs ea =>
    cases (show u = Value.ref a from rx)
    obtain ⟨_, _, _, p⟩ := (show ObjOk X.prog X.w H s.heap a (.tup xs) from I.hok a _ ea)
    obtain ⟨o, h1, h2, _⟩ := p
    exact PySem.W.kia_one PySem.W.kitx_tuple I.kIn ⟨o, h1, h2⟩ e (fun z => nomatch z) h
  | @dK a kvs ea =>
    cases (show u = Value.ref a from rx)
    obtain ⟨_, _, vs, _, p⟩ := (show ObjOk X.prog X.w H s.heap a (.dK kvs) from I.hok a _ ea)
    obtain ⟨o, es, ep, h1, h2, _⟩ := p
    exact PySem.W.kia_one PySem.W.kitx_dict I.kIn ⟨o, h1, h2.1⟩ e (fun z => nomatch z) h
  | @dT a kvs ea =>
    cases (show u = Value.ref a from rx)
    obtain ⟨_, _, xs, _, o, es, ep, h1, h2, _⟩ := (show ObjOk X.prog X.w H s.heap a (.dT kvs) from I.hok a _ ea)
    exact PySem.W.kia_one PySem.W.kitx_dict I.kIn ⟨o, h1, h2.1⟩ e (fun z => nomatch z) h
  | @ins a C dx fs ea cl ha hn htk hm =>
    cases (show u = Value.ref a from rx)
    obtain ⟨mA, O, _⟩ := ins_get I.hok ea
    obtain ⟨od, J, _⟩ := O.look
    exact PySem.W.kia_one (PySem.W.kitx_own (cl.get _) cl.hd ha hn htk hm) I.kIn J e (fun z => nomatch z) h
end
end L2

namespace L2
open PySem PySem.Spec PyProof.Rows

/-! ### room -/
structure Room (k : Nat) (A : Around) : Prop where
  hd : A.handled = none
  dp : A.depth + 3 * k + 5 < recursionLimit
  un : A.units + 16 * k + 200 < cLine
theorem Room.mono {j k : Nat} {A : Around} (r : Room k A) (h : j ≤ k) : Room j A := ⟨r.hd, by have := r.dp; omega, by have := r.un; omega⟩
theorem Room.deeper {k : Nat} {A : Around} (r : Room (k + 1) A) (env : Env) : Room k (A.deeper env) :=
  ⟨r.hd, by have := r.dp; show A.depth + 1 + 3 * k + 5 < _; omega, by have := r.un; show A.units + 3 + 16 * k + 200 < _; omega⟩
theorem make_depth {A : Around} {C : Addr} {us : List Value} {kw : List (Str × Value)} : (A.under (.builtin "type.__call__" ⟨.ref C :: us, kw⟩)).depth = A.depth + 1 := by
  first | rfl | simp [Around.under, Code.weight, Code.isCreation, Code.isGuard, Code.isCaller, Code.frames, Code.isFrame, guardIds]
theorem make_units {A : Around} {C : Addr} {us : List Value} {kw : List (Str × Value)} : (A.under (.builtin "type.__call__" ⟨.ref C :: us, kw⟩)).units = A.units + 1 := by
  first | rfl | simp [Around.under, Code.cUnits, Code.frames, Code.isFrame]
theorem Room.make {k : Nat} {A : Around} (r : Room (k + 1) A) (C : Addr) (us : List Value) (kw : List (Str × Value)) : Room k (A.under (.builtin "type.__call__" ⟨.ref C :: us, kw⟩)) :=
  ⟨r.hd, by have := r.dp; rw [make_depth]; omega, by have := r.un; rw [make_units]; omega⟩
theorem Room.depth {k : Nat} {A : Around} (r : Room k A) : A.depth < recursionLimit := by have := r.dp; omega
theorem Room.units {k : Nat} {A : Around} (r : Room k A) : A.units + 64 < cLine := by have := r.un; omega
/-! ### argument lists and displays -/
def tNil : TA := fun _ H Q => Q [] H
def tCons (ta : TE) (tr : TA) : TA := fun σ H Q => ta σ H fun x H1 => tr σ H1 fun xs H2 => Q (x :: xs) H2
section
variable {X : Cx} {e : Expr} {es : List Expr} {te : TE} {t : TA} {pos : Pos}
theorem pa_nil : PA X [] tNil := fun _ _ _ _ H Q I h => Calls.spliced_nil ⟨[], H, I, .nil, h⟩
theorem pa_cons (ha : PE X e te) (hr : PA X es t) (hs : starEach (e :: es) X.env = (false, eval e X.env) :: starEach es X.env := by rfl) : PA X (e :: es) (tCons te t) := by
  intro pos pins s σ H Q I h
  rw [hs]
  show wpAny _ _ (spliced ((false, eval e X.env) :: backTo pos (starEach es X.env))) _ _ s
  refine Calls.spliced_cons (thn (ha pins s σ H _ I h) fun u s1 ⟨x, H1, I1, r1, q1⟩ => ?_)
  exact thn (hr pos pins s1 σ H1 _ I1 q1) fun us s2 ⟨xs, H2, I2, r2, q2⟩ => ⟨x :: xs, H2, I2, .cons r1 r2, q2⟩

/-- a tuple, a list of written items -/
def tTup (t : TA) : TE := fun σ H Q => t σ H fun xs H1 => xs.length ≤ sizeLine ∧ ∀ p, H1 p = none → Q (.ref p) (upd H1 p (.tup xs))
def tLst (t : TA) : TE := fun σ H Q => t σ H fun xs H1 => xs.length ≤ sizeLine ∧ ∀ p, H1 p = none → Q (.ref p) (upd H1 p (.lst xs))
theorem pe_tup {x1} (h : PA X es t) : PE X (.Tuple es x1 pos) (tTup t) := by
  intro pins s σ H Q I hq
  refine wpAny_Tuple_spliced (thn (h pos pins s σ H _ I hq) fun us s1 ⟨xs, H1, I1, r, z, q⟩ => ⟨by rw [← r.length]; exact z, ?_⟩)
  have hf : H1 s1.heap.objs.size = none := I1.hok.fresh (Nat.le_refl _)
  refine ⟨.ref s1.heap.objs.size, upd H1 s1.heap.objs.size (.tup xs), I1.laid (t' := s1.toks) (fun b u e => Heap.get?_push_of_some _ e) (Nat.le_refl _) ?_, rfl, q _ hf⟩
  exact ⟨z, us, r, ⟨_, Heap.get?_push_size _ rfl, rfl, _, rfl⟩⟩
theorem pe_lst (h : PA X es t) : PE X (.List es pos) (tLst t) := by
  intro pins s σ H Q I hq
  refine wpAny_List_spliced (thn (h pos pins s σ H _ I hq) fun us s1 ⟨xs, H1, I1, r, z, q⟩ => ⟨by rw [← r.length]; exact z, ?_⟩)
  have hf : H1 s1.heap.objs.size = none := I1.hok.fresh (Nat.le_refl _)
  refine ⟨.ref s1.heap.objs.size, upd H1 s1.heap.objs.size (.lst xs), I1.laid (t' := s1.toks) (fun b u e => Heap.get?_push_of_some _ e) (Nat.le_refl _) ?_, rfl, q _ hf⟩
  exact ⟨z, us, 0, r, Heap.get?_push_size _ rfl⟩
end

/-! ### what a def promises -/
/-- a def's promise: the bound arguments in the parameters' order, the heap, the wanted end, the wanted exception -/
abbrev Sp := List V → Hp → VK → XK → Prop
/-- how an exception lies behind a call (file 08 gives it): the callers' frames, abstract heap and state ahead of the call, the wish, the exception, the state -/
abbrev CXT := List Env → Hp → Shared → XK → Value → Shared → Prop

/-- the state at a call -/
structure Env0 (P : Program) (w : World) (K : PySem.W.Frag) (mg : Str → Option Value) (base : Heap) (A : Around) (outer : List Env) (s : Shared) (H : Hp) : Prop where
  frames : A.frames = some outer
  mod : Mod K mg base
  bs : ∀ b o, base.get? b = some o → s.heap.get? b = some o ∧ H b = none
  bsz : base.objs.size ≤ s.heap.objs.size
  funs : s.heap.FunFrames base outer
  frf : ∀ b ∈ frs outer, H b = none
  hok : HOk P w H s.heap
  bare : AllBare s.gens
/-- a call's end -/
def CE (outer : List Env) (P : Program) (w : World) (H : Hp) (s : Shared) (Q : VK) (u : Value) (s' : Shared) : Prop :=
  ∃ v H', s'.os = s.os ∧ AllBare s'.gens ∧ Un (frs outer) [] H H' s.heap s'.heap ∧ HOk P w H' s'.heap ∧ RelV v u ∧ Q v H'
def CR (CX : CXT) (outer : List Env) (P : Program) (w : World) (H : Hp) (s : Shared) (Q : VK) (E : XK) (r : Result) (s' : Shared) : Prop :=
  match r with
  | .ok (.ret u) => CE outer P w H s Q u s'
  | .ok _ => False
  | .error e => CX outer H s E e s'
structure FnOk (P : Program) (w : World) (K : PySem.W.Frag) (mg : Str → Option Value) (base : Heap) (CX : CXT) (k : Nat) (f : Addr) (fd : FuncData) (ps : List Str) (sp : Sp) : Prop where
  len : ∀ vs H Q E, sp vs H Q E → vs.length = ps.length
  run : ∀ (A : Around) (outer : List Env) (s : Shared) (H : Hp) (args : Args) (us : List Value) (vs : List V) (Q : VK) (E : XK), Room k A → Env0 P w K mg base A outer s H → BindsTo s fd args (ps.zip us) → Vals vs us → sp vs H Q E →
    codeAny (model P w) A (.call (.ref f) args) (CR CX outer P w H s Q E) s
theorem Env0.make {P : Program} {w : World} {K : PySem.W.Frag} {mg : Str → Option Value} {base : Heap} {A : Around} {outer : List Env} {s : Shared} {H : Hp} (e : Env0 P w K mg base A outer s H) (C : Addr) (us : List Value) (kw : List (Str × Value)) :
    Env0 P w K mg base (A.under (.builtin "type.__call__" ⟨.ref C :: us, kw⟩)) outer s H := ⟨by first | exact e.frames | (simpa [Around.under, Code.envs, Code.isFrame, pushEnvs] using e.frames), e.mod, e.bs, e.bsz, e.funs, e.frf, e.hok, e.bare⟩
section
variable {X : Cx} {pins : List (Addr × Obj)} {σ : St} {H : Hp} {s s' : Shared}
/-- from a body: what a callee wants -/
theorem Inv.env0 (I : Inv X pins σ H s) : Env0 X.prog X.w X.K X.mg X.base X.A X.stack s H :=
  ⟨I.ok.frames, I.ok.mod, I.bs, Nat.le_trans I.ok.bsz I.sz, I.stack, I.stkFree, I.hok, I.bare⟩
/-- behind a call -/
theorem Inv.after {Q : VK} {u : Value} (I : Inv X pins σ H s) (h : CE X.stack X.prog X.w H s Q u s') : EP X pins σ Q u s' := by
  obtain ⟨v, H', os, bare, un, hok, r, q⟩ := h
  obtain ⟨hh, g, d, t, os'⟩ := s'
  obtain rfl : os' = s.os := os
  exact ⟨v, H', I.call (h' := hh) (g' := g) (d' := d) (t' := t) (ch := []) un hok bare (fun b z => absurd z (by simp)), r, q⟩
end

/-! ### calls -/
/-- f(..): the written arguments, then the defaults dvs; E: what is wanted of an exception -/
def tCall (sp : Sp) (dvs : List V) (E : XK) (t : TA) : TE := fun σ H Q => t σ H fun vs H1 => sp (vs ++ dvs) H1 Q E
/-- o.m(..) of an instance of the class at C -/
def tMeth (C : Addr) (m : Str) (sp : Sp) (dvs : List V) (E : XK) (ta : TE) (t : TA) : TE := fun σ H Q => ta σ H fun x H1 => ∃ a dx fs, x = .ref a ∧ H1 a = some (.ins C dx fs) ∧ fs.lookup m = none ∧
  t σ H1 fun vs H2 => sp (x :: (vs ++ dvs)) H2 Q E
/-- C(..): a new instance and its dict, then __init__ -/
def tMake (C : Addr) (sp : Sp) (dvs : List V) (E : XK) (t : TA) : TE := fun σ H Q => t σ H fun vs H1 => ∀ x dx, H1 x = none → H1 dx = none → dx ≠ x →
  sp (.ref x :: (vs ++ dvs)) (upd (upd H1 dx (.own x)) x (.ins C dx [])) (fun v H2 => v = .non ∧ Q (.ref x) H2) E

/-- how the parameters are bound: us the positional arguments, kw the keywords' values by name, ds the defaults that fill up -/
def Binds (K : PySem.W.Frag) (fd : FuncData) (ps : List Str) (ds : List Value) : Prop :=
  ∀ (s : Shared) (us : List Value), K.In s.heap → (us ++ ds).length = ps.length → BindsTo s fd ⟨us, []⟩ (ps.zip (us ++ ds))
/-- every parameter is given -/
theorem Binds.all {K : PySem.W.Frag} {fd : FuncData} {ps : List Str} (h : ∀ us : List Value, us.length = ps.length → bindArgs fd ⟨us, []⟩ = pure (ps.zip us)) : Binds K fd ps [] := fun s us _ hl => by
  rw [List.append_nil] at hl ⊢
  exact .of_eq (h us hl)

/-- an exception of a callee reaches what this body wants of exceptions -/
def Passes (CX : CXT) (X : Cx) (E : XK) : Prop := ∀ (pins : List (Addr × Obj)) (σ : St) (H : Hp) (s : Shared) (e : Value) (s' : Shared), Inv X pins σ H s → CX X.stack H s E e s' → X.xe e s'

section
variable {X : Cx} {CX : CXT} {k : Nat} {f C : Addr} {fd : FuncData} {ps : List Str} {sp : Sp} {dvs : List V} {ds : List Value} {E : XK} {x m : Str} {p pos apos : Pos} {e o : Expr} {es : List Expr} {ta : TE} {t : TA}

/-- the callee runs -/
theorem run_fn {pins : List (Addr × Obj)} {σ : St} {H : Hp} {s : Shared} {Q : VK} {us : List Value} {vs : List V} (F : FnOk X.prog X.w X.K X.mg X.base CX k f fd ps sp) (hr : Room k X.A) (hb : Binds X.K fd ps ds) (hd : Vals dvs ds) (hx : Passes CX X E)
    (I : Inv X pins σ H s) (r : Vals vs us) (h : sp (vs ++ dvs) H Q E) : wpAny (model X.prog X.w) X.A (call (.ref f) us) (EP X pins σ Q) X.xe s := by
  have r2 : Vals (vs ++ dvs) (us ++ ds) := r.append hd
  have hl : (us ++ ds).length = ps.length := by rw [← r2.length]; exact F.len _ _ _ _ h
  refine wpAny_call (codeAny_mono (F.run X.A X.stack s H ⟨us, []⟩ (us ++ ds) (vs ++ dvs) Q E hr I.env0 (hb s us I.kIn hl) r2 h) fun r s' hq => ?_)
  cases r with
  | error e => exact hx pins σ H s e s' I hq
  | ok fl =>
    cases fl with
    | ret u => exact I.after hq
    | next => exact False.elim hq
    | brk => exact False.elim hq
    | cont => exact False.elim hq

theorem pe_call (F : FnOk X.prog X.w X.K X.mg X.base CX k f fd ps sp) (hr : Room k X.A) (hg : Gl X x) (hm : X.mg x = some (.ref f)) (hk : PySem.W.keepIn X.K (.ref f) = true) (hb : Binds X.K fd ps ds) (hd : Vals dvs ds) (hx : Passes CX X E)
    (ha : PA X (e :: es) t) (hdb : (x == ("__debug__" : Str)) = false := by decide) (he : starEach (e :: es) X.env = (false, eval e X.env) :: starEach es X.env := by rfl) (hpl : (backTo pos (starEach es X.env)).any (·.1) = false := by rfl) :
    PE X (.Call (.Name x p) (e :: es) [] pos) (tCall sp dvs E t) := by
  intro pins s σ H Q I h
  refine wpAny_Call_Name_kw (ld_glob I hg hm ?_ hdb)
  refine PySem.W.callWith_K (h₀ := X.base) I.ok.mod.kin hk (thn (ha pos pins s σ H _ I h) fun us s1 ⟨vs, H1, I1, r, q⟩ => ⟨I1.kIn, ?_⟩) he hpl
  exact run_fn F hr hb hd hx I1 r q
/-- o.m(e, ..) -/
theorem pe_meth {pl : Sem Bool} (he : PE X o ta) (c : Cls X.K C) (hm : Meth X.K C m f) (F : FnOk X.prog X.w X.K X.mg X.base CX k f fd ps sp) (hr : Room k X.A) (hb : Binds X.K fd ps ds) (hd : Vals dvs ds) (hx : Passes CX X E) (ha : PA X (e :: es) t)
    (hst : starEach (e :: es) X.env = (false, eval e X.env) :: starEach es X.env := by rfl) (hpl : (backTo pos (starEach es X.env)).any (·.1) = false := by rfl)
    (ht : eval (.Call (.Attribute o m apos) (e :: es) [] pos) X.env = (do
      let ov ← eval o X.env
      standAt apos.atName
      let (f, first) ← holding [ov] (getMethod ov m pl)
      callWith pos f first (backTo pos (starEach (e :: es) X.env)) (backToKw pos (keywordEach [] X.env))) := by rfl) :
    PE X (.Call (.Attribute o m apos) (e :: es) [] pos) (tMeth C m sp dvs E ta t) := by
  intro pins s σ H Q I h
  refine PySem.W.methodCall_KW (pl := pl) (thn (he pins s σ H _ I h) fun u s1 ⟨x, H1, I1, rx, a, dx, fs, ex, ea, l, q⟩ => ?_) ht
  subst ex
  obtain rfl : u = Value.ref a := rx
  refine getmeth_ok I1 ea c hm l ?_
  refine PySem.W.callWith_K (first := [.ref a]) (h₀ := X.base) I.ok.mod.kin hm.kp (thn (ha pos pins s1 σ H1 _ I1 q) fun us s2 ⟨vs, H2, I2, r, q2⟩ => ⟨I2.kIn, ?_⟩) hst hpl
  exact run_fn (us := .ref a :: us) (vs := .ref a :: vs) F hr hb hd hx I2 (.cons rfl r) q2
/-- o.m() -/
theorem pe_meth0 {pl : Sem Bool} (he : PE X o ta) (c : Cls X.K C) (hm : Meth X.K C m f) (F : FnOk X.prog X.w X.K X.mg X.base CX k f fd ps sp) (hr : Room k X.A) (hb : Binds X.K fd ps ds) (hd : Vals dvs ds) (hx : Passes CX X E)
    (ht : eval (.Call (.Attribute o m apos) [] [] pos) X.env = (do
      let ov ← eval o X.env
      standAt apos.atName
      let (f, first) ← holding [ov] (getMethod ov m pl)
      callWith pos f first (backTo pos (starEach [] X.env)) (backToKw pos (keywordEach [] X.env))) := by rfl) :
    PE X (.Call (.Attribute o m apos) [] [] pos) (tMeth C m sp dvs E ta tNil) := by
  intro pins s σ H Q I h
  refine PySem.W.methodCall_KW (pl := pl) (thn (he pins s σ H _ I h) fun u s1 ⟨x, H1, I1, rx, a, dx, fs, ex, ea, l, q⟩ => ?_) ht
  subst ex
  obtain rfl : u = Value.ref a := rx
  refine getmeth_ok I1 ea c hm l ?_
  exact PySem.W.callWith_K0 (first := [.ref a]) I1.kIn hm.kp (run_fn (us := [.ref a]) (vs := [.ref a]) F hr hb hd hx I1 (.cons rfl .nil) q)

/-- what a class must have to be made -/
structure Mk (K : PySem.W.Frag) (C f : Addr) : Prop where
  makes : PySem.W.makesIn K C = true
  init : PySem.W.findIn K (.ref C) "__init__" = some (some (.ref f))
  fn : PySem.W.isFn K (.ref f) = true
  kp : PySem.W.keepIn K (.ref C) = true

theorem run_make {pins : List (Addr × Obj)} {σ : St} {H : Hp} {s : Shared} {Q : VK} {us : List Value} {vs : List V} (M : Mk X.K C f) (F : FnOk X.prog X.w X.K X.mg X.base CX k f fd ps sp) (hr : Room (k + 1) X.A) (hb : Binds X.K fd ps ds) (hd : Vals dvs ds)
    (hx : Passes CX X E) (I : Inv X pins σ H s) (r : Vals vs us)
    (h : ∀ x dx, H x = none → H dx = none → dx ≠ x → sp (.ref x :: (vs ++ dvs)) (upd (upd H dx (.own x)) x (.ins C dx [])) (fun v H2 => v = .non ∧ Q (.ref x) H2) E) :
    wpAny (model X.prog X.w) X.A (call (.ref C) us) (EP X pins σ Q) X.xe s := by
  have hq := h (s.heap.objs.size + 1) s.heap.objs.size (I.hok.fresh (Nat.le_succ _)) (I.hok.fresh (Nat.le_refl _)) (Nat.ne_of_lt (Nat.lt_succ_self _))
  have I2 := Inv.made (C := C) I
  have r2 : Vals (V.ref (s.heap.objs.size + 1) :: (vs ++ dvs)) (Value.ref (s.heap.objs.size + 1) :: (us ++ ds)) := .cons rfl (r.append hd)
  have hl : (Value.ref (s.heap.objs.size + 1) :: us ++ ds).length = ps.length := by
    have e := r2.length
    rw [F.len _ _ _ _ hq] at e
    exact e.symm
  refine wpAny_call (make_map (f := f) I.kIn M.makes M.init (beq_iff_eq.mp M.fn) (codeAny_mono (F.run _ X.stack _ _ ⟨Value.ref (s.heap.objs.size + 1) :: us, []⟩ (Value.ref (s.heap.objs.size + 1) :: (us ++ ds)) _ _ E (hr.make C us [])
    (I2.env0.make C us []) (hb _ (Value.ref (s.heap.objs.size + 1) :: us) I2.kIn hl) r2 hq) fun r s' hq' => ?_))
  cases r with
  | error e => exact hx pins σ _ _ e s' I2 hq'
  | ok fl =>
    cases fl with
    | ret u =>
      obtain ⟨v, H', I3, rv, ev, q3⟩ := I2.after hq'
      subst ev
      exact ⟨rv, ⟨V.ref (s.heap.objs.size + 1), H', I3, rfl, q3⟩⟩
    | next => exact False.elim hq'
    | brk => exact False.elim hq'
    | cont => exact False.elim hq'
theorem pe_make (M : Mk X.K C f) (F : FnOk X.prog X.w X.K X.mg X.base CX k f fd ps sp) (hr : Room (k + 1) X.A) (hg : Gl X x) (hm : X.mg x = some (.ref C)) (hb : Binds X.K fd ps ds) (hd : Vals dvs ds) (hx : Passes CX X E)
    (ha : PA X (e :: es) t) (hdb : (x == ("__debug__" : Str)) = false := by decide) (he : starEach (e :: es) X.env = (false, eval e X.env) :: starEach es X.env := by rfl) (hpl : (backTo pos (starEach es X.env)).any (·.1) = false := by rfl) :
    PE X (.Call (.Name x p) (e :: es) [] pos) (tMake C sp dvs E t) := by
  intro pins s σ H Q I h
  refine wpAny_Call_Name_kw (ld_glob I hg hm ?_ hdb)
  refine PySem.W.callWith_K (h₀ := X.base) I.ok.mod.kin M.kp (thn (ha pos pins s σ H _ I h) fun us s1 ⟨vs, H1, I1, r, q⟩ => ⟨I1.kIn, ?_⟩) he hpl
  exact run_make M F hr hb hd hx I1 r q
end

/-! ### keywords -/
section
variable {X : Cx} {CX : CXT} {k : Nat} {f C : Addr} {fd : FuncData} {ps ks : List Str} {sp : Sp} {E : XK} {x m : Str} {p pos apos kpos : Pos} {e o : Expr} {es : List Expr} {kws : List Keyword} {te ta : TE} {t tk : TA} {nm : Option Str}
/-- how a call with keywords binds: g puts the positional values us and the keywords' values ws (names ks) in the parameters' order, defaults among them -/
structure KBinds (K : PySem.W.Frag) (fd : FuncData) (ps ks : List Str) (g : List Value → List Value → List Value) (gV : List V → List V → List V) : Prop where
  to : ∀ (s : Shared) (us ws : List Value), K.In s.heap → (g us ws).length = ps.length → BindsTo s fd ⟨us, ks.zip ws⟩ (ps.zip (g us ws))
  rel : ∀ {vs : List V} {us : List Value} {zs : List V} {ws : List Value}, Vals vs us → Vals zs ws → Vals (gV vs zs) (g us ws)
variable {g : List Value → List Value → List Value} {gV : List V → List V → List V}
end

/-! ### a def's body keeps its promise -/
/-- names: the parameters first -/
structure FnScope (N P : List Str) (sc : Scope) : Prop where
  kind : sc.kind = .function
  co : sc.isCoroutine = false
  gen : sc.isGenerator = false
  nd : N.Nodup
  pre : N.take P.length = P
  par : ∀ x ∈ P, sc.names.lookup x = some .local ∨ sc.names.lookup x = some .cell
  nofree : ∀ y ∈ sc.names, y.2 ≠ .free

theorem bindL_out {kindOf : Str → Option NameKind} {x : Str} : ∀ {binds : List (Str × Value)} {m : Str → Option Value}, (∀ v, (x, v) ∉ binds) → bindL kindOf binds m x = m x
  | [], _, _ => rfl
  | (n, v) :: r, m, h => by
    unfold bindL
    rw [bindL_out fun w hw => h w (List.mem_cons_of_mem _ hw)]
    split
    · have : x ≠ n := by rintro rfl; exact h v List.mem_cons_self
      simp [this]
    · rfl
theorem bindC_out {kindOf : Str → Option NameKind} {x : Str} : ∀ {binds : List (Str × Value)} {m : Str → Option Value}, (∀ v, (x, v) ∉ binds) → bindC kindOf binds m x = m x
  | [], _, _ => rfl
  | (n, v) :: r, m, h => by
    unfold bindC
    rw [bindC_out fun w hw => h w (List.mem_cons_of_mem _ hw)]
    split
    · rfl
    · have : x ≠ n := by rintro rfl; exact h v List.mem_cons_self
      simp [this]
theorem bindL_get {kindOf : Str → Option NameKind} {x : Str} {v : Value} : ∀ {P : List Str} {vs : List Value} {i : Nat} {m : Str → Option Value}, P.Nodup → P[i]? = some x → vs[i]? = some v → kindOf x = some .local →
    bindL kindOf (P.zip vs) m x = some v
  | [], _, _, _, _, h, _, _ => by simp at h
  | _ :: _, [], _, _, _, _, h, _ => by simp at h
  | p :: P, w :: vs, 0, m, nd, h1, h2, hk => by
    simp at h1 h2; subst h1; subst h2
    show bindL kindOf ((p, w) :: P.zip vs) m p = _
    unfold bindL
    rw [bindL_out fun v hv => (List.nodup_cons.mp nd).1 (List.of_mem_zip hv).1, if_pos hk]
    simp
  | p :: P, w :: vs, i + 1, m, nd, h1, h2, hk => by
    show bindL kindOf ((p, w) :: P.zip vs) m x = _
    unfold bindL
    exact bindL_get (i := i) (List.nodup_cons.mp nd).2 (by simpa using h1) (by simpa using h2) hk
theorem bindC_get {kindOf : Str → Option NameKind} {x : Str} {v : Value} : ∀ {P : List Str} {vs : List Value} {i : Nat} {m : Str → Option Value}, P.Nodup → P[i]? = some x → vs[i]? = some v → kindOf x ≠ some .local →
    bindC kindOf (P.zip vs) m x = some v
  | [], _, _, _, _, h, _, _ => by simp at h
  | _ :: _, [], _, _, _, _, h, _ => by simp at h
  | p :: P, w :: vs, 0, m, nd, h1, h2, hk => by
    simp at h1 h2; subst h1; subst h2
    show bindC kindOf ((p, w) :: P.zip vs) m p = _
    unfold bindC
    rw [bindC_out fun v hv => (List.nodup_cons.mp nd).1 (List.of_mem_zip hv).1, if_neg hk]
    simp
  | p :: P, w :: vs, i + 1, m, nd, h1, h2, hk => by
    show bindC kindOf ((p, w) :: P.zip vs) m x = _
    unfold bindC
    exact bindC_get (i := i) (List.nodup_cons.mp nd).2 (by simpa using h1) (by simpa using h2) hk

/-- the names' values at the entry -/
def start (N : List Str) (vs : List V) : St := vs.map some ++ List.replicate (N.length - vs.length) none

/-- the context of a def's body, at its entry; an exception leaves the frame, then lies as CX says -/
def cxOf (CX : CXT) (P : Program) (w : World) (K : PySem.W.Frag) (mg : Str → Option Value) (base : Heap) (N : List Str) (qual : Str) (scope : Scope) (f : Addr) (cd : Value) (A : Around) (outer : List Env) (s : Shared) (H : Hp) (E : XK) : Cx where
  prog := P
  w := w
  K := K
  mg := mg
  base := base
  A := A.deeper (envOfC qual scope s.heap.objs.size f cd)
  N := N
  s₀ := s
  H₀ := H
  env := envOfC qual scope s.heap.objs.size f cd
  outer := outer
  stack := envOfC qual scope s.heap.objs.size f cd :: outer
  ex := []
  calm := true
  fn := fun _ => true
  pn := []
  xe := fun e s' => wpAny (model P w) (A.deeper (envOfC qual scope s.heap.objs.size f cd)) (leaving (envOfC qual scope s.heap.objs.size f cd) e) (fun _ s'' => CX outer H s E e s'') (fun e' s'' => CX outer H s E e' s'') s'

theorem cell_has {sc : Scope} {n : Nat} {x : Str} (h : sc.names.lookup x = some .cell) : ∃ c, (cellsFrom n sc.names []).lookup x = some c := by
  have q := PySem.W.cellsFrom_some sc.names n [] (.inl h)
  exact Option.isSome_iff_exists.mp q

theorem inv_start {CX : CXT} {P : Program} {w : World} {K : PySem.W.Frag} {mg : Str → Option Value} {base : Heap} {N ps : List Str} {qual : Str} {scope : Scope} {f : Addr} {cd : Value} {A : Around} {outer : List Env} {s s1 : Shared} {H : Hp} {E : XK} {us : List Value} {vs : List V}
    (S : FnScope N ps scope) (hd : A.handled = none) (e0 : Env0 P w K mg base A outer s H) (hl : vs.length = ps.length) (r : Vals vs us)
    (x : InCallC s s.heap.objs.size (bindL (envOfC qual scope s.heap.objs.size f cd).kindOf (ps.zip us) fun _ => none) (cellsFrom (s.heap.objs.size + 1) scope.names []) (bindC (envOfC qual scope s.heap.objs.size f cd).kindOf (ps.zip us) fun _ => none) s1) :
    Inv (cxOf CX P w K mg base N qual scope f cd A outer s H E) [] (start N vs) H s1 := by
  have hpl : ps.length ≤ N.length := by have := congrArg List.length S.pre; rw [List.length_take] at this; omega
  obtain ⟨h1, tk, rfl, hk⟩ := x.done
  have noA : ∀ b : Addr, b ∉ (cxOf CX P w K mg base N qual scope f cd A outer s H E).ex := fun b z => absurd (show b ∈ ([] : List Addr) from z) (by simp)
  refine ⟨⟨e0.mod, S.kind, rfl, rfl, Nat.le_refl _, fun y z c h1 h2 => ?_, fun y hy => ?_, fun y c _ h => ?_, fun _ => hd, Around.frames_deeper e0.frames, .inr ⟨rfl, rfl⟩, fun b z => absurd z (noA b), e0.bs, e0.bsz, fun b _ _ => noA b, fun b z => absurd z (noA b), e0.funs, e0.frf⟩,
    rfl, e0.bare, Un.kept hk, ⟨_, x.toInCall.ns, fun i y v h1 h2 h3 => ?_⟩, fun y c h => ⟨_, x.cell y c h⟩, e0.hok.fresh (Nat.le_refl _), fun y c h => ?_, fun p hp => absurd (show p ∈ ([] : List (Addr × Obj)) from hp) (by simp), e0.hok.kept hk, ?_⟩
  · exact name_of_addr x.apart (PySem.mem_of_lookup h1) (PySem.mem_of_lookup h2)
  · have hy : scope.names.lookup y = some .cell ∨ scope.names.lookup y = some .free := hy
    rcases hy with hy | hy
    · exact cell_has hy
    · exact absurd rfl (S.nofree _ (PySem.mem_of_lookup hy))
  · exact Nat.le_of_lt (x.above y c (PySem.mem_of_lookup h))
  · have hi : i < vs.length := by
      unfold start at h2
      by_cases hi : i < vs.length
      · exact hi
      · rw [List.getElem?_append_right (by simpa using hi)] at h2
        rw [List.getElem?_replicate] at h2
        split at h2 <;> cases h2
    have ha : vs[i]? = some v := by
      unfold start at h2
      rw [List.getElem?_append_left (by simpa using hi), List.getElem?_map] at h2
      cases e : vs[i]? with
      | none => rw [e] at h2; cases h2
      | some a => rw [e] at h2; cases h2; rfl
    obtain ⟨u, hu, rv⟩ := r.get ha
    have hp : ps[i]? = some y := by
      rw [← S.pre, List.getElem?_take_of_lt (by omega)]; exact h1
    have ndP : ps.Nodup := by rw [← S.pre]; exact S.nd.sublist (List.take_sublist _ _)
    refine ⟨u, rv, ?_⟩
    rcases S.par y (List.mem_of_getElem? hp) with k | k
    · exact .inl ⟨k, bindL_get ndP hp hu k⟩
    · obtain ⟨c, e⟩ := cell_has (n := s.heap.objs.size + 1) k
      refine .inr ⟨.inl k, c, e, ?_⟩
      have q := x.cell y c e
      rw [bindC_get ndP hp hu (by show scope.names.lookup y ≠ _; rw [k]; decide)] at q
      exact q
  · exact e0.hok.fresh (Nat.le_of_lt (x.above y c (PySem.mem_of_lookup h)))
  · unfold start
    show _ = N.length
    rw [List.length_append, List.length_map, List.length_replicate]
    omega

/-- THE RULE: a def (or a method) of the text, by its body. The body's reading t is chosen for each entry; it is run at the parameters' values -/
theorem fn_of {CX : CXT} {P : Program} {w : World} {K : PySem.W.Frag} {mg : Str → Option Value} {base : Heap} {k : Nat} {f : Addr} {name qual : Str} {params : Arguments} {body : List Stmt} {scope : Scope} {dV kV doc pm cdv ct oc : Value} {an od : Option Addr}
    {osl : Array (Option Value)} {N ps : List Str} {sp : Sp} (lk : K.lookup f = some ⟨oc, od, .func (PySem.W.fnOf name qual params body scope dV kV doc pm an cdv ct), osl⟩) (hcd : PySem.W.codeIn K cdv qual = true) (S : FnScope N ps scope)
    (len : ∀ vs H Q E, sp vs H Q E → vs.length = ps.length)
    (hbody : ∀ (A : Around) (outer : List Env) (s : Shared) (H : Hp) (vs : List V) (Q : VK) (E : XK), Room k (A.deeper (envOfC qual scope s.heap.objs.size f cdv)) → sp vs H Q E →
      ∃ t, PSs (cxOf CX P w K mg base N qual scope f cdv A outer s H E) body t ∧ t { nx := fun _ H' => Q .non H', rt := Q } (start N vs) H) :
    FnOk P w K mg base CX (k + 1) f (PySem.W.fnOf name qual params body scope dV kV doc pm an cdv ct) ps sp := by
  refine ⟨len, fun A outer s H args us vs Q E hr e0 hb r hsp => ?_⟩
  have hl := len _ _ _ _ hsp
  have KX : K.In s.heap := e0.mod.kin.keeps fun b o e => (e0.bs b o e).1
  have lim : s.heap.NoLimit := e0.mod.nolimit.keeps fun b o e => (e0.bs b o e).1
  have hkind : ∀ y ∈ ps.zip us, scope.names.lookup y.1 = some .local ∨ (scope.names.lookup y.1 = some .cell ∧ ((cellsFrom (s.heap.objs.size + 1) scope.names []).lookup y.1).isSome = true) := fun ⟨n, v⟩ hy => by
    rcases S.par n (List.of_mem_zip hy).1 with q | q
    · exact .inl q
    · exact .inr ⟨q, PySem.W.cellsFrom_some _ _ _ (.inl q)⟩
  refine codeAny_call_function hr.depth (KX _ _ lk) rfl S.co S.gen rfl (PySem.W.codeRec_of KX hcd) (hb _ _ _ _ ?_)
  refine wpAny_newFunctionEnv_cells S.kind hkind fun env he s1 x => ?_
  subst he
  refine ⟨lim.keeps x.toInCall.keep, codeAny_func ?_⟩
  obtain ⟨t, ht, hq⟩ := hbody A outer s H vs Q E (hr.deeper _) hsp
  have I : Inv (cxOf CX P w K mg base N qual scope f cdv A outer s H E) [] (start N vs) H s1 := inv_start S hr.hd e0 hl r x
  refine wpAny_mono (ht [] s1 (start N vs) H _ I hq) (fun fl s' hs => ?_) fun e s' hs => hs
  have fin : ∀ {σ' : St} {H' : Hp} {v : V} {u : Value}, Inv (cxOf CX P w K mg base N qual scope f cdv A outer s H E) [] σ' H' s' → RelV v u → Q v H' → CE outer P w H s Q u s' :=
    fun {σ' H' v u} J rv q => ⟨v, H', J.os, J.bare, J.base, J.hok, rv, q⟩
  cases fl with
  | ret u =>
    obtain ⟨v, σ', H', J, rv, q⟩ := hs
    exact fin J rv q
  | next =>
    obtain ⟨σ', H', J, q⟩ := hs
    exact fin (v := V.non) (u := Value.none) J rfl q
  | brk =>
    obtain ⟨_, _, _, q⟩ := hs
    exact False.elim q
  | cont =>
    obtain ⟨_, _, _, q⟩ := hs
    exact False.elim q
end L2

namespace L2
open PySem PySem.Spec PyProof.Rows
section
variable {X : Cx} {x : Str} {p pos : Pos} {e : Expr} {es : List Expr} {t : TA} {id T : String} {r : List V → Hp → VK → Prop}

def tCB (r : List V → Hp → VK → Prop) (t : TA) : TE := fun σ H Q => t σ H fun vs H1 => r vs H1 Q
/-- f(e, ..), f a built-in function -/
theorem pe_callB (hc : CallR X (.builtin id) r) (hg : Gl X x) (hm : X.mg x = none) (hv : bootBuiltins x = some (.builtin id)) (ha : PA X (e :: es) t) (hn : x ≠ "__name__" := by decide) (hdb : (x == ("__debug__" : Str)) = false := by decide)
    (he : starEach (e :: es) X.env = (false, eval e X.env) :: starEach es X.env := by rfl) (hpl : (backTo pos (starEach es X.env)).any (·.1) = false := by rfl) : PE X (.Call (.Name x p) (e :: es) [] pos) (tCB r t) := by
  intro pins s σ H Q I h
  refine wpAny_Call_Name_kw (ld_blt I hg hm hv ?_ hn hdb)
  exact PyProof.Rows.callWith_builtin1 (thn (ha pos pins s σ H _ I h) fun us s1 ⟨vs, H1, I1, r1, q1⟩ => hc pins s1 σ H1 vs us Q I1 r1 q1) he hpl
/-- T(e, ..), T a built-in type -/
theorem pe_callTy (hc : CallR X (.type T) r) (hg : Gl X x) (hm : X.mg x = none) (hv : bootBuiltins x = some (.type T)) (ha : PA X (e :: es) t) (hn : x ≠ "__name__" := by decide) (hdb : (x == ("__debug__" : Str)) = false := by decide)
    (he : starEach (e :: es) X.env = (false, eval e X.env) :: starEach es X.env := by rfl) (hpl : (backTo pos (starEach es X.env)).any (·.1) = false := by rfl) : PE X (.Call (.Name x p) (e :: es) [] pos) (tCB r t) := by
  intro pins s σ H Q I h
  refine wpAny_Call_Name_kw (ld_blt I hg hm hv ?_ hn hdb)
  exact PyProof.Rows.callWith_type1 (thn (ha pos pins s σ H _ I h) fun us s1 ⟨vs, H1, I1, r1, q1⟩ => hc pins s1 σ H1 vs us Q I1 r1 q1) he hpl
end
end L2

namespace HT
open PySem PyProof.Rows

section
open PySem.SeqAt
open PySem.AutoSeq1 (wpAny_loadPart')
open PySem.MeetsSeq PySem.MeetsSeq2 PySem.MeetsSeq3

end

section
variable {prog : Program} {w : World} {A : Around} {E : Value → Shared → Prop} {s : Shared}

/-! ### t[a:b], not the whole -/
/-- a slice's bound as a place among n (d where it is left out) -/
def sIx (n d : Nat) : Option Int → Nat
  | none => d
  | some v => if v < 0 then (v + (n : Int)).toNat else min v.toNat n
theorem sIx_nat (n d k : Nat) : sIx n d (some (k : Int)) = min k n := by
  show (if (k : Int) < 0 then ((k : Int) + (n : Int)).toNat else min (k : Int).toNat n) = min k n
  rw [if_neg (by omega), Int.toNat_natCast]
end
end HT

namespace L2
open PySem PySem.Spec PyProof.Rows

/-! ### the parts of a slice -/
abbrev TO := St → Hp → (Option Int → Hp → Prop) → Prop
/-- a slice's part (left out, or an int) -/
def PO (X : Cx) (e : Option Expr) (t : TO) : Prop :=
  ∀ (pins : List (Addr × Obj)) (s : Shared) (σ : St) (H : Hp) (Q : Option Int → Hp → Prop), Inv X pins σ H s → t σ H Q →
    wpAny (model X.prog X.w) X.A (evalPart e X.env) (fun u s' => ∃ o H', Inv X pins σ H' s' ∧ IsPart u o ∧ Q o H') X.xe s
def tNoPart : TO := fun _ H Q => Q none H
def tPart (t : TE) : TO := fun σ H Q => t σ H fun x H1 => ∃ i, x = .int i ∧ Q (some i) H1

section
variable {X : Cx} {e : Expr} {te : TE} {lo hi : Option Expr} {tl th : TO} {pos p2 : Pos}

theorem po_none : PO X none tNoPart := by
  intro pins s σ H Q I h
  rw [evalPart_none]
  exact wpAny_pure ⟨none, H, I, .none, h⟩
theorem po_some (h : PE X e te) : PO X (some e) (tPart te) := by
  intro pins s σ H Q I hw
  rw [evalPart_some]
  refine thn (h pins s σ H _ I hw) fun u s1 ⟨x, H1, I1, r1, q1⟩ => ?_
  obtain ⟨i, rfl, q⟩ := q1
  obtain ⟨t, rfl⟩ := r1
  exact ⟨some i, H1, I1, .int i t, q⟩

/-- what a slice of a value is, by values: the slice object stands at sl -/
def SlR (X : Cx) (r : V → Option Int → Option Int → Hp → VK → Prop) : Prop :=
  ∀ (pins : List (Addr × Obj)) (s : Shared) (σ : St) (H : Hp) (x : V) (v vl vu : Value) (lo hi : Option Int) (sl : Addr) (Q : VK), Inv X pins σ H s → RelV x v → s.heap.IsSliceOf sl vl vu .none → IsPart vl lo → IsPart vu hi → r x lo hi H Q →
    ∃ T id, typeLookup (.type T) "__getitem__" = pure (some (.builtin id)) ∧ s.TypeIs v T ∧ wpAny (model X.prog X.w) X.A (getItem v (.ref sl)) (EP X pins σ Q) X.xe s
def tSl (r : V → Option Int → Option Int → Hp → VK → Prop) (te : TE) (tl th : TO) : TE := fun σ H Q => te σ H fun x H1 => tl σ H1 fun l H2 => th σ H2 fun u H3 => r x l u H3 Q
/-- a[lo:hi], any a -/
theorem pe_slice {r : V → Option Int → Option Int → Hp → VK → Prop} (hr : SlR X r) (he : PE X e te) (hl : PO X lo tl) (hu : PO X hi th) : PE X (.Subscript e (.Slice lo hi none p2) pos) (tSl r te tl th) := by
  intro pins s σ H Q I h
  refine Subscript_ (thn (he pins s σ H _ I h) fun v s1 ⟨x, H1, I1, r1, q1⟩ => ?_)
  refine wpAny_Slice (thn (hl pins s1 σ H1 _ I1 q1) fun vl s2 ⟨l, H2, I2, pl, q2⟩ => thn (hu pins s2 σ H2 _ I2 q2) fun vu s3 ⟨u, H3, I3, pu, q3⟩ => ?_)
  rw [evalPart_none]
  refine wpAny_pure ?_
  have I4 : Inv X pins σ H3 { s3 with heap := s3.heap.push { cls := .type "slice", data := .fields #[vl, vu, .none] } } := I3.kept (t' := s3.toks) fun b ob q => Heap.get?_push_of_some _ q
  obtain ⟨T, id, hT, ht, hg⟩ := hr pins { s3 with heap := s3.heap.push { cls := .type "slice", data := .fields #[vl, vu, .none] } } σ H3 x v vl vu l u s3.heap.objs.size Q I4 r1 (Heap.IsSliceOf.new ..) pl pu q3
  show wpAny (model X.prog X.w) X.A (subscriptTail e (.Slice lo hi none p2) v (.ref s3.heap.objs.size)) (EP X pins σ Q) X.xe { s3 with heap := s3.heap.push { cls := .type "slice", data := .fields #[vl, vu, .none] } }
  exact tail_any (ops := [.ref s3.heap.objs.size, v]) ht hT hg (by with_unfolding_all rfl)

/-- the items of xs[lo:hi] -/
def cutV (xs : List V) (lo hi : Option Int) : List V := (xs.drop (HT.sIx xs.length 0 lo)).take (HT.sIx xs.length xs.length hi - HT.sIx xs.length 0 lo)
theorem cutV_length (xs : List V) (lo hi : Option Int) : (cutV xs lo hi).length ≤ xs.length := by
  unfold cutV
  rw [List.length_take, List.length_drop]
  omega
/-! ### t < u, t + u -/
end
end L2

namespace L2
open PySem PySem.Spec PyProof.Rows

/-! ### places -/
/-- the place that an index of any sign means -/
def ixN (n : Nat) (i : Int) : Option Nat := if 0 ≤ i then (if i < n then some i.toNat else none) else if -(n : Int) ≤ i then some (i + n).toNat else none
def atI {α : Type} (xs : List α) (i : Int) : Option α := (ixN xs.length i).bind fun j => xs[j]?
theorem ixN_seq {n : Nat} {i : Int} {j : Nat} (h : ixN n i = some j) : seqIndex? i n = some j ∧ j < n ∧ -(n : Int) ≤ i ∧ i < n := by
  unfold ixN at h
  by_cases h0 : 0 ≤ i
  · rw [if_pos h0] at h
    by_cases h1 : i < n
    · rw [if_pos h1] at h
      have e : i.toNat = j := Option.some.inj h
      exact ⟨by rw [seqIndex_of h0 h1, e], by omega, by omega, h1⟩
    · rw [if_neg h1] at h; cases h
  · rw [if_neg h0] at h
    by_cases h1 : -(n : Int) ≤ i
    · rw [if_pos h1] at h
      have e : (i + n).toNat = j := Option.some.inj h
      exact ⟨by rw [seqIndex_neg (by omega) h1, e], by omega, h1, by omega⟩
    · rw [if_neg h1] at h; cases h
theorem atI_get {α : Type} {xs : List α} {i : Int} {v : α} (h : atI xs i = some v) : ∃ j, seqIndex? i xs.length = some j ∧ xs[j]? = some v ∧ j < xs.length ∧ -(xs.length : Int) ≤ i ∧ i < xs.length := by
  unfold atI at h
  cases e : ixN xs.length i with
  | none => rw [e] at h; cases h
  | some j =>
    rw [e] at h
    obtain ⟨h1, h2, h3, h4⟩ := ixN_seq e
    exact ⟨j, h1, h, h2, h3, h4⟩
/-! ### what may be subscripted -/
/-- what stands as an index of a plain subscript -/
def PlainIx (b : Expr) : Prop := ∀ o i, subscripted b false o i = operate [o, i] (getItem o i)
/-- a subscript by values -/
def IxR (X : Cx) (r : R2) : Prop :=
  ∀ (value slice : Expr) (pins : List (Addr × Obj)) (s : Shared) (σ : St) (H : Hp) (x y : V) (v u : Value) (Q : VK), Inv X pins σ H s → RelV x v → RelV y u → r x y H Q →
    subscripted slice false v u = operate [v, u] (getItem v u) → wpAny (model X.prog X.w) X.A (subscriptTail value slice v u) (EP X pins σ Q) X.xe s
/-- a call of a builtin's method by values: the receiver, the arguments -/
def MtR (X : Cx) (id : String) (r : V → List V → Hp → VK → Prop) : Prop :=
  ∀ (pins : List (Addr × Obj)) (s : Shared) (σ : St) (H : Hp) (x : V) (xs : List V) (v : Value) (us : List Value) (Q : VK), Inv X pins σ H s → RelV x v → Vals xs us → r x xs H Q →
    wpAny (model X.prog X.w) X.A (call (.builtin id) (v :: us)) (EP X pins σ Q) X.xe s
section
variable {X : Cx} {a b : Expr} {ta tb : TE} {pos : Pos}
theorem IxR.or {r r' : R2} (h : IxR X r) (h' : IxR X r') : IxR X (fun x y H Q => r x y H Q ∨ r' x y H Q) := by
  intro value slice pins s σ H x y v u Q I rx ry q hs
  rcases q with q | q
  · exact h value slice pins s σ H x y v u Q I rx ry q hs
  · exact h' value slice pins s σ H x y v u Q I rx ry q hs
/-- a[b] -/
theorem pe_ix {r : R2} (hr : IxR X r) (ha : PE X a ta) (hb : PE X b tb) (hs : PlainIx b) : PE X (.Subscript a b pos) (tOp r ta tb) := by
  intro pins s σ H Q I h
  exact Subscript_ (binT ha hb I h fun v u s2 x y H2 I2 rx ry q => hr a b pins s2 σ H2 x y v u Q I2 rx ry q (hs _ _))

def rIxL (K : PySem.W.Frag) : R2 := fun x y H Q => ∃ p xs i v, x = .ref p ∧ y = .int i ∧ SqL K H p xs ∧ atI xs i = some v ∧ Q v H
def rIxT (K : PySem.W.Frag) : R2 := fun x y H Q => ∃ p xs i v, x = .ref p ∧ y = .int i ∧ SqT K H p xs ∧ atI xs i = some v ∧ Q v H
theorem ix_list : IxR X (rIxL X.K) := by
  intro value slice pins s σ H x y v u Q I rx ry h hs
  obtain ⟨p, xs, i, z, rfl, rfl, hq, he, q⟩ := h
  cases rx
  obtain ⟨t, rfl⟩ := ry
  obtain ⟨its, r, pl, hz⟩ := I.list hq
  obtain ⟨j, h1, h2, h3, h4, h5⟩ := atI_get he
  obtain ⟨w, ew, rw'⟩ := r.get h2
  have hl := r.length
  have hn := line63
  have fin : EP X pins σ Q w s := ⟨z, H, I, rw', q⟩
  by_cases h0 : 0 ≤ i
  · have hj : i.toNat = j := by
      rw [seqIndex_of h0 h5] at h1
      exact Option.some.inj h1
    exact item_listR pl.isList h0 (by omega) (by rw [hj]; simpa using ew) fin hs
  · have hj : (i + (its.toArray.size : Int)).toNat = j := by
      rw [seqIndex_neg (by omega) h4] at h1
      rw [List.size_toArray, ← hl]
      exact Option.some.inj h1
    exact subscriptTail_builtinR (x := w) pl.isList.typeIs slot_list_getitem.lookup
      (wpAny_getItem_list_neg (Q := fun r s' => r = w ∧ EP X pins σ Q r s') pl.isList (by omega) (by rw [List.size_toArray] <;> omega) (by omega) (by rw [hj]; simpa using ew) ⟨rfl, fin⟩) hs
theorem ix_tup : IxR X (rIxT X.K) := by
  intro value slice pins s σ H x y v u Q I rx ry h hs
  obtain ⟨p, xs, i, z, rfl, rfl, hq, he, q⟩ := h
  cases rx
  obtain ⟨t, rfl⟩ := ry
  obtain ⟨its, r, pl, hz⟩ := I.tuple hq
  obtain ⟨j, h1, h2, h3, h4, h5⟩ := atI_get he
  obtain ⟨w, ew, rw'⟩ := r.get h2
  have hl := r.length
  have hn := line63
  have fin : EP X pins σ Q w s := ⟨z, H, I, rw', q⟩
  exact subscriptTail_builtinR (x := w) pl.typeIs slot_tuple_getitem.lookup
    (getItem_tuple (j := j) (Q := fun r s' => r = w ∧ EP X pins σ Q r s') pl (by omega) (by omega) (by rw [List.size_toArray, ← hl]; exact h1) (by simpa using ew) ⟨rfl, fin⟩) hs
/-! ### xs[i] = v, any sign -/
/-- the list's object behind a store -/
theorem mapSeq_set (its : List Value) (n j : Nat) (u : Value) : Obj.mapSeq (·.setIfInBounds j u) { cls := .type "list", data := .seq its.toArray n } = { cls := .type "list", data := .seq (its.set j u).toArray n } := by
  simp [Obj.mapSeq]
theorem Inv.lst {pins : List (Addr × Obj)} {σ : St} {H : Hp} {s : Shared} {p : Addr} {xs : List V} (I : Inv X pins σ H s) (h : H p = some (.lst xs)) :
    ∃ (its : List Value) (n : Nat), Vals xs its ∧ s.heap.get? p = some { cls := .type "list", data := .seq its.toArray n } ∧ xs.length ≤ sizeLine := by
  obtain ⟨z, its, n, r, e⟩ := I.hok p _ h
  exact ⟨its, n, r, e, z⟩
/-- the list at p is written by an update of its object -/
theorem Inv.lstUpd {pins : List (Addr × Obj)} {σ : St} {H : Hp} {s : Shared} {p : Addr} {xs ys : List V} {its its' : List Value} {n n' : Nat} {f : Obj → Obj} (I : Inv X pins σ H s) (h : H p = some (.lst xs))
    (ho : s.heap.get? p = some { cls := .type "list", data := .seq its.toArray n }) (hf : f { cls := .type "list", data := .seq its.toArray n } = { cls := .type "list", data := .seq its'.toArray n' }) (r : Vals ys its') (hz : ys.length ≤ sizeLine) (t : Nat) :
    Inv X pins σ (upd H p (.lst ys)) { s with heap := s.heap.update p f, toks := t } := by
  have e : (s.heap.update p f).get? p = some { cls := .type "list", data := .seq its'.toArray n' } := by
    rw [Heap.get?_update_self f ho (by rw [hf] <;> rfl), hf]
  refine I.write (x := p) (e := p) (by rw [h]; trivial) (.inl rfl) (fun b u hb q => (Heap.get?_update_other _ _ (Ne.symm hb)).trans q) ⟨_, e⟩ ?_
  exact ⟨hz, its', n', r, e⟩
def rSetL : V → V → V → Hp → (Hp → Prop) → Prop := fun o i v H Q => ∃ p xs k j, o = .ref p ∧ i = .int k ∧ H p = some (.lst xs) ∧ ixN xs.length k = some j ∧ Q (upd H p (.lst (xs.set j v)))
theorem set_list : PSet X rSetL := by
  intro pins s σ H o i v ov iv u Q I ro ri rv h
  obtain ⟨p, xs, k, j, rfl, rfl, hp, hj, q⟩ := h
  cases ro
  obtain ⟨t, rfl⟩ := ri
  obtain ⟨its, n, r, ho, hz⟩ := I.lst hp
  obtain ⟨h1, h2, h3, h4⟩ := ixN_seq hj
  have hl := r.length
  have hn := line63
  have I' : Inv X pins σ (upd H p (.lst (xs.set j v))) { s with heap := s.heap.update p (Obj.mapSeq (·.setIfInBounds j u)) } :=
    I.lstUpd hp ho (mapSeq_set its n j u) (r.set rv j) (by rw [List.length_set]; exact hz) s.toks
  by_cases h0 : 0 ≤ k
  · have hk : k.toNat = j := by
      rw [seqIndex_of h0 h4] at h1
      exact Option.some.inj h1
    exact PySem.W.ki_setAt ho h0 (by omega) (by rw [List.size_toArray, ← hl]; exact h4) (by rw [hk]; exact ⟨_, I', q⟩)
  · have hk : (k + (its.toArray.size : Int)).toNat = j := by
      rw [seqIndex_neg (by omega) h3] at h1
      rw [List.size_toArray, ← hl]
      exact Option.some.inj h1
    exact PySem.W.ki_setBack ho (by omega) (by rw [List.size_toArray, ← hl]; exact h3) (by omega) (by rw [hk]; exact ⟨_, I', q⟩)

/-! ### slices -/
theorem slice_bounds (lo hi : Option Int) (n : Nat) : (sliceBounds lo hi none n).1 = ((HT.sIx n 0 lo : Nat) : Int) ∧ (sliceBounds lo hi none n).2.1 = ((HT.sIx n n hi : Nat) : Int) ∧ (sliceBounds lo hi none n).2.2 = 1 := by
  refine ⟨?_, ?_, rfl⟩
  · cases lo with
    | none => simp [sliceBounds, HT.sIx]
    | some i =>
      simp only [sliceBounds, HT.sIx, Option.getD_none, show (1 : Int) > 0 by decide, if_true]
      by_cases h : i < 0
      · simp only [h, if_true] <;> omega
      · simp only [h, if_false] <;> omega
  · cases hi with
    | none => simp [sliceBounds, HT.sIx]
    | some i =>
      simp only [sliceBounds, HT.sIx, Option.getD_none, show (1 : Int) > 0 by decide, if_true]
      by_cases h : i < 0
      · simp only [h, if_true] <;> omega
      · simp only [h, if_false] <;> omega
theorem slicePick_cut (its : List Value) (lo hi : Option Int) : slicePick its.toArray lo hi none = ((its.drop (HT.sIx its.length 0 lo)).take (HT.sIx its.length its.length hi - HT.sIx its.length 0 lo)).toArray := by
  obtain ⟨h1, h2, h3⟩ := slice_bounds lo hi its.toArray.size
  unfold slicePick
  rw [h1, h2, h3]
  simp only [sliceRange_one, pick_run, List.size_toArray] <;> rfl
/-- xs[lo:hi] of a list: a new list -/
def rSlL (K : PySem.W.Frag) : V → Option Int → Option Int → Hp → VK → Prop := fun x lo hi H Q => ∃ a xs, x = .ref a ∧ SqL K H a xs ∧ ∀ p, H p = none → Q (.ref p) (upd H p (.lst (cutV xs lo hi)))
theorem sl_list : SlR X (rSlL X.K) := by
  intro pins s σ H x v vl vu lo hi sl Q I rx hs pl pu h
  obtain ⟨a, xs, rfl, hx, q⟩ := h
  cases rx
  obtain ⟨its, r, ht, hz⟩ := I.list hx
  have hlen := r.length
  refine ⟨"list", _, slot_list_getitem.lookup, ht.isList.typeIs, ?_⟩
  refine wpAny_getItem_list_slice ht.isList hs pl pu .none (by simp) ?_ (by rw [List.size_toArray] <;> omega)
  rw [slicePick_cut, ← hlen]
  refine ⟨.ref s.heap.objs.size, _, I.laid (t' := s.toks) (o := .lst (cutV xs lo hi)) (fun b ob q => Heap.get?_push_of_some _ q) (Nat.le_refl _) ?_, rfl, q _ (I.hok.fresh (Nat.le_refl _))⟩
  exact ⟨Nat.le_trans (cutV_length xs lo hi) hz, _, 0, (r.drop (HT.sIx xs.length 0 lo)).take (HT.sIx xs.length xs.length hi - HT.sIx xs.length 0 lo), Heap.get?_push_size _ rfl⟩

/-! ### in, not in: flat items -/
def flatV : V → Bool
  | .non => true
  | .bl _ => true
  | .int _ => true
  | .str _ => true
  | _ => false
/-- == of flat values -/
def eqV : V → V → Bool
  | .non, .non => true
  | .bl a, .bl b => a == b
  | .bl a, .int b => (if a then 1 else 0) == b
  | .int a, .bl b => a == (if b then 1 else 0)
  | .int a, .int b => a == b
  | .str a, .str b => a == b
  | _, _ => false
theorem eqAt_V {A : Around} {s : Shared} {y x : V} {u v : Value} (ry : RelV y u) (rx : RelV x v) (fy : flatV y = true) (fx : flatV x = true) : SeqAt.EqAt A s u v (eqV y x) := by
  cases y with
  | non =>
    cases ry
    cases x with
    | non => cases rx; exact SeqAt.EqAt.same _
    | bl b => cases rx; exact SeqAt.EqAt.none_bool b
    | int b => obtain ⟨t, rfl⟩ := rx; exact SeqAt.EqAt.none_int b t
    | str b => obtain ⟨t, rfl⟩ := rx; exact SeqAt.EqAt.none_str b t
    | _ => exact absurd (show false = true from fx) Bool.false_ne_true
  | bl a =>
    cases ry
    cases x with
    | non => cases rx; exact SeqAt.EqAt.bool_none a
    | bl b => cases rx; exact SeqAt.EqAt.bool_bool a b
    | int b => obtain ⟨t, rfl⟩ := rx; exact SeqAt.EqAt.bool_int a b t
    | str b => obtain ⟨t, rfl⟩ := rx; exact SeqAt.EqAt.bool_str a b t
    | _ => exact absurd (show false = true from fx) Bool.false_ne_true
  | int a =>
    obtain ⟨t', rfl⟩ := ry
    cases x with
    | non => cases rx; exact SeqAt.EqAt.int_none a t'
    | bl b => cases rx; exact SeqAt.EqAt.int_bool a t' b
    | int b => obtain ⟨t, rfl⟩ := rx; exact SeqAt.EqAt.int_int a t' b t
    | str b => obtain ⟨t, rfl⟩ := rx; exact SeqAt.EqAt.int_str a t' b t
    | _ => exact absurd (show false = true from fx) Bool.false_ne_true
  | str a =>
    obtain ⟨t', rfl⟩ := ry
    cases x with
    | non => cases rx; exact SeqAt.EqAt.str_none a t'
    | bl b => cases rx; exact SeqAt.EqAt.str_bool a t' b
    | int b => obtain ⟨t, rfl⟩ := rx; exact SeqAt.EqAt.str_int a t' b t
    | str b => obtain ⟨t, rfl⟩ := rx; exact SeqAt.EqAt.str_str a t' b t
    | _ => exact absurd (show false = true from fx) Bool.false_ne_true
  | _ => exact absurd (show false = true from fy) Bool.false_ne_true
/-- the items' answers, read off the values (a value's own answer does not lean on its token) -/
def eqU (x : V) (u : Value) : Bool := match u with
  | .none => eqV .non x
  | .bool b => eqV (.bl b) x
  | .int i _ => eqV (.int i) x
  | .str z _ => eqV (.str z) x
  | _ => false
theorem eqU_of {x y : V} {u : Value} (r : RelV y u) (f : flatV y = true) : eqU x u = eqV y x := by
  cases y with
  | non => cases r; rfl
  | bl b => cases r; rfl
  | int i => obtain ⟨t, rfl⟩ := r; rfl
  | str z => obtain ⟨t, rfl⟩ := r; rfl
  | _ => exact absurd (show false = true from f) Bool.false_ne_true
theorem any_eqU {x : V} : ∀ {xs : List V} {us : List Value}, Vals xs us → xs.all flatV = true → us.any (eqU x) = xs.any fun y => eqV y x
  | _, _, .nil, _ => rfl
  | y :: xs, u :: us, .cons r t, f => by
    rw [List.all_cons, Bool.and_eq_true] at f
    rw [List.any_cons, List.any_cons, eqU_of r f.1, any_eqU t f.2]
theorem mem_eqAt {A : Around} {s : Shared} {x : V} {v : Value} (rx : RelV x v) (fx : flatV x = true) : ∀ {xs : List V} {us : List Value}, Vals xs us → xs.all flatV = true → ∀ u ∈ us, SeqAt.EqAt A s u v (eqU x u)
  | _, _, .nil, _ => fun u hu => by cases hu
  | y :: xs, u :: us, .cons r t, f => fun u' hu => by
    rw [List.all_cons, Bool.and_eq_true] at f
    rcases List.mem_cons.mp hu with rfl | hu
    · rw [eqU_of r f.1]; exact eqAt_V r rx f.1 fx
    · exact mem_eqAt rx fx t f.2 u' hu
def inV (x : V) (xs : List V) : Bool := xs.any fun y => eqV y x
/-- x in a list or tuple of flat items -/
def rIn (K : PySem.W.Frag) (neg : Bool) : R2 := fun x y H Q => ∃ p xs, y = .ref p ∧ (SqL K H p xs ∨ SqT K H p xs) ∧ flatV x = true ∧ xs.all flatV = true ∧ Q (.bl (if neg then !inV x xs else inV x xs)) H
theorem op_in_seq : OpR X (compareOp .In) (rIn X.K false) := by
  intro pins s σ H x y v u Q I rx ry h
  obtain ⟨p, xs, rfl, hq, fx, fs, q⟩ := h
  cases ry
  rcases hq with hq | hq
  · obtain ⟨its, r, pl, hz⟩ := I.list hq
    refine SeqAt.in_listAt (eqU x) pl.isList (fun w hw => mem_eqAt rx fx r fs w (by simpa using hw)) ⟨.bl _, H, I, rfl, ?_⟩
    rw [show its.toArray.any (eqU x) = its.any (eqU x) by simp, any_eqU r fs]
    exact q
  · obtain ⟨its, r, pl, hz⟩ := I.tuple hq
    refine SeqAt.in_tupleAt (eqU x) pl (fun w hw => mem_eqAt rx fx r fs w (by simpa using hw)) ⟨.bl _, H, I, rfl, ?_⟩
    rw [show its.toArray.any (eqU x) = its.any (eqU x) by simp, any_eqU r fs]
    exact q
/-! ### len, list(x), tuple(x) of any list or tuple that is read -/
theorem call_list_of : CallR X (.type "list") (fun xs H Q => ∃ p ys, xs = [.ref p] ∧ (SqL X.K H p ys ∨ SqT X.K H p ys) ∧ ∀ l, H l = none → Q (.ref l) (upd H l (.lst ys))) := by
  intro pins s σ H xs us Q I r h
  obtain ⟨p, ys, rfl, hq, q⟩ := h
  obtain ⟨u, rfl, rx⟩ := vals1 r
  cases rx
  have fin : ∀ (its : List Value), Vals ys its → ys.length ≤ sizeLine → ∀ (h' : Heap) (c' : Nat), (∀ b o', s.heap.get? b = some o' → h'.get? b = some o') →
      h'.get? s.heap.objs.size = some { cls := .type "list", dict := none, data := .seq its.toArray c', slots := #[] } → EP X pins σ Q (.ref s.heap.objs.size) { s with heap := h' } := fun its r' hz h' c' kp e =>
    ⟨.ref s.heap.objs.size, _, I.laid (t' := s.toks) kp (Nat.le_refl _) (show ObjOk X.prog X.w _ h' _ (.lst ys) from ⟨hz, its, c', r', e⟩), rfl, q _ (I.hok.fresh (Nat.le_refl _))⟩
  rcases hq with hq | hq
  · obtain ⟨its, r', pl, hz⟩ := I.list hq
    have hlen := r'.length
    obtain ⟨o, ho, hc, n, hd⟩ := pl.isList
    exact call_list_seq p (.inl rfl) ho hc hd (fun h' c' kp e => fin its r' hz h' c' kp e) (by simp only [List.size_toArray] <;> omega)
  · obtain ⟨its, r', pl, hz⟩ := I.tuple hq
    have hlen := r'.length
    obtain ⟨o, ho, hc, n, hd⟩ := pl
    exact call_list_seq p (.inr rfl) ho hc hd (fun h' c' kp e => fin its r' hz h' c' kp e) (by simp only [List.size_toArray] <;> omega)
/-! ### the call of a builtin's method: o.m(..) -/
/-- the value is of that builtin type -/
def tyV (K : PySem.W.Frag) (T : String) (x : V) (H : Hp) : Prop := match x with
  | .str _ => T = "str"
  | .int _ => T = "int"
  | .ref p => (T = "list" ∧ ∃ xs, SqL K H p xs) ∨ (T = "tuple" ∧ ∃ o, K.lookup p = some o ∧ o.cls = .type "tuple" ∧ o.dict = none) ∨
      (T = "dict" ∧ ((∃ kvs, H p = some (.dK kvs)) ∨ ∃ kvs, H p = some (.dT kvs))) ∨ (T = "set" ∧ ∃ S n, H p = some (.set S n))
  | _ => False
theorem tyV_is {pins : List (Addr × Obj)} {σ : St} {H : Hp} {s : Shared} {T : String} {x : V} {v : Value} (I : Inv X pins σ H s) (r : RelV x v) (ty : tyV X.K T x H) :
    s.TypeIs v T ∧ ∀ a, v = .ref a → ∃ ob, s.heap.get? a = some ob ∧ ob.dict = none := by
  cases x with
  | str z =>
    obtain ⟨t, rfl⟩ := r
    cases (show T = "str" from ty)
    exact ⟨typeIs_str s z t, fun _ e => nomatch e⟩
  | int i =>
    obtain ⟨t, rfl⟩ := r
    cases (show T = "int" from ty)
    exact ⟨typeIs_int s i t, fun _ e => nomatch e⟩
  | ref p =>
    cases r
    rcases ty with ⟨rfl, xs, hq⟩ | ⟨rfl, o, hk, hc, hd⟩ | ⟨rfl, hk⟩ | ⟨rfl, S, n, hk⟩
    · obtain ⟨its, _, pl, _⟩ := I.list hq
      refine ⟨pl.isList.typeIs, fun a e => ?_⟩
      cases e
      obtain ⟨o, n, e, c, hd, _⟩ := pl
      exact ⟨o, e, hd⟩
    · refine ⟨⟨o, I.kIn p o hk, hc⟩, fun a e => ?_⟩
      cases e
      exact ⟨o, I.kIn _ o hk, hd⟩
    · have z : ∃ o, s.heap.get? p = some o ∧ o.ExactDict := by
        rcases hk with ⟨kvs, hk⟩ | ⟨kvs, hk⟩
        · obtain ⟨_, _, _, _, o, _, _, e, ex, _⟩ := I.hok p _ hk
          exact ⟨o, e, ex⟩
        · obtain ⟨_, _, _, _, o, _, _, e, ex, _⟩ := I.hok p _ hk
          exact ⟨o, e, ex⟩
      obtain ⟨o, e, ex⟩ := z
      refine ⟨⟨o, e, ex.1⟩, fun a e2 => ?_⟩
      cases e2
      exact ⟨o, e, ex.2.1⟩
    · obtain ⟨o, _, _, _, e, ex, _⟩ := I.hok p _ hk
      refine ⟨⟨o, e, ex.1⟩, fun a e2 => ?_⟩
      cases e2
      exact ⟨o, e, ex.2.1⟩
  | _ => exact False.elim ty
def tBM0 (K : PySem.W.Frag) (T : String) (r : V → List V → Hp → VK → Prop) (to : TE) : TE := fun σ H Q => to σ H fun x H1 => tyV K T x H1 ∧ r x [] H1 Q
def tBM (K : PySem.W.Frag) (T : String) (r : V → List V → Hp → VK → Prop) (to : TE) (t : TA) : TE := fun σ H Q => to σ H fun x H1 => tyV K T x H1 ∧ t σ H1 fun xs H2 => r x xs H2 Q
variable {o e : Expr} {es : List Expr} {to : TE} {t : TA} {name : Str} {apos cpos : Pos} {T id : String} {r : V → List V → Hp → VK → Prop}
theorem pe_bm0 (pa : PlainAttrs T) (slot : Slot T name id) (hty : typeOf (.builtin id) = pure (.type "method_descriptor")) (hm : MtR X id r) (ho : PE X o to)
    (hbase : attributeBase o name X.env (eval o X.env) = eval o X.env := by rfl) (hline : (apos.endLine == cpos.line) = true := by rfl) : PE X (.Call (.Attribute o name apos) [] [] cpos) (tBM0 X.K T r to) := by
  intro pins s σ H Q I h
  refine wpAny_Call_method0_late hbase hline (thn (ho pins s σ H _ I h) fun v s1 ⟨x, H1, I1, r1, ty, q1⟩ => ?_)
  obtain ⟨h1, h2⟩ := tyV_is I1 r1 ty
  exact ⟨T, id, pa, slot, hty, h1, h2, Calls.callWith_builtin rfl (PySem.evalArgs_none (hm pins s1 σ H1 x [] v [] Q I1 r1 .nil q1))⟩
theorem pe_bm (pa : PlainAttrs T) (slot : Slot T name id) (hty : typeOf (.builtin id) = pure (.type "method_descriptor")) (hm : MtR X id r) (ho : PE X o to) (ha : PA X (e :: es) t)
    (hbase : attributeBase o name X.env (eval o X.env) = eval o X.env := by rfl)
    (hfew : ((backTo cpos (starEach (e :: es) X.env)).all (fun x => !x.1) && (backToKw cpos (keywordEach [] X.env)).all (fun x => x.1.isSome)
      && decide ((e :: es).length + ([] : List Keyword).length + (if ([] : List Keyword).isEmpty then 0 else 1) < 30)) = true := by rfl)
    (hline : (apos.endLine == cpos.line) = true := by rfl) (hs : starEach (e :: es) X.env = (false, eval e X.env) :: starEach es X.env := by rfl) (hplain : (backTo cpos (starEach es X.env)).any (·.1) = false := by rfl) :
    PE X (.Call (.Attribute o name apos) (e :: es) [] cpos) (tBM X.K T r to t) := by
  intro pins s σ H Q I h
  refine wpAny_Call_method_late hbase hfew hline rfl (thn (ho pins s σ H _ I h) fun v s1 ⟨x, H1, I1, r1, ty, q1⟩ => ?_)
  obtain ⟨h1, h2⟩ := tyV_is I1 r1 ty
  refine ⟨T, id, pa, slot, hty, h1, h2, ?_⟩
  have hA := ha cpos pins s1 σ H1 _ I1 q1
  rw [hs] at hA ⊢
  refine Calls.callWith_builtin (by show (false || (backTo cpos (starEach es X.env)).any (·.1)) = false; rw [hplain] <;> rfl) (Calls.evalArgs_plain ?_)
  exact thn hA fun us s2 ⟨vs, H2, I2, r2, q2⟩ => hm pins s2 σ H2 x vs v us Q I2 r1 r2 q2
/- xs.append(e), list.index on a module's tuple .. are MtR facts of 06m -/
end
end L2

namespace L2
open PySem PySem.Spec PyProof.Rows

def MtM (X : Cx) (id : String) (r : V → List V → Hp → VK → Prop) : Prop :=
  ∀ (pins : List (Addr × Obj)) (s : Shared) (σ : St) (H : Hp) (x : V) (xs : List V) (v : Value) (us : List Value) (Q : VK), Inv X pins σ H s → RelV x v → Vals xs us → r x xs H Q →
    wpAny (model X.prog X.w) X.A (call (.builtin id) (v :: us)) (EP X pins σ Q) X.xe s

/-! ### lists of values -/
theorem Vals.one : ∀ {x : V} {us : List Value}, Vals [x] us → ∃ u, us = [u] ∧ RelV x u
  | _, _, .cons r .nil => ⟨_, rfl, r⟩
theorem Vals.zero : ∀ {us : List Value}, Vals [] us → us = []
  | _, .nil => rfl
theorem Vals.dropLast {xs : List V} {us : List Value} (h : Vals xs us) : Vals xs.dropLast us.dropLast := by
  induction h with
  | nil => exact .nil
  | cons r t ih =>
    cases t with
    | nil => exact .nil
    | cons q t' => exact .cons r ih
theorem Vals.eraseIdx : ∀ {xs : List V} {us : List Value} (i : Nat), Vals xs us → Vals (xs.eraseIdx i) (us.eraseIdx i)
  | _, _, _, .nil => .nil
  | _, _, 0, .cons _ t => t
  | _, _, i + 1, .cons r t => .cons r (Vals.eraseIdx i t)
theorem Vals.rep {xs : List V} {us : List Value} (h : Vals xs us) : ∀ k : Nat, Vals (List.replicate k xs).flatten (List.replicate k us).flatten
  | 0 => .nil
  | k + 1 => by
    rw [List.replicate_succ, List.replicate_succ, List.flatten_cons, List.flatten_cons]
    exact Vals.append h (Vals.rep h k)
theorem erase_last {α : Type} (l : List α) : l.eraseIdx (l.length - 1) = l.dropLast := by
  induction l with
  | nil => rfl
  | cons a r ih =>
    cases r with
    | nil => rfl
    | cons b r =>
      have e : (a :: b :: r).length - 1 = ((b :: r).length - 1) + 1 := by
        have h1 : (a :: b :: r).length = r.length + 2 := rfl
        have h2 : (b :: r).length = r.length + 1 := rfl
        omega
      rw [e, List.eraseIdx_cons_succ, ih]
      all_goals rfl
theorem len_erase {α : Type} : ∀ (l : List α) (i : Nat), (l.eraseIdx i).length ≤ l.length
  | [], _ => Nat.le_refl _
  | _ :: _, 0 => Nat.le_succ _
  | _ :: r, i + 1 => Nat.succ_le_succ (len_erase r i)
theorem foldl_rep (its : List Value) : ∀ (k : Nat) (acc : List Value),
    List.foldl (fun x1 x2 => x1 ++ x2) acc.toArray (List.replicate k its.toArray) = (acc ++ (List.replicate k its).flatten).toArray
  | 0, acc => by simp
  | k + 1, acc => by
    have e : acc.toArray ++ its.toArray = (acc ++ its).toArray := by simp
    have e2 : (acc ++ its) ++ (List.replicate k its).flatten = acc ++ (List.replicate (k + 1) its).flatten := by
      rw [List.replicate_succ, List.flatten_cons, List.append_assoc]
    rw [← e2, ← foldl_rep its k (acc ++ its), ← e, List.replicate_succ, List.foldl_cons]

section
variable {X : Cx} {pins : List (Addr × Obj)} {σ : St} {H : Hp} {s : Shared} {l b : Addr} {xs ys zs : List V}

/-! ### the two steps: a tracked list is rewritten, a new list is laid -/
theorem Inv.lset {its its' : List Value} {n : Nat} {f : Array Value → Array Value} {t' : Nat} (I : Inv X pins σ H s) (hH : H l = some (.lst xs))
    (e : s.heap.get? l = some { cls := .type "list", data := .seq its.toArray n }) (hf : f its.toArray = its'.toArray) (hv : Vals ys its') (hz : ys.length ≤ sizeLine) :
    Inv X pins σ (upd H l (.lst ys)) { s with heap := s.heap.update l (Obj.mapSeq f), toks := t' } := by
  have q := PySem.IsL.update e f
  rw [hf] at q
  refine I.write (x := l) (e := l) (by rw [hH]; exact trivial) (.inl rfl) (fun b' u hb hu => (Heap.get?_update_other s.heap (Obj.mapSeq f) (Ne.symm hb)).trans hu) ⟨_, q⟩ ?_
  exact ⟨hz, its', _, hv, q⟩
theorem Inv.lnew {its : List Value} {t' : Nat} (I : Inv X pins σ H s) (hv : Vals ys its) (hz : ys.length ≤ sizeLine) :
    Inv X pins σ (upd H s.heap.objs.size (.lst ys)) { s with heap := s.heap.push { cls := .type "list", data := .seq its.toArray }, toks := t' } :=
  I.laid (fun _ _ q => Heap.get?_push_of_some _ q) (Nat.le_refl _) ⟨hz, its, 0, hv, Heap.get?_push_size _ rfl⟩
theorem Inv.fresh (I : Inv X pins σ H s) : H s.heap.objs.size = none := I.hok.fresh (Nat.le_refl _)
theorem Inv.lstM (I : Inv X pins σ H s) (hH : H l = some (.lst xs)) : xs.length ≤ sizeLine ∧ ∃ (its : List Value) (n : Nat), Vals xs its ∧ xs.length = its.length ∧ s.heap.get? l = some { cls := .type "list", data := .seq its.toArray n } := by
  obtain ⟨z, its, n, r, e⟩ := I.hok l _ hH
  exact ⟨z, its, n, r, r.length, e⟩

theorem notLongL {n : Nat} (h : n ≤ sizeLine) : Builtin.List.listTooLong n = false := by
  unfold Builtin.List.listTooLong
  exact decide_eq_false (by omega)
end

section
variable {X : Cx}

/-! ### methods -/
def rAppend : V → List V → Hp → VK → Prop := fun x vs H Q => ∃ l xs y, x = .ref l ∧ vs = [y] ∧ H l = some (.lst xs) ∧ xs.length < sizeLine ∧ Q .non (upd H l (.lst (xs ++ [y])))
theorem mt_append : MtM X "list.append" rAppend := by
  intro pins s σ H x vs v us Q I rx rv h
  obtain ⟨l, xs, y, rfl, rfl, hH, hz, q⟩ := h
  cases rx
  obtain ⟨u, rfl, ru⟩ := rv.one
  obtain ⟨z, its, n, r, hl, e⟩ := I.lstM hH
  refine call_meets F.slot_list_append ⟨_, e, rfl⟩ F.entry_list_append (F.args_list_append_2 _ _) (PySem.list_append l its.toArray n u (by rw [List.size_toArray]; omega)) ⟨e, ?_⟩
  refine ⟨.non, _, I.lset (its' := its ++ [u]) hH e (by simp) (r.append (.cons ru .nil)) ?_, rfl, q⟩
  rw [List.length_append, List.length_singleton]
  omega

def rExtend : V → List V → Hp → VK → Prop := fun x vs H Q => ∃ l b xs zs, x = .ref l ∧ vs = [.ref b] ∧ H l = some (.lst xs) ∧ H b = some (.lst zs) ∧ xs.length + zs.length ≤ sizeLine ∧ Q .non (upd H l (.lst (xs ++ zs)))
theorem mt_extend : MtM X "list.extend" rExtend := by
  intro pins s σ H x vs v us Q I rx rv h
  obtain ⟨l, b, xs, zs, rfl, rfl, hH, hB, hz, q⟩ := h
  cases rx
  obtain ⟨u, rfl, ru⟩ := rv.one
  cases ru
  obtain ⟨z, its, n, r, hl, e⟩ := I.lstM hH
  obtain ⟨z2, its2, n2, r2, hl2, e2⟩ := I.lstM hB
  have hsz : its.toArray.size + its2.toArray.size ≤ sizeLine := by rw [List.size_toArray, List.size_toArray]; omega
  have hlong : ¬ (!its.toArray.isEmpty && Builtin.List.listTooLong (its.toArray.size + its2.toArray.size)) = true := by
    rw [notLongL hsz, Bool.and_false]
    exact Bool.false_ne_true
  refine call_meets F.slot_list_extend ⟨_, e, rfl⟩ F.entry_list_extend (F.args_list_extend_2 _ _)
    (AutoSeq1.list_extend_list_list_0 l its.toArray n b its2.toArray n2 hlong (by rw [List.size_toArray]; omega) (by omega)) ⟨e, e2, ?_⟩
  refine ⟨.non, _, I.lset (its' := its ++ its2) hH e (by simp) (r.append r2) ?_, rfl, q⟩
  rw [List.length_append]
  omega

def rPop : V → List V → Hp → VK → Prop := fun x vs H Q => ∃ l xs y, x = .ref l ∧ vs = [] ∧ H l = some (.lst xs) ∧ xs[xs.length - 1]? = some y ∧ Q y (upd H l (.lst xs.dropLast))
theorem mt_pop : MtM X "list.pop" rPop := by
  intro pins s σ H x vs v us Q I rx rv h
  obtain ⟨l, xs, y, rfl, rfl, hH, hy, q⟩ := h
  cases rx
  have hus := rv.zero
  subst hus
  obtain ⟨z, its, n, r, hl, e⟩ := I.lstM hH
  obtain ⟨u, hu, ru⟩ := r.get hy
  have hy' : its.toArray[its.toArray.size - 1]? = some u := by
    show its.toArray[its.length - 1]? = some u
    rw [← Array.getElem?_toList, ← hl]
    exact hu
  refine call_meets F.slot_list_pop ⟨_, e, rfl⟩ F.entry_list_pop (F.args_list_pop_1 _) (MeetsSeq.list_pop_last l its.toArray n u hy' (by rw [List.size_toArray]; omega)) ⟨e, ?_⟩
  refine ⟨y, _, I.lset (its' := its.dropLast) hH e ?_ r.dropLast ?_, ru, q⟩
  · show its.toArray.eraseIdxIfInBounds (its.toArray.size - 1) = its.dropLast.toArray
    rw [List.size_toArray, List.eraseIdxIfInBounds_toArray, erase_last]
  · rw [List.length_dropLast]
    omega

def rPopAt : V → List V → Hp → VK → Prop := fun x vs H Q => ∃ l xs i k y, x = .ref l ∧ vs = [.int i] ∧ H l = some (.lst xs) ∧ -(2 ^ 63) ≤ i ∧ i < 2 ^ 63 ∧ seqIndex? i xs.length = some k ∧ xs[k]? = some y ∧ Q y (upd H l (.lst (xs.eraseIdx k)))
theorem mt_popAt : MtM X "list.pop" rPopAt := by
  intro pins s σ H x vs v us Q I rx rv h
  obtain ⟨l, xs, i, k, y, rfl, rfl, hH, h1, h2, hk, hy, q⟩ := h
  cases rx
  obtain ⟨u, rfl, ru⟩ := rv.one
  obtain ⟨t, rfl⟩ := ru
  obtain ⟨z, its, n, r, hl, e⟩ := I.lstM hH
  obtain ⟨w, hw, rw'⟩ := r.get hy
  refine call_meets F.slot_list_pop ⟨_, e, rfl⟩ F.entry_list_pop (F.args_list_pop_2 _ _)
    (MeetsSeq.list_pop_at l its.toArray n i t k w (fitsIndex_both h1 h2) (by rw [List.size_toArray, ← hl]; exact hk) (by rw [← Array.getElem?_toList]; exact hw) (by rw [List.size_toArray]; omega)) ⟨e, ?_⟩
  refine ⟨y, _, I.lset (its' := its.eraseIdx k) hH e ?_ (r.eraseIdx k) ?_, rw', q⟩
  · show its.toArray.eraseIdxIfInBounds k = (its.eraseIdx k).toArray
    rw [List.eraseIdxIfInBounds_toArray]
  · have := len_erase xs k
    omega

/-! ### list + list, list += list, list * int -/
def rCat : R2 := fun x y H Q => ∃ l b xs zs, x = .ref l ∧ y = .ref b ∧ H l = some (.lst xs) ∧ H b = some (.lst zs) ∧ xs.length + zs.length ≤ sizeLine ∧ ∀ p, H p = none → Q (.ref p) (upd H p (.lst (xs ++ zs)))
theorem op_cat : OpR X (binaryOp .Add) rCat := by
  intro pins s σ H x y v u Q I rx ry h
  obtain ⟨l, b, xs, zs, rfl, rfl, hH, hB, hz, q⟩ := h
  cases rx
  cases ry
  obtain ⟨z, its, n, r, hl, e⟩ := I.lstM hH
  obtain ⟨z2, its2, n2, r2, hl2, e2⟩ := I.lstM hB
  refine PySem.P.add_list e e2 ?_ (by rw [List.size_toArray, List.size_toArray]; omega)
  have ea : its.toArray ++ its2.toArray = (its ++ its2).toArray := by simp
  rw [ea]
  exact ⟨.ref _, _, I.lnew (t' := s.toks) (r.append r2) (by rw [List.length_append]; omega), rfl, q _ I.fresh⟩
/-- a list times an int (a negative one is nothing) -/
def rRep : R2 := fun x y H Q => ∃ l k xs, x = .ref l ∧ y = .int k ∧ H l = some (.lst xs) ∧ -(2 ^ 63) ≤ k ∧ k < 2 ^ 63 ∧ xs.length * k.toNat ≤ sizeLine ∧
  ∀ p, H p = none → Q (.ref p) (upd H p (.lst (List.replicate k.toNat xs).flatten))
theorem len_rep {α : Type} (xs : List α) (k : Nat) : (List.replicate k xs).flatten.length = k * xs.length := by
  induction k with
  | zero => simp
  | succ k ih => rw [List.replicate_succ, List.flatten_cons, List.length_append, ih, Nat.succ_mul, Nat.add_comm]
theorem op_rep : OpR X (binaryOp .Mult) rRep := by
  intro pins s σ H x y v u Q I rx ry h
  obtain ⟨l, k, xs, rfl, rfl, hH, h1, h2, hz, q⟩ := h
  cases rx
  obtain ⟨t, rfl⟩ := ry
  obtain ⟨z, its, n, r, hl, e⟩ := I.lstM hH
  have hlen : its.toArray.size * k.toNat ≤ sizeLine := by rw [List.size_toArray, ← hl]; exact hz
  have hcap : ¬ its.toArray.size * k.toNat > (2 ^ 63 - 1) / 8 := by
    have : (sizeLine : Nat) ≤ (2 ^ 63 - 1) / 8 := by decide
    omega
  have hfit : ¬ (!Builtin.List.listFitsIndex k) = true := by
    rw [fitsIndex_both h1 h2]
    exact Bool.false_ne_true
  have hlong : ¬ Builtin.List.listTooLong (its.toArray.size * k.toNat) = true := by
    rw [notLongL hlen]
    exact Bool.false_ne_true
  have hnew : List.foldl (fun x1 x2 => x1 ++ x2) #[] (List.replicate (if its.toArray.isEmpty = true then 0 else k.toNat) its.toArray) = (List.replicate k.toNat its).flatten.toArray := by
    have f0 : ∀ m : Nat, List.foldl (fun x1 x2 => x1 ++ x2) #[] (List.replicate m its.toArray) = (List.replicate m its).flatten.toArray := fun m => by
      have := foldl_rep its m []
      rw [List.nil_append] at this
      exact this
    rw [f0]
    cases its with
    | nil => simp
    | cons a r' => rw [if_neg (by simp)]
  refine wpAny_binaryOp_repeat_ref (T := "list") (U := "int") (by decide) ⟨_, e, rfl⟩ (fun s' => typeIs_int s' k t) noFill_list_mul F.fills_int_mul F.slot_int_rmul repeat_list F.slot_int_index.lookup
    (call_meets F.slot_int_rmul (typeIs_int s k t) F.entry_int_rmul (F.args_int_rmul_2 _ _) (int___rmul___int_list k t l its.toArray n)
      ⟨e, rfl, ⟨_, e, rfl⟩, call_meets F.slot_list_mul ⟨_, e, rfl⟩ F.entry_list_mul (F.args_list_mul_2 _ _) (AutoListH.list___mul___list_int_3 l its.toArray n k t hfit hcap hlong) ⟨e, ?_⟩⟩)
  rw [hnew]
  exact ⟨.ref _, _, I.lnew (t' := s.toks) (r.rep k.toNat) (by rw [len_rep, Nat.mul_comm]; exact hz), rfl, q _ I.fresh⟩

/-! ### del xs[i] -/
end

/-! ### xs[a:b] = ys -/
section
variable {prog : Program} {w : World} {A : Around} {E : Value → Shared → Prop} {s : Shared}
set_option maxRecDepth 100000 in
end

section
variable {X : Cx}
end
end L2

namespace L2
open PySem PySem.Spec PyProof.Rows

/-! ### lists of pairs as tables -/
section
variable {κ : Type} [DecidableEq κ]
end


/-! ### a tracked dict, its keys ints and texts or tuples of these -/
section
variable {P : Program} {w : World} {H : Hp} {h : Heap} {a : Addr}
end

section
variable {X : Cx} {pins : List (Addr × Obj)} {σ : St} {H : Hp} {s : Shared} {a : Addr} {y v : V} {u r : Value} {o : Option V} {A : Around} {E : Value → Shared → Prop}

end

section
variable {X : Cx} {pins : List (Addr × Obj)} {σ : St} {H : Hp} {s : Shared} {a : Addr} {kvs : List (Key × V)} {k : Key} {u : Value} {A : Around} {E : Value → Shared → Prop}
end


/-! ### readings and rules -/
section
variable {X : Cx} {o i e value : Expr} {pos pos' tpos : Pos} {td ty tv : TE}
end


/-! ### displays -/
section
variable {X : Cx} {pos : Pos}
end

/-! ### methods -/
/-- a method call o.m(e) of a built-in, with one argument: what must be seen of the text -/
structure M1 (X : Cx) (o : Expr) (m : Str) (apos : Pos) (e : Expr) (cpos : Pos) : Prop where
  base : attributeBase o m X.env (eval o X.env) = eval o X.env
  few : ((backTo cpos (starEach [e] X.env)).all (fun x => !x.1) && (backToKw cpos (keywordEach [] X.env)).all (fun x => x.1.isSome)
    && decide (([e] : List Expr).length + ([] : List Keyword).length + (if ([] : List Keyword).isEmpty then 0 else 1) < 30)) = true
  line : (apos.endLine == cpos.line) = true
  trees : backTo cpos (starEach [e] X.env) = [(false, eval e X.env)]
structure M2 (X : Cx) (o : Expr) (m : Str) (apos : Pos) (e f : Expr) (cpos : Pos) : Prop where
  base : attributeBase o m X.env (eval o X.env) = eval o X.env
  few : ((backTo cpos (starEach [e, f] X.env)).all (fun x => !x.1) && (backToKw cpos (keywordEach [] X.env)).all (fun x => x.1.isSome)
    && decide (([e, f] : List Expr).length + ([] : List Keyword).length + (if ([] : List Keyword).isEmpty then 0 else 1) < 30)) = true
  line : (apos.endLine == cpos.line) = true
  trees : backTo cpos (starEach [e, f] X.env) = [(false, eval e X.env), (false, eval f X.env)]

section
variable {X : Cx} {pins : List (Addr × Obj)} {σ : St} {H : Hp} {s : Shared} {a : Addr} {y d : V} {u r : Value} {o : Option V} {A : Around} {E : Value → Shared → Prop}
end

section
variable {X : Cx} {o e f : Expr} {apos cpos : Pos} {td ty tx : TE}
end

/-! ### dict(d): a copy -/
section
variable {X : Cx} {pins : List (Addr × Obj)} {σ : St} {H : Hp} {s : Shared} {a : Addr} {kvs : List (Key × V)} {A : Around} {E : Value → Shared → Prop}
end


section
variable {X : Cx} {pins : List (Addr × Obj)} {σ : St} {H : Hp} {s : Shared} {a : Addr} {y : V} {u : Value} {A : Around} {E : Value → Shared → Prop}
end
end L2

namespace Att
open PySem PySem.W PySem.Calls PyProof.Rows

/-! ### the script -/
theorem ints_of_wellAll {P : Params} {h : Heap} : ∀ (ns : List Int) (vs : List Value), WellAll P h vs (ns.map WData.int) → IntsAre vs ns := by
  intro ns
  induction ns with
  | nil =>
    intro vs w
    rw [List.map_nil] at w
    cases w
    exact .nil
  | cons n ns ih =>
    intro vs w
    rw [List.map_cons] at w
    cases w with
    | cons a b =>
      cases a
      exact .cons _ _ (ih _ b)

theorem script_of {l : OpenLaw} {n : Nat} (hn : l.most = some n) {P : Params} {h : Heap} {args : List WData} {vals : List Value}
    (hpre : l.row.toRowW.claim.pre args = true) (hwl : WellAll P h vals args) :
    ∃ a vs ns, vals = [Value.ref a] ∧ args = [WData.list (ns.map WData.int)] ∧ h.get? a = some { cls := .type "list", data := .seq vs.toArray } ∧ IntsAre vs ns ∧ ns.length ≤ n := by
  have hsh : WShape.hasAll [] args [.list .int] = true := (pre_splitW hpre).1
  have hc : l.pre.holds [] { args := args } = true := (pre_splitW hpre).2
  obtain ⟨d, r, rfl, h1, h2⟩ := hasAllW_cons hsh
  obtain rfl := hasAllW_nil h2
  obtain ⟨xs, rfl, h3⟩ := hasW_list h1
  obtain ⟨ns, rfl⟩ := items_int h3
  have hlen : ns.length ≤ n := by
    unfold OpenLaw.pre at hc
    have h4 : (WTm.not (.lt (.lit (.int (n : Int))) (.len (.arg 0)))).holds [] { args := [.list (ns.map .int)] } = true := by
      have h4 := (holds_andW hc).1
      rw [hn] at h4
      exact h4
    have h5 := condW_of h4 (w_not (w_lt w_lit (w_len_list (w_arg rfl))))
    rw [List.length_map] at h5
    refine Nat.le_of_not_lt fun q => ?_
    have q' : (n : Int) < ((ns.length : Nat) : Int) := by omega
    first
      | (rw [decide_eq_true q'] at h5; exact absurd h5 (by decide))
      | (simp at h5; omega)
  cases hwl with
  | cons w1 w2 =>
    cases w2
    cases w1 with
    | list ho hall => exact ⟨_, _, ns, rfl, rfl, ho, ints_of_wellAll ns _ hall, hlen⟩

theorem post_true (l : OpenLaw) (args : List WData) : l.row.toRowW.claim.post args (.bool true) args = true :=
  postW_of (r := l.row.toRowW) (X := (true == true))
    (show WShape.has [] (.bool true) .bool = true by first | rfl | decide | simp [WShape.has, WShape.arms, WShape.armsAll])
    (show (WTm.eq .res (.lit (.bool true))).value [] { args := args, res := some (.bool true), after := args } = some (.bool (true == true)) from w_eq_bool (w_res rfl) w_lit) rfl

/-! ### the attachment: holds_open's last premise (the goal 'hc' behind k_head) from a wpAny of the law's body -/
/-- the same from a codeAny of the CALL (for a layer whose function contracts speak of calls) -/
theorem attach_call {l : OpenLaw} {n : Nat} {q : Program} {loose : List Str} {XP : (Str → Option Value) → Heap → Prop} {YP : World → Heap → Prop} {d : DefRec}
    (hn : l.most = some n) (hdf : d.params.defaults = [])
    (call : ∀ (w : World) (s₀ s₁ : Shared) (mg mb : Str → Option Value) (fa : Addr) (o : Obj) (pm cd doc : Value) (a : Addr) (vs : List Value) (ns : List Int),
      Ground q loose [] XP w s₀ mg mb s₁.heap → YP w s₁.heap →
      s₁.heap.get? fa = some o → o.data = .func (docDef d.name d.params d.body d.scope pm cd doc) → s₁.heap.CodeRec cd d.name → mg d.name = some (.ref fa) →
      s₁.heap.get? a = some { cls := .type "list", data := .seq vs.toArray } → IntsAre vs ns → ns.length ≤ n → s₁.gens = #[] →
      codeAny (model l.prog w) callerA (.call (.ref fa) ⟨[.ref a], []⟩) (fun r s' => r = .ok (.ret (.bool true)) ∧ OldK s₁.heap s'.heap ∧ s'.os = s₁.os ∧ AllBare s'.gens) s₁) :
    WalkO q loose XP YP l.row.toRowW d [] (fun f vs => PySem.call f vs) := by
  intro w s₀ s₁ mg mb G Y fa o pm cd doc dV kV ho hd hcd hD hmg hg args vals as hpre hlay hrd hwl hlo
  obtain rfl : dV = .none := Dflts.none hD hdf
  obtain rfl : kV = .none := Dflts.noKw hD
  obtain ⟨a, vs, ns, rfl, rfl, hobj, hints, hlen⟩ := script_of hn hpre hwl
  refine enter_call (codeAny_mono (call w s₀ s₁ mg mb fa o pm cd doc a vs ns G Y ho (fd_plain hd) hcd hmg hobj hints hlen hg) fun r s' hq => ?_)
  obtain ⟨rfl, h2, h3, h4⟩ := hq
  exact ⟨.inl ⟨.bool true, .bool true, [], rfl, fun _ => rfl, .bool true, post_true l _, fun _ => ⟨List.Pairwise.nil, fun _ hm => (nomatch hm)⟩⟩, h2, h3, h4⟩

/-! ### rules over ANY heap (no ledger) from facts about the written part K: the library's own take a ledger (News) for what they write -/
section
variable {prog : Program} {w : World} {A : Around} {E : Value → Shared → Prop} {s : Shared} {K : Frag}

/-! the whole heap as the ledger: makes every rule that writes through a ledger a rule over any heap -/
def ledger (h : Heap) (L d : Addr) : List (Addr × Obj) := (List.range h.objs.size).filterMap fun a => if a = L ∨ a = d then none else (h.get? a).map fun o => (a, o)
end
end Att

namespace L2
open PySem PySem.Spec PyProof.Rows

theorem vals_ints : ∀ {vs : List Value} {ns : List Int}, IntsAre vs ns → Vals (ns.map V.int) vs
  | _, _, .nil => .nil
  | _, _, .cons n t h => .cons ⟨t, rfl⟩ (vals_ints h)

/-- nothing is tracked but the script, known to the object (or it is an object of the module) -/
def Only (H : Hp) : Prop := ∀ b, H b = none ∨ ∃ o xs, H b = some (.frz o (.lst xs))

/-- THE HEAD: the law's promise, at the heap behind the top. F, the promise of the law's def, may use that base is part of the heap (so K.In base, base.Ns mainGlobals mg stand in Mod) -/
theorem law_call {P : Program} {w : World} {K : PySem.W.Frag} {mg mb : Str → Option Value} {CX : CXT} {k : Nat} {fa a : Addr} {fd : FuncData} {x : Str} {sp : Sp} {s₁ : Shared} {vs : List Value} {ns : List Int}
    (KX : K.In s₁.heap) (hns : s₁.heap.Ns mainGlobals mg) (hb : s₁.heap.Ns builtinsNs mb) (hbb : ∀ x : Str, x ≠ "__name__" → mb x = bootBuiltins x) (hlim : s₁.heap.NoLimit) (hg : s₁.gens = #[])
    (ha : s₁.heap.get? a = some { cls := .type "list", data := .seq vs.toArray }) (hi : IntsAre vs ns) (hl : ns.length ≤ sizeLine) (hr : Room k callerA)
    (F : ∀ base : Heap, K.In base → base.Ns mainGlobals mg → FnOk P w K mg base CX k fa fd [x] sp) (hbind : ∀ (s : Shared) (u : Value), BindsTo s fd ⟨[u], []⟩ [(x, u)])
    (hsp : ∀ H : Hp, Only H → SqL K H a (ns.map V.int) → sp [.ref a] H (fun v _ => v = .bl true) fun _ _ _ => False)
    (hCX : ∀ H e s', CX [] H s₁ (fun _ _ _ => False) e s' → False) :
    codeAny (model P w) callerA (.call (.ref fa) ⟨[.ref a], []⟩) (fun r s' => r = .ok (.ret (.bool true)) ∧ OldK s₁.heap s'.heap ∧ s'.os = s₁.os ∧ AllBare s'.gens) s₁ := by
  have rv := vals_ints hi
  have lenV := hi.length
  -- from an abstract heap in which nothing but the script may be tracked
  have core : ∀ H : Hp, Only H → SqL K H a (ns.map V.int) → HOk P w H s₁.heap → (∀ b, H b ≠ none → b = a) → (H a ≠ none → K.lookup a = none) →
      codeAny (model P w) callerA (.call (.ref fa) ⟨[.ref a], []⟩) (fun r s' => r = .ok (.ret (.bool true)) ∧ OldK s₁.heap s'.heap ∧ s'.os = s₁.os ∧ AllBare s'.gens) s₁ := by
    intro H hO hS hok hA hK
    have base_of : ∀ {b : Addr} {o : Obj}, s₁.heap.get? b = some o → H b = none → (hidT s₁.heap H).get? b = some o := fun e n => hidT_get e n
    have noA : ∀ {b : Addr} {o : Obj} {es : Array DictEntry} {ep : Nat}, s₁.heap.get? b = some o → o.data = .dict es ep → H b = none := fun {b o es ep} e d => by
      cases q : H b with
      | none => rfl
      | some u =>
        have e' : b = a := hA b (by rw [q]; simp)
        subst e'
        rw [ha] at e; cases e
        have d' : Data.seq vs.toArray _ = Data.dict es ep := d
        cases d'
    have nsK : ∀ {b : Addr} {m : Str → Option Value}, s₁.heap.Ns b m → (hidT s₁.heap H).Ns b m := fun {b m} ⟨o, es, ep, e, d, r⟩ => ⟨o, es, ep, base_of e (noA e d), d, r⟩
    have hKb : K.In (hidT s₁.heap H) := fun b o e => base_of (KX b o e) (by
      cases q : H b with
      | none => rfl
      | some u =>
        have e' : b = a := hA b (by rw [q]; simp)
        subst e'
        rw [hK (by rw [q]; simp)] at e; cases e)
    have hM : Mod K mg (hidT s₁.heap H) := ⟨hKb, nsK hns, ⟨mb, nsK hb, hbb⟩, let ⟨mc, h1, h2⟩ := hlim; ⟨mc, nsK h1, h2⟩⟩
    have e0 : Env0 P w K mg (hidT s₁.heap H) callerA [] s₁ H := ⟨rfl, hM, fun b o e => of_hidT e, Nat.le_of_eq (hidT_size _ _), trivial, fun b hb => absurd (show b ∈ ([] : List Addr) from hb) (by simp), hok, .of_eq hg⟩
    refine codeAny_mono ((F _ hKb (nsK hns)).run callerA [] s₁ H ⟨[.ref a], []⟩ [.ref a] [.ref a] _ _ hr e0 (hbind s₁ (.ref a)) (.cons rfl .nil) (hsp H hO hS)) fun r s' h => ?_
    cases r with
    | error e => exact (hCX H e s' h).elim
    | ok fl =>
      cases fl with
      | next => exact False.elim h
      | brk => exact False.elim h
      | cont => exact False.elim h
      | ret u =>
        obtain ⟨v, H', os, bare, un, hok', r', q⟩ := h
        have q' : v = .bl true := q
        subst q'
        obtain rfl : u = Value.bool true := r'
        refine ⟨rfl, OldK.of_keep fun b o e => ?_, os, bare⟩
        cases q : H b with
        | none => exact un.keep b o e q (by intro z; exact absurd (show b ∈ ([] : List Addr) from z) (by simp)) (by simp)
        | some u =>
          rcases hO b with z | ⟨ob, xs, z⟩
          · rw [q] at z; cases z
          · have z2 := un.frzs b ob _ z
            obtain ⟨e1, _⟩ := hok b _ z
            obtain ⟨e2, _⟩ := hok' b _ z2
            rw [e] at e1; cases e1
            exact e2
  cases hk : K.lookup a with
  | some o =>
    -- the script is one of the module's own objects
    have e := KX a o hk
    rw [ha] at e
    cases e
    refine core (fun _ => none) (fun _ => .inl rfl) (.inr ⟨_, vs.toArray, _, hk, rfl, rfl, rfl, by rw [List.size_toArray, lenV]; exact hl, by simpa using rv⟩) (fun b u z => by have z' : (none : Option HO) = some u := z; cases z') (fun b z => absurd rfl z) fun z => absurd rfl z
  | none =>
    refine core (fun b => if b = a then some (.frz { cls := .type "list", data := .seq vs.toArray } (.lst (ns.map V.int))) else none) (fun b => ?_) (.inl (.inr ⟨{ cls := .type "list", data := .seq vs.toArray }, if_pos rfl⟩)) (fun b u z => ?_) (fun b z => ?_) fun _ => hk
    · by_cases hb : b = a
      · exact .inr ⟨_, _, if_pos hb⟩
      · exact .inl (if_neg hb)
    · by_cases hb : b = a
      · have z' := (if_pos hb).symm.trans z
        cases z'
        subst hb
        exact ⟨ha, by rw [List.length_map]; exact hl, vs, _, rv, ha⟩
      · have z' := (if_neg hb).symm.trans z
        cases z'
    · by_cases hb : b = a
      · exact hb
      · exact absurd (if_neg hb) z
end L2

namespace L2
open PySem PySem.Spec PyProof.Rows

abbrev KOf {K : PySem.W.Frag} {h : Heap} (_ : K.In h) : PySem.W.Frag := K

/-- the goal that k_head leaves (case hc), from the law's promise. F gives the function object fd (K's own) once, then the promise over every base -/
theorem walk_of {l : PySem.W.OpenLaw} {n k : Nat} {q : Program} {loose : List Str} {XP : (Str → Option Value) → Heap → Prop} {YP : World → Heap → Prop} {d : DefRec} {K : Params → PySem.W.Frag} {CX : World → CXT} {sp : World → Sp} {x : Str}
    (hn : l.most = some n) (hn2 : n ≤ sizeLine) (hdf : d.params.defaults = []) (hr : Room k callerA)
    (hY : ∀ (w : World) (h : Heap), YP w h → (K w.params).In h)
    (F : ∀ (w : World) (mg : Str → Option Value) (fa : Addr) (h : Heap), (K w.params).In h → h.Ns mainGlobals mg → mg d.name = some (.ref fa) →
      ∃ fd : FuncData, (∀ (s : Shared) (u : Value), BindsTo s fd ⟨[u], []⟩ [(x, u)]) ∧
        ∀ base : Heap, (K w.params).In base → base.Ns mainGlobals mg → FnOk l.prog w (K w.params) mg base (CX w) k fa fd [x] (sp w))
    (hsp : ∀ (w : World) (H : Hp) (a : Addr) (ns : List Int), ns.length ≤ n → Only H → SqL (K w.params) H a (ns.map V.int) → sp w [.ref a] H (fun v _ => v = .bl true) fun _ _ _ => False)
    (hCX : ∀ (w : World) (H : Hp) (s : Shared) (e : Value) (s' : Shared), CX w [] H s (fun _ _ _ => False) e s' → False) :
    PySem.W.WalkO q loose XP YP l.row.toRowW d [] (fun f vs => PySem.call f vs) := by
  refine Att.attach_call hn hdf fun w s₀ s₁ mg mb fa o pm cd doc a vs ns G Y ho hd hcd hmg hobj hints hlen hg => ?_
  have KX := hY w _ Y
  obtain ⟨fd, hb, hF⟩ := F w mg fa _ KX G.T.g hmg
  exact law_call KX G.T.g G.T.b G.T.builtins G.T.nolimit hg hobj hints (Nat.le_trans hlen hn2) hr hF hb (fun H hO hS => hsp w H a ns hlen hO hS) fun H e s' => hCX w H s₁ e s'
end L2

/- THE LAST THEOREM (shape; LID, My.* are yours):
   My.Adr: a structure of the addresses that your layer names (classes, functions); My.Txt K t: a structure (Prop) of the equations over K;
   My.txt_mk : {K} {implicit addresses ..} (e1 : nsIn K mainGlobals "law" = some (some (.ref f))) (e2 : K.lookup f = some ⟨oc, od, .func (fnOf "law" "law" params body scope dV kV doc pm an cdv ct), sl⟩) (e3 : codeIn K cdv "law" = true) .. : ∃ t, My.Txt K t

set_option maxRecDepth 100000 in
set_option maxHeartbeats 0 in
theorem PySem.Challenge.cw_LID_holds : PySem.Challenge.rw_LID.Holds := by
  w_on; o_law; k_head; (case hw => w_witness2)
  k_fill
  refine L2.walk_of (l := PySem.Challenge.rw_LID) (n := 63) (k := 40) (x := "script") (CX := fun w => ..) (sp := fun _ => My.sp_law) rfl (by decide) rfl ⟨rfl, by decide, by decide⟩ (fun w h Y => PySem.W.kIn_of Y) ?F ?S ?C
  case F =>
    intro w mg fa h KX G hmg
    have T : ∃ t, My.Txt (L2.KOf KX) t := by
      dsimp only [L2.KOf]                          -- K must stand as «<heap const> w.params» for k_is
      refine' My.txt_mk ?e1 ?e2 ?e3 ..
      (case e1 => PySem.W.k_is)                    -- in the order: a name -> its address -> its object -> its parts
      (case e2 => PySem.W.k_is)
      ..
    obtain ⟨t, T⟩ := T
    have e0 := hmg.symm.trans (PySem.W.mg_of KX G T.law)
    cases e0                                       -- fa is the law's own address
    exact ⟨_, fun s u => .of_eq rfl, fun base kb nb => My.law_fn T kb nb⟩     -- if «.of_eq rfl» comes too early: refine' ⟨_, ?b, fun base kb nb => My.law_fn T kb nb⟩; exact fun s u => .of_eq rfl
  case S => exact fun w H a ns hl hO hS => ..
  case C => exact ..
(the tactic k_is has no namespace: write k_is) -/

/-! SHORT WORDS over the layer: a def of the text, its body, what a loop and a test want. -/
namespace L2
open PySem PySem.Spec PyProof.Rows

/-! ### the text by places -/
/-- the j-th statement of a class's body -/
def inClass (s : Stmt) (j : Nat) : Stmt := match s with
  | .ClassDef _ _ _ body _ _ _ _ _ _ _ => body.getD j (.Pass ⟨0, 0, 0, 0⟩)
  | _ => .Pass ⟨0, 0, 0, 0⟩
def defArgs (s : Stmt) : Arguments := match s with
  | .FunctionDef _ a _ _ _ _ _ _ _ _ => a
  | _ => { posonlyargs := [], args := [], vararg := none, kwonlyargs := [], kw_defaults := [], kwarg := none, defaults := [] }
def defBody (s : Stmt) : List Stmt := match s with
  | .FunctionDef _ _ b _ _ _ _ _ _ _ => b
  | _ => []
def defScope (s : Stmt) : Scope := match s with
  | .FunctionDef _ _ _ _ _ _ sc _ _ _ => sc
  | _ => { kind := .function, names := [], isGenerator := false, isCoroutine := false }

/-! ### no exception leaves a def -/
abbrev CX0 : CXT := fun _ _ _ _ _ _ => False
abbrev E0 : XK := fun _ _ _ => False
theorem pass0 {X : Cx} : Passes CX0 X E0 := fun _ _ _ _ _ _ _ h => h.elim

/-! ### a def (or method) of the text as it stands behind the top -/
structure Fun (K : PySem.W.Frag) (x qual : Str) (st : Stmt) (f : Addr) (fd : FuncData) : Prop where
  ex : ∃ (oc : Value) (od : Option Addr) (kV doc pm : Value) (an : Option Addr) (cdv ct : Value) (osl : Array (Option Value)),
    fd = PySem.W.fnOf x qual (defArgs st) (defBody st) (defScope st) .none kV doc pm an cdv ct ∧ K.lookup f = some ⟨oc, od, .func fd, osl⟩ ∧ PySem.W.codeIn K cdv qual = true
  kp : PySem.W.keepIn K (.ref f) = true
section
variable {P : Program} {w : World} {K : PySem.W.Frag} {mg : Str → Option Value} {base : Heap}
/-- THE RULE for a def: its body as a term of rules, and the reading of that term -/
theorem Fun.ok {x qual : Str} {st : Stmt} {f : Addr} {fd : FuncData} {N ps : List Str} {k : Nat} {sp : Sp} (F : Fun K x qual st f fd) (S : FnScope N ps (defScope st)) (len : ∀ vs H Q E, sp vs H Q E → vs.length = ps.length)
    (hbody : ∀ (cdv : Value) (A : Around) (outer : List Env) (s : Shared) (H : Hp) (vs : List V) (Q : VK) (E : XK), Room k (A.deeper (envOfC qual (defScope st) s.heap.objs.size f cdv)) → sp vs H Q E →
      ∃ t, PSs (cxOf CX0 P w K mg base N qual (defScope st) f cdv A outer s H E).nox (defBody st) t ∧ t { nx := fun _ H' => Q .non H', rt := Q } (start N vs) H) : FnOk P w K mg base CX0 (k + 1) f fd ps sp := by
  obtain ⟨oc, od, kV, doc, pm, an, cdv, ct, osl, rfl, lk, hcd⟩ := F.ex
  refine fn_of lk hcd S len fun A outer s H vs Q E hr hsp => ?_
  obtain ⟨t, h, q⟩ := hbody cdv A outer s H vs Q E hr hsp
  exact ⟨t, h.nox, q⟩
/-- how its arguments bind (no defaults): h is «fun _ _ _ _ _ _ us hl => match us, hl with | [_, _], _ => rfl», one _ a parameter -/
theorem Fun.binds {x qual : Str} {st : Stmt} {f : Addr} {fd : FuncData} {ps : List Str} (F : Fun K x qual st f fd)
    (h : ∀ (kV doc pm : Value) (an : Option Addr) (cdv ct : Value) (us : List Value), us.length = ps.length → bindArgs (PySem.W.fnOf x qual (defArgs st) (defBody st) (defScope st) .none kV doc pm an cdv ct) ⟨us, []⟩ = pure (ps.zip us)) : Binds K fd ps [] := by
  obtain ⟨oc, od, kV, doc, pm, an, cdv, ct, osl, rfl, lk, hcd⟩ := F.ex
  exact .all (h kV doc pm an cdv ct)
theorem fun_mk {x qual : Str} {st : Stmt} {f : Addr} {oc : Value} {od an : Option Addr} {osl : Array (Option Value)} {kV doc pm cdv ct : Value} (l : K.lookup f = some ⟨oc, od, .func (PySem.W.fnOf x qual (defArgs st) (defBody st) (defScope st) .none kV doc pm an cdv ct), osl⟩)
    (c : PySem.W.codeIn K cdv qual = true) (k : PySem.W.keepIn K (.ref f) = true) : Fun K x qual st f (PySem.W.fnOf x qual (defArgs st) (defBody st) (defScope st) .none kV doc pm an cdv ct) := ⟨⟨oc, od, kV, doc, pm, an, cdv, ct, osl, rfl, l, c⟩, k⟩
end
/-! ### expressions in short: the name that stands in the i-th slot -/
section
variable {X : Cx}
theorem pv (i : Nat) {x : Str} {pos : Pos} (hN : X.N[i]? = some x := by rfl) (hv : Vis X.env.scope x := by first | exact Or.inl rfl | exact Or.inr (Or.inl rfl) | exact Or.inr (Or.inr rfl)) (hd : (x == ("__debug__" : Str)) = false := by decide)
    (hcd : (x == ("__classdict__" : Str)) = false := by decide) : PE X (.Name x pos) (tVar i) := pe_var hN hv hd hcd
end

/-! ### tests -/
theorem iteF {A B : Prop} (h : B) : if false = true then A else B := by
  rw [if_neg Bool.false_ne_true]
  exact h
theorem iteT {A B : Prop} (h : A) : if true = true then A else B := by
  rw [if_pos rfl]
  exact h
theorem iteNS {c A B : Prop} [Decidable c] (hc : c) (h : B) : if (!decide c) = true then A else B := by
  rw [decide_eq_true hc]
  exact iteF h

/-! ### heaps -/
/-- all that was tracked is as it was -/
def Same (H H' : Hp) : Prop := ∀ b o, H b = some o → H' b = some o
theorem Same.refl (H : Hp) : Same H H := fun _ _ h => h
theorem Same.trans {H H1 H2 : Hp} (a : Same H H1) (b : Same H1 H2) : Same H H2 := fun c o h => b c o (a c o h)
theorem Same.free {H H' : Hp} (e : Same H H') {l : Addr} (h : H' l = Option.none) : H l = Option.none := by
  cases q : H l with
  | none => rfl
  | some o =>
    rw [e l o q] at h
    cases h
theorem Same.seq {K : PySem.W.Frag} {H H' : Hp} {a : Addr} {xs : List V} (e : Same H H') (h : SqL K H a xs) : SqL K H' a xs := by
  rcases h with (h | ⟨o, h⟩) | h
  · exact .inl (.inl (e _ _ h))
  · exact .inl (.inr ⟨o, e _ _ h⟩)
  · exact .inr h

/-! ### a dict's pairs: keys that differ -/
section
variable {κ : Type} [DecidableEq κ]
end
end L2

end
section
set_option Elab.async false
set_option linter.all false
set_option maxRecDepth 100000
set_option maxHeartbeats 4000000
namespace L2
open PySem PySem.Spec PyProof.Rows

/-! ### comprehensions: the block -/
theorem closure_go (env : Env) : ∀ (names : List (Str × NameKind)) (acc : List (Str × Addr)),
    (∀ y ∈ names, y.2 = .free → ∃ c, env.cells.lookup y.1 = some c) →
    ∃ cl : List (Str × Addr), (forIn names acc fun (x : Str × NameKind) (r : List (Str × Addr)) => (match x with
        | (name, kind) => if (kind == NameKind.free) = true then do
            let a ← cellOf env name
            pure (ForInStep.yield ((name, a) :: r))
          else pure (ForInStep.yield r) : Sem (ForInStep (List (Str × Addr))))) = (pure cl : Sem (List (Str × Addr))) ∧
      (∀ x c, cl.lookup x = some c → acc.lookup x = some c ∨ env.cells.lookup x = some c) ∧
      (∀ x, (acc.lookup x).isSome = true ∨ (x, NameKind.free) ∈ names → (cl.lookup x).isSome = true)
  | [], acc, _ => ⟨acc, by simp, fun x c h => .inl h, fun x h => h.elim id fun z => nomatch z⟩
  | (n, k) :: r, acc, h => by
    by_cases hk : k = .free
    · subst hk
      obtain ⟨c, hc⟩ := h (n, .free) List.mem_cons_self rfl
      obtain ⟨cl, e, h1, h2⟩ := closure_go env r ((n, c) :: acc) fun y hy => h y (List.mem_cons_of_mem _ hy)
      refine ⟨cl, ?_, fun x c' z => ?_, fun x z => ?_⟩
      · rw [List.forIn_cons]
        have q : cellOf env n = pure c := by unfold cellOf; rw [hc]
        simp only [q, beq_self_eq_true, if_true, pure_bind]
        exact e
      · rcases h1 x c' z with z | z
        · rw [List.lookup_cons] at z
          by_cases hx : x = n
          · subst hx
            simp at z
            subst z
            exact .inr hc
          · have hb : (x == n) = false := by simpa using hx
            rw [hb] at z
            exact .inl z
        · exact .inr z
      · refine h2 x ?_
        rw [List.lookup_cons]
        by_cases hx : x = n
        · subst hx
          left
          simp
        · have hb : (x == n) = false := by simpa using hx
          rw [hb]
          rcases z with z | z
          · exact .inl z
          · rcases List.mem_cons.mp z with z | z
            · cases z
              exact absurd rfl hx
            · exact .inr z
    · obtain ⟨cl, e, h1, h2⟩ := closure_go env r acc fun y hy => h y (List.mem_cons_of_mem _ hy)
      refine ⟨cl, ?_, h1, fun x z => h2 x ?_⟩
      · rw [List.forIn_cons]
        have hb : (k == NameKind.free) = false := by simpa using hk
        simp only [hb, Bool.false_eq_true, if_false, pure_bind]
        exact e
      · rcases z with z | z
        · exact .inl z
        · rcases List.mem_cons.mp z with z | z
          · cases z
            exact absurd rfl hk
          · exact .inr z
theorem closure_of {scope : Scope} {env : Env} (h : ∀ y ∈ scope.names, y.2 = .free → ∃ c, env.cells.lookup y.1 = some c) :
    ∃ cl, closureFor scope env = pure cl ∧ (∀ x c, cl.lookup x = some c → env.cells.lookup x = some c) ∧ ∀ x, (x, NameKind.free) ∈ scope.names → ∃ c, cl.lookup x = some c := by
  obtain ⟨cl, e, h1, h2⟩ := closure_go env scope.names [] h
  refine ⟨cl, ?_, fun x c z => (h1 x c z).elim (fun q => by simp at q) id, fun x z => Option.isSome_iff_exists.mp (h2 x (.inr z))⟩
  unfold closureFor
  dsimp only
  rw [e]
  rfl

/-- a turn of a comprehension's loop, the step ahead of the store included -/
theorem compLoop_L {prog : Program} {w : World} {A : Around} {R : Result → Shared → Prop} {s : Shared} {elt target iter : Expr} {ifs : List Expr} {scope : Scope} {pos : Pos} {it acc : Value} {env : Env} (I : Nat → Shared → Prop)
    (turn : ∀ n s, I n s → wpAny (model prog w) A (pyNext it) (fun r s₁ => match r with
      | none => R (.ok .next) s₁
      | some v => wpAny (model prog w) A (letOwnedTupleGo target it v) (fun _ s₁' => wpAny (model prog w) A (assign target env v) (fun _ s₂ =>
          wpAny (model prog w) A (forIn ifs true fun c r => if r = true then do let ok ← isTrue c env (eval c env); pure (ForInStep.yield ok) else pure (ForInStep.yield r)) (fun ok s₃ =>
            if ok = true then wpAny (model prog w) A (eval elt env) (fun x s₄ =>
              wpAny (model prog w) A (call (.builtin "list.append") [acc, x]) (fun _ s₅ => ∃ m, m < n ∧ I m s₅) (fun _ _ => False) s₄) (fun _ _ => False) s₃
            else ∃ m, m < n ∧ I m s₃) (fun _ _ => False) s₂) (fun _ _ => False) s₁') (fun _ _ => False) s₁) (fun _ _ => False) s)
    (n : Nat) (h : I n s) :
    codeAny (model prog w) A (.compLoop (.ListComp elt [⟨target, iter, ifs, 0⟩] scope pos) 0 it acc env) R s := by
  refine codeAny_loop rfl I (fun n s hI => ?_) n h
  show wpAny _ A ((compTurn (.ListComp elt [⟨target, iter, ifs, 0⟩] scope pos) 0 it acc env).onRaise (fun x => do noteFrame x env; theTreesLotGoes x)) _ _ s
  refine wpAny_noted ?_
  rw [compTurn_list]
  refine wpAny_bind (wpAny_standAt (wpAny_bind (wpAny_mono (turn n s hI) (fun r s₁ h₁ => ?_) fun _ _ h' => h'.elim)))
  cases r with
  | none => exact wpAny_pure h₁
  | some v =>
    refine wpAny_bind (wpAny_mono h₁ (fun _ s₁' h₁' => ?_) fun _ _ h' => h'.elim)
    refine wpAny_bind (wpAny_mono h₁' (fun _ s₂ h₂ => wpAny_bind (wpAny_mono h₂ (fun ok s₃ h₃ => ?_) fun _ _ h' => h'.elim)) fun _ _ h' => h'.elim)
    cases ok with
    | false => exact wpAny_pure ⟨rfl, h₃⟩
    | true =>
      exact wpAny_bind (wpAny_bind (wpAny_mono h₃ (fun x s₄ h₄ => wpAny_bind (wpAny_mono h₄ (fun _ s₅ h₅ => wpAny_pure (wpAny_pure ⟨rfl, h₅⟩)) fun _ _ h' => h'.elim)) fun _ _ h' => h'.elim))

/-- the names of a block: its own, then the free ones, each at its place among the def's names -/
structure BkScope (N : List Str) (sc osc : Scope) (LN FN : List Str) (fr : List Nat) : Prop where
  kind : sc.kind = .function
  nocell : ∀ y ∈ sc.names, y.2 ≠ .cell
  names : ∀ x ∈ sc.names, x.2 = .local → sc.names.lookup x.1 = some .local
  free : ∀ y ∈ sc.names, y.2 = .free → osc.names.lookup y.1 = some .cell ∨ osc.names.lookup y.1 = some .free
  fnk : ∀ x ∈ FN, osc.names.lookup x = some .cell ∨ osc.names.lookup x = some .free
  fnf : ∀ x ∈ FN, sc.names.lookup x = some .free
  at' : FN.map some = fr.map fun j => N[j]?
theorem BkScope.place {N : List Str} {sc osc : Scope} {LN FN : List Str} {fr : List Nat} (S : BkScope N sc osc LN FN fr) {k : Nat} {x : Str} (e : FN[k]? = some x) : ∃ j : Nat, fr[k]? = some j ∧ N[j]? = some x := by
  have h := congrArg (fun l => l[k]?) S.at'
  simp only [List.getElem?_map, e, Option.map_some] at h
  cases q : fr[k]? with
  | none => rw [q] at h; cases h
  | some j =>
    rw [q] at h
    exact ⟨j, rfl, (Option.some.inj h).symm⟩
theorem BkScope.frl {N : List Str} {sc osc : Scope} {LN FN : List Str} {fr : List Nat} (S : BkScope N sc osc LN FN fr) : fr.length = FN.length := by
  have h := congrArg List.length S.at'
  simpa using h.symm

def bkStart (LN : List Str) (fr : List Nat) (σ : St) : St := List.replicate LN.length none ++ fr.map fun j => (σ[j]?).getD none
/-- the block's context, at the entry s (behind the iterator's making), its frame at C -/
def bkCx (X : Cx) (LN FN : List Str) (sc : Scope) (cl : List (Str × Addr)) (C : Addr) (fp : List Addr) (pins : List (Addr × Obj)) (s : Shared) (H : Hp) : Cx :=
  { X with N := LN ++ FN, s₀ := s, H₀ := H, env := compEnvC sc cl C X.env, outer := X.stack, ex := fp, fn := fun _ => false, pn := X.pn ++ pins, xe := fun _ _ => False }

theorem relabel_lookup {env : Env} : ∀ {names : List (Str × NameKind)} {x : Str} {k : NameKind},
    (names.map fun (n, k) => if (k == NameKind.free && env.scope.kind == .function && env.kindOf n == some .cell) then (n, NameKind.cell) else (n, k)).lookup x = some k →
    names.lookup x = some k ∨ (names.lookup x = some .free ∧ k = .cell)
  | [], _, _, h => by simp at h
  | (n, j) :: r, x, k, h => by
    have ih := @relabel_lookup env r x k
    have h : List.lookup x ((if (j == NameKind.free && env.scope.kind == .function && env.kindOf n == some .cell) = true then (n, NameKind.cell) else (n, j)) :: _) = some k := h
    rw [List.lookup_cons]
    by_cases hc : (j == NameKind.free && env.scope.kind == .function && env.kindOf n == some .cell) = true
    · rw [if_pos hc, List.lookup_cons] at h
      cases hx : x == n with
      | true =>
        rw [hx] at h
        simp only [Bool.and_eq_true, beq_iff_eq] at hc
        have hk : NameKind.cell = k := by simpa using h
        exact .inr ⟨by simp [hc.1.1], hk.symm⟩
      | false =>
        rw [hx] at h
        exact ih h
    · rw [if_neg hc, List.lookup_cons] at h
      cases hx : x == n with
      | true =>
        rw [hx] at h
        exact .inl h
      | false =>
        rw [hx] at h
        exact ih h

theorem bk_start {X : Cx} {pins : List (Addr × Obj)} {σ : St} {H : Hp} {s : Shared} {LN FN : List Str} {fr : List Nat} {sc : Scope} {cl : List (Str × Addr)} {C : Addr} {fp : List Addr} {h' : Heap} {tk : Nat} {m : Str → Option Value}
    (I : Inv X pins σ H s) (S : BkScope X.N sc X.env.scope LN FN fr) (hf : ∀ b ∈ fp, FpOk X pins H b) (hfs : ∀ b ∈ fp, ∃ o, s.heap.get? b = some o)
    (h1 : ∀ x c, cl.lookup x = some c → X.env.cells.lookup x = some c) (h2 : ∀ x, (x, NameKind.free) ∈ sc.names → ∃ c, cl.lookup x = some c)
    (hC : s.heap.objs.size ≤ C) (hk : ∀ b o, s.heap.get? b = some o → h'.get? b = some o) (hn : h'.Ns C m) :
    Inv (bkCx X LN FN sc cl C fp pins s H) [] (bkStart LN fr σ) H { s with heap := h', toks := tk } := by
  have hsub : ∀ b, b ∉ X.fs → b ≠ X.env.locals → b ∉ frs X.stack := fun b n1 n2 z => (List.mem_cons.mp (I.stkSub b z)).elim n2 n1
  have hlk : ∀ x k, (relabel sc X.env).names.lookup x = some k → (k = .cell ∨ k = .free) → sc.names.lookup x = some .free := fun x k e hk => by
    rcases relabel_lookup e with q | ⟨q, _⟩
    · rcases hk with rfl | rfl
      · exact absurd rfl (S.nocell _ (PySem.mem_of_lookup q))
      · exact q
    · exact q
  refine ⟨⟨I.ok.mod, ?_, I.ok.glob, I.ok.blt, hC, fun x y c e1 e2 => I.ok.inj x y c (h1 x c e1) (h1 y c e2), fun x hx => ?_, (fun x c z => absurd z (by intro z; cases z)), I.ok.hd, I.ok.frames, .inl rfl, fun b hb => ⟨?_, fun x c e z => ?_⟩, I.bs, Nat.le_trans I.ok.bsz I.sz, fun b o e hb => ?_, fun b hb => ?_, I.stack, I.stkFree⟩,
    rfl, I.bare, Un.kept hk, ⟨m, hn, fun i x v e1 e2 e3 => ?_⟩, fun x c e => ?_, ?_, fun x c e => I.freeC x c (h1 x c e), fun p hp => ?_, I.hok.kept hk, ?_⟩
  · exact S.kind
  · have hx : (relabel sc X.env).names.lookup x = some .cell ∨ (relabel sc X.env).names.lookup x = some .free := hx
    rcases hx with hx | hx
    · exact h2 x (PySem.mem_of_lookup (hlk x _ hx (.inl rfl)))
    · exact h2 x (PySem.mem_of_lookup (hlk x _ hx (.inr rfl)))
  · obtain ⟨o, e⟩ := hfs b hb
    exact Nat.ne_of_lt (Nat.lt_of_lt_of_le (Heap.lt_size e) hC)
  · exact (hf b hb).2.2.2.2.1 x c (h1 x c e) z
  · obtain ⟨_, _, _, h3, _⟩ := hf b hb
    rcases h3 with z | z
    · exact I.ok.noex b o e z
    · exact absurd (Nat.lt_of_lt_of_le (Heap.lt_size (I.ok.bs b o e).1) z) (Nat.lt_irrefl _)
  · obtain ⟨_, n1, n2, _⟩ := hf b hb
    exact hsub b n2 n1
  · -- the free names' values
    have hi : LN.length ≤ i := by
      refine Nat.le_of_not_lt fun hlt => ?_
      unfold bkStart at e2
      rw [List.getElem?_append_left (by simpa using hlt), List.getElem?_replicate] at e2
      split at e2 <;> cases e2
    have e1 : FN[i - LN.length]? = some x := by
      have e1 : (LN ++ FN)[i]? = some x := e1
      rwa [List.getElem?_append_right hi] at e1
    obtain ⟨j, ej, hj⟩ := S.place e1
    have e2 : (σ[j]?).getD none = some v := by
      unfold bkStart at e2
      rw [List.getElem?_append_right (by simpa using hi), List.length_replicate, List.getElem?_map, ej] at e2
      simpa using e2
    have e2 : σ[j]? = some (some v) := by
      cases q : σ[j]? with
      | none => rw [q] at e2; cases e2
      | some z =>
        rw [q] at e2
        exact congrArg some e2
    have hkx := S.fnk x (List.mem_of_getElem? e1)
    obtain ⟨m0, hm0, hl⟩ := I.loc
    have hv : Vis X.env.scope x := hkx.elim (fun z => .inr (.inl z)) fun z => .inr (.inr z)
    obtain ⟨u, r, l⟩ := hl j x v hj e2 hv
    refine ⟨u, r, ?_⟩
    rcases l with ⟨k1, _⟩ | ⟨_, c, ec, z⟩
    · have k1 : X.env.scope.names.lookup x = some .local := k1
      rcases hkx with q | q <;> rw [q] at k1 <;> cases k1
    · have e3 : Vis (relabel sc X.env) x := e3
      rcases e3 with q | q | q
      · -- a block's own name is none of the free ones, unless it shadows: then the kinds say local
        rcases relabel_lookup q with q' | ⟨_, q'⟩
        · rw [S.fnf x (List.mem_of_getElem? e1)] at q'
          cases q'
        · cases q'
      · obtain ⟨c', ec'⟩ := h2 x (PySem.mem_of_lookup (hlk x _ q (.inl rfl)))
        have := h1 x c' ec'
        rw [ec] at this; cases this
        exact .inr ⟨.inl q, c, ec', by obtain ⟨o, ho, hd⟩ := z; exact ⟨o, hk _ _ ho, hd⟩⟩
      · obtain ⟨c', ec'⟩ := h2 x (PySem.mem_of_lookup (hlk x _ q (.inr rfl)))
        have := h1 x c' ec'
        rw [ec] at this; cases this
        exact .inr ⟨.inr q, c, ec', by obtain ⟨o, ho, hd⟩ := z; exact ⟨o, hk _ _ ho, hd⟩⟩
  · obtain ⟨v, o, ho, hd⟩ := I.cell x c (h1 x c e)
    exact ⟨v, o, hk _ _ ho, hd⟩
  · exact I.hok.fresh hC
  · have hp : p ∈ (X.pn ++ pins) ++ [] := hp
    rw [List.append_nil] at hp
    obtain ⟨e, n, ne, nf, d⟩ := I.pin p hp
    exact ⟨hk _ _ e, n, Nat.ne_of_lt (Nat.lt_of_lt_of_le (Heap.lt_size e) hC), hsub _ nf ne, d⟩
  · unfold bkStart
    show _ = (LN ++ FN).length
    simp [S.frl]
end L2

end
section
set_option Elab.async false
set_option linter.all false
set_option maxRecDepth 100000
set_option maxHeartbeats 4000000
namespace L2
open PySem PySem.Spec PyProof.Rows

/-- the tests of a clause: none, or one -/
def PTs (X : Cx) (ifs : List Expr) (t : TT) : Prop :=
  ∀ (pins : List (Addr × Obj)) (s : Shared) (σ : St) (H : Hp) (Q : Bool → Hp → Prop), Inv X pins σ H s → t σ H Q →
    wpAny (model X.prog X.w) X.A (forIn ifs true fun c r => if r = true then do let ok ← isTrue c X.env (eval c X.env); pure (ForInStep.yield ok) else pure (ForInStep.yield r)) (TP X pins σ Q) X.xe s
def tTrue : TT := fun _ H Q => Q true H
theorem pts_nil {X : Cx} : PTs X [] tTrue := fun _ _ _ H _ I h => wpAny_tests_nil ⟨H, I, h⟩
theorem Un.track {fs ex : List Addr} {H H1 : Hp} {h h1 : Heap} {a : Addr} {o : HO} (u : Un fs ex H H1 h h1) (hp : h.objs.size ≤ a) (hn : H a = none) : Un fs ex H (upd H1 a o) h h1 where
  keep := u.keep
  slot := u.slot
  free := fun b ob q n hx => by
    rw [upd_ne (Nat.ne_of_lt (Nat.lt_of_lt_of_le (Heap.lt_size q) hp))]
    exact u.free b ob q n hx
  there := u.there
  tups := fun b xs q => by
    rw [upd_ne (fun z => by rw [z, hn] at q; cases q)]
    exact u.tups b xs q
  frzs := fun b ob x q => by
    rw [upd_ne (fun z => by rw [z, hn] at q; cases q)]
    exact u.frzs b ob x q
  tbls := fun b ps q => by
    rw [upd_ne (fun z => by rw [z, hn] at q; cases q)]
    exact u.tbls b ps q
theorem HOk.track {P : Program} {w : World} {H : Hp} {h : Heap} {a : Addr} {o : HO} (x : HOk P w H h) (hn : H a = none) (new : ObjOk P w (upd H a o) h a o) : HOk P w (upd H a o) h := fun b u e => by
  by_cases hb : b = a
  · subst hb
    rw [upd_same] at e
    cases e
    exact new
  · rw [upd_ne hb] at e
    refine (x b u e).stay (fun _ _ _ q => q) (fun c q => ?_) fun c xs q => ?_
    · rw [upd_ne (fun z => by rw [z, hn] at q; cases q)]
      exact q
    · rw [upd_ne (fun z => by rw [z, hn] at q; cases q)]
      exact q

section
variable {X : Cx} {tg elt iter : Expr} {ifs : List Expr} {sc : Scope} {pos : Pos} {LN FN : List Str} {fr : List Nat} {wi : TI} {g : TG} {tt : TT} {te : TE}

/-- what a comprehension wants: W by the turn, a measure, the items so far, the block's names, the heap -/
def CW (J : It) (g : TG) (tt : TT) (te : TE) (W : Nat → Nat → List V → St → Hp → Prop) (Q : VK) : Prop :=
  ∀ i m ys σ H, W i m ys σ H →
    (J.stop i H ∧ ys.length ≤ sizeLine ∧ ∀ p, H p = none → Q (.ref p) (upd H p (.lst ys))) ∨
    (J.go i H ∧ ∃ N : List V → St → Hp → Prop, (∀ ys' σ' H', N ys' σ' H' → ∃ m', m' < m ∧ W (i + 1) m' ys' σ' H') ∧
      ∀ x H2, J.yld i H x H2 → g x σ H2 fun σ2 H3 => tt σ2 H3 fun ok H4 => if ok = true then te σ2 H4 fun y H5 => ys.length < sizeLine ∧ N (ys ++ [y]) σ2 H5 else N ys σ2 H4)
def tComp (LN : List Str) (fr : List Nat) (wi : TI) (g : TG) (tt : TT) (te : TE) : TE := fun σ H Q => wi σ H fun J H1 =>
  ∃ W : Nat → Nat → List V → St → Hp → Prop, (∃ m, W 0 m [] (bkStart LN fr σ) H1) ∧ CW J g tt te W Q

theorem bk_run {pins : List (Addr × Obj)} {σ : St} {H2 : Hp} {s2 : Shared} {it : Addr} {fp : List Addr} {tn : Nat → Heap → Prop} {J : It} {cl : List (Str × Addr)} {W : Nat → Nat → List V → St → Hp → Prop} {Q : VK} {m0 : Nat}
    {R : Value → Addr → Result → Shared → Prop} {E : Value → Shared → Prop}
    (hc : X.calm = true) (S : BkScope X.N sc X.env.scope LN FN fr)
    (hg : ∀ cl C fp pins s H, PG (bkCx X LN FN sc cl C fp pins s H) tg g) (ht : ∀ cl C fp pins s H, PTs (bkCx X LN FN sc cl C fp pins s H) ifs tt) (he : ∀ cl C fp pins s H, PE (bkCx X LN FN sc cl C fp pins s H) elt te)
    (h1 : ∀ x c, cl.lookup x = some c → X.env.cells.lookup x = some c) (h2 : ∀ x, (x, NameKind.free) ∈ sc.names → ∃ c, cl.lookup x = some c)
    (I2 : Inv X pins σ H2 s2) (T : Turn X.prog X.w X.K tg J fp it tn) (st2 : tn 0 s2.heap) (f2 : ∀ b ∈ fp, FpOk X pins H2 b) (w0 : W 0 m0 [] (bkStart LN fr σ) H2) (turn : CW J g tt te W Q)
    (hR : ∀ D C s' H' ys m, s'.heap.Ns C m → Inv X pins σ (upd H' D (.lst ys)) s' → FpOk X pins (upd H' D (.lst ys)) C → Q (.ref D) (upd H' D (.lst ys)) → R (.ref D) C (.ok .next) s') :
    wpAny (model X.prog X.w) X.A (newList []) (fun acc s₃ => wpAny (model X.prog X.w) X.A (newFunctionEnv sc X.env.globals cl [] X.env.qual none .none (some X.env)) (fun cenv s₄ =>
      codeAny (model X.prog X.w) X.A (.compStart (.ListComp elt [⟨tg, iter, ifs, 0⟩] sc pos) 0 (.ref it) acc { cenv with scope := relabel sc X.env }) (R acc cenv.locals) s₄) E s₃) E s2 := by
  refine wpAny_newObj_type (wpAny_newFunctionEnv S.nocell (by intro y hy; simp at hy) (fun h₁ hns hsb => ?_) S.kind)
  dsimp only at hns hsb ⊢
  generalize hH2 : s2.heap.push { cls := .type "list", dict := none, data := .seq ([] : List Value).toArray } = G at hns hsb ⊢
  have hC : G.objs.size = s2.heap.objs.size + 1 := by rw [← hH2, Heap.size_push]
  have hDC : s2.heap.objs.size ≠ G.objs.size := by rw [hC]; exact Nat.ne_of_lt (Nat.lt_succ_self _)
  have hCle : s2.heap.objs.size ≤ G.objs.size := by rw [hC]; exact Nat.le_succ _
  have old : ∀ b o, s2.heap.get? b = some o → h₁.get? b = some o := fun b o e =>
    hsb.extBut b o (by rw [hC]; exact Nat.ne_of_lt (Nat.lt_succ_of_lt (Heap.lt_size e))) (Heap.get?_push_of_some _ (hH2 ▸ Heap.get?_push_of_some _ e))
  have hacc : h₁.PlainList s2.heap.objs.size #[] := ⟨_, hsb.extBut _ _ hDC (Heap.get?_push_of_some _ (hH2 ▸ Heap.get?_push_size _ rfl))⟩
  have hfs : ∀ b ∈ fp, ∃ o, s2.heap.get? b = some o := fun b hb => let ⟨o, e, _⟩ := T.obj 0 _ st2 b hb; ⟨o, e⟩
  have hflt : ∀ b ∈ fp, b < s2.heap.objs.size := fun b hb => let ⟨o, e⟩ := hfs b hb; Heap.lt_size e
  generalize hD : s2.heap.objs.size = D at *
  generalize hCC : G.objs.size = C at *
  have I0 := bk_start (LN := LN) (cl := cl) (C := C) (tk := s2.toks + ([] : List (Str × Value)).length) I2 S f2 hfs h1 h2 (by rw [hD]; exact hCle) old hns
  have fD : FpOk X pins H2 D := I2.fpOk (Nat.le_of_eq hD) (I2.hok.fresh (Nat.le_of_eq hD))
  -- what stays true of D and of the iterator's objects inside the block
  have stD : ∀ {pl : List (Addr × Obj)} {H' : Hp}, H' D = none → (∀ p ∈ pl, p.1 ≠ D) → FpOk (bkCx X LN FN sc cl C fp pins s2 H2) pl H' D := fun {pl H'} hn hp => by
    refine ⟨hn, hDC, fun z => ?_, .inr (Nat.le_of_eq hD), fun x c e => fD.2.2.2.2.1 x c (h1 x c e), fun p hp' => ?_⟩
    · exact (List.mem_cons.mp (I2.stkSub D z)).elim fD.2.1 fD.2.2.1
    · have hp' : p ∈ (X.pn ++ pins) ++ pl := hp'
      rcases List.mem_append.mp hp' with q | q
      · exact fD.2.2.2.2.2 p q
      · exact hp p q
  have stat : ∀ {pl : List (Addr × Obj)} {H' : Hp}, (∀ b ∈ fp, H' b = none) → (∀ p ∈ pl, p.1 = D) → ∀ b ∈ fp, FpOk (bkCx X LN FN sc cl C fp pins s2 H2) pl H' b := fun {pl H'} hn hp b hb => by
    obtain ⟨_, n1, n2, n3, n4, n5⟩ := f2 b hb
    refine ⟨hn b hb, Nat.ne_of_lt (Nat.lt_of_lt_of_le (hflt b hb) hCle), fun z => ?_, .inl hb, fun x c e => n4 x c (h1 x c e), fun p hp' => ?_⟩
    · exact (List.mem_cons.mp (I2.stkSub b z)).elim n1 n2
    · have hp' : p ∈ (X.pn ++ pins) ++ pl := hp'
      rcases List.mem_append.mp hp' with q | q
      · exact n5 p q
      · rw [hp p q]
        exact Nat.ne_of_gt (hflt b hb)
  have pinD : ∀ {s' : Shared}, ∀ p ∈ pinsAt [D] s'.heap, p.1 = D := fun p hp => by simpa using (of_pinsAt hp).1
  have key : ∀ s₄ : Shared, s₄ = { s2 with heap := h₁, toks := s2.toks + ([] : List (Str × Value)).length } →
      codeAny (model X.prog X.w) X.A (.compLoop (.ListComp elt [⟨tg, iter, ifs, 0⟩] sc pos) 0 (.ref it) (.ref D) (compEnvC sc cl C X.env)) (R (.ref D) C) s₄ := by
    rintro s₄ rfl
    refine compLoop_L (fun n s' => ∃ i ys σ' H' its, Inv (bkCx X LN FN sc cl C fp pins s2 H2) [] σ' H' s' ∧ tn i s'.heap ∧ (∀ b ∈ fp, H' b = none) ∧ W i n ys σ' H' ∧ Vals ys its ∧ s'.heap.PlainList D its.toArray ∧ H' D = none) ?_ m0
      ⟨0, [], _, H2, [], I0, T.keep _ _ _ st2 (fun b _ o e => old b o e), fun b hb => (f2 b hb).1, w0, .nil, hacc, fD.1⟩
    rintro n s3 ⟨i, ys, σ3, H3, its, I3, st3, fr3, w3, rv, pl, nD⟩
    have plo : ∃ o, s3.heap.get? D = some o ∧ ∀ v, o.data ≠ .cell v := by
      obtain ⟨k, e⟩ := pl
      exact ⟨_, e, fun v z => by cases z⟩
    have I3' : Inv (bkCx X LN FN sc cl C fp pins s2 H2) ([] ++ pinsAt [D] s3.heap) σ3 H3 s3 := I3.pinned (fp := [D]) (fun b hb => by
      obtain rfl : b = D := by simpa using hb
      exact stD nD (fun _ z => nomatch z)) (fun b hb => by
      obtain rfl : b = D := by simpa using hb
      exact plo)
    have I3' : Inv (bkCx X LN FN sc cl C fp pins s2 H2) (pinsAt [D] s3.heap) σ3 H3 s3 := I3'
    have keepD : ∀ {pl' : List (Addr × Obj)} {σ' : St} {H' : Hp} {s' : Shared}, Inv (bkCx X LN FN sc cl C fp pins s2 H2) (pinsAt [D] s3.heap ++ pl') σ' H' s' → s'.heap.PlainList D its.toArray ∧ H' D = none := fun {pl' σ' H' s'} J => by
      obtain ⟨k, e⟩ := pl
      have := J.pin (D, _) (List.mem_append_right _ (List.mem_append_left _ (mem_pinsAt (by simp) e)))
      exact ⟨⟨k, this.1⟩, this.2.1⟩
    have keepD0 : ∀ {σ' : St} {H' : Hp} {s' : Shared}, Inv (bkCx X LN FN sc cl C fp pins s2 H2) (pinsAt [D] s3.heap) σ' H' s' → s'.heap.PlainList D its.toArray ∧ H' D = none := fun {σ' H' s'} J => by
      refine keepD (pl' := []) (σ' := σ') ?_
      rw [List.append_nil]
      exact J
    rcases turn i n ys σ3 H3 w3 with ⟨stop, hlen, q⟩ | ⟨go, N, hN, step⟩
    · refine thn (T.done (bkCx X LN FN sc cl C fp pins s2 H2) rfl rfl rfl hc i (pinsAt [D] s3.heap) s3 σ3 H3 _ I3' (stat fr3 (fun p hp => pinD (s' := s3) p hp)) st3 stop) fun r s4 ⟨hr, I4⟩ => ?_
      subst hr
      obtain ⟨pl4, n4⟩ := keepD0 I4
      have u4 : Un (frs X.stack) fp H2 (upd H3 D (.lst ys)) s2.heap s4.heap := Un.track I4.base (Nat.le_of_eq hD) fD.1
      have nC : H3 C = none := I4.free
      have o4 : HOk X.prog X.w (upd H3 D (.lst ys)) s4.heap := HOk.track I4.hok n4 (by
        obtain ⟨k, e⟩ := pl4
        exact ⟨hlen, its, k, rv, e⟩)
      have J : Inv X pins σ (upd H3 D (.lst ys)) s4 := I2.call' (s' := s4) (ch := fp) I4.os u4 o4 I4.bare fun b hb => by
        obtain ⟨_, n1, n2, n3, n4, n5⟩ := f2 b hb
        exact ⟨n3, n1, n4, n5⟩
      obtain ⟨m, hm, _⟩ := I4.loc
      exact hR D C s4 H3 ys m hm J (I2.fpOk (by rw [hD]; exact hCle) (by rw [upd_ne (Ne.symm hDC)]; exact nC)) (q D n4)
    · refine thn (T.item (bkCx X LN FN sc cl C fp pins s2 H2) rfl rfl rfl hc i (pinsAt [D] s3.heap) s3 σ3 H3 _ I3' (stat fr3 (fun p hp => pinD (s' := s3) p hp)) st3 go) fun r s4 ⟨u, hr, h4⟩ => ?_
      subst hr
      refine thn h4 fun _ s5 ⟨x, H5, I5, r5, y5, st5, fr5⟩ => ?_
      have I5' := I5.pinned (stat fr5 (fun p hp => pinD (s' := s3) p hp)) (T.obj _ _ st5)
      refine thn (hg cl C fp pins s2 H2 _ s5 σ3 H5 x u _ I5' r5 (step x H5 y5)) fun _ s6 ⟨σ6, H6, I6, q6⟩ => ?_
      refine thn (ht cl C fp pins s2 H2 _ s6 σ6 H6 _ I6 q6) fun ok s7 ⟨H7, I7, q7⟩ => ?_
      have again : ∀ {s' : Shared} {H' : Hp}, Inv (bkCx X LN FN sc cl C fp pins s2 H2) (pinsAt [D] s3.heap ++ pinsAt fp s5.heap) σ6 H' s' → tn (i + 1) s'.heap ∧ ∀ b ∈ fp, H' b = none := fun {s' H'} J => by
        refine ⟨T.keep _ _ _ st5 fun b hb o e => (J.pin (b, o) (List.mem_append_right _ (List.mem_append_right _ (mem_pinsAt hb e)))).1, fun b hb => ?_⟩
        obtain ⟨o, e, d⟩ := T.obj _ _ st5 b hb
        exact (J.pin (b, o) (List.mem_append_right _ (List.mem_append_right _ (mem_pinsAt hb e)))).2.1
      have bare : ∀ {s' : Shared} {H' : Hp}, Inv (bkCx X LN FN sc cl C fp pins s2 H2) (pinsAt [D] s3.heap ++ pinsAt fp s5.heap) σ6 H' s' → Inv (bkCx X LN FN sc cl C fp pins s2 H2) [] σ6 H' s' := fun J => J.pins_of fun p hp => nomatch hp
      cases ok with
      | false =>
        rw [if_neg Bool.false_ne_true] at q7 ⊢
        obtain ⟨m', hm, w7⟩ := hN ys σ6 H7 q7
        obtain ⟨pl7, n7⟩ := keepD I7
        exact ⟨m', hm, i + 1, ys, σ6, H7, its, bare I7, (again I7).1, (again I7).2, w7, rv, pl7, n7⟩
      | true =>
        rw [if_pos rfl] at q7 ⊢
        refine thn (he cl C fp pins s2 H2 _ s7 σ6 H7 _ I7 q7) fun v s8 ⟨y, H8, I8, r8, hl8, q8⟩ => ?_
        obtain ⟨m', hm, w8⟩ := hN _ σ6 H8 q8
        obtain ⟨pl8, n8⟩ := keepD I8
        obtain ⟨t8, f8⟩ := again I8
        have hsz : its.toArray.size ≤ sizeLine := by
          have := rv.length
          rw [List.size_toArray, ← this]
          exact Nat.le_of_lt hl8
        refine wpAny_list_append_plain pl8 (fun h' pl' sb => ?_) hsz
        refine ⟨m', hm, i + 1, ys ++ [y], σ6, H8, its ++ [v], ?_, ?_, f8, w8, rv.append (.cons r8 .nil), ?_, n8⟩
        · obtain ⟨d0, d1, d2, d3, d4, d5⟩ := stD (pl := []) n8 (fun _ z => nomatch z)
          exact (bare I8).turned (t' := s8.toks) (fun b o hb e => (sb.2 b hb).trans e) d0 d1 d3 d4 d5
        · exact T.keep _ _ _ t8 fun b hb o e => (sb.2 b (Nat.ne_of_lt (hflt b hb))).trans e
        · simpa using pl'
  exact codeAny_compStart_list (key _ rfl) (T.self _ 0 _ _ _ (T.keep _ _ _ st2 fun b _ o e => old b o e) (key _ rfl))

/-- [elt for tg in iter if ..] -/
theorem pe_comp (hc : X.calm = true) (S : BkScope X.N sc X.env.scope LN FN fr) (hi : PI X tg iter wi)
    (hg : ∀ cl C fp pins s H, PG (bkCx X LN FN sc cl C fp pins s H) tg g) (ht : ∀ cl C fp pins s H, PTs (bkCx X LN FN sc cl C fp pins s H) ifs tt) (he : ∀ cl C fp pins s H, PE (bkCx X LN FN sc cl C fp pins s H) elt te)
    (hs : ∀ x, foldedSetIterable iter X.env x = pure x := by intro _; rfl) : PE X (.ListComp elt [⟨tg, iter, ifs, 0⟩] sc pos) (tComp LN fr wi g tt te) := by
  intro pins s σ H Q I h
  rw [eval_ListComp]
  obtain ⟨cl, ecl, h1, h2⟩ := closure_of (scope := sc) (env := X.env) fun y hy hk => I.ok.has y.1 (S.free y hy hk)
  refine wpAny_comprehension_free (use := none) rfl hs ecl S.kind S.names (thn (hi pins s σ H _ I h) fun v s1 q1 => thn q1 fun itv s2 q2 => ?_)
  obtain ⟨it, fp, tn, J, H2, e, I2, T, st2, f2, W, ⟨m0, w0⟩, turn⟩ := q2
  subst e
  refine bk_run (R := fun acc C => compPost (model X.prog X.w) X.A X.xe none (EP X pins σ Q) acc C) hc S hg ht he h1 h2 I2 T st2 f2 w0 turn fun D C s' H' ys m hn J fC q => ?_
  refine ⟨m, hn, fun h' sb => ⟨.ref D, _, J.turned (t' := s'.toks) (fun b o hb e => (sb.2 b hb).trans e) fC.1 fC.2.1 fC.2.2.2.1 fC.2.2.2.2.1 fC.2.2.2.2.2, rfl, q⟩⟩

end
end L2

end
section
set_option Elab.async false
set_option linter.all false
set_option maxRecDepth 100000
set_option maxHeartbeats 4000000
namespace L2
open PySem PySem.Spec PyProof.Rows

/-! ### data: what a value stands for, by tuples that never change -/
inductive D where
  | non | bl (b : Bool) | int (i : Int) | str (x : Str) | tup (ds : List D)
mutual
def Rep (H : Hp) : D → V → Prop
  | .non, v => v = .non
  | .bl b, v => v = .bl b
  | .int i, v => v = .int i
  | .str x, v => v = .str x
  | .tup ds, v => ∃ a xs, v = .ref a ∧ H a = some (.tup xs) ∧ Reps H ds xs
def Reps (H : Hp) : List D → List V → Prop
  | [], vs => vs = []
  | d :: ds, vs => ∃ v r, vs = v :: r ∧ Rep H d v ∧ Reps H ds r
end
/-- tuples stay -/
def TSame (H H' : Hp) : Prop := ∀ a xs, H a = some (.tup xs) → H' a = some (.tup xs)
theorem TSame.refl (H : Hp) : TSame H H := fun _ _ h => h
theorem TSame.trans {H H1 H2 : Hp} (a : TSame H H1) (b : TSame H1 H2) : TSame H H2 := fun c o h => b c o (a c o h)
theorem Same.ts {H H' : Hp} (h : Same H H') : TSame H H' := fun a xs e => h a _ e
theorem Same.new {H : Hp} {a : Addr} {o : HO} (h : H a = none) : Same H (upd H a o) := fun b u e => by rw [upd_ne (ne_of_none e h)]; exact e
/-- an object that is no tuple is written -/
theorem TSame.wr {H : Hp} {a : Addr} {o : HO} (h : ∀ xs, H a ≠ some (.tup xs)) : TSame H (upd H a o) := fun b xs e => by
  rw [upd_ne (fun z => by subst z; exact h xs e)]
  exact e
mutual
theorem Rep.mono {H H' : Hp} (t : TSame H H') : ∀ {d : D} {v : V}, Rep H d v → Rep H' d v
  | .non, _, h => by simpa [Rep] using h
  | .bl _, _, h => by simpa [Rep] using h
  | .int _, _, h => by simpa [Rep] using h
  | .str _, _, h => by simpa [Rep] using h
  | .tup ds, v, h => by
    rw [Rep] at h ⊢
    obtain ⟨a, xs, e, ha, r⟩ := h
    exact ⟨a, xs, e, t a xs ha, Reps.mono t r⟩
theorem Reps.mono {H H' : Hp} (t : TSame H H') : ∀ {ds : List D} {vs : List V}, Reps H ds vs → Reps H' ds vs
  | [], _, h => by simpa [Reps] using h
  | d :: ds, vs, h => by
    rw [Reps] at h ⊢
    obtain ⟨v, r, e, h1, h2⟩ := h
    exact ⟨v, r, e, Rep.mono t h1, Reps.mono t h2⟩
end
theorem rep_int {H : Hp} {i : Int} : Rep H (.int i) (.int i) := by rw [Rep]
theorem rep_tup {H : Hp} {a : Addr} {xs : List V} {ds : List D} (h : H a = some (.tup xs)) (r : Reps H ds xs) : Rep H (.tup ds) (.ref a) := by rw [Rep]; exact ⟨a, xs, rfl, h, r⟩
theorem reps_nil {H : Hp} : Reps H [] [] := by rw [Reps]
theorem reps_cons {H : Hp} {d : D} {ds : List D} {v : V} {vs : List V} (h : Rep H d v) (r : Reps H ds vs) : Reps H (d :: ds) (v :: vs) := by rw [Reps]; exact ⟨v, vs, rfl, h, r⟩
theorem rep_int_inv {H : Hp} {i : Int} {v : V} (h : Rep H (.int i) v) : v = .int i := by rwa [Rep] at h
theorem rep_tup_inv {H : Hp} {v : V} {ds : List D} (h : Rep H (.tup ds) v) : ∃ a xs, v = .ref a ∧ H a = some (.tup xs) ∧ Reps H ds xs := by rwa [Rep] at h
theorem reps_nil_inv {H : Hp} {vs : List V} (h : Reps H [] vs) : vs = [] := by rwa [Reps] at h
theorem reps_cons_inv {H : Hp} {d : D} {ds : List D} {vs : List V} (h : Reps H (d :: ds) vs) : ∃ v r, vs = v :: r ∧ Rep H d v ∧ Reps H ds r := by rwa [Reps] at h
theorem Reps.length {H : Hp} : ∀ {ds : List D} {vs : List V}, Reps H ds vs → ds.length = vs.length
  | [], vs, h => by rw [reps_nil_inv h]; rfl
  | d :: ds, vs, h => by
    obtain ⟨v, r, rfl, _, h2⟩ := reps_cons_inv h
    simp [Reps.length h2]
theorem Reps.get {H : Hp} : ∀ {ds : List D} {vs : List V} {i : Nat} {d : D}, Reps H ds vs → ds[i]? = some d → ∃ v, vs[i]? = some v ∧ Rep H d v
  | [], vs, i, d, h, e => by simp at e
  | d :: ds, vs, 0, d', h, e => by
    obtain ⟨v, r, rfl, h1, h2⟩ := reps_cons_inv h
    simp at e; subst e
    exact ⟨v, rfl, h1⟩
  | d :: ds, vs, i + 1, d', h, e => by
    obtain ⟨v, r, rfl, h1, h2⟩ := reps_cons_inv h
    obtain ⟨u, e1, e2⟩ := Reps.get (i := i) (d := d') h2 (by simpa using e)
    exact ⟨u, by simpa using e1, e2⟩
theorem Reps.get' {H : Hp} {ds : List D} {vs : List V} {i : Nat} {v : V} (h : Reps H ds vs) (e : vs[i]? = some v) : ∃ d, ds[i]? = some d ∧ Rep H d v := by
  have hl := h.length
  have hi : i < vs.length := (List.getElem?_eq_some_iff.mp e).1
  obtain ⟨u, e1, e2⟩ := h.get (i := i) (d := ds[i]'(by omega)) (List.getElem?_eq_getElem (by omega))
  rw [e] at e1; cases e1
  exact ⟨_, List.getElem?_eq_getElem (by omega), e2⟩
theorem Reps.append {H : Hp} : ∀ {ds es : List D} {vs ws : List V}, Reps H ds vs → Reps H es ws → Reps H (ds ++ es) (vs ++ ws)
  | [], es, vs, ws, h, r => by rw [reps_nil_inv h]; exact r
  | d :: ds, es, vs, ws, h, r => by
    obtain ⟨v, q, rfl, h1, h2⟩ := reps_cons_inv h
    exact reps_cons h1 (Reps.append h2 r)
mutual
def D.pl : D → Bool
  | .bl _ => false
  | .tup ds => D.pls ds
  | _ => true
def D.pls : List D → Bool
  | [] => true
  | d :: ds => d.pl && D.pls ds
end
mutual
def D.dep : D → Nat
  | .tup ds => D.deps ds + 1
  | _ => 0
def D.deps : List D → Nat
  | [] => 0
  | d :: ds => max d.dep (D.deps ds)
end
theorem D.pls_get : ∀ {ds : List D} {i : Nat} {d : D}, D.pls ds = true → ds[i]? = some d → d.pl = true
  | [], i, d, _, e => by simp at e
  | d :: ds, 0, d', h, e => by
    simp at e; subst e
    rw [D.pls, Bool.and_eq_true] at h
    exact h.1
  | d :: ds, i + 1, d', h, e => by
    rw [D.pls, Bool.and_eq_true] at h
    exact D.pls_get (i := i) h.2 (by simpa using e)
theorem D.deps_get : ∀ {ds : List D} {i : Nat} {d : D}, ds[i]? = some d → d.dep ≤ D.deps ds
  | [], i, d, e => by simp at e
  | d :: ds, 0, d', e => by
    simp at e; subst e
    rw [D.deps]; omega
  | d :: ds, i + 1, d', e => by
    have := D.deps_get (ds := ds) (i := i) (d := d') (by simpa using e)
    rw [D.deps]; omega
open Classical in
noncomputable def eqD (d e : D) : Bool := decide (d = e)
theorem eqD_true {d e : D} : eqD d e = true ↔ d = e := by unfold eqD; simp
theorem eqD_same {d : D} : eqD d d = true := eqD_true.mpr rfl
theorem eqD_false {d e : D} (h : d ≠ e) : eqD d e = false := by unfold eqD; simp [h]
theorem eqD_int {i j : Int} : eqD (.int i) (.int j) = (i == j) := by
  by_cases h : i = j
  · subst h; rw [eqD_same]; simp
  · rw [eqD_false (by intro z; cases z; exact h rfl)]; simp [h]
theorem eqD_str {i j : Str} : eqD (.str i) (.str j) = (i == j) := by
  by_cases h : i = j
  · subst h; rw [eqD_same]; simp
  · rw [eqD_false (by intro z; cases z; exact h rfl)]; simp [h]
def eqAtJ (ds es : List D) (f : D → D → Bool) (j : Nat) : Bool := match ds[j]?, es[j]? with | some a, some b => f a b | _, _ => false
theorem eqD_tup {ds es : List D} : ((List.range (min ds.length es.length)).all (eqAtJ ds es eqD) && ds.length == es.length) = eqD (.tup ds) (.tup es) := by
  by_cases h : ds = es
  · subst h
    rw [eqD_same]
    simp only [beq_self_eq_true, Bool.and_true, List.all_eq_true, List.mem_range]
    intro j hj
    have hj : j < ds.length := by omega
    unfold eqAtJ
    rw [List.getElem?_eq_getElem hj]
    exact eqD_same
  · rw [eqD_false (by intro z; cases z; exact h rfl)]
    by_cases hl : ds.length = es.length
    · rw [Bool.and_eq_false_iff]
      left
      rw [← Bool.not_eq_true]
      intro hall
      apply h
      refine List.ext_getElem? fun j => ?_
      by_cases hj : j < ds.length
      · have hj' : j < es.length := by omega
        have := List.all_eq_true.mp hall j (List.mem_range.mpr (by omega))
        unfold eqAtJ at this
        rw [List.getElem?_eq_getElem hj, List.getElem?_eq_getElem hj'] at this
        rw [List.getElem?_eq_getElem hj, List.getElem?_eq_getElem hj', eqD_true.mp this]
      · rw [List.getElem?_eq_none (by omega), List.getElem?_eq_none (by omega)]
    · rw [Bool.and_eq_false_iff]
      right
      simpa using hl
section
variable {X : Cx} {pins : List (Addr × Obj)} {σ : St} {H : Hp} {s : Shared}
theorem Inv.isTup (I : Inv X pins σ H s) {a : Addr} {xs : List V} (h : H a = some (.tup xs)) : ∃ its : List Value, Vals xs its ∧ s.heap.IsTuple a its.toArray := by
  obtain ⟨_, its, r, p⟩ := (show ObjOk X.prog X.w H s.heap a (.tup xs) from I.hok a _ h)
  exact ⟨its, r, p⟩
theorem eqAt_flat (I : Inv X pins σ H s) {d e : D} {x y : V} {u v : Value} {A : Around} (hd : d.dep = 0) (pd : d.pl = true) (pe : e.pl = true) (rd : Rep H d x) (re : Rep H e y) (ru : RelV x u) (rv : RelV y v) (hu : A.units < cLine) : SeqAt.EqAt A s u v (eqD d e) := by
  cases d with
  | tup ds => rw [D.dep] at hd; omega
  | bl b => simp [D.pl] at pd
  | non =>
    rw [Rep] at rd; subst rd; cases ru
    cases e with
    | bl b => simp [D.pl] at pe
    | non => rw [Rep] at re; subst re; cases rv; rw [eqD_same]; exact SeqAt.EqAt.same _
    | int b => rw [Rep] at re; subst re; obtain ⟨t, rfl⟩ := rv; rw [eqD_false (by intro z; cases z)]; exact SeqAt.EqAt.none_int b t
    | str b => rw [Rep] at re; subst re; obtain ⟨t, rfl⟩ := rv; rw [eqD_false (by intro z; cases z)]; exact SeqAt.EqAt.none_str b t
    | tup es =>
      rw [Rep] at re
      obtain ⟨a, xs, rfl, ha, _⟩ := re
      cases rv
      obtain ⟨its, _, ht⟩ := I.isTup ha
      rw [eqD_false (by intro z; cases z)]
      exact SeqAt.EqAt.none_tuple ht hu
  | int i =>
    rw [Rep] at rd; subst rd; obtain ⟨t, rfl⟩ := ru
    cases e with
    | bl b => simp [D.pl] at pe
    | non => rw [Rep] at re; subst re; cases rv; rw [eqD_false (by intro z; cases z)]; exact SeqAt.EqAt.int_none i t
    | int b => rw [Rep] at re; subst re; obtain ⟨t', rfl⟩ := rv; rw [eqD_int]; exact SeqAt.EqAt.int_int i t b t'
    | str b => rw [Rep] at re; subst re; obtain ⟨t', rfl⟩ := rv; rw [eqD_false (by intro z; cases z)]; exact SeqAt.EqAt.int_str i t b t'
    | tup es =>
      rw [Rep] at re
      obtain ⟨a, xs, rfl, ha, _⟩ := re
      cases rv
      obtain ⟨its, _, ht⟩ := I.isTup ha
      rw [eqD_false (by intro z; cases z)]
      exact SeqAt.EqAt.int_tuple i t ht hu
  | str i =>
    rw [Rep] at rd; subst rd; obtain ⟨t, rfl⟩ := ru
    cases e with
    | bl b => simp [D.pl] at pe
    | non => rw [Rep] at re; subst re; cases rv; rw [eqD_false (by intro z; cases z)]; exact SeqAt.EqAt.str_none i t
    | int b => rw [Rep] at re; subst re; obtain ⟨t', rfl⟩ := rv; rw [eqD_false (by intro z; cases z)]; exact SeqAt.EqAt.str_int i t b t'
    | str b => rw [Rep] at re; subst re; obtain ⟨t', rfl⟩ := rv; rw [eqD_str]; exact SeqAt.EqAt.str_str i t b t'
    | tup es =>
      rw [Rep] at re
      obtain ⟨a, xs, rfl, ha, _⟩ := re
      cases rv
      obtain ⟨its, _, ht⟩ := I.isTup ha
      rw [eqD_false (by intro z; cases z)]
      exact SeqAt.EqAt.str_tuple i t ht hu
mutual
theorem Rep.inj {H : Hp} : ∀ {d e : D} {v : V}, Rep H d v → Rep H e v → d = e
  | .non, .non, _, _, _ => rfl
  | .bl a, .bl b, v, h, h' => by simp only [Rep] at h h'; rw [h] at h'; cases h'; rfl
  | .int a, .int b, v, h, h' => by simp only [Rep] at h h'; rw [h] at h'; cases h'; rfl
  | .str a, .str b, v, h, h' => by simp only [Rep] at h h'; rw [h] at h'; cases h'; rfl
  | .tup ds, .tup es, v, h, h' => by
    rw [Rep] at h h'
    obtain ⟨a, xs, rfl, ha, r⟩ := h
    obtain ⟨b, ys, e, hb, r'⟩ := h'
    cases e
    rw [ha] at hb; cases hb
    rw [Reps.inj r r']
  | .non, .bl _, v, h, h' => by simp only [Rep] at h h'; rw [h] at h'; cases h'
  | .non, .int _, v, h, h' => by simp only [Rep] at h h'; rw [h] at h'; cases h'
  | .non, .str _, v, h, h' => by simp only [Rep] at h h'; rw [h] at h'; cases h'
  | .non, .tup _, v, h, h' => by simp only [Rep] at h h'; obtain ⟨_, _, e, _⟩ := h'; rw [h] at e; cases e
  | .bl _, .non, v, h, h' => by simp only [Rep] at h h'; rw [h] at h'; cases h'
  | .bl _, .int _, v, h, h' => by simp only [Rep] at h h'; rw [h] at h'; cases h'
  | .bl _, .str _, v, h, h' => by simp only [Rep] at h h'; rw [h] at h'; cases h'
  | .bl _, .tup _, v, h, h' => by simp only [Rep] at h h'; obtain ⟨_, _, e, _⟩ := h'; rw [h] at e; cases e
  | .int _, .non, v, h, h' => by simp only [Rep] at h h'; rw [h] at h'; cases h'
  | .int _, .bl _, v, h, h' => by simp only [Rep] at h h'; rw [h] at h'; cases h'
  | .int _, .str _, v, h, h' => by simp only [Rep] at h h'; rw [h] at h'; cases h'
  | .int _, .tup _, v, h, h' => by simp only [Rep] at h h'; obtain ⟨_, _, e, _⟩ := h'; rw [h] at e; cases e
  | .str _, .non, v, h, h' => by simp only [Rep] at h h'; rw [h] at h'; cases h'
  | .str _, .bl _, v, h, h' => by simp only [Rep] at h h'; rw [h] at h'; cases h'
  | .str _, .int _, v, h, h' => by simp only [Rep] at h h'; rw [h] at h'; cases h'
  | .str _, .tup _, v, h, h' => by simp only [Rep] at h h'; obtain ⟨_, _, e, _⟩ := h'; rw [h] at e; cases e
  | .tup _, .non, v, h, h' => by simp only [Rep] at h h'; obtain ⟨_, _, e, _⟩ := h; rw [h'] at e; cases e
  | .tup _, .bl _, v, h, h' => by simp only [Rep] at h h'; obtain ⟨_, _, e, _⟩ := h; rw [h'] at e; cases e
  | .tup _, .int _, v, h, h' => by simp only [Rep] at h h'; obtain ⟨_, _, e, _⟩ := h; rw [h'] at e; cases e
  | .tup _, .str _, v, h, h' => by simp only [Rep] at h h'; obtain ⟨_, _, e, _⟩ := h; rw [h'] at e; cases e
theorem Reps.inj {H : Hp} : ∀ {ds es : List D} {vs : List V}, Reps H ds vs → Reps H es vs → ds = es
  | [], [], _, _, _ => rfl
  | [], e :: es, vs, h, h' => by rw [reps_nil_inv h] at h'; obtain ⟨_, _, z, _⟩ := reps_cons_inv h'; cases z
  | d :: ds, [], vs, h, h' => by rw [reps_nil_inv h'] at h; obtain ⟨_, _, z, _⟩ := reps_cons_inv h; cases z
  | d :: ds, e :: es, vs, h, h' => by
    obtain ⟨v, r, rfl, h1, h2⟩ := reps_cons_inv h
    obtain ⟨v', r', z, h1', h2'⟩ := reps_cons_inv h'
    cases z
    rw [Rep.inj h1 h1', Reps.inj h2 h2']
end
theorem eqAt_D (I : Inv X pins σ H s) : ∀ (n : Nat) {d e : D} {x y : V} {u v : Value} {A : Around}, d.dep ≤ n → d.pl = true → e.pl = true → Rep H d x → Rep H e y → RelV x u → RelV y v → A.units + n < cLine → SeqAt.EqAt A s u v (eqD d e) := by
  intro n
  induction n with
  | zero =>
    intro d e x y u v A hn pd pe rd re ru rv hu
    exact eqAt_flat I (by omega) pd pe rd re ru rv (by omega)
  | succ n ih =>
    intro d e x y u v A hn pd pe rd re ru rv hu
    by_cases h0 : d.dep = 0
    · exact eqAt_flat I h0 pd pe rd re ru rv (by omega)
    · cases d with
      | non => simp [D.dep] at h0
      | bl _ => simp [D.dep] at h0
      | int _ => simp [D.dep] at h0
      | str _ => simp [D.dep] at h0
      | tup ds =>
        obtain ⟨a, xs, rfl, ha, r⟩ := rep_tup_inv rd
        cases ru
        obtain ⟨its, vx, ht⟩ := I.isTup ha
        cases e with
        | bl b => simp [D.pl] at pe
        | non => rw [Rep] at re; subst re; cases rv; rw [eqD_false (by intro z; cases z)]; exact SeqAt.EqAt.tuple_none ht (by omega)
        | int b => rw [Rep] at re; subst re; obtain ⟨t, rfl⟩ := rv; rw [eqD_false (by intro z; cases z)]; exact SeqAt.EqAt.tuple_int b t ht (by omega)
        | str b => rw [Rep] at re; subst re; obtain ⟨t, rfl⟩ := rv; rw [eqD_false (by intro z; cases z)]; exact SeqAt.EqAt.tuple_str b t ht (by omega)
        | tup es =>
          obtain ⟨b, ys, rfl, hb, r'⟩ := rep_tup_inv re
          cases rv
          by_cases hab : a = b
          · subst hab
            rw [Rep.inj rd re, eqD_same]
            exact SeqAt.EqAt.same _
          · obtain ⟨its', vy, ht'⟩ := I.isTup hb
            refine SeqAt.EqAt.of_refs hab ?_
            have l1 := vx.length
            have l2 := vy.length
            have l3 := r.length
            have l4 := r'.length
            have key := SeqAt.RcAt.tuples (A := A) (e := eqAtJ ds es eqD) ht ht' (by omega) fun j h1 h2 => ?_
            · rw [← eqD_tup, l3, l4, l1, l2]
              simpa using key
            · have h1' : j < its.length := by simpa using h1
              have h2' : j < its'.length := by simpa using h2
              have e1 : ds[j]? = some (ds[j]'(by omega)) := List.getElem?_eq_getElem _
              have e2 : es[j]? = some (es[j]'(by omega)) := List.getElem?_eq_getElem _
              obtain ⟨v1, q1, p1⟩ := r.get e1
              obtain ⟨v2, q2, p2⟩ := r'.get e2
              obtain ⟨u1, z1, w1⟩ := vx.get q1
              obtain ⟨u2, z2, w2⟩ := vy.get q2
              have y1 : its.toArray[j] = u1 := by
                have : its[j]? = some its[j] := List.getElem?_eq_getElem h1'
                rw [z1] at this
                simpa using (Option.some.inj this).symm
              have y2 : its'.toArray[j] = u2 := by
                have : its'[j]? = some its'[j] := List.getElem?_eq_getElem h2'
                rw [z2] at this
                simpa using (Option.some.inj this).symm
              rw [y1, y2]
              unfold eqAtJ
              rw [e1, e2]
              rw [D.dep] at hn
              have hdep := D.deps_get e1
              rw [D.pl] at pd pe
              exact ih (by omega) (D.pls_get pd e1) (D.pls_get pe e2) p1 p2 w1 w2 (by show A.units + 1 + n < cLine; omega)
end
end L2

end
section
set_option Elab.async false
set_option linter.all false
set_option maxRecDepth 100000
set_option maxHeartbeats 4000000
namespace L2
open PySem PySem.Spec PyProof.Rows
section
variable {X : Cx}
/-! ### == and != of tuples and lists, deep -/
def rEqD : R2 := fun x y H Q => ∃ ds es, Rep H (.tup ds) x ∧ Rep H (.tup es) y ∧ D.pls ds = true ∧ D.pls es = true ∧ D.deps ds ≤ 40 ∧ Q (.bl (eqD (.tup ds) (.tup es))) H
def rNeD : R2 := fun x y H Q => ∃ ds es, Rep H (.tup ds) x ∧ Rep H (.tup es) y ∧ D.pls ds = true ∧ D.pls es = true ∧ D.deps ds ≤ 40 ∧ Q (.bl (!eqD (.tup ds) (.tup es))) H
theorem items_at {X : Cx} {pins : List (Addr × Obj)} {σ : St} {H : Hp} {s : Shared} {A : Around} (I : Inv X pins σ H s) {ds es : List D} {xs ys : List V} {its its' : List Value} (vx : Vals xs its) (vy : Vals ys its') (r : Reps H ds xs) (r' : Reps H es ys) (pd : D.pls ds = true) (pe : D.pls es = true)
    (hd : D.deps ds ≤ 40) (hu : A.units + 40 < cLine) : ∀ j (h1 : j < its.toArray.size) (h2 : j < its'.toArray.size), SeqAt.EqAt A s its.toArray[j] its'.toArray[j] (eqAtJ ds es eqD j) := by
  intro j h1 h2
  have l1 := vx.length
  have l2 := vy.length
  have l3 := r.length
  have l4 := r'.length
  have h1' : j < its.length := by simpa using h1
  have h2' : j < its'.length := by simpa using h2
  have e1 : ds[j]? = some (ds[j]'(by omega)) := List.getElem?_eq_getElem _
  have e2 : es[j]? = some (es[j]'(by omega)) := List.getElem?_eq_getElem _
  obtain ⟨v1, q1, p1⟩ := r.get e1
  obtain ⟨v2, q2, p2⟩ := r'.get e2
  obtain ⟨u1, z1, w1⟩ := vx.get q1
  obtain ⟨u2, z2, w2⟩ := vy.get q2
  have y1 : its.toArray[j] = u1 := by
    have : its[j]? = some its[j] := List.getElem?_eq_getElem h1'
    rw [z1] at this
    simpa using (Option.some.inj this).symm
  have y2 : its'.toArray[j] = u2 := by
    have : its'[j]? = some its'[j] := List.getElem?_eq_getElem h2'
    rw [z2] at this
    simpa using (Option.some.inj this).symm
  rw [y1, y2]
  unfold eqAtJ
  rw [e1, e2]
  have hdep := D.deps_get e1
  exact eqAt_D I 40 (by omega) (D.pls_get pd e1) (D.pls_get pe e2) p1 p2 w1 w2 hu
theorem op_eqD (hu : X.A.units + 64 < cLine) : OpR X (compareOp .Eq) rEqD := by
  rintro pins s σ H x y v u Q I rx ry ⟨ds, es, h1, h2, pd, pe, hd, q⟩
  obtain ⟨a, xs, rfl, ha, r⟩ := rep_tup_inv h1
  obtain ⟨b, ys, rfl, hb, r'⟩ := rep_tup_inv h2
  cases rx; cases ry
  obtain ⟨its, vx, ht⟩ := I.isTup ha
  obtain ⟨its', vy, ht'⟩ := I.isTup hb
  refine SeqAt.eq_tupleAt (e := eqAtJ ds es eqD) ht ht' (by omega) (items_at (A := X.A.in1) I vx vy r r' pd pe hd (by show X.A.units + 1 + 40 < cLine; omega)) ?_
  refine fin_bl I q ?_
  rw [← eqD_tup, r.length, r'.length, vx.length, vy.length]
  simp
theorem op_neD (hu : X.A.units + 64 < cLine) : OpR X (compareOp .NotEq) rNeD := by
  rintro pins s σ H x y v u Q I rx ry ⟨ds, es, h1, h2, pd, pe, hd, q⟩
  obtain ⟨a, xs, rfl, ha, r⟩ := rep_tup_inv h1
  obtain ⟨b, ys, rfl, hb, r'⟩ := rep_tup_inv h2
  cases rx; cases ry
  obtain ⟨its, vx, ht⟩ := I.isTup ha
  obtain ⟨its', vy, ht'⟩ := I.isTup hb
  refine SeqAt.RcNeAt.tuples (e := eqAtJ ds es eqD) ht ht' (by omega) (items_at (A := X.A.in1) I vx vy r r' pd pe hd (by show X.A.units + 1 + 40 < cLine; omega)) _ _ _ _ ?_
  refine fin_bl I q ?_
  rw [← eqD_tup, r.length, r'.length, vx.length, vy.length]
  simp
def rEqL (K : PySem.W.Frag) : R2 := fun x y H Q => ∃ a b xs ys ds es, x = .ref a ∧ y = .ref b ∧ SqL K H a xs ∧ SqL K H b ys ∧ Reps H ds xs ∧ Reps H es ys ∧ D.pls ds = true ∧ D.pls es = true ∧ D.deps ds ≤ 40 ∧ Q (.bl (eqD (.tup ds) (.tup es))) H
def rNeL (K : PySem.W.Frag) : R2 := fun x y H Q => ∃ a b xs ys ds es, x = .ref a ∧ y = .ref b ∧ SqL K H a xs ∧ SqL K H b ys ∧ Reps H ds xs ∧ Reps H es ys ∧ D.pls ds = true ∧ D.pls es = true ∧ D.deps ds ≤ 40 ∧ Q (.bl (!eqD (.tup ds) (.tup es))) H
theorem op_eqL (hu : X.A.units + 64 < cLine) : OpR X (compareOp .Eq) (rEqL X.K) := by
  rintro pins s σ H x y v u Q I rx ry ⟨a, b, xs, ys, ds, es, rfl, rfl, ha, hb, r, r', pd, pe, hd, q⟩
  cases rx; cases ry
  obtain ⟨its, vx, ht, _⟩ := I.list ha
  obtain ⟨its', vy, ht', _⟩ := I.list hb
  by_cases hl : its.length = its'.length
  · refine SeqAt.eq_listAt (e := eqAtJ ds es eqD) ht.isList ht'.isList (by simpa using hl) (by omega) (items_at (A := X.A.in1) I vx vy r r' pd pe hd (by show X.A.units + 1 + 40 < cLine; omega)) ?_
    refine fin_bl I q ?_
    rw [← eqD_tup, r.length, r'.length, vx.length, vy.length, hl]
    simp [hl]
  · refine SeqAt.eq_list_lengthsAt ht.isList ht'.isList (by simpa using hl) (by omega) (fin_bl I q ?_)
    refine eqD_false fun z => hl ?_
    cases z
    rw [← vx.length, ← vy.length, ← r.length, ← r'.length]
theorem op_neL (hu : X.A.units + 64 < cLine) : OpR X (compareOp .NotEq) (rNeL X.K) := by
  rintro pins s σ H x y v u Q I rx ry ⟨a, b, xs, ys, ds, es, rfl, rfl, ha, hb, r, r', pd, pe, hd, q⟩
  cases rx; cases ry
  obtain ⟨its, vx, ht, _⟩ := I.list ha
  obtain ⟨its', vy, ht', _⟩ := I.list hb
  by_cases hl : its.length = its'.length
  · refine SeqAt.RcNeAt.lists (e := eqAtJ ds es eqD) ht.isList ht'.isList (by simpa using hl) (by omega) (items_at (A := X.A.in1) I vx vy r r' pd pe hd (by show X.A.units + 1 + 40 < cLine; omega)) _ _ _ _ ?_
    refine fin_bl I q ?_
    rw [← eqD_tup, r.length, r'.length, vx.length, vy.length, hl]
    simp [hl]
  · refine SeqAt.RcNeAt.lists_lengths ht.isList ht'.isList (by simpa using hl) (by omega) _ _ _ _ (fin_bl I q ?_)
    rw [eqD_false fun z => hl ?_]
    · rfl
    · cases z
      rw [← vx.length, ← vy.length, ← r.length, ← r'.length]

/-! ### is, is not, of truths -/
/-! ### products and quotients of long numbers -/
def CBig (i j : Int) : Prop := i.natAbs < 2 ^ 8000 ∧ j.natAbs < 2 ^ 8000
theorem bits_big {i : Int} (h : i.natAbs < 2 ^ 8000) : Builtin.Int.intBits i ≤ 8000 := by
  unfold Builtin.Int.intBits
  by_cases h0 : i = 0
  · simp [h0]
  · have : (i == 0) = false := by simpa using h0
    rw [this]
    have := (Nat.log2_lt (show i.natAbs ≠ 0 by omega)).mpr h
    simp
    omega
theorem CBig.ok {i j : Int} (h : CBig i j) : IntMulOk i j := by
  unfold IntMulOk
  have h1 := bits_big h.1
  have h2 := bits_big h.2
  have hb : Builtin.Int.intTooBig (Builtin.Int.intBits i + Builtin.Int.intBits j) = false := by
    unfold Builtin.Int.intTooBig
    rw [decide_eq_false]
    have : (16000 : Int) ≤ bitsLine := by decide
    omega
  rw [hb]
  simp
theorem op_mulB : OpR X (binaryOp .Mult) (rI CBig fun i j => .int (i * j)) := opI fun _ _ _ _ _ _ _ hc q => mul_int q hc.ok
def CDivB (i j : Int) : Prop := 0 < j ∧ j.natAbs < 2 ^ 8000
theorem op_fdivB : OpR X (binaryOp .FloorDiv) (rI CDivB fun i j => .int (i / j)) := opI fun i j _ _ _ _ _ hc q => by
  have hj : j ≠ 0 := by have := hc.1; omega
  refine floordiv_int hj ?_ (.inl (PyProof.noPylong_of_log2 ?_))
  · rw [Int.fdiv_eq_ediv_of_nonneg _ (by have := hc.1; omega)]
    exact q
  · have := (Nat.log2_lt (show j.natAbs ≠ 0 by omega)).mpr hc.2
    omega

/-! ### sum of a list of ints -/
/-! ### isinstance of a built-in type -/
def isi (t T : String) : Bool := t == T || (t == "bool" && T == "int")
theorem kit_of {K : PySem.W.Frag} : ∀ {t T : String}, t ∈ ["int", "bool", "str", "tuple", "list", "dict", "NoneType"] → T ∈ ["int", "bool", "str", "tuple", "list", "dict"] → PySem.W.kitOne K (.type t) (.type T) = some (isi t T) := by
  intro t T ht hT
  simp only [List.mem_cons, List.mem_nil_iff, or_false] at ht hT
  rcases ht with rfl | rfl | rfl | rfl | rfl | rfl | rfl <;> rcases hT with rfl | rfl | rfl | rfl | rfl | rfl <;> with_unfolding_all rfl
/-- the type of a value by the abstract heap -/
def tyN (H : Hp) : V → Option String
  | .non => some "NoneType"
  | .bl _ => some "bool"
  | .int _ => some "int"
  | .str _ => some "str"
  | .ref a => match H a with
    | some (.lst _) => some "list"
    | some (.frz _ (.lst _)) => some "list"
    | some (.tup _) => some "tuple"
    | some (.dK _) => some "dict"
    | some (.dT _) => some "dict"
    | _ => none
  | _ => none
theorem tyN_of {K : PySem.W.Frag} {H : Hp} {x : V} {t : String} (h : tyN H x = some t) : TyOf K H x (.type t) ∧ t ∈ ["int", "bool", "str", "tuple", "list", "dict", "NoneType"] := by
  cases x with
  | non => cases h; exact ⟨.non, by simp⟩
  | bl b => cases h; exact ⟨.bl b, by simp⟩
  | int i => cases h; exact ⟨.int i, by simp⟩
  | str y => cases h; exact ⟨.str y, by simp⟩
  | ref a =>
    simp only [tyN] at h
    split at h
    · rename_i e; cases h; exact ⟨.lst e, by simp⟩
    · rename_i e; cases h; exact ⟨.frz e, by simp⟩
    · rename_i e; cases h; exact ⟨.tup e, by simp⟩
    · rename_i e; cases h; exact ⟨.dK e, by simp⟩
    · rename_i e; cases h; exact ⟨.dT e, by simp⟩
    · cases h
  | byt _ => cases h
  | flt _ => cases h
  | ty _ => cases h
def rIsi : List V → Hp → VK → Prop := fun xs H Q => ∃ x T t, xs = [x, .ty T] ∧ tyN H x = some t ∧ T ∈ ["int", "bool", "str", "tuple", "list", "dict"] ∧ Q (.bl (isi t T)) H
theorem call_isi : CallR X (.builtin "isinstance") rIsi := by
  intro pins s σ H xs us Q I r h
  obtain ⟨x, T, t, rfl, ht, hT, q⟩ := h
  cases r with
  | cons r1 r2 =>
    cases r2 with
    | cons r3 r4 =>
      cases r4
      cases r3
      obtain ⟨ty, hm⟩ := tyN_of (K := X.K) ht
      exact isinst_ok I r1 ty (kit_of hm hT) fun tk => ⟨.bl _, H, I.tok _, rfl, q⟩
end

/-! ### a def of the text, called by its name -/
structure Callee (P : Program) (w : World) (K : PySem.W.Frag) (mg : Str → Option Value) (base : Heap) (x : Str) (k : Nat) (ps : List Str) (sp : Sp) : Prop where
  ex : ∃ f fd, FnOk P w K mg base CX0 k f fd ps sp ∧ mg x = some (.ref f) ∧ PySem.W.keepIn K (.ref f) = true ∧ Binds K fd ps []
theorem pe_fn {X : Cx} {x : Str} {k : Nat} {ps : List Str} {sp : Sp} {p pos : Pos} {e : Expr} {es : List Expr} {t : TA} (C : Callee X.prog X.w X.K X.mg X.base x k ps sp) (hr : Room k X.A) (hg : Gl X x) (ha : PA X (e :: es) t) (hdb : (x == ("__debug__" : Str)) = false := by decide)
    (he : starEach (e :: es) X.env = (false, eval e X.env) :: starEach es X.env := by rfl) (hpl : (backTo pos (starEach es X.env)).any (·.1) = false := by rfl) :
    PE X (.Call (.Name x p) (e :: es) [] pos) (tCall sp [] E0 t) := by
  obtain ⟨f, fd, F, hm, hk, hb⟩ := C.ex
  exact pe_call F hr hg hm hk hb .nil pass0 ha hdb he hpl
/-! ### comprehensions: the forms one uses -/
section
variable {K : PySem.W.Frag} {a : Addr} {xs : List V} {g : TG} {tt : TT} {te : TE} {Q : VK} {σ : St} {H : Hp}
/-- one more turn -/
def CN (Pv : Nat → List V → St → Hp → Prop) (i : Nat) (ys' : List V) (σ' : St) (H' : Hp) : Prop := ys'.length ≤ i + 1 ∧ Pv (i + 1) ys' σ' H'
theorem cw_of {J : It} (n : Nat) (hz : n ≤ sizeLine) (Pv : Nat → List V → St → Hp → Prop) (h0 : Pv 0 [] σ H) (hgo : ∀ i ys σ H, i < n → Pv i ys σ H → J.go i H) (hstop : ∀ ys σ H, Pv n ys σ H → J.stop n H)
    (hs : ∀ i x ys σ H H2, i < n → ys.length ≤ i → ys.length < sizeLine → Pv i ys σ H → J.yld i H x H2 → g x σ H2 fun σ2 H3 => tt σ2 H3 fun ok H4 => if ok = true then te σ2 H4 fun y H5 => ys.length < sizeLine ∧ CN Pv i (ys ++ [y]) σ2 H5 else CN Pv i ys σ2 H4)
    (hd : ∀ ys σ H, ys.length ≤ n → Pv n ys σ H → ∀ p, H p = none → Q (.ref p) (upd H p (.lst ys))) :
    ∃ W : Nat → Nat → List V → St → Hp → Prop, (∃ m, W 0 m [] σ H) ∧ CW J g tt te W Q := by
  refine ⟨fun i m ys σ H => m = n - i ∧ i ≤ n ∧ ys.length ≤ i ∧ Pv i ys σ H, ⟨n, by simp, Nat.zero_le _, Nat.le_refl _, h0⟩, ?_⟩
  rintro i m ys σ H ⟨rfl, hi, hy, p⟩
  by_cases hlt : i < n
  · exact .inr ⟨hgo i ys σ H hlt p, CN Pv i, fun ys' σ' H' p' => ⟨n - (i + 1), by omega, rfl, hlt, p'.1, p'.2⟩, fun x H2 y => hs i x ys σ H H2 hlt hy (by omega) p y⟩
  · have e : i = n := by omega
    subst e
    exact .inl ⟨hstop ys σ H p, by omega, hd ys σ H hy p⟩
theorem cw_list (hz : xs.length ≤ sizeLine) (Pv : Nat → List V → St → Hp → Prop) (h0 : Pv 0 [] σ H) (hl : ∀ i ys σ H, i ≤ xs.length → Pv i ys σ H → SqL K H a xs)
    (hs : ∀ i x ys σ H, xs[i]? = some x → ys.length ≤ i → ys.length < sizeLine → Pv i ys σ H → g x σ H fun σ2 H3 => tt σ2 H3 fun ok H4 => if ok = true then te σ2 H4 fun y H5 => ys.length < sizeLine ∧ CN Pv i (ys ++ [y]) σ2 H5 else CN Pv i ys σ2 H4)
    (hd : ∀ ys σ H, ys.length ≤ xs.length → Pv xs.length ys σ H → ∀ p, H p = none → Q (.ref p) (upd H p (.lst ys))) :
    ∃ W : Nat → Nat → List V → St → Hp → Prop, (∃ m, W 0 m [] σ H) ∧ CW (Itl K a) g tt te W Q := by
  refine cw_of xs.length hz Pv h0 (fun i ys σ H hi p => ⟨xs, xs[i], hl i ys σ H (Nat.le_of_lt hi) p, by simp [hi]⟩) (fun ys σ H p => ⟨xs, hl _ ys σ H (Nat.le_refl _) p, Nat.le_refl _⟩) (fun i x ys σ H H2 hi h1 h2 p y => ?_) hd
  obtain ⟨rfl, y⟩ := y
  exact hs i x ys σ _ (y xs (hl i ys σ _ (Nat.le_of_lt hi) p)) h1 h2 p
theorem cw_tup (hz : xs.length ≤ sizeLine) (Pv : Nat → List V → St → Hp → Prop) (h0 : Pv 0 [] σ H) (hl : ∀ i ys σ H, i ≤ xs.length → Pv i ys σ H → SqT K H a xs)
    (hs : ∀ i x ys σ H, xs[i]? = some x → ys.length ≤ i → ys.length < sizeLine → Pv i ys σ H → g x σ H fun σ2 H3 => tt σ2 H3 fun ok H4 => if ok = true then te σ2 H4 fun y H5 => ys.length < sizeLine ∧ CN Pv i (ys ++ [y]) σ2 H5 else CN Pv i ys σ2 H4)
    (hd : ∀ ys σ H, ys.length ≤ xs.length → Pv xs.length ys σ H → ∀ p, H p = none → Q (.ref p) (upd H p (.lst ys))) :
    ∃ W : Nat → Nat → List V → St → Hp → Prop, (∃ m, W 0 m [] σ H) ∧ CW (Itt K a) g tt te W Q := by
  refine cw_of xs.length hz Pv h0 (fun i ys σ H hi p => ⟨xs, xs[i], hl i ys σ H (Nat.le_of_lt hi) p, by simp [hi]⟩) (fun ys σ H p => ⟨xs, hl _ ys σ H (Nat.le_refl _) p, Nat.le_refl _⟩) (fun i x ys σ H H2 hi h1 h2 p y => ?_) hd
  obtain ⟨rfl, y⟩ := y
  exact hs i x ys σ _ (y xs (hl i ys σ _ (Nat.le_of_lt hi) p)) h1 h2 p
theorem cw_range {lo : Int} {n : Nat} (hz : n ≤ sizeLine) (Pv : Nat → List V → St → Hp → Prop) (h0 : Pv 0 [] σ H)
    (hs : ∀ i ys σ H, i < n → ys.length ≤ i → ys.length < sizeLine → Pv i ys σ H → g (.int (lo + i)) σ H fun σ2 H3 => tt σ2 H3 fun ok H4 => if ok = true then te σ2 H4 fun y H5 => ys.length < sizeLine ∧ CN Pv i (ys ++ [y]) σ2 H5 else CN Pv i ys σ2 H4)
    (hd : ∀ ys σ H, ys.length ≤ n → Pv n ys σ H → ∀ p, H p = none → Q (.ref p) (upd H p (.lst ys))) :
    ∃ W : Nat → Nat → List V → St → Hp → Prop, (∃ m, W 0 m [] σ H) ∧ CW (Itr lo n) g tt te W Q := by
  refine cw_of n hz Pv h0 (fun i ys σ H hi p => hi) (fun ys σ H p => Nat.le_refl _) (fun i x ys σ H H2 hi h1 h2 p y => ?_) hd
  obtain ⟨rfl, rfl⟩ := y
  exact hs i ys σ _ hi h1 h2 p
end
end L2

end
section
set_option Elab.async false
set_option linter.all false
set_option maxRecDepth 100000
set_option maxHeartbeats 4000000
namespace L2
open PySem PySem.Spec PyProof.Rows
/-! ### readings, step by step (each is what its word says, written so that refine finds it) -/
section
variable {σ : St} {H : Hp} {Q : VK} {v x y : V} {ta tb tc te : TE} {t u : TS} {c d : TT} {D' : Ends} {r : R2} {g : TG} {i j : Int} {n : Nat} {K : PySem.W.Frag}
theorem rd_var (e : σ[n]? = some (some v)) (h : Q v H) : tVar n σ H Q := ⟨v, e, h⟩
theorem rd_c (h : Q v H) : tC v σ H Q := h
theorem rd_op (h : ta σ H fun x H1 => tb σ H1 fun y H2 => r x y H2 Q) : tOp r ta tb σ H Q := h
theorem rd_un {r : V → Hp → VK → Prop} (h : ta σ H fun x H1 => r x H1 Q) : tUn r ta σ H Q := h
theorem rd_seq (h : t { D' with nx := u D' } σ H) : tSeq t u D' σ H := h
theorem rd_asg (h : te σ H fun x H1 => g x σ H1 D'.nx) : tAsg te g D' σ H := h
theorem rd_gname {R : St → Hp → Prop} (h : R (σ.set n (some v)) H) : gName n v σ H R := h
theorem rd_ret (h : te σ H D'.rt) : tRet te D' σ H := h
theorem rd_drop (h : te σ H fun _ H1 => D'.nx σ H1) : tDrop te D' σ H := h
theorem rd_next (h : D'.nx σ H) : tNext D' σ H := h
theorem rd_if (h : c σ H fun b H1 => if b = true then t D' σ H1 else u D' σ H1) : tIfS c t u D' σ H := h
theorem rd_test {R : Bool → Hp → Prop} (h : ta σ H fun x H' => ∃ k, x = .bl k ∧ R k H') : tTest ta σ H R := h
theorem rd_tb {R : Bool → Hp → Prop} (h : ta σ H fun x H' => ∃ k, x = .bl k ∧ R k H') : tB ta σ H R := h
theorem rd_and {R : Bool → Hp → Prop} (h : c σ H fun b H1 => if b = true then d σ H1 R else R false H1) : tAnd c d σ H R := h
theorem rd_or {R : Bool → Hp → Prop} (h : c σ H fun b H1 => if b = true then R true H1 else d σ H1 R) : tOr c d σ H R := h
theorem rd_not {R : Bool → Hp → Prop} (h : c σ H fun b H1 => R (!b) H1) : tNot c σ H R := h
theorem rd_true {R : Bool → Hp → Prop} (h : R true H) : tTrue σ H R := h
theorem rd_andV (h : ta σ H fun x H1 => ∃ c, x = .bl c ∧ if c = true then tb σ H1 Q else Q (.bl false) H1) : tAndV ta tb σ H Q := h
theorem rd_notV (h : ta σ H fun x H1 => ∃ c, x = .bl c ∧ Q (.bl (!c)) H1) : tNotV ta σ H Q := h
theorem rd_ifE (h : c σ H fun b H1 => if b = true then ta σ H1 Q else tb σ H1 Q) : tIf c ta tb σ H Q := h
theorem rd_nil {R : List V → Hp → Prop} (h : R [] H) : tNil σ H R := h
theorem rd_cons {tr : TA} {R : List V → Hp → Prop} (h : ta σ H fun x H1 => tr σ H1 fun xs H2 => R (x :: xs) H2) : tCons ta tr σ H R := h
theorem rd_cb {rr : List V → Hp → VK → Prop} {ta : TA} (h : ta σ H fun vs H1 => rr vs H1 Q) : tCB rr ta σ H Q := h
theorem rd_call {sp : Sp} {E : XK} {ta : TA} (h : ta σ H fun vs H1 => sp (vs ++ []) H1 Q E) : tCall sp [] E ta σ H Q := h
theorem rd_I0 {f : Int → Int → V} (h : Q (f i j) H) : rI0 f (.int i) (.int j) H Q := ⟨i, j, rfl, rfl, h⟩
theorem rd_I {C : Int → Int → Prop} {f : Int → Int → V} (hc : C i j) (h : Q (f i j) H) : rI C f (.int i) (.int j) H Q := ⟨i, j, rfl, rfl, hc, h⟩
theorem rd_U {f : Int → V} (h : Q (f i) H) : rU f (.int i) H Q := ⟨i, rfl, h⟩
theorem rd_eqI (h : Q (.bl (decide (i = j))) H) : rEq (.int i) (.int j) H Q := ⟨rfl, by rw [dec_int, Bool.beq_eq_decide_eq]; exact h⟩
theorem rd_neI (h : Q (.bl (!decide (i = j))) H) : rNe (.int i) (.int j) H Q := ⟨rfl, by rw [dec_int, Bool.beq_eq_decide_eq]; exact h⟩
theorem rd_eqS {a b : Str} (h : Q (.bl (decide (a = b))) H) : rEq (.str a) (.str b) H Q := ⟨rfl, by rw [dec_str, Bool.beq_eq_decide_eq]; exact h⟩
theorem rd_bl {b : Bool} {R : Bool → Prop} (h : R b) : ∃ k, V.bl b = V.bl k ∧ R k := ⟨b, rfl, h⟩
theorem rd_tup {ta : TA} (h : ta σ H fun xs H1 => xs.length ≤ sizeLine ∧ ∀ p, H1 p = none → Q (.ref p) (upd H1 p (.tup xs))) : tTup ta σ H Q := h
theorem rd_lst {ta : TA} (h : ta σ H fun xs H1 => xs.length ≤ sizeLine ∧ ∀ p, H1 p = none → Q (.ref p) (upd H1 p (.lst xs))) : tLst ta σ H Q := h
theorem small_le {n : Nat} (h : n ≤ 1000) : n ≤ sizeLine := Nat.le_trans h (by decide)
/-- an item of a tuple, of a list -/
theorem rd_ixT {p : Addr} {xs : List V} (h : H p = some (.tup xs)) (e : atI xs i = some v) (q : Q v H) : rIxT K (.ref p) (.int i) H Q := ⟨p, xs, i, v, rfl, rfl, SqT.of h, e, q⟩
theorem rd_ixL {p : Addr} {xs : List V} (h : H p = some (.lst xs)) (e : atI xs i = some v) (q : Q v H) : rIxL K (.ref p) (.int i) H Q := ⟨p, xs, i, v, rfl, rfl, SqL.of h, e, q⟩
theorem rd_setL {p : Addr} {xs : List V} {k : Nat} {R : Hp → Prop} (h : H p = some (.lst xs)) (e : ixN xs.length i = some k) (q : R (upd H p (.lst (xs.set k v)))) : rSetL (.ref p) (.int i) v H R := ⟨p, xs, i, k, rfl, rfl, h, e, q⟩
theorem rd_gsub {to ti : TE} {ts : TSet} {R : St → Hp → Prop} (h : to σ H fun o H1 => ti σ H1 fun i H2 => ts o i v H2 fun H3 => R σ H3) : gSub to ti ts v σ H R := h
theorem rd_isi {x : V} {T t : String} (h : tyN H x = some t) (hT : T ∈ ["int", "bool", "str", "tuple", "list", "dict"]) (q : Q (.bl (isi t T)) H) : rIsi [x, .ty T] H Q := ⟨x, T, t, rfl, h, hT, q⟩
theorem tyN_tup {a : Addr} {xs : List V} (h : H a = some (.tup xs)) : tyN H (.ref a) = some "tuple" := by simp only [tyN, h]
theorem tyN_lst {a : Addr} {xs : List V} (h : H a = some (.lst xs)) : tyN H (.ref a) = some "list" := by simp only [tyN, h]
theorem rd_slice {rr : V → Option Int → Option Int → Hp → VK → Prop} {tl th : TO} (h : te σ H fun x H1 => tl σ H1 fun l H2 => th σ H2 fun u H3 => rr x l u H3 Q) : tSl rr te tl th σ H Q := h
theorem rd_nopart {R : Option Int → Hp → Prop} (h : R none H) : tNoPart σ H R := h
theorem rd_part {R : Option Int → Hp → Prop} (h : ta σ H fun x H1 => ∃ i, x = .int i ∧ R (some i) H1) : tPart ta σ H R := h
theorem rd_int {R : Int → Prop} (h : R i) : ∃ k, V.int i = V.int k ∧ R k := ⟨i, rfl, h⟩
theorem rd_bm {T : String} {rr : V → List V → Hp → VK → Prop} {ta' : TA} (h : ta σ H fun x H1 => tyV K T x H1 ∧ ta' σ H1 fun xs H2 => rr x xs H2 Q) : tBM K T rr ta ta' σ H Q := h
theorem rd_bm0 {T : String} {rr : V → List V → Hp → VK → Prop} (h : ta σ H fun x H1 => tyV K T x H1 ∧ rr x [] H1 Q) : tBM0 K T rr ta σ H Q := h
theorem rd_append {l : Addr} {xs : List V} (h : H l = some (.lst xs)) (hz : xs.length < sizeLine) (q : Q .non (upd H l (.lst (xs ++ [y])))) : rAppend (.ref l) [y] H Q := ⟨l, xs, y, rfl, rfl, h, hz, q⟩
theorem rd_comp {LN : List Str} {fr : List Nat} {wi : TI} (h : wi σ H fun J H1 => ∃ W : Nat → Nat → List V → St → Hp → Prop, (∃ m, W 0 m [] (bkStart LN fr σ) H1) ∧ CW J g c te W Q) : tComp LN fr wi g c te σ H Q := h
def itK (K : PySem.W.Frag) (R : It → Hp → Prop) (x : V) (H1 : Hp) : Prop := ∃ a, x = .ref a ∧ (∃ xs, SqT K H1 a xs) ∧ R (Itt K a) H1
def ilK (K : PySem.W.Frag) (R : It → Hp → Prop) (x : V) (H1 : Hp) : Prop := ∃ a, x = .ref a ∧ (∃ xs, SqL K H1 a xs) ∧ R (Itl K a) H1
def irK (R : It → Hp → Prop) (vs : List V) (H1 : Hp) : Prop := ∃ j : Int, vs = [.int j] ∧ -(2 ^ 62) ≤ j ∧ j < 2 ^ 62 ∧ R (Itr 0 j.toNat) H1
theorem rd_itup {R : It → Hp → Prop} {tl : TE} (h : tl σ H (itK K R)) : iTup K tl σ H R := h
theorem rd_ilist {R : It → Hp → Prop} {tl : TE} (h : tl σ H (ilK K R)) : iList K tl σ H R := h
theorem rd_irng {R : It → Hp → Prop} {ta' : TA} (h : ta' σ H (irK R)) : iRng1 ta' σ H R := h
theorem itK_rep {R : It → Hp → Prop} {x : V} {ds : List D} (h : Rep H (.tup ds) x) (q : ∀ a xs, x = .ref a → H a = some (.tup xs) → Reps H ds xs → R (Itt K a) H) : itK K R x H := by
  obtain ⟨a, xs, rfl, ha, r⟩ := rep_tup_inv h
  exact ⟨a, rfl, ⟨xs, SqT.of ha⟩, q a xs rfl ha r⟩
theorem ilK_of {R : It → Hp → Prop} {a : Addr} {xs : List V} (h : SqL K H a xs) (q : R (Itl K a) H) : ilK K R (.ref a) H := ⟨a, rfl, ⟨xs, h⟩, q⟩
theorem irK_of {R : It → Hp → Prop} {j : Int} (h1 : -(2 ^ 62) ≤ j) (h2 : j < 2 ^ 62) (q : R (Itr 0 j.toNat) H) : irK R [.int j] H := ⟨j, rfl, h1, h2, q⟩
theorem rd_gtup {tg : TGs} {a : Addr} {xs : List V} {R : St → Hp → Prop} (h : H a = some (.tup xs)) (hl : xs.length = n) (q : tg xs σ H R) : gTup K n tg (.ref a) σ H R := ⟨a, xs, rfl, SqT.of h, hl, q⟩
theorem rd_gcons {tg : TGs} {vs : List V} {R : St → Hp → Prop} (h : g v σ H fun σ' H' => tg vs σ' H' R) : gCons g tg (v :: vs) σ H R := ⟨v, vs, rfl, h⟩
theorem rd_gnil {R : St → Hp → Prop} (h : R σ H) : gNil [] σ H R := ⟨rfl, h⟩
theorem rd_for {wi : TI} (h : wi σ H fun J H1 => ∃ W : Nat → Nat → St → Hp → Prop, (∃ m, W 0 m σ H1) ∧ ∀ i m σ H, W i m σ H →
  (J.stop i H ∧ D'.nx σ H) ∨ (J.go i H ∧ ∃ N : St → Hp → Prop, (∀ σ' H', N σ' H' → ∃ m', m' < m ∧ W (i + 1) m' σ' H') ∧ ∀ x H', J.yld i H x H' → g x σ H' fun σ2 H2 => t { D' with nx := N, ct := N, bk := D'.nx } σ2 H2)) : tFor wi g t D' σ H := h
end
end L2

end
section
set_option Elab.async false
set_option linter.all false
set_option maxRecDepth 100000
set_option maxHeartbeats 4000000
namespace L2
open PySem PySem.Spec PyProof.Rows
theorem bt_abs : bootBuiltins "abs" = some (.builtin "abs") := by decide +kernel
theorem bt_len : bootBuiltins "len" = some (.builtin "len") := by decide +kernel
theorem bt_isinstance : bootBuiltins "isinstance" = some (.builtin "isinstance") := by decide +kernel
theorem bt_max : bootBuiltins "max" = some (.builtin "max") := by decide +kernel
theorem bt_int : bootBuiltins "int" = some (.type "int") := by decide +kernel
theorem bt_bool : bootBuiltins "bool" = some (.type "bool") := by decide +kernel
theorem bt_tuple : bootBuiltins "tuple" = some (.type "tuple") := by decide +kernel
theorem bt_list : bootBuiltins "list" = some (.type "list") := by decide +kernel
theorem bt_zip : bootBuiltins "zip" = some (.type "zip") := by decide +kernel
def bkOk (N : List Str) (sc osc : Scope) (FN : List Str) (fr : List Nat) : Bool :=
  decide (sc.kind = .function) && sc.names.all (fun y => decide (y.2 ≠ .cell)) && sc.names.all (fun y => decide (y.2 = .local → sc.names.lookup y.1 = some .local)) &&
  sc.names.all (fun y => decide (y.2 = .free → osc.names.lookup y.1 = some .cell ∨ osc.names.lookup y.1 = some .free)) &&
  FN.all (fun x => decide (osc.names.lookup x = some .cell ∨ osc.names.lookup x = some .free)) && FN.all (fun x => decide (sc.names.lookup x = some .free)) && decide (FN.map some = fr.map fun j => N[j]?)
theorem bk_of {N : List Str} {sc osc : Scope} {LN FN : List Str} {fr : List Nat} (h : bkOk N sc osc FN fr = true) : BkScope N sc osc LN FN fr := by
  unfold bkOk at h
  simp only [Bool.and_eq_true, List.all_eq_true, decide_eq_true_eq] at h
  obtain ⟨⟨⟨⟨⟨⟨h1, h2⟩, h3⟩, h4⟩, h5⟩, h6⟩, h7⟩ := h
  exact ⟨h1, h2, h3, h4, h5, h6, h7⟩
section
variable {X : Cx}
def rIxA (K : PySem.W.Frag) : R2 := fun x y H Q => rIxL K x y H Q ∨ rIxT K x y H Q
theorem ix_any : IxR X (rIxA X.K) := ix_list.or ix_tup
theorem rd_ixaT {K : PySem.W.Frag} {H : Hp} {p : Addr} {xs : List V} {i : Int} {v : V} {Q : VK} (h : H p = some (.tup xs)) (e : atI xs i = some v) (q : Q v H) : rIxA K (.ref p) (.int i) H Q := .inr (rd_ixT h e q)
theorem rd_ixaL {K : PySem.W.Frag} {H : Hp} {p : Addr} {xs : List V} {i : Int} {v : V} {Q : VK} (h : H p = some (.lst xs)) (e : atI xs i = some v) (q : Q v H) : rIxA K (.ref p) (.int i) H Q := .inl (rd_ixL h e q)
theorem atI_at {α : Type} {xs : List α} {i : Int} {n : Nat} {v : α} (hi : i = (n : Int)) (h : xs[n]? = some v) : atI xs i = some v := by
  subst hi
  have hl : n < xs.length := (List.getElem?_eq_some_iff.mp h).1
  unfold atI ixN
  rw [if_pos (by omega), if_pos (by omega)]
  simpa using h
theorem ixN_at {m : Nat} {i : Int} {n : Nat} (hi : i = (n : Int)) (h : n < m) : ixN m i = some n := by
  subst hi
  unfold ixN
  rw [if_pos (by omega), if_pos (by omega)]
  simp
/-- an item of what stands for a tuple -/
theorem rd_ixR {K : PySem.W.Frag} {H : Hp} {x : V} {ds : List D} {i : Int} {n : Nat} {d : D} {Q : VK} (h : Rep H (.tup ds) x) (hi : i = (n : Int)) (e : ds[n]? = some d) (q : ∀ v, Rep H d v → Q v H) : rIxA K x (.int i) H Q := by
  obtain ⟨a, xs, rfl, ha, r⟩ := rep_tup_inv h
  obtain ⟨v, ev, rv⟩ := r.get e
  exact rd_ixaT ha (atI_at hi ev) (q v rv)
theorem rd_ixI {K : PySem.W.Frag} {H : Hp} {x : V} {ds : List D} {i : Int} {n : Nat} {k : Int} {Q : VK} (h : Rep H (.tup ds) x) (hi : i = (n : Int)) (e : ds[n]? = some (.int k)) (q : Q (.int k) H) : rIxA K x (.int i) H Q :=
  rd_ixR h hi e fun v r => by rw [rep_int_inv r]; exact q
def rLen (K : PySem.W.Frag) : List V → Hp → VK → Prop := fun xs H Q => ∃ x n, xs = [x] ∧ LenV K x H n ∧ Q (.int n) H
theorem call_len' : CallR X (.builtin "len") (rLen X.K) := call_len
theorem rd_lenL' {K : PySem.W.Frag} {H : Hp} {p : Addr} {ys : List V} {Q : VK} (h : SqL K H p ys) (q : Q (.int ys.length) H) : rLen K [.ref p] H Q := ⟨_, _, rfl, .inl ⟨ys, h, rfl⟩, q⟩
def rAbs : List V → Hp → VK → Prop := fun xs H Q => ∃ i, xs = [.int i] ∧ Q (.int (if i < 0 then -i else i)) H
theorem call_abs' : CallR X (.builtin "abs") rAbs := call_abs
theorem rd_abs {H : Hp} {i : Int} {Q : VK} (q : Q (.int (if i < 0 then -i else i)) H) : rAbs [.int i] H Q := ⟨i, rfl, q⟩
def rMax : List V → Hp → VK → Prop := fun xs H Q => ∃ i j, xs = [.int i, .int j] ∧ Q (.int (if j > i then j else i)) H
theorem call_max' (hc : X.calm = true) : CallR X (.builtin "max") rMax := call_max2 hc
theorem rd_max {H : Hp} {i j : Int} {Q : VK} (q : Q (.int (if j > i then j else i)) H) : rMax [.int i, .int j] H Q := ⟨i, j, rfl, q⟩
def rLstOf (K : PySem.W.Frag) : List V → Hp → VK → Prop := fun xs H Q => ∃ p ys, xs = [.ref p] ∧ (SqL K H p ys ∨ SqT K H p ys) ∧ ∀ l, H l = none → Q (.ref l) (upd H l (.lst ys))
theorem call_lst' : CallR X (.type "list") (rLstOf X.K) := call_list_of
theorem rd_lstOf {K : PySem.W.Frag} {H : Hp} {p : Addr} {ys : List V} {Q : VK} (h : SqL K H p ys ∨ SqT K H p ys) (q : ∀ l, H l = none → Q (.ref l) (upd H l (.lst ys))) : rLstOf K [.ref p] H Q := ⟨p, ys, rfl, h, q⟩
theorem mk_le {n : Nat} (h : Nat.ble n 1000 = true) : n ≤ sizeLine := small_le (Nat.le_of_ble_eq_true h)
end
/-! ### the same, the written part named -/
section
variable {X : Cx} {K : PySem.W.Frag} {pos : Pos}
theorem k_ix (h : X.K = K) : IxR X (rIxA K) := h ▸ ix_any
theorem k_len (h : X.K = K) : CallR X (.builtin "len") (rLen K) := h ▸ call_len'
theorem k_lstOf (h : X.K = K) : CallR X (.type "list") (rLstOf K) := h ▸ call_lst'
theorem k_sl (h : X.K = K) : SlR X (rSlL K) := h ▸ sl_list
theorem k_neL (h : X.K = K) (hu : X.A.units + 64 < cLine) : OpR X (compareOp .NotEq) (rNeL K) := h ▸ op_neL hu
theorem k_in (h : X.K = K) : OpR X (compareOp .In) (rIn K false) := h ▸ op_in_seq
theorem k_pi_list {tg l : Expr} {tl : TE} (h : X.K = K) (hl : PE X l tl) : PI X tg l (iList K tl) := h ▸ pi_list hl
theorem k_pi_tup {tg l : Expr} {tl : TE} (h : X.K = K) (hl : PE X l tl) : PI X tg l (iTup K tl) := h ▸ pi_tup hl
theorem k_pg_tup {es : List Expr} {k : Nat} {t : TGs} {n : Nat} (h : X.K = K) (hc : X.calm = true) (hg : PGs X es t)
    (hn : (assignEach es X.env).length = n := by rfl) (hst : (assignEach es X.env).findIdx? (·.1) = none := by rfl) : PG X (.Tuple es k pos) (gTup K n t) := h ▸ pg_tup hc hg hn hst
variable {o e : Expr} {es : List Expr} {to : TE} {t : TA} {name : Str} {apos cpos : Pos} {T id : String} {r : V → List V → Hp → VK → Prop}
theorem k_bm (h : X.K = K) (pa : PlainAttrs T) (slot : Slot T name id) (hty : typeOf (.builtin id) = pure (.type "method_descriptor")) (hm : MtR X id r) (ho : PE X o to) (ha : PA X (e :: es) t)
    (hbase : attributeBase o name X.env (eval o X.env) = eval o X.env := by rfl)
    (hfew : ((backTo cpos (starEach (e :: es) X.env)).all (fun x => !x.1) && (backToKw cpos (keywordEach [] X.env)).all (fun x => x.1.isSome)
      && decide ((e :: es).length + ([] : List Keyword).length + (if ([] : List Keyword).isEmpty then 0 else 1) < 30)) = true := by rfl)
    (hline : (apos.endLine == cpos.line) = true := by rfl) (hs : starEach (e :: es) X.env = (false, eval e X.env) :: starEach es X.env := by rfl) (hplain : (backTo cpos (starEach es X.env)).any (·.1) = false := by rfl) :
    PE X (.Call (.Attribute o name apos) (e :: es) [] cpos) (tBM K T r to t) := h ▸ pe_bm pa slot hty hm ho ha hbase hfew hline hs hplain
theorem k_bm0 (h : X.K = K) (pa : PlainAttrs T) (slot : Slot T name id) (hty : typeOf (.builtin id) = pure (.type "method_descriptor")) (hm : MtR X id r) (ho : PE X o to)
    (hbase : attributeBase o name X.env (eval o X.env) = eval o X.env := by rfl) (hline : (apos.endLine == cpos.line) = true := by rfl) : PE X (.Call (.Attribute o name apos) [] [] cpos) (tBM0 K T r to) := h ▸ pe_bm0 pa slot hty hm ho hbase hline
end
end L2

end
section
set_option Elab.async false
set_option linter.all false
set_option maxRecDepth 100000
set_option maxHeartbeats 4000000
namespace L2
open PySem PySem.Spec PyProof.Rows
/-! ### defs of the text by their names, and promises by the number of arguments -/
structure TopFn (K : PySem.W.Frag) (mg : Str → Option Value) (x : Str) (st : Stmt) (ps : List Str) : Prop where
  ex : ∃ f fd, Fun K x x st f fd ∧ mg x = some (.ref f) ∧ Binds K fd ps []
section
variable {P : Program} {w : World} {K : PySem.W.Frag} {mg : Str → Option Value} {base : Heap} {x : Str} {st : Stmt} {ps N : List Str} {sp : Sp} {k : Nat}
theorem TopFn.callee (T : TopFn K mg x st ps) (h : ∀ f fd, Fun K x x st f fd → FnOk P w K mg base CX0 k f fd ps sp) : Callee P w K mg base x k ps sp := by
  obtain ⟨f, fd, F, hm, hb⟩ := T.ex
  exact ⟨f, fd, h f fd F, hm, F.kp, hb⟩
def sp1 (b : V → Hp → VK → Prop) : Sp := fun vs H Q _ => ∃ x, vs = [x] ∧ b x H Q
def sp2 (b : V → V → Hp → VK → Prop) : Sp := fun vs H Q _ => ∃ x y, vs = [x, y] ∧ b x y H Q
def sp3 (b : V → V → V → Hp → VK → Prop) : Sp := fun vs H Q _ => ∃ x y z, vs = [x, y, z] ∧ b x y z H Q
def sp4 (b : V → V → V → V → Hp → VK → Prop) : Sp := fun vs H Q _ => ∃ x y z u, vs = [x, y, z, u] ∧ b x y z u H Q
def sp5 (b : V → V → V → V → V → Hp → VK → Prop) : Sp := fun vs H Q _ => ∃ x y z u v, vs = [x, y, z, u, v] ∧ b x y z u v H Q
theorem use1 {b : V → Hp → VK → Prop} {x : V} {H : Hp} {Q : VK} {E : XK} (h : b x H Q) : sp1 b [x] H Q E := ⟨x, rfl, h⟩
theorem use2 {b : V → V → Hp → VK → Prop} {x y : V} {H : Hp} {Q : VK} {E : XK} (h : b x y H Q) : sp2 b [x, y] H Q E := ⟨x, y, rfl, h⟩
theorem use3 {b : V → V → V → Hp → VK → Prop} {x y z : V} {H : Hp} {Q : VK} {E : XK} (h : b x y z H Q) : sp3 b [x, y, z] H Q E := ⟨x, y, z, rfl, h⟩
theorem use4 {b : V → V → V → V → Hp → VK → Prop} {x y z u : V} {H : Hp} {Q : VK} {E : XK} (h : b x y z u H Q) : sp4 b [x, y, z, u] H Q E := ⟨x, y, z, u, rfl, h⟩
theorem use5 {b : V → V → V → V → V → Hp → VK → Prop} {x y z u v : V} {H : Hp} {Q : VK} {E : XK} (h : b x y z u v H Q) : sp5 b [x, y, z, u, v] H Q E := ⟨x, y, z, u, v, rfl, h⟩
def GoalB (P : Program) (w : World) (K : PySem.W.Frag) (mg : Str → Option Value) (base : Heap) (N : List Str) (x : Str) (st : Stmt) (f : Addr) (cdv : Value) (A : Around) (outer : List Env) (s : Shared) (H : Hp) (vs : List V) (Q : VK) (E : XK) : Prop :=
  ∃ t, PSs (cxOf CX0 P w K mg base N x (defScope st) f cdv A outer s H E).nox (defBody st) t ∧ t { nx := fun _ H' => Q .non H', rt := Q } (start N vs) H
theorem TopFn.ok1 {a1 : Str} {b : V → Hp → VK → Prop} (T : TopFn K mg x st [a1]) (S : FnScope N [a1] (defScope st))
    (h : ∀ (f : Addr) (cdv : Value) (A : Around) (outer : List Env) (s : Shared) (H : Hp) (v1 : V) (Q : VK) (E : XK), Room k (A.deeper (envOfC x (defScope st) s.heap.objs.size f cdv)) → b v1 H Q → GoalB P w K mg base N x st f cdv A outer s H [v1] Q E) : Callee P w K mg base x (k + 1) [a1] (sp1 b) :=
  T.callee fun f fd F => F.ok S (fun vs H Q E ⟨_, e, _⟩ => by rw [e]; rfl) fun cdv A outer s H vs Q E hr hsp => by
    obtain ⟨v1, rfl, hb⟩ := hsp
    exact h f cdv A outer s H v1 Q E hr hb
theorem TopFn.ok2 {a1 a2 : Str} {b : V → V → Hp → VK → Prop} (T : TopFn K mg x st [a1, a2]) (S : FnScope N [a1, a2] (defScope st))
    (h : ∀ (f : Addr) (cdv : Value) (A : Around) (outer : List Env) (s : Shared) (H : Hp) (v1 v2 : V) (Q : VK) (E : XK), Room k (A.deeper (envOfC x (defScope st) s.heap.objs.size f cdv)) → b v1 v2 H Q → GoalB P w K mg base N x st f cdv A outer s H [v1, v2] Q E) : Callee P w K mg base x (k + 1) [a1, a2] (sp2 b) :=
  T.callee fun f fd F => F.ok S (fun vs H Q E ⟨_, _, e, _⟩ => by rw [e]; rfl) fun cdv A outer s H vs Q E hr hsp => by
    obtain ⟨v1, v2, rfl, hb⟩ := hsp
    exact h f cdv A outer s H v1 v2 Q E hr hb
theorem TopFn.ok3 {a1 a2 a3 : Str} {b : V → V → V → Hp → VK → Prop} (T : TopFn K mg x st [a1, a2, a3]) (S : FnScope N [a1, a2, a3] (defScope st))
    (h : ∀ (f : Addr) (cdv : Value) (A : Around) (outer : List Env) (s : Shared) (H : Hp) (v1 v2 v3 : V) (Q : VK) (E : XK), Room k (A.deeper (envOfC x (defScope st) s.heap.objs.size f cdv)) → b v1 v2 v3 H Q → GoalB P w K mg base N x st f cdv A outer s H [v1, v2, v3] Q E) : Callee P w K mg base x (k + 1) [a1, a2, a3] (sp3 b) :=
  T.callee fun f fd F => F.ok S (fun vs H Q E ⟨_, _, _, e, _⟩ => by rw [e]; rfl) fun cdv A outer s H vs Q E hr hsp => by
    obtain ⟨v1, v2, v3, rfl, hb⟩ := hsp
    exact h f cdv A outer s H v1 v2 v3 Q E hr hb
theorem TopFn.ok4 {a1 a2 a3 a4 : Str} {b : V → V → V → V → Hp → VK → Prop} (T : TopFn K mg x st [a1, a2, a3, a4]) (S : FnScope N [a1, a2, a3, a4] (defScope st))
    (h : ∀ (f : Addr) (cdv : Value) (A : Around) (outer : List Env) (s : Shared) (H : Hp) (v1 v2 v3 v4 : V) (Q : VK) (E : XK), Room k (A.deeper (envOfC x (defScope st) s.heap.objs.size f cdv)) → b v1 v2 v3 v4 H Q → GoalB P w K mg base N x st f cdv A outer s H [v1, v2, v3, v4] Q E) : Callee P w K mg base x (k + 1) [a1, a2, a3, a4] (sp4 b) :=
  T.callee fun f fd F => F.ok S (fun vs H Q E ⟨_, _, _, _, e, _⟩ => by rw [e]; rfl) fun cdv A outer s H vs Q E hr hsp => by
    obtain ⟨v1, v2, v3, v4, rfl, hb⟩ := hsp
    exact h f cdv A outer s H v1 v2 v3 v4 Q E hr hb
theorem TopFn.ok5 {a1 a2 a3 a4 a5 : Str} {b : V → V → V → V → V → Hp → VK → Prop} (T : TopFn K mg x st [a1, a2, a3, a4, a5]) (S : FnScope N [a1, a2, a3, a4, a5] (defScope st))
    (h : ∀ (f : Addr) (cdv : Value) (A : Around) (outer : List Env) (s : Shared) (H : Hp) (v1 v2 v3 v4 v5 : V) (Q : VK) (E : XK), Room k (A.deeper (envOfC x (defScope st) s.heap.objs.size f cdv)) → b v1 v2 v3 v4 v5 H Q → GoalB P w K mg base N x st f cdv A outer s H [v1, v2, v3, v4, v5] Q E) : Callee P w K mg base x (k + 1) [a1, a2, a3, a4, a5] (sp5 b) :=
  T.callee fun f fd F => F.ok S (fun vs H Q E ⟨_, _, _, _, _, e, _⟩ => by rw [e]; rfl) fun cdv A outer s H vs Q E hr hsp => by
    obtain ⟨v1, v2, v3, v4, v5, rfl, hb⟩ := hsp
    exact h f cdv A outer s H v1 v2 v3 v4 v5 Q E hr hb
theorem go_body {f : Addr} {cdv : Value} {A : Around} {outer : List Env} {s : Shared} {H : Hp} {vs : List V} {Q : VK} {E : XK} {t : TS} (σ : St) (hσ : start N vs = σ) (h : PSs (cxOf CX0 P w K mg base N x (defScope st) f cdv A outer s H E).nox (defBody st) t)
    (q : t { nx := fun _ H' => Q .non H', rt := Q } σ H) : GoalB P w K mg base N x st f cdv A outer s H vs Q E := ⟨t, h, by rw [hσ]; exact q⟩
end
end L2
namespace L2
open PySem PySem.Spec PyProof.Rows
theorem ite_dn {c A B : Prop} [Decidable c] (h : ¬ c) (q : B) : if decide c = true then A else B := by rw [decide_eq_false h]; exact iteF q
theorem ite_dy {c A B : Prop} [Decidable c] (h : c) (q : A) : if decide c = true then A else B := by rw [decide_eq_true h]; exact iteT q
theorem ite_dd {c A B : Prop} [Decidable c] (h : c → A) (q : ¬ c → B) : if decide c = true then A else B := by
  by_cases e : c
  · exact ite_dy e (h e)
  · exact ite_dn e (q e)
end L2
namespace L2
theorem small_le' {n : Nat} (h : n ≤ 1000000) : n ≤ PySem.sizeLine := Nat.le_trans h (by rw [PySem.sizeLine_eq]; decide)
end L2
namespace L2
theorem iteNT {A B : Prop} (h : B) : if (!true) = true then A else B := iteF h
end L2
namespace L2
open PySem
theorem cutV_ints (ns : List Int) (lo hi : Option Int) : ∃ ms : List Int, cutV (ns.map V.int) lo hi = ms.map V.int ∧ ms.length ≤ ns.length := by
  refine ⟨(ns.drop (HT.sIx (ns.map V.int).length 0 lo)).take (HT.sIx (ns.map V.int).length (ns.map V.int).length hi - HT.sIx (ns.map V.int).length 0 lo), ?_, ?_⟩
  · unfold cutV
    rw [List.map_take, List.map_drop]
  · rw [List.length_take, List.length_drop]
    omega
theorem rd_slL {K : PySem.W.Frag} {H : Hp} {a : Addr} {xs : List V} {lo hi : Option Int} {Q : VK} (h : SqL K H a xs) (q : ∀ p, H p = none → Q (.ref p) (upd H p (.lst (cutV xs lo hi)))) : rSlL K (.ref a) lo hi H Q := ⟨a, xs, rfl, h, q⟩
theorem rd_cat {H : Hp} {l b : Addr} {xs zs : List V} {Q : VK} (h1 : H l = some (.lst xs)) (h2 : H b = some (.lst zs)) (hl : xs.length + zs.length ≤ sizeLine) (q : ∀ p, H p = none → Q (.ref p) (upd H p (.lst (xs ++ zs)))) : rCat (.ref l) (.ref b) H Q := ⟨l, b, xs, zs, rfl, rfl, h1, h2, hl, q⟩
theorem ints_get {ns : List Int} {i : Nat} {x : V} (h : (ns.map V.int)[i]? = some x) : ∃ z, x = .int z ∧ ns[i]? = some z := by
  rw [List.getElem?_map] at h
  obtain ⟨z, e, rfl⟩ := Option.map_eq_some_iff.mp h
  exact ⟨z, rfl, e⟩
theorem upd_old {H : Hp} {a b : Addr} {o u : HO} (h : H b = some u) (hn : H a = none) : upd H a o b = some u := by rw [upd_ne (ne_of_none h hn)]; exact h
def spLaw (K : PySem.W.Frag) : Sp := sp1 fun x H Q => ∃ (a : Addr) (ns : List Int), x = .ref a ∧ SqL K H a (ns.map V.int) ∧ ns.length ≤ 63 ∧ ∀ H', Q (.bl true) H'
theorem spLaw_of {K : PySem.W.Frag} {H : Hp} {a : Addr} {ns : List Int} {E : XK} (hl : ns.length ≤ 63) (hS : SqL K H a (ns.map V.int)) : spLaw K [.ref a] H (fun v _ => v = .bl true) E := ⟨_, rfl, a, ns, rfl, hS, hl, fun _ => rfl⟩
theorem Fun.law {P : Program} {w : World} {K : PySem.W.Frag} {mg : Str → Option Value} {base : Heap} {st : Stmt} {f : Addr} {fd : FuncData} {N : List Str} {k : Nat} (F : Fun K "law" "law" st f fd) (S : FnScope N ["script"] (defScope st))
    (h : ∀ (cdv : Value) (A : Around) (outer : List Env) (s : Shared) (H : Hp) (a : Addr) (ns : List Int) (Q : VK) (E : XK), Room k (A.deeper (PyProof.Rows.envOfC "law" (defScope st) s.heap.objs.size f cdv)) → SqL K H a (ns.map V.int) → ns.length ≤ 63 → (∀ H', Q (.bl true) H') →
      GoalB P w K mg base N "law" st f cdv A outer s H [.ref a] Q E) : FnOk P w K mg base CX0 (k + 1) f fd ["script"] (spLaw K) :=
  F.ok S (fun vs H Q E ⟨_, e, _⟩ => by rw [e]; rfl) fun cdv A outer s H vs Q E hr hsp => by
    obtain ⟨_, rfl, a, ns, rfl, h1, h2, h3⟩ := hsp
    exact h cdv A outer s H a ns Q E hr h1 h2 h3
end L2
namespace L2
theorem ten60 : (10 : Int) ^ (60 : Int).toNat = 1000000000000000000000000000000000000000000000000000000000000 := by decide +kernel
theorem cpow60 : CPow 10 60 := ⟨by decide, by decide, by decide⟩
theorem big_of {x : Int} (h : x.natAbs ≤ 10 ^ 70) : x.natAbs < 2 ^ 8000 := Nat.lt_of_le_of_lt h (by decide +kernel)
theorem cbig_of {x y : Int} (h : x.natAbs ≤ 10 ^ 70) (h2 : y.natAbs ≤ 10 ^ 70) : CBig x y := ⟨big_of h, big_of h2⟩
theorem cdivb_of {x y : Int} (h : 0 < y) (h2 : y.natAbs ≤ 10 ^ 70) : CDivB x y := ⟨h, big_of h2⟩
end L2

end
section
set_option Elab.async false
set_option linter.all false
set_option maxRecDepth 100000
set_option maxHeartbeats 4000000
namespace L2
open PySem
/-! ### the law's bag of numbers -/
def bagL (l : Addr) (i m st c : Int) : List V := [.ref l, .int i, .int m, .int st, .int c]
structure BagAt (H : Hp) (b l : Addr) : Prop where
  ex : ∃ (xs : List Int) (i : Nat) (m st c : Int), H b = some (.lst (bagL l i m st c)) ∧ H l = some (.lst (xs.map V.int)) ∧ i ≤ xs.length ∧ (0 ≤ m ∧ m ≤ 10 ^ 60) ∧ (0 ≤ st ∧ st < 2147483647) ∧ (∀ x ∈ xs, 0 ≤ x ∧ x ≤ 10 ^ 60) ∧ xs.length ≤ 63
/-- all but b stays -/
def BSame (b : Addr) (H H' : Hp) : Prop := ∀ a o, a ≠ b → H a = some o → H' a = some o
theorem BSame.refl (b : Addr) (H : Hp) : BSame b H H := fun _ _ _ h => h
theorem BSame.trans {b : Addr} {H H1 H2 : Hp} (x : BSame b H H1) (y : BSame b H1 H2) : BSame b H H2 := fun a o n h => y a o n (x a o n h)
theorem BSame.wr {b : Addr} {H : Hp} {o : HO} : BSame b H (upd H b o) := fun a u n h => by rw [upd_ne n]; exact h
theorem BagAt.lst {H : Hp} {b l : Addr} (B : BagAt H b l) : ∃ xs, H b = some (.lst xs) := let ⟨_, _, _, _, _, h, _⟩ := B.ex; ⟨_, h⟩
/-- tuples are none of the bag's -/
theorem BSame.ts {b l : Addr} {H H' : Hp} (x : BSame b H H') (B : BagAt H b l) : TSame H H' := fun a xs e => by
  obtain ⟨ys, hb⟩ := B.lst
  refine x a _ (fun z => ?_) e
  subst z
  rw [hb] at e
  cases e
theorem BagAt.mono {H H' : Hp} {b l : Addr} (B : BagAt H b l) (s : Same H H') : BagAt H' b l := by
  obtain ⟨xs, i, m, st, c, h1, h2, r⟩ := B.ex
  exact ⟨xs, i, m, st, c, s _ _ h1, s _ _ h2, r⟩
/-- one draw: what it asks and what it gives -/
def drawB (x y : V) (H : Hp) (Q : VK) : Prop := ∃ b l n, x = .ref b ∧ y = .int n ∧ (0 < n ∧ n ≤ 10 ^ 65) ∧ BagAt H b l ∧ ∀ r H', 0 ≤ r → r < n → BagAt H' b l → BSame b H H' → Q (.int r) H'
def sp_draw : Sp := sp2 drawB
def sp_number : Sp := sp1 fun x H Q => ∃ b l, x = .ref b ∧ BagAt H b l ∧ ∀ r H', r.natAbs ≤ 10 ^ 60 → BagAt H' b l → BSame b H H' → Q (.int r) H'
def sp_bag (K : PySem.W.Frag) : Sp := sp1 fun x H Q => ∃ (a : Addr) (ns : List Int), x = .ref a ∧ SqL K H a (ns.map V.int) ∧ ns.length ≤ 63 ∧ ∀ b l H', H b = none → Same H H' → BagAt H' b l → Q (.ref b) H'
def sp_wholeI : Sp := sp1 fun x H Q => ∃ n, x = .int n ∧ Q (.bl true) H
/-- a form's pairs: no number 0, of at most sixty figures, the words rising from 0, below top -/
structure FormOk (top : Int) (c : Int) (ps : List (Int × Int)) : Prop where
  c : c.natAbs ≤ 10 ^ 60
  a : ∀ p ∈ ps, p.1 ≠ 0 ∧ p.1.natAbs ≤ 10 ^ 60
  w : ∀ p ∈ ps, 0 ≤ p.2 ∧ p.2 < top
  up : ps.Pairwise fun p q => p.2 < q.2
  len : ps.length ≤ 400
theorem reps_of_ints {H : Hp} : ∀ (ns : List Int), Reps H (ns.map D.int) (ns.map V.int)
  | [] => reps_nil
  | n :: ns => reps_cons rep_int (reps_of_ints ns)
theorem pls_ints : ∀ (ns : List Int), D.pls (ns.map D.int) = true
  | [] => rfl
  | n :: ns => by rw [List.map_cons, D.pls, pls_ints ns]; rfl
theorem deps_ints : ∀ (ns : List Int), D.deps (ns.map D.int) = 0
  | [] => rfl
  | n :: ns => by rw [List.map_cons, D.deps, deps_ints ns]; rfl
theorem big62 {z : Int} (h : z.natAbs ≤ 10 ^ 62) : z.natAbs < 2 ^ 8000 := big_of (Nat.le_trans h (by decide +kernel))
end L2

end
section
set_option Elab.async false
set_option linter.all false
set_option maxRecDepth 100000
set_option maxHeartbeats 4000000
namespace L3
open PySem PyProof.Rows
/-! ### timsort over any keys that are ordered by a number -/
class KOrd where
  kd : SortKind
  good : Keyed → Prop
  kv : Keyed → Int
abbrev oneType' [KOrd] : SortKind := KOrd.kd
def IntK [KOrd] (x : Keyed) : Prop := KOrd.good x
def kvl [KOrd] (x : Keyed) : Int := KOrd.kv x
def K [KOrd] (xs : Array Keyed) (i : Nat) : Int := match xs[i]? with
  | some q => kvl q
  | none => 0
class KLt [KOrd] (P : Program) (W : World) (A : Around) (E : Value → Shared → Prop) (z : Shared) : Prop where
  lt : ∀ {u : SortSt} {x y : Keyed} {Q : Option Bool → SortSt → Prop}, kindOf u = oneType' → IntK x → IntK y → Q (some (decide (kvl x < kvl y))) u → wpS (model P W) A E z (lt' x y) Q u
section
variable [KOrd]
end
/-! ### the search by doubling steps -/
section
variable [KOrd] {P : Program} {W : World} {A : Around} {E : Value → Shared → Prop} {z : Shared} [KLt P W A E z]
/-- what the search asks at place i -/
def bey (left : Bool) (kv : Int) (arr : Array Keyed) (base i : Nat) : Bool := if left then decide (K arr (base + i) < kv) else !decide (kv < K arr (base + i))
/-- where the search ends -/
structure GAt (left : Bool) (kv : Int) (arr : Array Keyed) (base n lo hi : Nat) : Prop where
  le : lo ≤ hi
  top : hi ≤ n
  yes : ∀ i, i < lo → bey left kv arr base i = true
  no : ∀ i, hi ≤ i → i < n → bey left kv arr base i = false
end
end L3

end
section
set_option Elab.async false
set_option linter.all false
set_option maxRecDepth 100000
set_option maxHeartbeats 4000000
namespace L3
open PySem PyProof.Rows
variable [KOrd]
/-! ### two rising lists laid together -/
def SortedL (xs : List Keyed) : Prop := xs.Pairwise fun p q => kvl p ≤ kvl q
structure Laid (a b r : List Keyed) : Prop where
  perm : r.Perm (a ++ b)
  up : SortedL r
structure Mrg (a b out : List Keyed) (ia ib : Nat) : Prop where
  perm : (out ++ a.drop ia ++ b.drop ib).Perm (a ++ b)
  up : SortedL out
  ha : ∀ x ∈ out, ∀ y ∈ a.drop ia, kvl x ≤ kvl y
  hb : ∀ x ∈ out, ∀ y ∈ b.drop ib, kvl x ≤ kvl y
section
variable {a b out : List Keyed} {ia ib : Nat}
end
section
variable {P : Program} {W : World} {A : Around} {E : Value → Shared → Prop} {z : Shared} [KLt P W A E z]
/-- what a merge leaves as it is -/
structure Fr (u v : SortSt) : Prop where
  kind : kindOf v = kindOf u
  arr : arrOf v = arrOf u
  pend : pendingOf v = pendingOf u
  failed : failedOf v = failedOf u
end

/-! ### arrays as lists -/
/-! ### the merge from the low end -/
structure MLo (a b out : Array Keyed) (ia ib : Nat) : Prop where
  m : Mrg a.toList b.toList out.toList ia ib
  ha : ia + 1 < a.size
  hb : ib < b.size
section
variable {a b out : Array Keyed} {ia ib : Nat}
end
section
variable {P : Program} {W : World} {A : Around} {E : Value → Shared → Prop} {z : Shared} [KLt P W A E z]
end
end L3

end
section
set_option Elab.async false
set_option linter.all false
set_option maxRecDepth 100000
set_option maxHeartbeats 4000000
namespace L3
open PySem PyProof.Rows
variable [KOrd]
/-! ### the merge from the high end -/
structure MrgH (a b out : List Keyed) (na nb : Nat) : Prop where
  perm : (a.take na ++ b.take nb ++ out.reverse).Perm (a ++ b)
  up : SortedL out.reverse
  ha : ∀ x ∈ a.take na, ∀ y ∈ out, kvl x ≤ kvl y
  hb : ∀ x ∈ b.take nb, ∀ y ∈ out, kvl x ≤ kvl y
section
variable {a b out : List Keyed} {na nb : Nat}
end
section
variable {a b out : Array Keyed} {na nb : Nat}
end
structure MHi (a b out : Array Keyed) (na nb : Nat) : Prop where
  m : MrgH a.toList b.toList out.toList na nb
  ha : 0 < na
  hb : 1 < nb
  la : na ≤ a.size
  lb : nb ≤ b.size
section
variable {P : Program} {W : World} {A : Around} {E : Value → Shared → Prop} {z : Shared} [KLt P W A E z]
end
end L3

end
section
set_option Elab.async false
set_option linter.all false
set_option maxRecDepth 100000
set_option maxHeartbeats 4000000
namespace L3
open PySem PyProof.Rows
variable [KOrd]
/-! ### runs laid together in the array -/
def SegS (xs : Array Keyed) (lo n : Nat) : Prop := ∀ i j, lo ≤ i → i ≤ j → j < lo + n → K xs i ≤ K xs j
section
variable {P : Program} {W : World} {A : Around} {E : Value → Shared → Prop} {z : Shared} [KLt P W A E z]
end
end L3

end
section
set_option Elab.async false
set_option linter.all false
set_option maxRecDepth 100000
set_option maxHeartbeats 4000000
namespace L3
open PySem PyProof.Rows
variable [KOrd]
/-! ### runs found and lengthened, wherever they begin -/
structure Bas (a₀ : Array Keyed) (p : Array (Nat × Nat × Nat)) (st : SortSt) : Prop where
  perm : (arrOf st).Perm a₀
  kind : kindOf st = oneType'
  failed : failedOf st = none
  pend : pendingOf st = p
section
variable {P : Program} {W : World} {A : Around} {E : Value → Shared → Prop} {z : Shared} [KLt P W A E z] {a₀ : Array Keyed} {p : Array (Nat × Nat × Nat)}
end
end L3

end
section
set_option Elab.async false
set_option linter.all false
set_option maxRecDepth 100000
set_option maxHeartbeats 4000000
namespace L3
open PySem PyProof.Rows
variable [KOrd]
section
variable {P : Program} {W : World} {A : Around} {E : Value → Shared → Prop} {z : Shared} [KLt P W A E z] {a₀ : Array Keyed} {p : Array (Nat × Nat × Nat)}
end
/-! ### the stack of runs -/
def Runs (xs : Array Keyed) : Nat → List (Nat × Nat × Nat) → Nat → Prop
  | lo, [], hi => lo = hi
  | lo, r :: rs, hi => r.1 = lo ∧ 0 < r.2.1 ∧ SegS xs lo r.2.1 ∧ Runs xs (lo + r.2.1) rs hi
end L3

end
section
set_option Elab.async false
set_option linter.all false
set_option maxRecDepth 100000
set_option maxHeartbeats 4000000
namespace L3
open PySem PyProof.Rows
variable [KOrd]
section
variable {u v : SortSt} {sa n : Nat}
end
structure Srt (a₀ : Array Keyed) (st : SortSt) (hi : Nat) : Prop where
  perm : (arrOf st).Perm a₀
  kind : kindOf st = oneType'
  failed : failedOf st = none
  runs : Runs (arrOf st) 0 (pendingOf st).toList hi
section
variable {P : Program} {W : World} {A : Around} {E : Value → Shared → Prop} {z : Shared} [KLt P W A E z] {a₀ : Array Keyed}
end
end L3

end
section
set_option Elab.async false
set_option linter.all false
set_option maxRecDepth 100000
set_option maxHeartbeats 4000000
namespace L2
open PySem PySem.Spec PyProof.Rows
/-! ### list.sort of ints, by what its runs do -/
section
variable {P : Program} {W : World} {A : Around} {E : Value → Shared → Prop} {z : Shared}
end
/-! ### sorted(d), d a dict whose keys are ints -/
end L2
namespace L2
open PySem
/-! ### the numbers by words: a dict of ints -/
end L2
namespace L2
open PySem
end L2
namespace L2
open PySem
end L2

end
section
set_option Elab.async false
set_option linter.all false
set_option maxRecDepth 100000
set_option maxHeartbeats 4000000
namespace L3
open PySem
/-! ### the places of a set's table rise -/
def Up (xs : Array Nat) : Prop := ∀ (i j x y : Nat), i < j → xs[i]? = some x → xs[j]? = some y → x < y
/-- a table as it is made by adding alone -/
structure Tab (t : SetTable) : Prop where
  up : Up t.place
  nod : t.dummies = #[]
/-! ### any order of a list -/
end L3

end
section
set_option Elab.async false
set_option linter.all false
set_option maxRecDepth 100000
set_option maxHeartbeats 4000000
namespace L3
open PySem PyProof.Rows
/-! ### a set of ints, its table known -/
structure SB (P : Program) (w : World) (h : Heap) (a : Addr) (S : Int → Bool) (led : Bool) (o : Obj) (es : Array (Int × Value)) (ep : Nat) (t : SetTable) : Prop where
  here : h.get? a = some o
  ex : o.ExactSet
  dat : o.data = .set es ep t
  el : ElemsOf (intKind P w) es.toList
  mem : ∀ k, S k = true ↔ ∃ e ∈ es.toList, (intKind P w).is k e.2 = true
  few : es.size < scanBound
  fit : t.fits es.size = true
  tab : Tab t
  led : t.led = led
section
variable {P : Program} {w : World} {A : Around} {E : Value → Shared → Prop} {s : Shared}
end
section
variable {P : Program} {w : World} {A : Around} {R : Result → Shared → Prop} {I : Addr} {fp wr : List Addr} {G : Array GenState → Array GenState → Prop} {n : Nat} {Pv : Nat → Value → Prop} {St : Nat → Shared → Prop}
end
section
variable {P : Program} {w : World} {A : Around} {E : Value → Shared → Prop} {s : Shared}
end
end L3

end
section
set_option Elab.async false
set_option linter.all false
set_option maxRecDepth 100000
set_option maxHeartbeats 4000000
namespace L3
open PySem
section
variable {M : Model} {A : Around} {E : Value → Shared → Prop} {s : Shared}
end
end L3

end
section
set_option Elab.async false
set_option linter.all false
set_option maxRecDepth 100000
set_option maxHeartbeats 4000000
namespace L3
open PySem
section
variable {P : Program} {w : World} {A : Around} {E : Value → Shared → Prop} {s : Shared} {it a : Addr} {S : Int → Bool} {led : Bool} {o : Obj} {es : Array (Int × Value)} {ep : Nat} {t : SetTable}
/-! ### what setNext tells -/
/-! ### walks over the set, in whatever order -/
end
end L3

end
section
set_option Elab.async false
set_option linter.all false
set_option maxRecDepth 100000
set_option maxHeartbeats 4000000
namespace L3
open PySem PyProof.Rows
section
variable {P : Program} {w : World} {A : Around} {E : Value → Shared → Prop} {s : Shared}
/-! ### the things of a list, each once -/
def dd (ns : List Int) : List Int := firstMet (fun i => ns.getD i 0) ns.length
end
end L3

end
section
set_option Elab.async false
set_option linter.all false
set_option maxRecDepth 100000
set_option maxHeartbeats 4000000
namespace L2
open PySem PySem.Spec PyProof.Rows
/-! ### is None -/
def rIsN : R2 := fun x y H Q => y = .non ∧ Q (.bl (decide (x = .non))) H
theorem op_isN' {X : Cx} : OpR X (compareOp .Is) rIsN := op_isN
theorem rd_isN {x : V} {H : Hp} {Q : VK} (q : Q (.bl (decide (x = .non))) H) : rIsN x .non H Q := ⟨rfl, q⟩
/-! ### parts of a list -/
theorem sIx_nat (n d k : Nat) : HT.sIx n d (some (k : Int)) = min k n := by
  simp only [HT.sIx]
  rw [if_neg (by omega)]
  simp
theorem cut_to {xs : List V} {k : Nat} (h : k ≤ xs.length) : cutV xs none (some (k : Int)) = xs.take k := by
  unfold cutV
  have e1 : HT.sIx xs.length 0 none = 0 := rfl
  have e2 : HT.sIx xs.length xs.length (some (k : Int)) = k := by
    rw [sIx_nat]
    omega
  rw [e1, e2]
  simp
theorem cut_from {xs : List V} {k : Nat} (h : k ≤ xs.length) : cutV xs (some (k : Int)) none = xs.drop k := by
  unfold cutV
  have e1 : HT.sIx xs.length 0 (some (k : Int)) = k := by
    rw [sIx_nat]
    omega
  have e2 : HT.sIx xs.length xs.length none = xs.length := rfl
  rw [e1, e2]
  simp [List.take_of_length_le]
/-! ### xs[::-1] -/
section
variable {X : Cx}
end
/-! ### set(list of ints), sorted(set) -/
section
variable {X : Cx}
end
/-! ### lists that are rising -/
end L2

end
section
set_option Elab.async false
set_option linter.all false
set_option maxRecDepth 100000
set_option maxHeartbeats 4000000
namespace L2
open PySem PySem.Spec PyProof.Rows
/-! ### for over the signs of a text -/
section
variable {X : Cx} {tg : Expr}
end
end L2

end
section
set_option Elab.async false
set_option linter.all false
set_option maxRecDepth 100000
set_option maxHeartbeats 4000000
namespace L2
open PySem PySem.Spec PyProof.Rows
/-! ### list(d): the keys of a dict, in their order -/
end L2

end
section
set_option Elab.async false
set_option linter.all false
set_option maxRecDepth 100000
set_option maxHeartbeats 4000000
namespace L2
open PySem PySem.Spec PyProof.Rows
/-! ### rows of a program, as data -/
def lettersL : List (Str × Str) := [("put", "pi"), ("copy", "pp"), ("plus", "ppp"), ("less", "ppp"), ("times", "ppc"), ("take", "p"), ("tell", "p"), ("jump", "t"), ("zero", "pt"), ("below", "pt"), ("call", "pfq"), ("back", "p")]
/-- a part of a row by its letter -/
def PartI (boxes many ns : Int) (c : Str) (n : Int) : Prop := (c = "p" → 0 ≤ n ∧ n < boxes) ∧ (c = "t" → 0 ≤ n ∧ n < many) ∧ (c = "f" → 0 ≤ n ∧ n < ns) ∧ (c = "c" → -99 ≤ n ∧ n ≤ 99) ∧ n.natAbs ≤ 10 ^ 60
def PartG (sg : List (Int × Int)) (boxes many : Int) (ps : List D) (c : Str) (d : D) : Prop :=
  (c ≠ "q" ∧ ∃ n, d = .int n ∧ PartI boxes many sg.length c n) ∨
  (c = "q" ∧ ∃ (args : List Int) (f : Nat) (tk : Int × Int), ps[1]? = some (.int f) ∧ sg[f]? = some tk ∧ d = .tup (args.map D.int) ∧ (args.length : Int) = tk.1 ∧ ∀ q ∈ args, 0 ≤ q ∧ q < boxes)
structure RowG (sg : List (Int × Int)) (boxes many : Int) (w ls : Str) (ps : List D) : Prop where
  tab : (w, ls) ∈ lettersL
  len : ps.length = ls.cps.size
  parts : ∀ (i c : Nat), ls.cps[i]? = some c → ∃ d, ps[i]? = some d ∧ PartG sg boxes many ps ⟨#[c]⟩ d
def rowD (r : Str × List D) : D := .tup (.str r.1 :: r.2)
def RowOk (sg : List (Int × Int)) (boxes many : Int) (r : Str × List D) : Prop := ∃ ls, RowG sg boxes many r.1 ls r.2
structure RowsOk (sg : List (Int × Int)) (boxes many : Int) (rs : List (Str × List D)) : Prop where
  len : (rs.length : Int) = many
  all : ∀ r ∈ rs, RowOk sg boxes many r
  last : ∃ r, rs[rs.length - 1]? = some r ∧ (r.1 = "back" ∨ r.1 = "jump")
structure SgOk (sg : List (Int × Int)) : Prop where
  pos : 0 < sg.length
  few : sg.length ≤ 6
  first : ∃ bx, sg[0]? = some (0, bx)
  all : ∀ q ∈ sg, 0 ≤ q.1 ∧ q.1 ≤ 4 ∧ q.1 ≤ q.2 ∧ 1 ≤ q.2 ∧ q.2 ≤ 8
/-! ### a program in the heap: a list of tuples, each with a list of rows -/
abbrev PDef := Int × Int × List (Str × List D)
theorem rd_meet {c : TT} {t u t2 : TS} {D' : Ends} {σ : St} {H : Hp} (I : St → Hp → Prop) (hI : ∀ σ' H', I σ' H' → t2 D' σ' H') (h : ∀ N : St → Hp → Prop, (∀ σ' H', I σ' H' → N σ' H') → tIfS c t u { D' with nx := N } σ H) : tSeq (tIfS c t u) t2 D' σ H :=
  h (t2 D') hI
/-- as the law makes them -/
structure ProgOk (sg : List (Int × Int)) (ds : List PDef) : Prop where
  sgs : SgOk sg
  heads : ds.map (fun d => (d.1, d.2.1)) = sg
  rows : ∀ d ∈ ds, ∃ many, 1 ≤ many ∧ many ≤ 30 ∧ RowsOk sg d.2.1 many d.2.2
end L2

end
section
set_option Elab.async false
set_option linter.all false
set_option maxRecDepth 100000
set_option maxHeartbeats 4000000
namespace L2
open PySem PySem.Spec PyProof.Rows
/-! ### methods and classes of the text -/
structure MCal (P : Program) (w : World) (K : PySem.W.Frag) (mg : Str → Option Value) (base : Heap) (C : Addr) (m : Str) (k : Nat) (ps : List Str) (sp : Sp) : Prop where
  ex : ∃ f fd, FnOk P w K mg base CX0 k f fd ps sp ∧ Meth K C m f ∧ Binds K fd ps []
structure CCal (P : Program) (w : World) (K : PySem.W.Frag) (mg : Str → Option Value) (base : Heap) (C : Addr) (x : Str) (k : Nat) (ps : List Str) (sp : Sp) : Prop where
  ex : ∃ f fd, FnOk P w K mg base CX0 k f fd ps sp ∧ Mk K C f ∧ Binds K fd ps [] ∧ mg x = some (.ref C)
section
variable {X : Cx} {C : Addr} {x m : Str} {k : Nat} {ps : List Str} {sp : Sp} {o e : Expr} {es : List Expr} {ta : TE} {t : TA} {apos pos p : Pos}
theorem pe_m {pl : Sem Bool} (M : MCal X.prog X.w X.K X.mg X.base C m k ps sp) (c : Cls X.K C) (hr : Room k X.A) (ho : PE X o ta) (ha : PA X (e :: es) t)
    (hst : starEach (e :: es) X.env = (false, eval e X.env) :: starEach es X.env := by rfl) (hpl : (backTo pos (starEach es X.env)).any (·.1) = false := by rfl)
    (ht : eval (.Call (.Attribute o m apos) (e :: es) [] pos) X.env = (do
      let ov ← eval o X.env; standAt apos.atName
      let (f, first) ← holding [ov] (getMethod ov m pl)
      callWith pos f first (backTo pos (starEach (e :: es) X.env)) (backToKw pos (keywordEach [] X.env))) := by rfl) :
    PE X (.Call (.Attribute o m apos) (e :: es) [] pos) (tMeth C m sp [] E0 ta t) := by
  obtain ⟨f, fd, F, hm, hb⟩ := M.ex
  exact pe_meth (pl := pl) ho c hm F hr hb .nil pass0 ha hst hpl ht
theorem pe_m0 {pl : Sem Bool} (M : MCal X.prog X.w X.K X.mg X.base C m k ps sp) (c : Cls X.K C) (hr : Room k X.A) (ho : PE X o ta)
    (ht : eval (.Call (.Attribute o m apos) [] [] pos) X.env = (do
      let ov ← eval o X.env; standAt apos.atName
      let (f, first) ← holding [ov] (getMethod ov m pl)
      callWith pos f first (backTo pos (starEach [] X.env)) (backToKw pos (keywordEach [] X.env))) := by rfl) :
    PE X (.Call (.Attribute o m apos) [] [] pos) (tMeth C m sp [] E0 ta tNil) := by
  obtain ⟨f, fd, F, hm, hb⟩ := M.ex
  exact pe_meth0 (pl := pl) ho c hm F hr hb .nil pass0 ht
theorem pe_new (M : CCal X.prog X.w X.K X.mg X.base C x k ps sp) (hr : Room (k + 1) X.A) (hg : Gl X x) (ha : PA X (e :: es) t) (hdb : (x == ("__debug__" : Str)) = false := by decide)
    (he : starEach (e :: es) X.env = (false, eval e X.env) :: starEach es X.env := by rfl) (hpl : (backTo pos (starEach es X.env)).any (·.1) = false := by rfl) :
    PE X (.Call (.Name x p) (e :: es) [] pos) (tMake C sp [] E0 t) := by
  obtain ⟨f, fd, F, hM, hb, hm⟩ := M.ex
  exact pe_make hM F hr hg hm hb .nil pass0 ha hdb he hpl
theorem k_fld {K : PySem.W.Frag} {f : Str} (h : X.K = K) (he : PE X e ta) (hb : attributeBase e f X.env (eval e X.env) = eval e X.env) : PE X (.Attribute e f pos) (tFld K ta f) := h ▸ pe_fld he hb
theorem k_sfld {K : PySem.W.Frag} {f : Str} {value : Expr} {tv : TE} {pos' : Pos} (h : X.K = K) (ha : PE X o ta) (hv : PE X value tv) (hs : swapsWith value (some (.Attribute o f pos')) pos.line X.env = pure false) : PS X (.Assign [.Attribute o f pos'] value pos) (sFld K ta tv f) := h ▸ ps_fld ha hv hs
theorem pe_cint {n : Int} (hg : Gl X x) (h : ∃ t, X.mg x = some (.int n t)) (hd : (x == ("__debug__" : Str)) = false := by decide) : PE X (.Name x pos) (tC (.int n)) := by
  obtain ⟨t, h⟩ := h
  exact pe_glob hg h ⟨t, rfl⟩ hd
/-- a tuple of the text's own, by its name -/
def tCT (K : PySem.W.Frag) (xs : List V) : TE := fun _ H Q => ∀ a, (∀ H', SqT K H' a xs) → Q (.ref a) H
def IsCT (K : PySem.W.Frag) (mg : Str → Option Value) (x : Str) (xs : List V) : Prop := ∃ a, mg x = some (.ref a) ∧ ∃ (o : Obj) (its : Array Value) (n : Nat), K.lookup a = some o ∧ o.cls = .type "tuple" ∧ o.data = .seq its n ∧ its.size ≤ sizeLine ∧ Vals xs its.toList
theorem pe_ctup {K : PySem.W.Frag} {xs : List V} (hg : Gl X x) (h : IsCT K X.mg x xs) (hd : (x == ("__debug__" : Str)) = false := by decide) : PE X (.Name x pos) (tCT K xs) := by
  obtain ⟨a, h, r⟩ := h
  intro pins s σ H Q I q
  exact pe_glob (v := .ref a) hg h rfl hd pins s σ H Q I (q a fun H' => .inr r)
end
structure TopM (K : PySem.W.Frag) (C : Addr) (m qual : Str) (st : Stmt) (ps : List Str) : Prop where
  ex : ∃ f fd, Fun K m qual st f fd ∧ Meth K C m f ∧ Binds K fd ps []
structure TopI (K : PySem.W.Frag) (mg : Str → Option Value) (C : Addr) (x qual : Str) (st : Stmt) (ps : List Str) : Prop where
  ex : ∃ f fd, Fun K "__init__" qual st f fd ∧ Mk K C f ∧ Binds K fd ps [] ∧ mg x = some (.ref C)
section
variable {P : Program} {w : World} {K : PySem.W.Frag} {mg : Str → Option Value} {base : Heap} {x m qual : Str} {st : Stmt} {ps N : List Str} {sp : Sp} {k : Nat} {C : Addr}
theorem TopM.cal (T : TopM K C m qual st ps) (h : ∀ f fd, Fun K m qual st f fd → FnOk P w K mg base CX0 k f fd ps sp) : MCal P w K mg base C m k ps sp := by
  obtain ⟨f, fd, F, hm, hb⟩ := T.ex
  exact ⟨f, fd, h f fd F, hm, hb⟩
theorem TopM.ok1 {a1 : Str} {b : V → Hp → VK → Prop} (T : TopM K C m qual st [a1]) (S : FnScope N [a1] (defScope st))
    (h : ∀ (f : Addr) (cdv : Value) (A : Around) (outer : List Env) (s : Shared) (H : Hp) (v1 : V) (Q : VK) (E : XK), Room k (A.deeper (envOfC qual (defScope st) s.heap.objs.size f cdv)) → b v1 H Q → GoalB P w K mg base N qual st f cdv A outer s H [v1] Q E) : MCal P w K mg base C m (k + 1) [a1] (sp1 b) :=
  T.cal fun f fd F => F.ok S (fun vs H Q E ⟨_, e, _⟩ => by rw [e]; rfl) fun cdv A outer s H vs Q E hr hsp => by
    obtain ⟨v1, rfl, hb⟩ := hsp
    exact h f cdv A outer s H v1 Q E hr hb
theorem TopM.ok2 {a1 a2 : Str} {b : V → V → Hp → VK → Prop} (T : TopM K C m qual st [a1, a2]) (S : FnScope N [a1, a2] (defScope st))
    (h : ∀ (f : Addr) (cdv : Value) (A : Around) (outer : List Env) (s : Shared) (H : Hp) (v1 v2 : V) (Q : VK) (E : XK), Room k (A.deeper (envOfC qual (defScope st) s.heap.objs.size f cdv)) → b v1 v2 H Q → GoalB P w K mg base N qual st f cdv A outer s H [v1, v2] Q E) : MCal P w K mg base C m (k + 1) [a1, a2] (sp2 b) :=
  T.cal fun f fd F => F.ok S (fun vs H Q E ⟨_, _, e, _⟩ => by rw [e]; rfl) fun cdv A outer s H vs Q E hr hsp => by
    obtain ⟨v1, v2, rfl, hb⟩ := hsp
    exact h f cdv A outer s H v1 v2 Q E hr hb
theorem TopM.ok3 {a1 a2 a3 : Str} {b : V → V → V → Hp → VK → Prop} (T : TopM K C m qual st [a1, a2, a3]) (S : FnScope N [a1, a2, a3] (defScope st))
    (h : ∀ (f : Addr) (cdv : Value) (A : Around) (outer : List Env) (s : Shared) (H : Hp) (v1 v2 v3 : V) (Q : VK) (E : XK), Room k (A.deeper (envOfC qual (defScope st) s.heap.objs.size f cdv)) → b v1 v2 v3 H Q → GoalB P w K mg base N qual st f cdv A outer s H [v1, v2, v3] Q E) : MCal P w K mg base C m (k + 1) [a1, a2, a3] (sp3 b) :=
  T.cal fun f fd F => F.ok S (fun vs H Q E ⟨_, _, _, e, _⟩ => by rw [e]; rfl) fun cdv A outer s H vs Q E hr hsp => by
    obtain ⟨v1, v2, v3, rfl, hb⟩ := hsp
    exact h f cdv A outer s H v1 v2 v3 Q E hr hb
theorem TopI.ok3 {a1 a2 a3 : Str} {b : V → V → V → Hp → VK → Prop} (T : TopI K mg C x qual st [a1, a2, a3]) (S : FnScope N [a1, a2, a3] (defScope st))
    (h : ∀ (f : Addr) (cdv : Value) (A : Around) (outer : List Env) (s : Shared) (H : Hp) (v1 v2 v3 : V) (Q : VK) (E : XK), Room k (A.deeper (envOfC qual (defScope st) s.heap.objs.size f cdv)) → b v1 v2 v3 H Q → GoalB P w K mg base N qual st f cdv A outer s H [v1, v2, v3] Q E) : CCal P w K mg base C x (k + 1) [a1, a2, a3] (sp3 b) := by
  obtain ⟨f, fd, F, hm, hb, hx⟩ := T.ex
  refine ⟨f, fd, F.ok S (fun vs H Q E ⟨_, _, _, e, _⟩ => by rw [e]; rfl) (fun cdv A outer s H vs Q E hr hsp => ?_), hm, hb, hx⟩
  obtain ⟨v1, v2, v3, rfl, hb⟩ := hsp
  exact h f cdv A outer s H v1 v2 v3 Q E hr hb
end
/-! ### readings -/
section
variable {σ : St} {H : Hp} {Q : VK} {K : PySem.W.Frag} {ta tv : TE} {f m : Str} {C a dx : Addr} {fs : List (Str × V)} {v : V}
def fldK (K : PySem.W.Frag) (f : Str) (Q : VK) (x : V) (H1 : Hp) : Prop := ∃ a C dx fs v, x = .ref a ∧ H1 a = some (.ins C dx fs) ∧ Cls K C ∧ NoAttr K C f ∧ fs.lookup f = some v ∧ Q v H1
theorem rd_fld (h : ta σ H (fldK K f Q)) : tFld K ta f σ H Q := h
theorem fld_of (e : H a = some (.ins C dx fs)) (c : Cls K C) (n : NoAttr K C f) (l : fs.lookup f = some v) (q : Q v H) : fldK K f Q (.ref a) H := ⟨a, C, dx, fs, v, rfl, e, c, n, l, q⟩
def sfldK (K : PySem.W.Frag) (f : Str) (D : Ends) (σ : St) (y x : V) (H2 : Hp) : Prop := ∃ a C dx fs, x = .ref a ∧ H2 a = some (.ins C dx fs) ∧ Cls K C ∧ NoAttr K C f ∧ fs.length < 1000 ∧ D.nx σ (upd H2 a (.ins C dx (putF f y fs)))
theorem rd_sfld {D : Ends} (h : tv σ H fun y H1 => ta σ H1 fun x H2 => sfldK K f D σ y x H2) : sFld K ta tv f D σ H := h
theorem sfld_of {D : Ends} {y : V} (e : H a = some (.ins C dx fs)) (c : Cls K C) (n : NoAttr K C f) (l : fs.length < 1000) (q : D.nx σ (upd H a (.ins C dx (putF f y fs)))) : sfldK K f D σ y (.ref a) H := ⟨a, C, dx, fs, rfl, e, c, n, l, q⟩
def methK (C : Addr) (m : Str) (sp : Sp) (t : TA) (σ : St) (Q : VK) (x : V) (H1 : Hp) : Prop := ∃ a dx fs, x = .ref a ∧ H1 a = some (.ins C dx fs) ∧ fs.lookup m = none ∧ t σ H1 fun vs H2 => sp (x :: (vs ++ [])) H2 Q E0
theorem rd_meth {sp : Sp} {t : TA} (h : ta σ H (methK C m sp t σ Q)) : tMeth C m sp [] E0 ta t σ H Q := h
theorem meth_of {sp : Sp} {t : TA} (e : H a = some (.ins C dx fs)) (l : fs.lookup m = none) (q : t σ H fun vs H2 => sp (.ref a :: (vs ++ [])) H2 Q E0) : methK C m sp t σ Q (.ref a) H := ⟨a, dx, fs, rfl, e, l, q⟩
theorem rd_ct {xs : List V} (h : ∀ a, (∀ H', SqT K H' a xs) → Q (.ref a) H) : tCT K xs σ H Q := h
end
end L2

end
section
set_option Elab.async false
set_option linter.all false
set_option maxRecDepth 100000
set_option maxHeartbeats 4000000
namespace L2
open PySem
theorem rep_int0 (n : Nat) : (List.replicate n [V.int 0]).flatten = (List.replicate n (0 : Int)).map V.int := by
  induction n with
  | zero => rfl
  | succ n ih => rw [List.replicate_succ, List.flatten_cons, ih, List.replicate_succ, List.map_cons]; rfl
theorem rd_rep0 {H : Hp} {l : Addr} {k : Int} {Q : VK} (h : H l = some (.lst [.int 0])) (h2 : k ≤ 1000) (h1 : -1000 ≤ k) (q : ∀ p, H p = none → Q (.ref p) (upd H p (.lst ((List.replicate k.toNat (0 : Int)).map V.int)))) : rRep (.ref l) (.int k) H Q :=
  ⟨l, k, _, rfl, rfl, h, by omega, by omega, by rw [List.length_singleton, Nat.one_mul]; exact small_le (by omega), fun p hp => by rw [rep_int0]; exact q p hp⟩
/-! ### rows, programs and runs, as data -/
inductive Rw where
  | put (p n : Int) | copy (p q : Int) | plus (p q r : Int) | less (p q r : Int) | times (p q n : Int) | take (p : Int) | tell (p : Int) | jump (t : Int) | zero (p t : Int) | below (p t : Int) | call (p f : Int) (qs : List Int) | back (p : Int)
def Rw.row : Rw → Str × List D
  | .put p n => ("put", [.int p, .int n])
  | .copy p q => ("copy", [.int p, .int q])
  | .plus p q r => ("plus", [.int p, .int q, .int r])
  | .less p q r => ("less", [.int p, .int q, .int r])
  | .times p q n => ("times", [.int p, .int q, .int n])
  | .take p => ("take", [.int p])
  | .tell p => ("tell", [.int p])
  | .jump t => ("jump", [.int t])
  | .zero p t => ("zero", [.int p, .int t])
  | .below p t => ("below", [.int p, .int t])
  | .call p f qs => ("call", [.int p, .int f, .tup (qs.map D.int)])
  | .back p => ("back", [.int p])
structure Df where
  takes : Int
  boxes : Int
  rows : List Rw
def In0 (n m : Int) : Prop := 0 ≤ n ∧ n < m
/-- a row within its bounds -/
def Rw.Ok (P : List Df) (nb many : Int) : Rw → Prop
  | .put p n => In0 p nb ∧ n.natAbs ≤ 10 ^ 60
  | .copy p q => In0 p nb ∧ In0 q nb
  | .plus p q r => In0 p nb ∧ In0 q nb ∧ In0 r nb
  | .less p q r => In0 p nb ∧ In0 q nb ∧ In0 r nb
  | .times p q n => In0 p nb ∧ In0 q nb ∧ n.natAbs ≤ 99
  | .take p => In0 p nb
  | .tell p => In0 p nb
  | .jump t => In0 t many
  | .zero p t => In0 p nb ∧ In0 t many
  | .below p t => In0 p nb ∧ In0 t many
  | .call p f qs => In0 p nb ∧ (∃ d, 0 ≤ f ∧ P[f.toNat]? = some d ∧ (qs.length : Int) = d.takes) ∧ ∀ q ∈ qs, In0 q nb
  | .back p => In0 p nb
def Rw.last : Rw → Prop
  | .jump _ => True
  | .back _ => True
  | _ => False
structure DfOk (P : List Df) (d : Df) : Prop where
  b : 1 ≤ d.boxes ∧ d.boxes ≤ 1000
  t : 0 ≤ d.takes ∧ d.takes ≤ d.boxes
  n : d.rows.length ≤ 1000
  rows : ∀ r ∈ d.rows, r.Ok P d.boxes d.rows.length
  last : ∃ r, d.rows[d.rows.length - 1]? = some r ∧ r.last
def PgOk (P : List Df) : Prop := P ≠ [] ∧ P.length ≤ 1000 ∧ ∀ d ∈ P, DfOk P d
inductive En where
  | back (n : Int) | dry (f at' : Int) | deep (f at' : Int)
def En.d : Option En → D
  | none => .non
  | some (.back n) => .tup [.str "back", .int n]
  | some (.dry f a) => .tup [.str "dry", .int f, .int a]
  | some (.deep f a) => .tup [.str "deep", .int f, .int a]
abbrev Fr := Int × Int × List Int
structure HS where
  frames : List Fr
  left : List Int
  news : List Int
  gone : Int
  fin : Option En
def rowAt (P : List Df) (f at' : Int) : Option Rw := (P[f.toNat]?).bind fun d => d.rows[at'.toNat]?
def boxAt (bx : List Int) (p : Int) : Int := bx.getD p.toNat 0
def setAt (bx : List Int) (p v : Int) : List Int := bx.set p.toNat v
/-- what a row of its own frame puts into a box -/
def Rw.calc (bx : List Int) : Rw → Option (Int × Int)
  | .put p n => some (p, n)
  | .copy p q => some (p, boxAt bx q)
  | .plus p q r => some (p, boxAt bx q + boxAt bx r)
  | .less p q r => some (p, boxAt bx q - boxAt bx r)
  | .times p q n => some (p, boxAt bx q * n)
  | _ => none
def Rw.next (bx : List Int) (at' : Int) : Rw → Int
  | .jump t => t
  | .zero p t => if boxAt bx p = 0 then t else at' + 1
  | .below p t => if boxAt bx p < 0 then t else at' + 1
  | _ => at' + 1
def boxesOf (P : List Df) (f : Int) : Int := ((P[f.toNat]?).map (·.boxes)).getD 0
def newFr (P : List Df) (f : Int) (ns : List Int) : Fr := (f, 0, ns ++ List.replicate ((boxesOf P f).toNat - ns.length) 0)
/-- the end at a row, if it is one -/
def endAt (h : HS) (fr : Fr) : Rw → Option En
  | .back p => if h.frames.length = 1 then some (.back (boxAt fr.2.2 p)) else none
  | .take _ => if h.left = [] then some (.dry fr.1 fr.2.1) else none
  | .call _ _ _ => if 20 ≤ h.frames.length then some (.deep fr.1 fr.2.1) else none
  | _ => none
/-- boxes, numbers left and news behind a row of the own frame -/
def Rw.own3 (bx left news : List Int) : Rw → List Int × List Int × List Int
  | .tell p => (bx, left, news ++ [boxAt bx p])
  | .take p => (setAt bx p (left.headD 0), left.tail, news)
  | r => match r.calc bx with
    | some (p, v) => (setAt bx p v, left, news)
    | none => (bx, left, news)
/-- frames, numbers left and news behind a row; fs the frames that wait -/
def eff (P : List Df) (fs : List Fr) (fr : Fr) (left news : List Int) : Rw → List Fr × List Int × List Int
  | .back p => match fs.getLast? with
    | some w => match rowAt P w.1 w.2.1 with
      | some (.call p2 _ _) => (fs.dropLast ++ [(w.1, w.2.1 + 1, setAt w.2.2 p2 (boxAt fr.2.2 p))], left, news)
      | _ => (fs, left, news)
    | none => (fs, left, news)
  | .call _ g qs => (fs ++ [fr, newFr P g (qs.map (boxAt fr.2.2))], left, news)
  | r => (fs ++ [(fr.1, r.next fr.2.2 fr.2.1, (r.own3 fr.2.2 left news).1)], (r.own3 fr.2.2 left news).2.1, (r.own3 fr.2.2 left news).2.2)
def HS.go (P : List Df) (h : HS) : HS := match h.fin with
  | some _ => h
  | none => match h.frames.getLast? with
    | none => h
    | some fr => match rowAt P fr.1 fr.2.1 with
      | none => h
      | some r => match endAt h fr r with
        | some e => { h with fin := some e }
        | none => { h with frames := (eff P h.frames.dropLast fr h.left h.news r).1, left := (eff P h.frames.dropLast fr h.left h.news r).2.1, news := (eff P h.frames.dropLast fr h.left h.news r).2.2, gone := h.gone + 1 }
/-- a frame of the program -/
structure FrOk (P : List Df) (g : Int) (fr : Fr) : Prop where
  ex : ∃ d, 0 ≤ fr.1 ∧ P[fr.1.toNat]? = some d ∧ In0 fr.2.1 d.rows.length ∧ (fr.2.2.length : Int) = d.boxes
  small : ∀ x ∈ fr.2.2, x.natAbs ≤ 10 ^ 60 * 100 ^ g.toNat
structure HsOk (P : List Df) (h : HS) : Prop where
  ne : h.frames ≠ []
  few : h.frames.length ≤ 20
  fr : ∀ fr ∈ h.frames, FrOk P h.gone fr
  wait : ∀ i fr, h.frames[i]? = some fr → i + 1 < h.frames.length → ∃ p f qs, rowAt P fr.1 fr.2.1 = some (.call p f qs)
  left : ∀ x ∈ h.left, x.natAbs ≤ 10 ^ 60
  gone : 0 ≤ h.gone
  sz : h.left.length + h.news.length ≤ 100000 + h.gone.toNat
/-! ### where they stand in the heap -/
def rowsD (rs : List Rw) : List D := rs.map fun r => rowD r.row
def DfAt (own : List Addr) (H : Hp) (d : Df) (v : V) : Prop := ∃ t q ys, v = .ref t ∧ H t = some (.tup [.int d.takes, .int d.boxes, .ref q]) ∧ H q = some (.lst ys) ∧ q ∉ own ∧ Reps H (rowsD d.rows) ys
def PgAt (own : List Addr) (H : Hp) (P : List Df) (pp : Addr) : Prop := ∃ vs, H pp = some (.lst vs) ∧ pp ∉ own ∧ vs.length = P.length ∧ ∀ (i : Nat) (d : Df) (v : V), P[i]? = some d → vs[i]? = some v → DfAt own H d v
def OSame (own : List Addr) (H H' : Hp) : Prop := ∀ a o, a ∉ own → H a = some o → H' a = some o
/-- what the own addresses hold is no tuple -/
def NoTup (own : List Addr) (H : Hp) : Prop := ∀ a ∈ own, ∀ xs, H a ≠ some (.tup xs)
theorem OSame.refl (own : List Addr) (H : Hp) : OSame own H H := fun _ _ _ h => h
theorem OSame.of {own : List Addr} {H H' : Hp} (s : Same H H') : OSame own H H' := fun a o _ h => s a o h
theorem OSame.ts {own : List Addr} {H H' : Hp} (s : OSame own H H') (n : NoTup own H) : TSame H H' := fun a xs e => s a _ (fun z => n a z xs e) e
theorem OSame.trans {own own' : List Addr} {H H1 H2 : Hp} (a : OSame own H H1) (b : OSame own' H1 H2) (h : ∀ x ∈ own', x ∈ own ∨ H x = none) : OSame own H H2 := fun x o n e => b x o (fun z => by
  rcases h x z with q | q
  · exact n q
  · rw [q] at e; cases e) (a x o n e)
theorem OSame.wr {own : List Addr} {H : Hp} {a : Addr} {o : HO} (h : a ∈ own) : OSame own H (upd H a o) := fun b u n e => by
  rw [upd_ne (fun z : b = a => n (z ▸ h))]
  exact e
theorem DfAt.by {own own' : List Addr} {H H' : Hp} {d : Df} {v : V} (h : DfAt own H d v) (s : OSame own H H') (t : TSame H H') (m : ∀ x ∈ own', x ∈ own ∨ H x = none) : DfAt own' H' d v := by
  obtain ⟨a, q, ys, rfl, h1, h2, n, r⟩ := h
  refine ⟨a, q, ys, rfl, t _ _ h1, s _ _ n h2, fun z => ?_, r.mono t⟩
  rcases m q z with k | k
  · exact n k
  · rw [k] at h2; cases h2
theorem PgAt.by {own own' : List Addr} {H H' : Hp} {P : List Df} {pp : Addr} (h : PgAt own H P pp) (s : OSame own H H') (t : TSame H H') (m : ∀ x ∈ own', x ∈ own ∨ H x = none) : PgAt own' H' P pp := by
  obtain ⟨vs, h1, n, hl, k⟩ := h
  refine ⟨vs, s _ _ n h1, fun z => ?_, hl, fun i d v e1 e2 => (k i d v e1 e2).by s t m⟩
  rcases m pp z with q | q
  · exact n q
  · rw [q] at h1; cases h1
end L2

end
section
set_option Elab.async false
set_option linter.all false
set_option maxRecDepth 100000
set_option maxHeartbeats 4000000
namespace L2
open PySem
/-! ### the fields of a hand -/
theorem lk_eq {k : Str} {v : V} {l : List (Str × V)} : List.lookup k ((k, v) :: l) = some v := by simp [List.lookup]
theorem lk_ne {k k' : Str} {v : V} {l : List (Str × V)} (h : ¬ k = k') : List.lookup k ((k', v) :: l) = List.lookup k l := by
  have hb : (k == k') = false := by simpa using h
  simp only [List.lookup, hb]
theorem pf_eq {k : Str} {v x : V} {l : List (Str × V)} : putF k v ((k, x) :: l) = (k, v) :: l := by simp [putF]
theorem pf_ne {k k' : Str} {v x : V} {l : List (Str × V)} (h : ¬ k' = k) : putF k v ((k', x) :: l) = (k', x) :: putF k v l := by simp [putF, h]
theorem pf_nil {k : Str} {v : V} : putF k v [] = [(k, v)] := rfl
def hflds (a b c d e f : V) : List (Str × V) := [("program", a), ("frames", b), ("news", c), ("gone", d), ("left", e), ("end", f)]
section
variable {a b c d e f v : V}
theorem hf_program : (hflds a b c d e f).lookup ("program" : Str) = some a := by unfold hflds; rw [lk_eq]
theorem hf_frames : (hflds a b c d e f).lookup ("frames" : Str) = some b := by unfold hflds; rw [lk_ne (by decide +kernel : ¬ ("frames" : Str) = "program"), lk_eq]
theorem hp_frames : putF "frames" v (hflds a b c d e f) = hflds a v c d e f := by unfold hflds; rw [pf_ne (by decide +kernel : ¬ ("program" : Str) = "frames"), pf_eq]
theorem hf_news : (hflds a b c d e f).lookup ("news" : Str) = some c := by unfold hflds; rw [lk_ne (by decide +kernel : ¬ ("news" : Str) = "program"), lk_ne (by decide +kernel : ¬ ("news" : Str) = "frames"), lk_eq]
theorem hp_news : putF "news" v (hflds a b c d e f) = hflds a b v d e f := by unfold hflds; rw [pf_ne (by decide +kernel : ¬ ("program" : Str) = "news"), pf_ne (by decide +kernel : ¬ ("frames" : Str) = "news"), pf_eq]
theorem hf_gone : (hflds a b c d e f).lookup ("gone" : Str) = some d := by unfold hflds; rw [lk_ne (by decide +kernel : ¬ ("gone" : Str) = "program"), lk_ne (by decide +kernel : ¬ ("gone" : Str) = "frames"), lk_ne (by decide +kernel : ¬ ("gone" : Str) = "news"), lk_eq]
theorem hp_gone : putF "gone" v (hflds a b c d e f) = hflds a b c v e f := by unfold hflds; rw [pf_ne (by decide +kernel : ¬ ("program" : Str) = "gone"), pf_ne (by decide +kernel : ¬ ("frames" : Str) = "gone"), pf_ne (by decide +kernel : ¬ ("news" : Str) = "gone"), pf_eq]
theorem hf_left : (hflds a b c d e f).lookup ("left" : Str) = some e := by unfold hflds; rw [lk_ne (by decide +kernel : ¬ ("left" : Str) = "program"), lk_ne (by decide +kernel : ¬ ("left" : Str) = "frames"), lk_ne (by decide +kernel : ¬ ("left" : Str) = "news"), lk_ne (by decide +kernel : ¬ ("left" : Str) = "gone"), lk_eq]
theorem hp_left : putF "left" v (hflds a b c d e f) = hflds a b c d v f := by unfold hflds; rw [pf_ne (by decide +kernel : ¬ ("program" : Str) = "left"), pf_ne (by decide +kernel : ¬ ("frames" : Str) = "left"), pf_ne (by decide +kernel : ¬ ("news" : Str) = "left"), pf_ne (by decide +kernel : ¬ ("gone" : Str) = "left"), pf_eq]
theorem hf_end : (hflds a b c d e f).lookup ("end" : Str) = some f := by unfold hflds; rw [lk_ne (by decide +kernel : ¬ ("end" : Str) = "program"), lk_ne (by decide +kernel : ¬ ("end" : Str) = "frames"), lk_ne (by decide +kernel : ¬ ("end" : Str) = "news"), lk_ne (by decide +kernel : ¬ ("end" : Str) = "gone"), lk_ne (by decide +kernel : ¬ ("end" : Str) = "left"), lk_eq]
theorem hp_end : putF "end" v (hflds a b c d e f) = hflds a b c d e v := by unfold hflds; rw [pf_ne (by decide +kernel : ¬ ("program" : Str) = "end"), pf_ne (by decide +kernel : ¬ ("frames" : Str) = "end"), pf_ne (by decide +kernel : ¬ ("news" : Str) = "end"), pf_ne (by decide +kernel : ¬ ("gone" : Str) = "end"), pf_ne (by decide +kernel : ¬ ("left" : Str) = "end"), pf_eq]
theorem hm_go : (hflds a b c d e f).lookup ("go" : Str) = none := by unfold hflds; rw [lk_ne (by decide +kernel : ¬ ("go" : Str) = "program"), lk_ne (by decide +kernel : ¬ ("go" : Str) = "frames"), lk_ne (by decide +kernel : ¬ ("go" : Str) = "news"), lk_ne (by decide +kernel : ¬ ("go" : Str) = "gone"), lk_ne (by decide +kernel : ¬ ("go" : Str) = "left"), lk_ne (by decide +kernel : ¬ ("go" : Str) = "end")]; rfl
theorem hm_end_at : (hflds a b c d e f).lookup ("end_at" : Str) = none := by unfold hflds; rw [lk_ne (by decide +kernel : ¬ ("end_at" : Str) = "program"), lk_ne (by decide +kernel : ¬ ("end_at" : Str) = "frames"), lk_ne (by decide +kernel : ¬ ("end_at" : Str) = "news"), lk_ne (by decide +kernel : ¬ ("end_at" : Str) = "gone"), lk_ne (by decide +kernel : ¬ ("end_at" : Str) = "left"), lk_ne (by decide +kernel : ¬ ("end_at" : Str) = "end")]; rfl
theorem hm_do_row : (hflds a b c d e f).lookup ("do_row" : Str) = none := by unfold hflds; rw [lk_ne (by decide +kernel : ¬ ("do_row" : Str) = "program"), lk_ne (by decide +kernel : ¬ ("do_row" : Str) = "frames"), lk_ne (by decide +kernel : ¬ ("do_row" : Str) = "news"), lk_ne (by decide +kernel : ¬ ("do_row" : Str) = "gone"), lk_ne (by decide +kernel : ¬ ("do_row" : Str) = "left"), lk_ne (by decide +kernel : ¬ ("do_row" : Str) = "end")]; rfl
theorem hm_give_back : (hflds a b c d e f).lookup ("give_back" : Str) = none := by unfold hflds; rw [lk_ne (by decide +kernel : ¬ ("give_back" : Str) = "program"), lk_ne (by decide +kernel : ¬ ("give_back" : Str) = "frames"), lk_ne (by decide +kernel : ¬ ("give_back" : Str) = "news"), lk_ne (by decide +kernel : ¬ ("give_back" : Str) = "gone"), lk_ne (by decide +kernel : ¬ ("give_back" : Str) = "left"), lk_ne (by decide +kernel : ¬ ("give_back" : Str) = "end")]; rfl
theorem hm_do_own : (hflds a b c d e f).lookup ("do_own" : Str) = none := by unfold hflds; rw [lk_ne (by decide +kernel : ¬ ("do_own" : Str) = "program"), lk_ne (by decide +kernel : ¬ ("do_own" : Str) = "frames"), lk_ne (by decide +kernel : ¬ ("do_own" : Str) = "news"), lk_ne (by decide +kernel : ¬ ("do_own" : Str) = "gone"), lk_ne (by decide +kernel : ¬ ("do_own" : Str) = "left"), lk_ne (by decide +kernel : ¬ ("do_own" : Str) = "end")]; rfl
theorem hi_all : putF "end" f (putF "left" e (putF "gone" d (putF "news" c (putF "frames" b (putF "program" a []))))) = hflds a b c d e f := by
  unfold hflds
  rw [pf_nil]
  rw [pf_ne (by decide +kernel : ¬ ("program" : Str) = "frames"), pf_nil]
  rw [pf_ne (by decide +kernel : ¬ ("program" : Str) = "news"), pf_ne (by decide +kernel : ¬ ("frames" : Str) = "news"), pf_nil]
  rw [pf_ne (by decide +kernel : ¬ ("program" : Str) = "gone"), pf_ne (by decide +kernel : ¬ ("frames" : Str) = "gone"), pf_ne (by decide +kernel : ¬ ("news" : Str) = "gone"), pf_nil]
  rw [pf_ne (by decide +kernel : ¬ ("program" : Str) = "left"), pf_ne (by decide +kernel : ¬ ("frames" : Str) = "left"), pf_ne (by decide +kernel : ¬ ("news" : Str) = "left"), pf_ne (by decide +kernel : ¬ ("gone" : Str) = "left"), pf_nil]
  rw [pf_ne (by decide +kernel : ¬ ("program" : Str) = "end"), pf_ne (by decide +kernel : ¬ ("frames" : Str) = "end"), pf_ne (by decide +kernel : ¬ ("news" : Str) = "end"), pf_ne (by decide +kernel : ¬ ("gone" : Str) = "end"), pf_ne (by decide +kernel : ¬ ("left" : Str) = "end"), pf_nil]
end
/-! ### the objects of a hand -/
def AllAt (H : Hp) (l : List (Addr × HO)) : Prop := ∀ e ∈ l, H e.1 = some e.2
theorem AllAt.here {H : Hp} {l1 l2 : List (Addr × HO)} {a : Addr} {o : HO} (h : AllAt H (l1 ++ (a, o) :: l2)) : H a = some o := h (a, o) (List.mem_append_right _ List.mem_cons_self)
theorem AllAt.wr {H : Hp} {l1 l2 : List (Addr × HO)} {a : Addr} {o o' : HO} (h : AllAt H (l1 ++ (a, o) :: l2)) (nd : ((l1 ++ (a, o) :: l2).map (·.1)).Nodup) : AllAt (upd H a o') (l1 ++ (a, o') :: l2) := by
  rw [List.map_append, List.map_cons] at nd
  obtain ⟨n1, n2, n3⟩ := List.nodup_append.mp nd
  obtain ⟨n4, n5⟩ := List.nodup_cons.mp n2
  intro e he
  rcases List.mem_append.mp he with he | he
  · rw [upd_ne (n3 e.1 (List.mem_map_of_mem he) a List.mem_cons_self)]
    exact h e (List.mem_append_left _ he)
  · rcases List.mem_cons.mp he with rfl | he
    · exact upd_same
    · rw [upd_ne (fun z : e.1 = a => n4 (show a ∈ l2.map (·.1) from z ▸ List.mem_map_of_mem (f := (·.1)) he))]
      exact h e (List.mem_append_right _ (List.mem_cons_of_mem _ he))
theorem AllAt.by {H H' : Hp} {l : List (Addr × HO)} (h : AllAt H l) (s : ∀ a o, a ∈ l.map (·.1) → H a = some o → H' a = some o) : AllAt H' l := fun e he => s _ _ (List.mem_map_of_mem he) (h e he)
theorem AllAt.mono {H H' : Hp} {l : List (Addr × HO)} (h : AllAt H l) (s : Same H H') : AllAt H' l := h.by fun a o _ e => s a o e
abbrev FZ := (Addr × Addr) × Fr
def frObj (z : FZ) : List (Addr × HO) := [(z.1.1, .lst [.int z.2.1, .int z.2.2.1, .ref z.1.2]), (z.1.2, .lst (z.2.2.2.map V.int))]
def hObjs (C p dx pp pf pn pl : Addr) (fz : List FZ) (h : HS) (ve : V) : List (Addr × HO) :=
  [(p, .ins C dx (hflds (.ref pp) (.ref pf) (.ref pn) (.int h.gone) (.ref pl) ve)), (pf, .lst (fz.map fun z => V.ref z.1.1)), (pn, .lst (h.news.map V.int)), (pl, .lst (h.left.map V.int))] ++ fz.flatMap frObj
def ownA (p pf pn pl : Addr) (fz : List FZ) : List Addr := [p, pf, pn, pl] ++ fz.flatMap fun z => [z.1.1, z.1.2]
theorem own_objs {C p dx pp pf pn pl : Addr} {fz : List FZ} {h : HS} {ve : V} : (hObjs C p dx pp pf pn pl fz h ve).map (·.1) = ownA p pf pn pl fz := by
  unfold hObjs ownA
  rw [List.map_append, List.map_flatMap]
  rfl
structure HA (C p dx pp pf pn pl : Addr) (fz : List FZ) (H : Hp) (P : List Df) (h : HS) (ve : V) : Prop where
  all : AllAt H (hObjs C p dx pp pf pn pl fz h ve)
  nd : (ownA p pf pn pl fz).Nodup
  en : Rep H (En.d h.fin) ve
  pg : PgAt (ownA p pf pn pl fz) H P pp
  fr : fz.map (·.2) = h.frames
section
variable {C p dx pp pf pn pl : Addr} {fz : List FZ} {H : Hp} {P : List Df} {h : HS} {ve : V}
theorem HA.obj (a : HA C p dx pp pf pn pl fz H P h ve) : H p = some (.ins C dx (hflds (.ref pp) (.ref pf) (.ref pn) (.int h.gone) (.ref pl) ve)) := AllAt.here (l1 := []) a.all
theorem HA.fl (a : HA C p dx pp pf pn pl fz H P h ve) : H pf = some (.lst (fz.map fun z => V.ref z.1.1)) := AllAt.here (l1 := [_]) a.all
theorem HA.nl (a : HA C p dx pp pf pn pl fz H P h ve) : H pn = some (.lst (h.news.map V.int)) := AllAt.here (l1 := [_, _]) a.all
theorem HA.ll (a : HA C p dx pp pf pn pl fz H P h ve) : H pl = some (.lst (h.left.map V.int)) := AllAt.here (l1 := [_, _, _]) a.all
theorem HA.z1 (a : HA C p dx pp pf pn pl fz H P h ve) {z : FZ} (m : z ∈ fz) : H z.1.1 = some (.lst [.int z.2.1, .int z.2.2.1, .ref z.1.2]) := a.all (z.1.1, _) (List.mem_append_right _ (List.mem_flatMap.mpr ⟨z, m, List.mem_cons_self⟩))
theorem HA.z2 (a : HA C p dx pp pf pn pl fz H P h ve) {z : FZ} (m : z ∈ fz) : H z.1.2 = some (.lst (z.2.2.2.map V.int)) := a.all (z.1.2, _) (List.mem_append_right _ (List.mem_flatMap.mpr ⟨z, m, List.mem_cons_of_mem _ List.mem_cons_self⟩))
theorem HA.notup (a : HA C p dx pp pf pn pl fz H P h ve) : NoTup (ownA p pf pn pl fz) H := by
  intro b hb xs e
  unfold ownA at hb
  rcases List.mem_append.mp hb with hb | hb
  · simp only [List.mem_cons, List.not_mem_nil, or_false] at hb
    rcases hb with rfl | rfl | rfl | rfl
    · rw [a.obj] at e; cases e
    · rw [a.fl] at e; cases e
    · rw [a.nl] at e; cases e
    · rw [a.ll] at e; cases e
  · obtain ⟨z, hz, hb⟩ := List.mem_flatMap.mp hb
    simp only [List.mem_cons, List.not_mem_nil, or_false] at hb
    rcases hb with rfl | rfl
    · rw [a.z1 hz] at e; cases e
    · rw [a.z2 hz] at e; cases e
/-- what does not touch the hand's own -/
theorem HA.mono {H' : Hp} (a : HA C p dx pp pf pn pl fz H P h ve) (s : Same H H') : HA C p dx pp pf pn pl fz H' P h ve :=
  ⟨a.all.mono s, a.nd, a.en.mono s.ts, a.pg.by (OSame.of s) s.ts fun x hx => .inl hx, a.fr⟩
/-- one object of the hand is written -/
theorem HA.wrote {l1 l2 : List (Addr × HO)} {b : Addr} {o o' : HO} {fz' : List FZ} {h' : HS} {ve' : V} (a : HA C p dx pp pf pn pl fz H P h ve) (e1 : hObjs C p dx pp pf pn pl fz h ve = l1 ++ (b, o) :: l2) (e2 : hObjs C p dx pp pf pn pl fz' h' ve' = l1 ++ (b, o') :: l2)
    (en : Rep (upd H b o') (En.d h'.fin) ve') (fr : fz'.map (·.2) = h'.frames) : HA C p dx pp pf pn pl fz' (upd H b o') P h' ve' ∧ OSame (ownA p pf pn pl fz) H (upd H b o') := by
  have hnd : ((l1 ++ (b, o) :: l2).map (·.1)).Nodup := by rw [← e1, own_objs]; exact a.nd
  have hall := a.all
  rw [e1] at hall
  have ho : ownA p pf pn pl fz' = ownA p pf pn pl fz := by
    rw [← own_objs (C := C) (dx := dx) (pp := pp) (h := h') (ve := ve'), ← own_objs (C := C) (dx := dx) (pp := pp) (h := h) (ve := ve), e1, e2]
    simp
  have hb : b ∈ ownA p pf pn pl fz := by
    rw [← own_objs (C := C) (dx := dx) (pp := pp) (h := h) (ve := ve), e1]
    simp
  have os : OSame (ownA p pf pn pl fz) H (upd H b o') := OSame.wr hb
  refine ⟨⟨by rw [e2]; exact hall.wr hnd, by rw [ho]; exact a.nd, en, by rw [ho]; exact a.pg.by os (os.ts a.notup) fun x hx => .inl hx, fr⟩, os⟩
theorem HA.wrEn {b : Addr} {o' : HO} (a : HA C p dx pp pf pn pl fz H P h ve) (m : b ∈ ownA p pf pn pl fz) : Rep (upd H b o') (En.d h.fin) ve := a.en.mono (OSame.ts (OSame.wr m) a.notup)
end
end L2

end
section
set_option Elab.async false
set_option linter.all false
set_option maxRecDepth 100000
set_option maxHeartbeats 4000000
namespace L2
open PySem
theorem atI_neg1 {α : Type} {l : List α} {x : α} : atI (l ++ [x]) (-1) = some x := by
  unfold atI ixN
  rw [if_neg (by omega), if_pos (by simp; omega)]
  simp
  rw [show (-1 + ((l.length : Int) + 1)).toNat = l.length by omega]
  simp
theorem map_setAt {ns : List Int} {p v : Int} : (ns.map V.int).set p.toNat (.int v) = (setAt ns p v).map V.int := by
  unfold setAt
  rw [List.map_set]
section
variable {C p dx pp pf pn pl : Addr} {fz : List FZ} {z : FZ} {H : Hp} {P : List Df} {h : HS} {ve : V}
theorem objs_last : hObjs C p dx pp pf pn pl (fz ++ [z]) h ve = ([(p, HO.ins C dx (hflds (.ref pp) (.ref pf) (.ref pn) (.int h.gone) (.ref pl) ve)), (pf, HO.lst ((fz ++ [z]).map fun z => V.ref z.1.1)), (pn, HO.lst (h.news.map V.int)), (pl, HO.lst (h.left.map V.int))] ++ fz.flatMap frObj) ++ [(z.1.1, HO.lst [.int z.2.1, .int z.2.2.1, .ref z.1.2]), (z.1.2, HO.lst (z.2.2.2.map V.int))] := by
  simp [hObjs, frObj]
theorem own_last (m : z ∈ fz) : z.1.1 ∈ ownA p pf pn pl fz ∧ z.1.2 ∈ ownA p pf pn pl fz := by
  unfold ownA
  exact ⟨List.mem_append_right _ (List.mem_flatMap.mpr ⟨z, m, List.mem_cons_self⟩), List.mem_append_right _ (List.mem_flatMap.mpr ⟨z, m, List.mem_cons_of_mem _ List.mem_cons_self⟩)⟩
theorem HA.setBox (a : HA C p dx pp pf pn pl (fz ++ [z]) H P h ve) (bx : List Int) :
    HA C p dx pp pf pn pl (fz ++ [(z.1, (z.2.1, z.2.2.1, bx))]) (upd H z.1.2 (.lst (bx.map V.int))) P { h with frames := fz.map (·.2) ++ [(z.2.1, z.2.2.1, bx)] } ve ∧ OSame (ownA p pf pn pl (fz ++ [z])) H (upd H z.1.2 (.lst (bx.map V.int))) := by
  refine a.wrote (l1 := ([(p, HO.ins C dx (hflds (.ref pp) (.ref pf) (.ref pn) (.int h.gone) (.ref pl) ve)), (pf, HO.lst ((fz ++ [z]).map fun z => V.ref z.1.1)), (pn, HO.lst (h.news.map V.int)), (pl, HO.lst (h.left.map V.int))] ++ fz.flatMap frObj) ++ [(z.1.1, HO.lst [.int z.2.1, .int z.2.2.1, .ref z.1.2])]) (l2 := []) (o := .lst (z.2.2.2.map V.int)) ?_ ?_ (a.wrEn (own_last (by simp)).2) (by simp)
  · rw [objs_last]; simp
  · rw [objs_last]; simp
theorem HA.setRow (a : HA C p dx pp pf pn pl (fz ++ [z]) H P h ve) (n : Int) :
    HA C p dx pp pf pn pl (fz ++ [(z.1, (z.2.1, n, z.2.2.2))]) (upd H z.1.1 (.lst [.int z.2.1, .int n, .ref z.1.2])) P { h with frames := fz.map (·.2) ++ [(z.2.1, n, z.2.2.2)] } ve ∧ OSame (ownA p pf pn pl (fz ++ [z])) H (upd H z.1.1 (.lst [.int z.2.1, .int n, .ref z.1.2])) := by
  refine a.wrote (l1 := [(p, HO.ins C dx (hflds (.ref pp) (.ref pf) (.ref pn) (.int h.gone) (.ref pl) ve)), (pf, HO.lst ((fz ++ [z]).map fun z => V.ref z.1.1)), (pn, HO.lst (h.news.map V.int)), (pl, HO.lst (h.left.map V.int))] ++ fz.flatMap frObj) (l2 := [(z.1.2, HO.lst (z.2.2.2.map V.int))]) (o := .lst [.int z.2.1, .int z.2.2.1, .ref z.1.2]) ?_ ?_ (a.wrEn (own_last (by simp)).1) (by simp)
  · rw [objs_last]
  · rw [objs_last]; simp
theorem HA.setNews (a : HA C p dx pp pf pn pl fz H P h ve) (ns : List Int) : HA C p dx pp pf pn pl fz (upd H pn (.lst (ns.map V.int))) P { h with news := ns } ve ∧ OSame (ownA p pf pn pl fz) H (upd H pn (.lst (ns.map V.int))) :=
  a.wrote (l1 := [_, _]) rfl rfl (a.wrEn (by simp [ownA])) a.fr
theorem HA.setLeft (a : HA C p dx pp pf pn pl fz H P h ve) (ns : List Int) : HA C p dx pp pf pn pl fz (upd H pl (.lst (ns.map V.int))) P { h with left := ns } ve ∧ OSame (ownA p pf pn pl fz) H (upd H pl (.lst (ns.map V.int))) :=
  a.wrote (l1 := [_, _, _]) rfl rfl (a.wrEn (by simp [ownA])) a.fr
theorem HA.setGone (a : HA C p dx pp pf pn pl fz H P h ve) (n : Int) : HA C p dx pp pf pn pl fz (upd H p (.ins C dx (hflds (.ref pp) (.ref pf) (.ref pn) (.int n) (.ref pl) ve))) P { h with gone := n } ve ∧ OSame (ownA p pf pn pl fz) H (upd H p (.ins C dx (hflds (.ref pp) (.ref pf) (.ref pn) (.int n) (.ref pl) ve))) :=
  a.wrote (l1 := []) rfl rfl (a.wrEn (by simp [ownA])) a.fr
theorem HA.setEnd (a : HA C p dx pp pf pn pl fz H P h ve) {e : Option En} {v : V} (r : Rep H (En.d e) v) : HA C p dx pp pf pn pl fz (upd H p (.ins C dx (hflds (.ref pp) (.ref pf) (.ref pn) (.int h.gone) (.ref pl) v))) P { h with fin := e } v ∧ OSame (ownA p pf pn pl fz) H (upd H p (.ins C dx (hflds (.ref pp) (.ref pf) (.ref pn) (.int h.gone) (.ref pl) v))) :=
  a.wrote (l1 := []) rfl rfl (r.mono (OSame.ts (OSame.wr (by simp [ownA])) a.notup)) a.fr
theorem PgAt.both {o1 o2 o3 : List Addr} {H : Hp} {P : List Df} {pp : Addr} (a : PgAt o1 H P pp) (b : PgAt o2 H P pp) (m : ∀ x ∈ o3, x ∈ o1 ∨ x ∈ o2) : PgAt o3 H P pp := by
  obtain ⟨vs, h1, n1, hl, k1⟩ := a
  obtain ⟨vs', h1', n2, _, k2⟩ := b
  rw [h1] at h1'
  cases h1'
  refine ⟨vs, h1, fun z => (m _ z).elim n1 n2, hl, fun i d v e1 e2 => ?_⟩
  obtain ⟨t, q, ys, rfl, g1, g2, g3, g4⟩ := k1 i d v e1 e2
  obtain ⟨t', q', ys', e, g1', g2', g3', g4'⟩ := k2 i d _ e1 e2
  cases e
  rw [g1] at g1'
  cases g1'
  exact ⟨t, q, ys, rfl, g1, g2, fun z => (m _ z).elim g3 g3', g4⟩
theorem own_app {z : FZ} : ownA p pf pn pl (fz ++ [z]) = ownA p pf pn pl fz ++ [z.1.1, z.1.2] := by simp [ownA]
/-- a new frame behind -/
theorem HA.push (a : HA C p dx pp pf pn pl fz H P h ve) {fr bx : Addr} {f : Fr} (h1 : H fr = some (.lst [.int f.1, .int f.2.1, .ref bx])) (h2 : H bx = some (.lst (f.2.2.map V.int))) (n1 : fr ∉ ownA p pf pn pl fz) (n2 : bx ∉ ownA p pf pn pl fz) (n3 : fr ≠ bx) (m1 : PgAt [fr, bx] H P pp) :
    HA C p dx pp pf pn pl (fz ++ [((fr, bx), f)]) (upd H pf (.lst ((fz.map fun z => V.ref z.1.1) ++ [.ref fr]))) P { h with frames := h.frames ++ [f] } ve ∧ OSame (ownA p pf pn pl fz) H (upd H pf (.lst ((fz.map fun z => V.ref z.1.1) ++ [.ref fr]))) := by
  have hpf : pf ∈ ownA p pf pn pl fz := by simp [ownA]
  have os : OSame (ownA p pf pn pl fz) H (upd H pf (.lst ((fz.map fun z => V.ref z.1.1) ++ [.ref fr]))) := OSame.wr hpf
  have hnd : ((hObjs C p dx pp pf pn pl fz h ve).map (·.1)).Nodup := by rw [own_objs]; exact a.nd
  have hw := AllAt.wr (l1 := [_]) (o' := .lst ((fz.map fun z => V.ref z.1.1) ++ [.ref fr])) a.all hnd
  refine ⟨⟨?_, ?_, a.wrEn hpf, ?_, by simp [a.fr]⟩, os⟩
  · have e : hObjs C p dx pp pf pn pl (fz ++ [((fr, bx), f)]) { h with frames := h.frames ++ [f] } ve = ([(p, HO.ins C dx (hflds (.ref pp) (.ref pf) (.ref pn) (.int h.gone) (.ref pl) ve)), (pf, HO.lst ((fz.map fun z => V.ref z.1.1) ++ [.ref fr])), (pn, HO.lst (h.news.map V.int)), (pl, HO.lst (h.left.map V.int))] ++ fz.flatMap frObj) ++ frObj ((fr, bx), f) := by
      simp [hObjs]
    rw [e]
    intro x hx
    rcases List.mem_append.mp hx with hx | hx
    · exact hw x hx
    · simp only [frObj, List.mem_cons, List.not_mem_nil, or_false] at hx
      rcases hx with rfl | rfl
      · exact os _ _ n1 h1
      · exact os _ _ n2 h2
  · rw [own_app]
    refine List.nodup_append.mpr ⟨a.nd, by simp [n3], fun x hx y hy e => ?_⟩
    simp only [List.mem_cons, List.not_mem_nil, or_false] at hy
    subst e
    rcases hy with rfl | rfl
    · exact n1 hx
    · exact n2 hx
  · have nt : NoTup [fr, bx] H := fun x hx xs e => by
      simp only [List.mem_cons, List.not_mem_nil, or_false] at hx
      rcases hx with rfl | rfl
      · rw [h1] at e; cases e
      · rw [h2] at e; cases e
    have q1 : PgAt (ownA p pf pn pl fz) _ P pp := a.pg.by os (os.ts a.notup) fun x hx => .inl hx
    have q2 : PgAt [fr, bx] (upd H pf (.lst ((fz.map fun z => V.ref z.1.1) ++ [.ref fr]))) P pp := by
      obtain ⟨vs, g1, g2, gl, gk⟩ := PgAt.both (o3 := [fr, bx] ++ ownA p pf pn pl fz) m1 a.pg (fun x hx => List.mem_append.mp hx)
      have w := PgAt.by (own' := [fr, bx] ++ ownA p pf pn pl fz) (H' := upd H pf (.lst ((fz.map fun z => V.ref z.1.1) ++ [.ref fr]))) ⟨vs, g1, g2, gl, gk⟩ (fun x o n e => os x o (fun z => n (List.mem_append_right _ z)) e) (os.ts a.notup) fun x hx => .inl hx
      exact PgAt.both w w fun x hx => .inl (List.mem_append_left _ hx)
    exact PgAt.both q1 q2 fun x hx => by rw [own_app] at hx; exact List.mem_append.mp hx
/-- the last frame is taken off -/
theorem HA.pop (a : HA C p dx pp pf pn pl (fz ++ [z]) H P h ve) : HA C p dx pp pf pn pl fz (upd H pf (.lst (fz.map fun z => V.ref z.1.1))) P { h with frames := fz.map (·.2) } ve ∧ OSame (ownA p pf pn pl (fz ++ [z])) H (upd H pf (.lst (fz.map fun z => V.ref z.1.1))) := by
  have hpf : pf ∈ ownA p pf pn pl (fz ++ [z]) := by simp [ownA]
  have os : OSame (ownA p pf pn pl (fz ++ [z])) H (upd H pf (.lst (fz.map fun z => V.ref z.1.1))) := OSame.wr hpf
  have hnd : ((hObjs C p dx pp pf pn pl (fz ++ [z]) h ve).map (·.1)).Nodup := by rw [own_objs]; exact a.nd
  have hw := AllAt.wr (l1 := [_]) (o' := .lst (fz.map fun z => V.ref z.1.1)) a.all hnd
  refine ⟨⟨fun x hx => hw x ?_, ?_, a.wrEn hpf, a.pg.by os (os.ts a.notup) (fun x hx => .inl (by rw [own_app]; exact List.mem_append_left _ hx)), rfl⟩, os⟩
  · have e : ([(p, HO.ins C dx (hflds (.ref pp) (.ref pf) (.ref pn) (.int h.gone) (.ref pl) ve)), (pf, HO.lst (fz.map fun z => V.ref z.1.1)), (pn, HO.lst (h.news.map V.int)), (pl, HO.lst (h.left.map V.int))] ++ (fz ++ [z]).flatMap frObj) = hObjs C p dx pp pf pn pl fz { h with frames := fz.map (·.2) } ve ++ frObj z := by
      simp [hObjs]
    show x ∈ ([(p, HO.ins C dx (hflds (.ref pp) (.ref pf) (.ref pn) (.int h.gone) (.ref pl) ve)), (pf, HO.lst (fz.map fun z => V.ref z.1.1)), (pn, HO.lst (h.news.map V.int)), (pl, HO.lst (h.left.map V.int))] ++ (fz ++ [z]).flatMap frObj)
    rw [e]
    exact List.mem_append_left _ hx
  · have := a.nd
    rw [own_app] at this
    exact (List.nodup_append.mp this).1
end
end L2

end
section
set_option Elab.async false
set_option linter.all false
set_option maxRecDepth 100000
set_option maxHeartbeats 4000000
namespace L2
open PySem PySem.Spec PyProof.Rows
/-! ### for over zip of two lists -/
section
variable {X : Cx} {pins : List (Addr × Obj)} {σ : St} {H : Hp} {s : Shared} {h' : Heap}
/-- some untracked records of ours have turned -/
theorem Inv.turnedL {t' : Nat} {fp : List Addr} (I : Inv X pins σ H s) (k : ∀ b o, b ∉ fp → s.heap.get? b = some o → h'.get? b = some o) (hf : ∀ b ∈ fp, FpOk X pins H b) : Inv X pins σ H { s with heap := h', toks := t' } := by
  have nit : ∀ b u, H b = some u → b ∉ fp := fun b u e z => by rw [(hf b z).1] at e; cases e
  refine I.step (g' := s.gens) (d' := s.drawn) (ch := fp) (fun b hb => ?_) (fun b o _ _ hc e _ => k b o hc e) (fun b o _ _ hc e _ => ⟨o.slots, k b o hc e⟩) (fun _ _ _ _ n => n)
    (fun b o hc e => ⟨o, k b o hc e⟩) (fun _ _ e => e) (fun _ _ _ e => e) (fun b ps e => ⟨#[], by rw [e]; simp⟩) (fun m hm => ?_) (fun b u e => ?_) I.bare
  · obtain ⟨f0, f1, f2, f3, f4, f5⟩ := hf b hb
    exact ⟨f3, f1, f4, f5⟩
  · obtain ⟨o, es, ep, ho, r⟩ := hm
    exact ⟨o, es, ep, k _ o (fun z => (hf _ z).2.1 rfl) ho, r⟩
  · refine (I.hok b u e).stay (fun c v hc q => k c v ?_ q) (fun _ q => q) fun _ _ q => q
    rcases hc with z | z
    · rw [z]; exact nit b u e
    · exact nit c _ z
theorem get_push {h : Heap} {o u : Obj} {b : Addr} (ho : o.isFreed = false) (e : (h.push o).get? b = some u) : h.get? b = some u ∨ (b = h.objs.size ∧ u = o) := by
  have hb := Heap.lt_size e
  rw [Heap.size_push] at hb
  by_cases hbe : b = h.objs.size
  · subst hbe
    rw [Heap.get?_push_size h ho] at e
    exact .inr ⟨rfl, (Option.some.inj e).symm⟩
  · have hlt : b < h.objs.size := Nat.lt_of_le_of_ne (Nat.le_of_lt_succ hb) hbe
    left
    rw [← e]
    unfold Heap.get? Heap.push
    simp [Array.getElem?_push_lt, hlt, Array.getElem?_eq_getElem hlt]
end
def Itz (K : PySem.W.Frag) (l1 l2 : Addr) : It := ⟨fun i H => ∃ xs ys x y, SqL K H l1 xs ∧ SqL K H l2 ys ∧ xs[i]? = some x ∧ ys[i]? = some y,
  fun i H v H' => ∃ T x y, (∀ xs, SqL K H l1 xs → xs[i]? = some x) ∧ (∀ ys, SqL K H l2 ys → ys[i]? = some y) ∧ H T = none ∧ v = .ref T ∧ H' = upd H T (.tup [x, y]),
  fun i H => ∃ xs ys, SqL K H l1 xs ∧ SqL K H l2 ys ∧ (xs.length ≤ i ∨ ys.length ≤ i)⟩
theorem turn_zip {P : Program} {w : World} {K : PySem.W.Frag} {elts : List Expr} {x1} {pos : Pos} {z TI TO i1 i2 l1 l2 : Addr} (D : ZipApart z TI TO i1 i2 l1 l2) :
    Turn P w K (.Tuple elts x1 pos) (Itz K l1 l2) [z, TI, TO, i1, i2] z (fun i h => IsZip h z TI TO .none ∧ IsPair h TI (.ref i1) (.ref i2) ∧ (∃ a b, IsPair h TO a b) ∧ h.IsListIter i1 l1 i ∧ h.IsListIter i2 l2 i) where
  mem := by simp
  obj := fun i h st b hb => by
    obtain ⟨a1, a2, ⟨a, b', a3⟩, ⟨o1, e1, c1, d1⟩, ⟨o2, e2, c2, d2⟩⟩ := st
    simp only [List.mem_cons, List.not_mem_nil, or_false] at hb
    rcases hb with rfl | rfl | rfl | rfl | rfl
    · exact ⟨_, a1, fun v z => by cases z⟩
    · exact ⟨_, a2, fun v z => by cases z⟩
    · exact ⟨_, a3, fun v z => by cases z⟩
    · exact ⟨_, e1, fun v z => by rw [d1] at z; cases z⟩
    · exact ⟨_, e2, fun v z => by rw [d2] at z; cases z⟩
  keep := fun i h h' st k => by
    obtain ⟨a1, a2, ⟨a, b', a3⟩, a4, a5⟩ := st
    exact ⟨k z (by simp) _ a1, k TI (by simp) _ a2, ⟨a, b', k TO (by simp) _ a3⟩, a4.at fun o e => k i1 (by simp) o e, a5.at fun o e => k i2 (by simp) o e⟩
  item := by
    intro X hP hw hK hc i pins s σ H E I hf st hg
    subst hP hw hK
    obtain ⟨xs, ys, x, y, hq1, hq2, hx, hy⟩ := hg
    obtain ⟨its1, rv1, p1, hz1⟩ := I.list hq1
    obtain ⟨its2, rv2, p2, hz2⟩ := I.list hq2
    obtain ⟨u1, hu1, ru1⟩ := rv1.get hx
    obtain ⟨u2, hu2, ru2⟩ := rv2.get hy
    obtain ⟨a1, a2, ⟨a, b', a3⟩, a4, a5⟩ := st
    refine wpAny_pyNext_zip_item D a1 a2 a3 a4 a5 p1.isList p2.isList (x := u1) (y := u2) (by simpa using hu1) (by simpa using hu2) fun h' b1 b2 b3 b4 b5 b6 b7 => ?_
    refine ⟨_, rfl, wpAny_letOwnedTupleGo_zip (s := { s with heap := h' }) b1 fun h2 c1 c2 => ?_⟩
    have hT : H s.heap.objs.size = none := I.hok.fresh (Nat.le_refl _)
    have I1 : Inv X pins σ (upd H s.heap.objs.size (.tup [x, y])) { s with heap := s.heap.push { cls := .type "tuple", data := .seq #[u1, u2] }, toks := s.toks } :=
      I.laid (t' := s.toks) (fun b u e => Heap.get?_push_of_some _ e) (Nat.le_refl _) ⟨by show 2 ≤ sizeLine; decide, [u1, u2], .cons ru1 (.cons ru2 .nil), ⟨_, Heap.get?_push_size _ rfl, rfl, _, rfl⟩⟩
    have lt : ∀ {c o}, s.heap.get? c = some o → c ≠ s.heap.objs.size := fun e => Nat.ne_of_lt (Heap.lt_size e)
    have ne : ∀ b ∈ [z, TI, TO, i1, i2], b ≠ s.heap.objs.size := fun b hb => by
      obtain ⟨o1, e1, _⟩ := a4
      obtain ⟨o2, e2, _⟩ := a5
      simp only [List.mem_cons, List.not_mem_nil, or_false] at hb
      rcases hb with rfl | rfl | rfl | rfl | rfl
      · exact lt a1
      · exact lt a2
      · exact lt a3
      · exact lt e1
      · exact lt e2
    have f1 : ∀ b ∈ [z, TI, TO, i1, i2], upd H s.heap.objs.size (.tup [x, y]) b = none := fun b hb => by rw [upd_ne (ne b hb)]; exact (hf b hb).1
    have hTz : s.heap.objs.size ≠ z := (ne z (by simp)).symm
    have I2 := I1.turnedL (h' := h2) (t' := s.toks) (fp := [z, TI, TO, i1, i2]) (fun b o hb e => by
      simp only [List.mem_cons, List.not_mem_nil, or_false, not_or] at hb
      obtain ⟨n1, n2, n3, n4, n5⟩ := hb
      rcases get_push rfl e with e | ⟨rfl, rfl⟩
      · exact c2.extBut _ _ n1 (b7 b o n1 n3 n4 n5 e)
      · exact c2.extBut _ _ hTz b5) fun b hb => ⟨f1 b hb, (hf b hb).2⟩
    refine ⟨.ref s.heap.objs.size, _, I2, rfl, ⟨_, x, y, fun xs' h => by rw [I.list_inj h hq1]; exact hx, fun ys' h => by rw [I.list_inj h hq2]; exact hy, hT, rfl, rfl⟩, ?_, f1⟩
    exact ⟨c1, c2.extBut _ _ D.TIz (b7 _ _ D.TIz D.TITO D.TIi1 D.TIi2 a2), ⟨_, _, c2.extBut _ _ D.TOz b2⟩, b3.extBut c2.extBut D.i1z, b4.extBut c2.extBut D.i2z⟩
  done := by
    intro X hP hw hK hc i pins s σ H E I hf st hg
    subst hP hw hK
    obtain ⟨xs, ys, hq1, hq2, hend⟩ := hg
    obtain ⟨its1, rv1, p1, hz1⟩ := I.list hq1
    obtain ⟨its2, rv2, p2, hz2⟩ := I.list hq2
    have hl1 := rv1.length
    have hl2 := rv2.length
    obtain ⟨a1, a2, ⟨a, b', a3⟩, a4, a5⟩ := st
    refine wpAny_pyNext_zip_end (I.ok.hd hc) D a1 a2 a3 a4 a5 p1.isList p2.isList (by simp; omega) fun h' hk => ⟨rfl, I.turnedL (t' := s.toks) (fp := [z, TI, TO, i1, i2]) (fun b o hb e => ?_) hf⟩
    simp only [List.mem_cons, List.not_mem_nil, or_false, not_or] at hb
    exact hk b o hb.1 hb.2.2.1 hb.2.2.2.1 hb.2.2.2.2 e
  self := fun _ _ _ _ _ st h => wpAny_pyIter_zip st.1 h
theorem zip_apart (n l1 l2 : Nat) (h1 : l1 < n) (h2 : l2 < n) : ZipApart (n + 4) (n + 2) (n + 3) n (n + 1) l1 l2 := by
  constructor <;> exact fun z => by
    have z' := congrArg (fun x : Nat => x) z
    omega
section
variable {X : Cx} {tg : Expr}
def iZip (K : PySem.W.Frag) (ta : TA) : TI := fun σ H R => ta σ H fun vs H1 => ∃ l1 l2, vs = [.ref l1, .ref l2] ∧ (∃ xs, SqL K H1 l1 xs) ∧ (∃ ys, SqL K H1 l2 ys) ∧ R (Itz K l1 l2) H1
theorem pi_zip {a b : Expr} {ta : TA} {p pos pos' : Pos} {elts : List Expr} {x1} (hg : Gl X "zip") (hm : X.mg "zip" = none) (ha : PA X [a, b] ta) (hs : starEach [a, b] X.env = [(false, eval a X.env), (false, eval b X.env)] := by rfl) (hs2 : starEach [b] X.env = [(false, eval b X.env)] := by rfl) :
    PI X (.Tuple elts x1 pos') (.Call (.Name "zip" p) [a, b] [] pos) (iZip X.K ta) := by
  intro pins s σ H R I h
  refine Call_ (ld_blt I hg hm bt_zip (PyProof.Rows.callWith_type1 (thn (ha pos pins s σ H _ I h) fun us s1 ⟨vs, H1, I1, r1, q1⟩ => ?_) (by rw [hs, hs2]) (by rw [hs2]; rfl)))
  obtain ⟨l1, l2, e, ⟨xs, q1⟩, ⟨ys, q2⟩, q⟩ := q1
  subst e
  cases r1 with
  | cons r rr =>
    cases rr with
    | cons r' rr =>
      cases rr
      cases r
      cases r'
      obtain ⟨its1, rv1, p1, hz1⟩ := I1.list q1
      obtain ⟨its2, rv2, p2, hz2⟩ := I1.list q2
      have hl1 : l1 < s1.heap.objs.size := by obtain ⟨o, n, e, _⟩ := p1; exact Heap.lt_size e
      have hl2 : l2 < s1.heap.objs.size := by obtain ⟨o, n, e, _⟩ := p2; exact Heap.lt_size e
      refine call_zip_2 p1.isList p2.isList fun h' a1 a2 a3 a4 a5 a6 a7 => ?_
      have I2 : Inv X pins σ H1 { s1 with heap := h' } := I1.kept (t' := s1.toks) a7
      refine wpAny_pyIter_zip (s := { s1 with heap := h' }) a1 ?_
      refine ⟨s1.heap.objs.size + 4, [s1.heap.objs.size + 4, s1.heap.objs.size + 2, s1.heap.objs.size + 3, s1.heap.objs.size, s1.heap.objs.size + 1], _, _, H1, rfl, I2, turn_zip (l1 := l1) (l2 := l2) ?_, ⟨a1, a2, ⟨_, _, a3⟩, a4, a5⟩, fun b hb => ?_, q⟩
      · exact zip_apart _ l1 l2 hl1 hl2
      · have hb' : s1.heap.objs.size ≤ b := by
          simp only [List.mem_cons, List.not_mem_nil, or_false] at hb
          rcases hb with rfl | rfl | rfl | rfl | rfl
          · exact Nat.le_add_right _ _
          · exact Nat.le_add_right _ _
          · exact Nat.le_add_right _ _
          · exact Nat.le_refl _
          · exact Nat.le_add_right _ _
        exact I1.fpOk hb' (I1.hok.fresh hb')
end
theorem k_pi_zip {X : Cx} {K : PySem.W.Frag} {a b : Expr} {ta : TA} {p pos pos' : Pos} {elts : List Expr} {x1} (h : X.K = K) (hg : Gl X "zip") (hm : X.mg "zip" = none) (ha : PA X [a, b] ta) (hs : starEach [a, b] X.env = [(false, eval a X.env), (false, eval b X.env)] := by rfl) (hs2 : starEach [b] X.env = [(false, eval b X.env)] := by rfl) :
    PI X (.Tuple elts x1 pos') (.Call (.Name "zip" p) [a, b] [] pos) (iZip K ta) := h ▸ pi_zip hg hm ha hs hs2
def izK (K : PySem.W.Frag) (R : It → Hp → Prop) (vs : List V) (H1 : Hp) : Prop := ∃ l1 l2, vs = [.ref l1, .ref l2] ∧ (∃ xs, SqL K H1 l1 xs) ∧ (∃ ys, SqL K H1 l2 ys) ∧ R (Itz K l1 l2) H1
theorem rd_izip {K : PySem.W.Frag} {σ : St} {H : Hp} {R : It → Hp → Prop} {ta : TA} (h : ta σ H (izK K R)) : iZip K ta σ H R := h
theorem izK_of {K : PySem.W.Frag} {H : Hp} {R : It → Hp → Prop} {l1 l2 : Addr} {xs ys : List V} (h1 : SqL K H l1 xs) (h2 : SqL K H l2 ys) (q : R (Itz K l1 l2) H) : izK K R [.ref l1, .ref l2] H := ⟨l1, l2, rfl, ⟨xs, h1⟩, ⟨ys, h2⟩, q⟩
theorem for_zip {K : PySem.W.Frag} {l1 l2 : Addr} {xs ys : List V} {g : TG} {tb : TS} {D : Ends} {σ : St} {H : Hp} (hxy : xs.length = ys.length) (Pv : Nat → St → Hp → Prop) (h0 : Pv 0 σ H) (hl : ∀ i σ H, i ≤ xs.length → Pv i σ H → SqL K H l1 xs ∧ SqL K H l2 ys)
    (hs : ∀ i x y T σ H, xs[i]? = some x → ys[i]? = some y → H T = none → Pv i σ H → g (.ref T) σ (upd H T (.tup [x, y])) fun σ2 H2 => tb { D with nx := Pv (i + 1), ct := Pv (i + 1), bk := D.nx } σ2 H2) (hd : ∀ σ H, Pv xs.length σ H → D.nx σ H) :
    ∃ W : Nat → Nat → St → Hp → Prop, (∃ m, W 0 m σ H) ∧ ∀ i m σ H, W i m σ H →
      ((Itz K l1 l2).stop i H ∧ D.nx σ H) ∨ ((Itz K l1 l2).go i H ∧ ∃ N : St → Hp → Prop, (∀ σ' H', N σ' H' → ∃ m', m' < m ∧ W (i + 1) m' σ' H') ∧ ∀ x H', (Itz K l1 l2).yld i H x H' → g x σ H' fun σ2 H2 => tb { D with nx := N, ct := N, bk := D.nx } σ2 H2) := by
  refine ⟨fun i m σ H => m = xs.length - i ∧ i ≤ xs.length ∧ Pv i σ H, ⟨xs.length, by simp, Nat.zero_le _, h0⟩, ?_⟩
  rintro i m σ H ⟨rfl, hi, p⟩
  obtain ⟨q1, q2⟩ := hl i σ H hi p
  by_cases hlt : i < xs.length
  · refine .inr ⟨⟨xs, ys, xs[i], ys[i], q1, q2, by simp [hlt], by simp [hxy ▸ hlt]⟩, Pv (i + 1), fun σ' H' p' => ⟨xs.length - (i + 1), by omega, rfl, hlt, p'⟩, fun x H' y => ?_⟩
    obtain ⟨T, x, y, e1, e2, e3, rfl, rfl⟩ := y
    exact hs i x y T σ _ (e1 xs q1) (e2 ys q2) e3 p
  · have e : i = xs.length := by omega
    subst e
    exact .inl ⟨⟨xs, ys, q1, q2, .inl (Nat.le_refl _)⟩, hd σ H p⟩
end L2

end
section
set_option Elab.async false
set_option linter.all false
set_option maxRecDepth 100000
set_option maxHeartbeats 4000000
namespace L2
open PySem PySem.Spec PyProof.Rows
/-! ### == and != of two programs that are alike -/
section
variable {X : Cx} {pins : List (Addr × Obj)} {σ : St} {H : Hp} {s : Shared}
end
section
variable {X : Cx}
end
/-! ### two programs -/
end L2

end
section
set_option Elab.async false
set_option linter.all false
set_option maxRecDepth 100000
set_option maxHeartbeats 4000000
namespace L2
open PySem
/-! ### a hand that goes stays one -/
section
variable {P : List Df} {h : HS}
theorem FrOk.later {g g' : Int} {fr : Fr} (a : FrOk P g fr) (h : g ≤ g') : FrOk P g' fr :=
  ⟨a.ex, fun x hx => Nat.le_trans (a.small x hx) (Nat.mul_le_mul_left _ (Nat.pow_le_pow_right (by decide) (by omega)))⟩
theorem bnd_succ {g : Int} (g0 : 0 ≤ g) : 10 ^ 60 * 100 ^ (g + 1).toNat = 100 * (10 ^ 60 * 100 ^ g.toNat) := by
  rw [show (g + 1).toNat = g.toNat + 1 by omega, Nat.pow_succ]
  omega
theorem bnd_one {g : Int} : 10 ^ 60 ≤ 10 ^ 60 * 100 ^ g.toNat := Nat.le_mul_of_pos_right _ (Nat.pow_pos (by decide))
theorem box_small {bx : List Int} {B : Nat} (h : ∀ x ∈ bx, x.natAbs ≤ B) (p : Int) : (boxAt bx p).natAbs ≤ B := by
  unfold boxAt
  rw [List.getD_eq_getElem?_getD]
  cases e : bx[p.toNat]? with
  | none => simp
  | some v => exact h v (List.mem_of_getElem? e)
theorem set_small {bx : List Int} {B : Nat} {p v : Int} (h : ∀ x ∈ bx, x.natAbs ≤ B) (hv : v.natAbs ≤ B) : ∀ x ∈ setAt bx p v, x.natAbs ≤ B := fun x hx => by
  rcases List.mem_or_eq_of_mem_set hx with q | q
  · exact h x q
  · rw [q]; exact hv
theorem set_len {bx : List Int} {p v : Int} : (setAt bx p v).length = bx.length := by unfold setAt; simp
theorem goEq {fs : List Fr} {fr : Fr} {r : Rw} (e0 : h.fin = none) (e1 : h.frames = fs ++ [fr]) (e2 : rowAt P fr.1 fr.2.1 = some r) :
    h.go P = match endAt h fr r with
      | some e => { h with fin := some e }
      | none => { h with frames := (eff P fs fr h.left h.news r).1, left := (eff P fs fr h.left h.news r).2.1, news := (eff P fs fr h.left h.news r).2.2, gone := h.gone + 1 } := by
  unfold HS.go
  rw [e0, e1]
  simp only [List.getLast?_append, List.getLast?_singleton, Option.some_or, e2, List.dropLast_concat]
  all_goals (cases endAt h fr r <;> rfl)
/-- a row that goes on goes to a row -/
theorem next_in {d : Df} (D : DfOk P d) {at' : Int} {r : Rw} (a0 : 0 ≤ at') (er : d.rows[at'.toNat]? = some r) (nl : ¬ r.last) : In0 (at' + 1) d.rows.length := by
  have hlt := (List.getElem?_eq_some_iff.mp er).1
  refine ⟨by omega, ?_⟩
  obtain ⟨r', e', l'⟩ := D.last
  by_cases h : at'.toNat = d.rows.length - 1
  · rw [h] at er
    rw [er] at e'
    cases e'
    exact absurd l' nl
  · omega
/-- what holds of a row of its own frame -/
structure OwnR (d : Df) (bx left news : List Int) (B : Nat) (n : Int) (t : List Int × List Int × List Int) : Prop where
  nx : In0 n d.rows.length
  ln : t.1.length = bx.length
  sm : ∀ x ∈ t.1, x.natAbs ≤ 100 * B
  lf : ∀ x ∈ t.2.1, x ∈ left
  sz : t.2.1.length + t.2.2.length ≤ left.length + news.length + 1
theorem own_row {d : Df} (D : DfOk P d) {at' : Int} {r : Rw} {bx left news : List Int} {B : Nat} (a0 : 0 ≤ at') (er : d.rows[at'.toNat]? = some r) (hB : 10 ^ 60 ≤ B) (hb : ∀ x ∈ bx, x.natAbs ≤ B) (hl : ∀ x ∈ left, x.natAbs ≤ 10 ^ 60)
    (nb : ∀ p, r ≠ .back p) (nc : ∀ p f qs, r ≠ .call p f qs) : OwnR d bx left news B (r.next bx at') (r.own3 bx left news) := by
  have ok := D.rows r (List.mem_of_getElem? er)
  have hb2 : ∀ x ∈ bx, x.natAbs ≤ 100 * B := fun x hx => by have := hb x hx; omega
  have same : ∀ n, In0 n d.rows.length → OwnR d bx left news B n (bx, left, news) := fun n hn => ⟨hn, rfl, hb2, fun _ h => h, by simp⟩
  have set1 : ∀ n p v, In0 n d.rows.length → v.natAbs ≤ 100 * B → OwnR d bx left news B n (setAt bx p v, left, news) := fun n p v hn hv => ⟨hn, set_len, set_small hb2 hv, fun _ h => h, by simp⟩
  cases r with
  | put p n => exact set1 _ p n (next_in D a0 er id) (by have := ok.2; omega)
  | copy p q => exact set1 _ p _ (next_in D a0 er id) (by have := box_small hb q; omega)
  | plus p q r => exact set1 _ p _ (next_in D a0 er id) (by have := box_small hb q; have := box_small hb r; omega)
  | less p q r => exact set1 _ p _ (next_in D a0 er id) (by have := box_small hb q; have := box_small hb r; omega)
  | times p q n =>
    refine set1 _ p _ (next_in D a0 er id) ?_
    have h1 := box_small hb q
    have h2 := ok.2.2
    rw [Int.natAbs_mul]
    calc _ ≤ B * 99 := Nat.mul_le_mul h1 h2
      _ ≤ 100 * B := by omega
  | take p =>
    refine ⟨next_in D a0 er id, set_len, set_small hb2 ?_, fun x hx => List.mem_of_mem_tail hx, ?_⟩
    · cases left with
      | nil => simp
      | cons x l => have := hl x List.mem_cons_self; simp; omega
    · simp only [Rw.own3, List.length_tail]; omega
  | tell p => exact ⟨next_in D a0 er id, rfl, hb2, fun _ h => h, by simp [Rw.own3]; omega⟩
  | jump t => exact same _ ok
  | zero p t =>
    refine same _ ?_
    simp only [Rw.next]
    split
    · exact ok.2
    · exact next_in D a0 er id
  | below p t =>
    refine same _ ?_
    simp only [Rw.next]
    split
    · exact ok.2
    · exact next_in D a0 er id
  | call p f qs => exact absurd rfl (nc p f qs)
  | back p => exact absurd rfl (nb p)
theorem fr_new (PO : PgOk P) {g gn : Int} {d : Df} {ns : List Int} (g0 : 0 ≤ g) (ed : P[g.toNat]? = some d) (hn : (ns.length : Int) ≤ d.boxes) (hs : ∀ x ∈ ns, x.natAbs ≤ 10 ^ 60 * 100 ^ gn.toNat) : FrOk P gn (newFr P g ns) := by
  have D := PO.2.2 d (List.mem_of_getElem? ed)
  have hb : boxesOf P g = d.boxes := by unfold boxesOf; rw [ed]; rfl
  obtain ⟨r', e', _⟩ := D.last
  have hlt := (List.getElem?_eq_some_iff.mp e').1
  have b := D.b
  refine ⟨⟨d, g0, ed, ⟨Int.le_refl _, by show (0 : Int) < _; omega⟩, ?_⟩, fun x hx => ?_⟩
  · simp only [newFr, hb, List.length_append, List.length_replicate]
    omega
  · rcases List.mem_append.mp hx with h | h
    · exact hs x h
    · rw [List.eq_of_mem_replicate h]; simp
theorem HsOk.go (PO : PgOk P) (a : HsOk P h) : HsOk P (h.go P) := by
  cases hf : h.fin with
  | some e =>
    have e2 : h.go P = h := by unfold HS.go; rw [hf]
    rw [e2]; exact a
  | none =>
    obtain ⟨fs, fr, hfr⟩ : ∃ fs fr, h.frames = fs ++ [fr] := by
      rcases List.eq_nil_or_concat h.frames with e | ⟨l, x, e⟩
      · exact absurd e a.ne
      · exact ⟨l, x, by simpa using e⟩
    have FO := a.fr fr (by rw [hfr]; simp)
    obtain ⟨d, f0, ed, hat, hbx⟩ := FO.ex
    have D := PO.2.2 d (List.mem_of_getElem? ed)
    have hlt : fr.2.1.toNat < d.rows.length := by have := hat.1; have := hat.2; omega
    have er : d.rows[fr.2.1.toNat]? = some d.rows[fr.2.1.toNat] := List.getElem?_eq_getElem hlt
    generalize d.rows[fr.2.1.toNat] = r at er
    have hra : rowAt P fr.1 fr.2.1 = some r := by unfold rowAt; rw [ed]; exact er
    have ok := D.rows r (List.mem_of_getElem? er)
    rw [goEq hf hfr hra]
    cases he : endAt h fr r with
    | some e => exact show HsOk P { h with fin := some e } from ⟨a.ne, a.few, a.fr, a.wait, a.left, a.gone, a.sz⟩
    | none =>
      have few := a.few
      rw [hfr] at few
      have g0 := a.gone
      have gs : (h.gone + 1).toNat = h.gone.toNat + 1 := by omega
      have later : ∀ x ∈ fs, FrOk P (h.gone + 1) x := fun x hx => (a.fr x (by rw [hfr]; simp [hx])).later (by omega)
      have bs := bnd_succ g0
      have wt : ∀ (i : Nat) (x : Fr), fs[i]? = some x → ∃ p f qs, rowAt P x.1 x.2.1 = some (.call p f qs) := fun i x e => a.wait i x (by rw [hfr, List.getElem?_append_left (List.getElem?_eq_some_iff.mp e).1]; exact e) (by rw [hfr]; have := (List.getElem?_eq_some_iff.mp e).1; simp; omega)
      have wt2 : ∀ (y : Fr) i x, (fs ++ [y])[i]? = some x → i + 1 < (fs ++ [y]).length → ∃ p f qs, rowAt P x.1 x.2.1 = some (.call p f qs) := fun y i x e hi => by
        simp at hi
        rw [List.getElem?_append_left hi] at e
        exact wt i x e
      by_cases hc : ∃ p f qs, r = .call p f qs
      · obtain ⟨p, g, qs, rfl⟩ := hc
        obtain ⟨_, ⟨d2, q0, ed2, hq⟩, _⟩ := ok
        have D2 := PO.2.2 d2 (List.mem_of_getElem? ed2)
        have hn : ¬ 20 ≤ h.frames.length := fun z => by simp [endAt, z] at he
        rw [hfr] at hn
        refine ⟨by simp [eff], by simp [eff] at hn ⊢; omega, fun x hx => ?_, fun i x e hi => ?_, a.left, by show 0 ≤ h.gone + 1; omega, by have := a.sz; show _ ≤ 100000 + (h.gone + 1).toNat; simp only [eff]; omega⟩
        · simp only [eff, List.mem_append, List.mem_cons, List.not_mem_nil, or_false] at hx
          rcases hx with hx | rfl | rfl
          · exact later x hx
          · exact FO.later (by show h.gone ≤ h.gone + 1; omega)
          · refine fr_new PO q0 ed2 (by have := D2.t; simp; omega) fun x hx => ?_
            obtain ⟨q, _, rfl⟩ := List.mem_map.mp hx
            have := box_small FO.small q
            show _ ≤ 10 ^ 60 * 100 ^ (h.gone + 1).toNat
            rw [bs]
            omega
        · simp only [eff] at e hi
          have e' : ((fs ++ [fr]) ++ [newFr P g (qs.map (boxAt fr.2.2))])[i]? = some x := by simpa using e
          rw [List.getElem?_append_left (by simp at hi ⊢; omega)] at e'
          rcases Nat.lt_or_ge i fs.length with hlt | hge
          · rw [List.getElem?_append_left hlt] at e'
            exact wt i x e'
          · have : i = fs.length := by simp at hi; omega
            subst this
            rw [List.getElem?_concat_length] at e'
            cases e'
            exact ⟨p, g, qs, hra⟩
      · by_cases hb : ∃ p, r = .back p
        · obtain ⟨p, rfl⟩ := hb
          have hn : h.frames.length ≠ 1 := fun z => by simp [endAt, z] at he
          rw [hfr] at hn
          obtain ⟨fs', w, hw⟩ : ∃ fs' w, fs = fs' ++ [w] := by
            rcases List.eq_nil_or_concat fs with e | ⟨l, x, e⟩
            · subst e; simp at hn
            · exact ⟨l, x, by simpa using e⟩
          subst hw
          obtain ⟨p2, g, qs, hrw⟩ := wt fs'.length w (by simp)
          have FW := a.fr w (by rw [hfr]; simp)
          obtain ⟨dw, w0, ew, wat, wbx⟩ := FW.ex
          have erw : dw.rows[w.2.1.toNat]? = some (.call p2 g qs) := by
            unfold rowAt at hrw; rw [ew] at hrw; exact hrw
          have DW := PO.2.2 dw (List.mem_of_getElem? ew)
          have heff : eff P (fs' ++ [w]) fr h.left h.news (.back p) = (fs' ++ [(w.1, w.2.1 + 1, setAt w.2.2 p2 (boxAt fr.2.2 p))], h.left, h.news) := by
            simp only [eff, List.getLast?_append, List.getLast?_singleton, Option.some_or, hrw, List.dropLast_concat]
          rw [heff]
          dsimp only
          refine ⟨by simp, by simp at few ⊢; omega, fun x hx => ?_, fun i x e hi => ?_, a.left, by show 0 ≤ h.gone + 1; omega, by have := a.sz; show h.left.length + h.news.length ≤ 100000 + (h.gone + 1).toNat; omega⟩
          · rcases List.mem_append.mp hx with hx | hx
            · exact later x (by simp [hx])
            · rw [List.mem_singleton.mp hx]
              have h1 := FO.later (g' := h.gone + 1) (by omega)
              have h2 := FW.later (g' := h.gone + 1) (by omega)
              exact ⟨⟨dw, w0, ew, next_in DW wat.1 erw id, by show ((setAt w.2.2 p2 _).length : Int) = _; rw [set_len]; exact wbx⟩, set_small h2.small (box_small h1.small p)⟩
          · simp at hi
            rw [List.getElem?_append_left hi] at e
            exact wt i x (by rw [List.getElem?_append_left hi]; exact e)
        · have hO := own_row (left := h.left) (news := h.news) D hat.1 er bnd_one FO.small a.left (fun p z => hb ⟨p, z⟩) fun p f qs z => hc ⟨p, f, qs, z⟩
          have heff : eff P fs fr h.left h.news r = (fs ++ [(fr.1, r.next fr.2.2 fr.2.1, (r.own3 fr.2.2 h.left h.news).1)], (r.own3 fr.2.2 h.left h.news).2.1, (r.own3 fr.2.2 h.left h.news).2.2) := by
            cases r <;> first | rfl | exact absurd ⟨_, rfl⟩ hb | exact absurd ⟨_, _, _, rfl⟩ hc
          rw [heff]
          dsimp only
          refine ⟨by simp, by simpa using few, fun x hx => ?_, fun i x e hi => wt2 _ i x e hi, fun x hx => a.left x (hO.lf x hx), by show 0 ≤ h.gone + 1; omega, ?_⟩
          · rcases List.mem_append.mp hx with hx | hx
            · exact later x hx
            · rw [List.mem_singleton.mp hx]
              exact ⟨⟨d, f0, ed, hO.nx, by show (((r.own3 fr.2.2 h.left h.news).1).length : Int) = _; rw [hO.ln]; exact hbx⟩, fun y hy => by
                show _ ≤ 10 ^ 60 * 100 ^ (h.gone + 1).toNat
                rw [bs]; exact hO.sm y hy⟩
          · have h1 := hO.sz
            have h2 := a.sz
            show _ ≤ 100000 + (h.gone + 1).toNat
            dsimp only
            omega
end
end L2

end
section
set_option Elab.async false
set_option linter.all false
set_option maxRecDepth 100000
set_option maxHeartbeats 4000000
namespace L2
open PySem PySem.Spec PyProof.Rows
section
variable {X : Cx} {pos : Pos}
end
end L2

end
section
set_option Elab.async false
set_option linter.all false
set_option maxRecDepth 100000
set_option maxHeartbeats 4000000
namespace L2
open PySem PySem.Spec PyProof.Rows
section
variable {X : Cx} {pos : Pos} {es : List Expr} {te : TE} {t : TA}
theorem pa_consL {l : List Expr} (ha : PE X (.List l pos) te) (hr : PA X es t) : PA X (.List l pos :: es) (tCons te t) := pa_cons ha hr rfl
theorem pa_consT {l : List Expr} {k : Nat} (ha : PE X (.Tuple l k pos) te) (hr : PA X es t) : PA X (.Tuple l k pos :: es) (tCons te t) := pa_cons ha hr rfl
theorem pa_consB {a b : Expr} {op : Operator} (ha : PE X (.BinOp a op b pos) te) (hr : PA X es t) : PA X (.BinOp a op b pos :: es) (tCons te t) := pa_cons ha hr rfl
theorem pa_consC {f : Expr} {as : List Expr} {ks} (ha : PE X (.Call f as ks pos) te) (hr : PA X es t) : PA X (.Call f as ks pos :: es) (tCons te t) := pa_cons ha hr rfl
theorem pa_consM {e : Expr} {gs} {sc} (ha : PE X (.ListComp e gs sc pos) te) (hr : PA X es t) : PA X (.ListComp e gs sc pos :: es) (tCons te t) := pa_cons ha hr rfl
theorem pa_consS {a b : Expr} (ha : PE X (.Subscript a b pos) te) (hr : PA X es t) : PA X (.Subscript a b pos :: es) (tCons te t) := pa_cons ha hr rfl
theorem pa_consN {x : Str} (ha : PE X (.Name x pos) te) (hr : PA X es t) : PA X (.Name x pos :: es) (tCons te t) := pa_cons ha hr rfl
theorem pa_consK {c : Const} {k : Nat} (ha : PE X (.Constant c k pos) te) (hr : PA X es t) : PA X (.Constant c k pos :: es) (tCons te t) := pa_cons ha hr rfl
theorem pa_consA {a : Expr} {x : Str} (ha : PE X (.Attribute a x pos) te) (hr : PA X es t) : PA X (.Attribute a x pos :: es) (tCons te t) := pa_cons ha hr rfl
theorem ps_setL {l : List Expr} {p : Pos} {i : Nat} {x : Str} {pos' : Pos} (hN : X.N.Nodup) (hi : X.N[i]? = some x) (hx : Loc X.env.scope x) (he : PE X (.List l p) te) (hf : X.fn x = true ∨ X.env.scope.names.lookup x = some .local := by first | exact .inl rfl | exact .inr rfl | assumption) : PS X (.Assign [.Name x pos'] (.List l p) pos) (tAsg te (gName i)) := ps_set hN hi hx he rfl hf
theorem ps_setT {l : List Expr} {k : Nat} {p : Pos} {i : Nat} {x : Str} {pos' : Pos} (hN : X.N.Nodup) (hi : X.N[i]? = some x) (hx : Loc X.env.scope x) (he : PE X (.Tuple l k p) te) (hf : X.fn x = true ∨ X.env.scope.names.lookup x = some .local := by first | exact .inl rfl | exact .inr rfl | assumption) : PS X (.Assign [.Name x pos'] (.Tuple l k p) pos) (tAsg te (gName i)) := ps_set hN hi hx he rfl hf
theorem ps_setB {a b : Expr} {op : Operator} {p : Pos} {i : Nat} {x : Str} {pos' : Pos} (hN : X.N.Nodup) (hi : X.N[i]? = some x) (hx : Loc X.env.scope x) (he : PE X (.BinOp a op b p) te) (hf : X.fn x = true ∨ X.env.scope.names.lookup x = some .local := by first | exact .inl rfl | exact .inr rfl | assumption) : PS X (.Assign [.Name x pos'] (.BinOp a op b p) pos) (tAsg te (gName i)) := ps_set hN hi hx he rfl hf
theorem ps_setC {f : Expr} {as : List Expr} {ks} {p : Pos} {i : Nat} {x : Str} {pos' : Pos} (hN : X.N.Nodup) (hi : X.N[i]? = some x) (hx : Loc X.env.scope x) (he : PE X (.Call f as ks p) te) (hf : X.fn x = true ∨ X.env.scope.names.lookup x = some .local := by first | exact .inl rfl | exact .inr rfl | assumption) : PS X (.Assign [.Name x pos'] (.Call f as ks p) pos) (tAsg te (gName i)) := ps_set hN hi hx he rfl hf
theorem ps_setS {a b : Expr} {p : Pos} {i : Nat} {x : Str} {pos' : Pos} (hN : X.N.Nodup) (hi : X.N[i]? = some x) (hx : Loc X.env.scope x) (he : PE X (.Subscript a b p) te) (hf : X.fn x = true ∨ X.env.scope.names.lookup x = some .local := by first | exact .inl rfl | exact .inr rfl | assumption) : PS X (.Assign [.Name x pos'] (.Subscript a b p) pos) (tAsg te (gName i)) := ps_set hN hi hx he rfl hf
end
end L2

end
section
set_option Elab.async false
set_option linter.all false
set_option maxRecDepth 100000
set_option maxHeartbeats 4000000
namespace L2
open PySem
/-! ### what is kept: the objects at kp, and all tuples -/
structure KS (kp : List Addr) (H0 H : Hp) : Prop where
  at' : ∀ a ∈ kp, ∀ o, H0 a = some o → H a = some o
  ts : TSame H0 H
section
variable {kp own : List Addr} {H0 H H' : Hp}
/-- an owner stays apart from what is there -/
theorem apart {own own' oth : List Addr} (new : ∀ x ∈ own', x ∈ own ∨ H x = none) (d : ∀ x ∈ oth, x ∉ own) (al : ∀ x ∈ oth, H x ≠ none) : ∀ x ∈ oth, x ∉ own' := fun x hx m => by
  rcases new x m with h | h
  · exact d x hx h
  · exact al x hx h
end
/-- a program whose lists are among kp -/
def PgF (kp : List Addr) (H : Hp) (P : List Df) (pp : Addr) : Prop := ∃ vs, H pp = some (.lst vs) ∧ pp ∈ kp ∧ vs.length = P.length ∧ ∀ (i : Nat) (d : Df) (v : V), P[i]? = some d → vs[i]? = some v → ∃ t q ys, v = .ref t ∧ H t = some (.tup [.int d.takes, .int d.boxes, .ref q]) ∧ H q = some (.lst ys) ∧ q ∈ kp ∧ Reps H (rowsD d.rows) ys
section
variable {kp own : List Addr} {H0 H H' : Hp} {P : List Df} {pp : Addr}
def qOf (H : Hp) : V → Option Addr
  | .ref t => match H t with
    | some (.tup [_, _, .ref q]) => some q
    | _ => none
  | _ => none
theorem PgF.of (h : PgAt own H P pp) : ∃ kp, PgF kp H P pp ∧ ∀ x ∈ kp, (∃ ys, H x = some (.lst ys)) ∧ x ∉ own := by
  obtain ⟨vs, h1, n1, hl, h2⟩ := h
  refine ⟨pp :: vs.filterMap (qOf H), ⟨vs, h1, List.mem_cons_self, hl, fun i d v e1 e2 => ?_⟩, fun x hx => ?_⟩
  · obtain ⟨t, q, ys, e, t1, q1, m2, r⟩ := h2 i d v e1 e2
    refine ⟨t, q, ys, e, t1, q1, List.mem_cons_of_mem _ (List.mem_filterMap.mpr ⟨v, List.mem_of_getElem? e2, ?_⟩), r⟩
    subst e
    simp only [qOf, t1]
  · rcases List.mem_cons.mp hx with rfl | hx
    · exact ⟨⟨_, h1⟩, n1⟩
    · obtain ⟨v, hv, e⟩ := List.mem_filterMap.mp hx
      obtain ⟨i, hi⟩ := List.mem_iff_getElem?.mp hv
      have hlt : i < P.length := by rw [← hl]; exact (List.getElem?_eq_some_iff.mp hi).1
      obtain ⟨t, q, ys, ev, t1, q1, m2, r⟩ := h2 i _ v (List.getElem?_eq_getElem hlt) hi
      subst ev
      simp only [qOf, t1] at e
      cases e
      exact ⟨⟨_, q1⟩, m2⟩
end
end L2

end
section
set_option Elab.async false
set_option linter.all false
set_option maxRecDepth 100000
set_option maxHeartbeats 4000000
namespace L2
open PySem PySem.Spec PyProof.Rows
/-! ### two values that are alike, lists and tuples in one another: == tells True, != False -/
section
variable {X : Cx} {pins : List (Addr × Obj)} {σ : St} {H : Hp} {s : Shared}
end
/-! ### what is alike -/
section
variable {H : Hp}
end
end L2

end
section
set_option Elab.async false
set_option linter.all false
set_option maxRecDepth 100000
set_option maxHeartbeats 4000000
namespace L2
open PySem
/-- a display's object; the rest named -/
abbrev NewL (xs : List V) (H : Hp) (Q : VK) : Prop := xs.length ≤ sizeLine ∧ ∀ p, H p = none → Q (.ref p) (upd H p (.lst xs))
abbrev NewT (xs : List V) (H : Hp) (Q : VK) : Prop := xs.length ≤ sizeLine ∧ ∀ p, H p = none → Q (.ref p) (upd H p (.tup xs))
theorem rd_lstN {ta : TA} {σ : St} {H : Hp} {Q : VK} (h : ta σ H fun xs H1 => NewL xs H1 Q) : tLst ta σ H Q := h
theorem rd_tupN {ta : TA} {σ : St} {H : Hp} {Q : VK} (h : ta σ H fun xs H1 => NewT xs H1 Q) : tTup ta σ H Q := h
abbrev NewI (C : Addr) (sp : Sp) (vs : List V) (H : Hp) (Q : VK) : Prop := ∀ x dx, H x = none → H dx = none → dx ≠ x → sp (.ref x :: (vs ++ [])) (upd (upd H dx (.own x)) x (.ins C dx [])) (fun v H2 => v = .non ∧ Q (.ref x) H2) E0
theorem rd_makeN {C : Addr} {sp : Sp} {t : TA} {σ : St} {H : Hp} {Q : VK} (h : t σ H fun vs H1 => NewI C sp vs H1 Q) : tMake C sp [] E0 t σ H Q := h
/-! ### a walk: what is new since H0 (lists L, data R); of the old objects only those at ow may change -/
structure WC (ow : List Addr) (H0 H : Hp) (L : List (Addr × HO)) (R : List (List D × List V)) : Prop where
  os : OSame ow H0 H
  ts : TSame H0 H
  all : AllAt H L
  nd : (L.map (·.1)).Nodup
  nw : ∀ x ∈ L.map (·.1), H0 x = none
  nt : ∀ x ∈ L, ∀ xs, x.2 ≠ .tup xs
  rp : ∀ e ∈ R, Reps H e.1 e.2
  al : ∀ x ∈ ow, H x ≠ none
section
variable {ow : List Addr} {H0 H H' : Hp} {L L' l1 l2 : List (Addr × HO)} {R R' : List (List D × List V)} {Q : VK} {a q : Addr} {o : HO} {xs ys vs : List V} {ds : List D} {d : D} {v : V}
theorem WC.start (al : ∀ x ∈ ow, H x ≠ none) : WC ow H H [] [] := ⟨fun _ _ _ h => h, TSame.refl _, fun _ h => (by cases h), by simp, fun _ h => (by cases h), fun _ h => (by cases h), fun _ h => (by cases h), al⟩
theorem WC.same (w : WC ow H0 H L R) (s : Same H H') : WC ow H0 H' L R :=
  ⟨fun a o n h => s _ _ (w.os a o n h), w.ts.trans s.ts, w.all.mono s, w.nd, w.nw, w.nt, fun e he => (w.rp e he).mono s.ts, fun x hx e => by
    cases h : H x with
    | none => exact w.al x hx h
    | some o => rw [s _ _ h] at e; cases e⟩
theorem WC.free (w : WC ow H0 H L R) (h : H a = none) : H0 a = none := by
  cases e : H0 a with
  | none => rfl
  | some o =>
    by_cases m : a ∈ ow
    · exact absurd h (w.al a m)
    · rw [w.os a o m e] at h; cases h
theorem WC.mem (w : WC ow H0 H L R) (h : H a = none) : a ∉ L.map (·.1) := fun m => by
  obtain ⟨e, he, rfl⟩ := List.mem_map.mp m
  rw [w.all e he] at h; cases h
theorem WC.newL (w : WC ow H0 H L R) (h : H a = none) : WC ow H0 (upd H a (.lst xs)) ((a, .lst xs) :: L) R := by
  have w' := w.same (Same.new (o := .lst xs) h)
  refine ⟨w'.os, w'.ts, fun e he => ?_, ?_, fun x hx => ?_, fun x hx => ?_, w'.rp, w'.al⟩
  · rcases List.mem_cons.mp he with rfl | he
    · exact upd_same
    · exact w'.all e he
  · rw [List.map_cons, List.nodup_cons]
    exact ⟨w.mem h, w.nd⟩
  · rcases List.mem_cons.mp hx with rfl | hx
    · exact w.free h
    · exact w.nw x hx
  · rcases List.mem_cons.mp hx with rfl | hx
    · intro ys z; cases z
    · exact w.nt x hx
theorem WC.newT (w : WC ow H0 H L R) (r : Reps H ds xs) (h : H a = none) : WC ow H0 (upd H a (.tup xs)) L (([.tup ds], [.ref a]) :: R) := by
  have s := Same.new (o := .tup xs) h
  have w' := w.same s
  refine ⟨w'.os, w'.ts, w'.all, w'.nd, w'.nw, w'.nt, fun e he => ?_, w'.al⟩
  rcases List.mem_cons.mp he with rfl | he
  · exact reps_cons (rep_tup upd_same (r.mono s.ts)) reps_nil
  · exact w'.rp e he
theorem WC.nl (w : WC ow H0 H L R) (k : ∀ q H', WC ow H0 H' ((q, .lst xs) :: L) R → Q (.ref q) H') : ∀ p, H p = none → Q (.ref p) (upd H p (.lst xs)) := fun p hp => k p _ (w.newL hp)
theorem WC.mkL (w : WC ow H0 H L R) (k : ∀ q H', WC ow H0 H' ((q, .lst xs) :: L) R → Q (.ref q) H') (hl : Nat.ble xs.length 1000 = true := by rfl) : NewL xs H Q := ⟨mk_le hl, w.nl k⟩
theorem WC.nt' (w : WC ow H0 H L R) (r : Reps H ds xs) (k : ∀ q H', H' q = some (.tup xs) → WC ow H0 H' L (([.tup ds], [.ref q]) :: R) → Q (.ref q) H') : ∀ p, H p = none → Q (.ref p) (upd H p (.tup xs)) := fun p hp => k p _ upd_same (w.newT r hp)
theorem WC.mkT (w : WC ow H0 H L R) (r : Reps H ds xs) (k : ∀ q H', H' q = some (.tup xs) → WC ow H0 H' L (([.tup ds], [.ref q]) :: R) → Q (.ref q) H') (hl : Nat.ble xs.length 1000 = true := by rfl) : NewT xs H Q := ⟨mk_le hl, w.nt' r k⟩
/-- a tuple with lists in it -/
theorem WC.mkU (w : WC ow H0 H L R) (k : ∀ q H', Same H H' → H' q = some (.tup xs) → H q = none → WC ow H0 H' L R → Q (.ref q) H') (hl : Nat.ble xs.length 1000 = true := by rfl) : NewT xs H Q := ⟨mk_le hl, fun p hp => k p _ (Same.new hp) upd_same hp (w.same (Same.new hp))⟩
theorem WC.wr (w : WC ow H0 H (l1 ++ (q, o) :: l2) R) : WC ow H0 (upd H q (.lst ys)) (l1 ++ (q, .lst ys) :: l2) R := by
  have hq : H q = some o := AllAt.here w.all
  have ho : ∀ zs, H q ≠ some (.tup zs) := fun zs e => by
    rw [hq] at e; cases e
    exact w.nt (q, .tup zs) (by simp) zs rfl
  have t : TSame H (upd H q (.lst ys)) := TSame.wr ho
  have h0 : H0 q = none := w.nw q (by simp)
  refine ⟨fun a u n e => ?_, w.ts.trans t, w.all.wr w.nd, by have := w.nd; simpa using this, fun x hx => w.nw x (by simpa using hx), fun x hx => ?_, fun e he => (w.rp e he).mono t, fun x hx e => ?_⟩
  · rw [upd_ne (fun z => by rw [z, h0] at e; cases e)]
    exact w.os a u n e
  · rcases List.mem_append.mp hx with hx | hx
    · exact w.nt x (List.mem_append_left _ hx)
    · rcases List.mem_cons.mp hx with rfl | hx
      · intro ys z; cases z
      · exact w.nt x (by simp [hx])
  · by_cases z : x = q
    · subst z; rw [upd_same] at e; cases e
    · rw [upd_ne z] at e; exact w.al x hx e
theorem WC.app (w : WC ow H0 H (l1 ++ (q, .lst xs) :: l2) R) (hz : xs.length < sizeLine) (k : ∀ H', WC ow H0 H' (l1 ++ (q, .lst (xs ++ [v])) :: l2) R → Q .non H') : rAppend (.ref q) [v] H Q := rd_append (AllAt.here w.all) hz (k _ w.wr)
theorem WC.app0 (w : WC ow H0 H ((q, .lst xs) :: L) R) (hz : xs.length ≤ 200000) (k : ∀ H', WC ow H0 H' ((q, .lst (xs ++ [v])) :: L) R → Q .non H') : rAppend (.ref q) [v] H Q := WC.app (l1 := []) w (Nat.lt_of_le_of_lt hz (by rw [sizeLine_eq]; decide)) k
theorem WC.get0 (w : WC ow H0 H ((q, o) :: L) R) : H q = some o := w.all (q, o) List.mem_cons_self
theorem WC.get1 {e : Addr × HO} (w : WC ow H0 H (e :: (q, o) :: L) R) : H q = some o := w.all (q, o) (List.mem_cons_of_mem _ List.mem_cons_self)
theorem rep_of1 (h : Reps H [d] [v]) : Rep H d v := by
  obtain ⟨_, _, e, h, _⟩ := reps_cons_inv h
  cases e; exact h
theorem WC.rp0 (w : WC ow H0 H L (([d], [v]) :: R)) : Rep H d v := rep_of1 (w.rp ([d], [v]) List.mem_cons_self)
theorem WC.rp1 {e : List D × List V} (w : WC ow H0 H L (e :: ([d], [v]) :: R)) : Rep H d v := rep_of1 (w.rp ([d], [v]) (List.mem_cons_of_mem _ List.mem_cons_self))
theorem WC.rps0 (w : WC ow H0 H L ((ds, xs) :: R)) : Reps H ds xs := w.rp (ds, xs) List.mem_cons_self
theorem WC.rps1 {e : List D × List V} (w : WC ow H0 H L (e :: (ds, xs) :: R)) : Reps H ds xs := w.rp (ds, xs) (List.mem_cons_of_mem _ List.mem_cons_self)
theorem WC.noR (w : WC ow H0 H L R) : WC ow H0 H L [] := ⟨w.os, w.ts, w.all, w.nd, w.nw, w.nt, fun _ h => (by cases h), w.al⟩
theorem WC.subR (w : WC ow H0 H L R) (h : ∀ e ∈ R', e ∈ R) : WC ow H0 H L R' := ⟨w.os, w.ts, w.all, w.nd, w.nw, w.nt, fun e he => w.rp e (h e he), w.al⟩
theorem WC.subL (w : WC ow H0 H L R) (h : L'.Sublist L) : WC ow H0 H L' R := ⟨w.os, w.ts, fun e he => w.all e (h.subset he), w.nd.sublist (h.map _), fun x hx => w.nw x ((h.map _).subset hx), fun x hx => w.nt x (h.subset hx), w.rp, w.al⟩
theorem WC.addRs (w : WC ow H0 H L R) (r : Reps H ds xs) : WC ow H0 H L ((ds, xs) :: R) := ⟨w.os, w.ts, w.all, w.nd, w.nw, w.nt, fun e he => by
  rcases List.mem_cons.mp he with rfl | he
  · exact r
  · exact w.rp e he, w.al⟩
theorem WC.perm (w : WC ow H0 H L R) (h : L.Perm L') : WC ow H0 H L' R := ⟨w.os, w.ts, fun e he => w.all e (h.mem_iff.mpr he), (h.map _).nodup_iff.mp w.nd, fun x hx => w.nw x ((h.map _).mem_iff.mpr hx), fun x hx => w.nt x (h.mem_iff.mpr hx), w.rp, w.al⟩
theorem WC.sm (w : WC [] H0 H L R) : Same H0 H := fun a o e => w.os a o (by simp) e
theorem WC.comp (w : WC ow H0 H L R) (v : WC ow H H' L' R') (ho : ∀ x ∈ ow, H0 x ≠ none) : WC ow H0 H' (L' ++ L) R' := by
  have keep : ∀ x ∈ L, H' x.1 = some x.2 := fun x hx => v.os _ _ (fun m => ho _ m (w.nw _ (List.mem_map_of_mem hx))) (w.all x hx)
  refine ⟨fun a o n e => v.os a o n (w.os a o n e), w.ts.trans v.ts, fun e he => ?_, ?_, fun x hx => ?_, fun x hx => ?_, v.rp, v.al⟩
  · rcases List.mem_append.mp he with h | h
    · exact v.all e h
    · exact keep e h
  · rw [List.map_append]
    refine List.nodup_append.mpr ⟨v.nd, w.nd, fun x hx y hy e => ?_⟩
    subst e
    obtain ⟨e, he, rfl⟩ := List.mem_map.mp hy
    have := v.nw _ hx
    rw [w.all e he] at this; cases this
  · rw [List.map_append] at hx
    rcases List.mem_append.mp hx with h | h
    · exact w.free (v.nw x h)
    · exact w.nw x h
  · rcases List.mem_append.mp hx with h | h
    · exact v.nt x h
    · exact w.nt x h
/-- something that changes only what is old at ow', or new -/
theorem WC.call {ow' : List Addr} (w : WC ow H0 H L R) (s : OSame ow' H H') (t : TSame H H') (h : ∀ x ∈ ow', x ∈ ow) (ho : ∀ x ∈ ow', H0 x ≠ none) (al : ∀ x ∈ ow', H' x ≠ none) : WC ow H0 H' L R := by
  refine ⟨fun a o n e => s _ _ (fun m => n (h a m)) (w.os a o n e), w.ts.trans t, w.all.by fun x o hx e => s _ _ (fun m => ho x m (w.nw x hx)) e, w.nd, w.nw, w.nt, fun e he => (w.rp e he).mono t, fun x hx => ?_⟩
  by_cases m : x ∈ ow'
  · exact al x m
  · intro e
    cases q : H x with
    | none => exact w.al x hx q
    | some o => rw [s _ _ m q] at e; cases e
end
/-! ### with the law's bag -/
structure WB (b l : Addr) (H0 H : Hp) (L : List (Addr × HO)) (R : List (List D × List V)) : Prop extends WC [b] H0 H L R where
  bag : BagAt H b l
  ob : H0 b ≠ none
  ol : H0 l ≠ none
section
variable {b l : Addr} {H0 H H' : Hp} {L L' l1 l2 : List (Addr × HO)} {R R' : List (List D × List V)} {Q : VK} {E : XK} {a q : Addr} {o : HO} {xs ys vs : List V} {ds : List D} {d : D} {v : V}
theorem BagAt.al (B : BagAt H b l) : H b ≠ none ∧ H l ≠ none := by
  obtain ⟨xs, i, m, st, c, e1, e2, r⟩ := B.ex
  rw [e1, e2]; simp
theorem WB.start (B : BagAt H b l) : WB b l H H [] [] := ⟨WC.start (fun x hx => by rw [List.mem_singleton.mp hx]; exact B.al.1), B, B.al.1, B.al.2⟩
theorem WB.up (w : WB b l H0 H L R) (c : WC [b] H0 H' L' R') (s : Same H H') : WB b l H0 H' L' R' := ⟨c, w.bag.mono s, w.ob, w.ol⟩
theorem WB.drew (w : WB b l H0 H L R) (B : BagAt H' b l) (s : BSame b H H') : WB b l H0 H' L R :=
  ⟨w.toWC.call (ow' := [b]) (fun a o n e => s a o (by simpa using n) e) (s.ts w.bag) (fun x hx => hx) (fun x hx => by rw [List.mem_singleton.mp hx]; exact w.ob) (fun x hx => by rw [List.mem_singleton.mp hx]; exact B.al.1), B, w.ob, w.ol⟩
theorem WB.draw {n : Int} (w : WB b l H0 H L R) (hn : 0 < n) (hm : n ≤ 10 ^ 65) (k : ∀ r H', 0 ≤ r → r < n → WB b l H0 H' L R → Q (.int r) H') : sp_draw [.ref b, .int n] H Q E :=
  use2 ⟨b, l, n, rfl, rfl, ⟨hn, hm⟩, w.bag, fun r H' r0 r1 B s => k r H' r0 r1 (w.drew B s)⟩
theorem WB.num (w : WB b l H0 H L R) (k : ∀ r H', r.natAbs ≤ 10 ^ 60 → WB b l H0 H' L R → Q (.int r) H') : sp_number [.ref b] H Q E :=
  use1 ⟨b, l, rfl, w.bag, fun r H' r0 B s => k r H' r0 (w.drew B s)⟩
theorem WB.newL (w : WB b l H0 H L R) (h : H a = none) : WB b l H0 (upd H a (.lst xs)) ((a, .lst xs) :: L) R := w.up (w.toWC.newL h) (Same.new h)
theorem WB.nl (w : WB b l H0 H L R) (k : ∀ q H', WB b l H0 H' ((q, .lst xs) :: L) R → Q (.ref q) H') : ∀ p, H p = none → Q (.ref p) (upd H p (.lst xs)) := fun p hp => k p _ (w.newL hp)
end
theorem rd_lenT' {K : PySem.W.Frag} {H : Hp} {p : Addr} {ys : List V} {Q : VK} (h : SqT K H p ys) (q : Q (.int ys.length) H) : rLen K [.ref p] H Q := ⟨_, _, rfl, .inr ⟨ys, h, rfl⟩, q⟩
section
variable {ow : List Addr} {b l : Addr} {K : PySem.W.Frag} {H0 H H' : Hp} {L L' l1 l2 : List (Addr × HO)} {R R' : List (List D × List V)} {Q : VK} {E : XK} {a q p : Addr} {o : HO} {xs ys zs vs : List V} {ds : List D} {d : D} {v : V}
theorem WC.cat (w : WC ow H0 H L R) (h1 : H p = some (.lst xs)) (h2 : H q = some (.lst zs)) (hl : xs.length + zs.length ≤ 1000000) (k : ∀ q H', WC ow H0 H' ((q, .lst (xs ++ zs)) :: L) R → Q (.ref q) H') : rCat (.ref p) (.ref q) H Q := rd_cat h1 h2 (small_le' hl) (w.nl k)
theorem WC.sl {lo hi : Option Int} (w : WC ow H0 H L R) (h : SqL K H a xs) (k : ∀ q H', WC ow H0 H' ((q, .lst (cutV xs lo hi)) :: L) R → Q (.ref q) H') : rSlL K (.ref a) lo hi H Q := rd_slL h (w.nl k)
theorem WB.sl {lo hi : Option Int} (w : WB b l H0 H L R) (h : SqL K H a xs) (k : ∀ q H', WB b l H0 H' ((q, .lst (cutV xs lo hi)) :: L) R → Q (.ref q) H') : rSlL K (.ref a) lo hi H Q := rd_slL h (w.nl k)
theorem rd_neLI {ns ms : List Int} (h1 : SqL K H a (ns.map V.int)) (h2 : SqL K H q (ms.map V.int)) (k : Q (.bl (!decide (ns = ms))) H) : rNeL K (.ref a) (.ref q) H Q := by
  refine ⟨a, q, _, _, ns.map D.int, ms.map D.int, rfl, rfl, h1, h2, reps_of_ints ns, reps_of_ints ms, pls_ints _, pls_ints _, by rw [deps_ints]; omega, ?_⟩
  have e : eqD (.tup (ns.map D.int)) (.tup (ms.map D.int)) = decide (ns = ms) := by
    by_cases h : ns = ms
    · subst h; rw [eqD_same]; simp
    · rw [eqD_false (fun z => h ?_)]
      · simp [h]
      · injection z with z
        have inj : ∀ (l1 l2 : List Int), l1.map D.int = l2.map D.int → l1 = l2 := by
          intro l1
          induction l1 with
          | nil => intro l2 e; cases l2 with | nil => rfl | cons _ _ => simp at e
          | cons x l1 ih => intro l2 e; cases l2 with
            | nil => simp at e
            | cons y l2 => simp at e; rw [e.1, ih l2 (by simpa using e.2)]
        exact inj _ _ z
  rw [e]; exact k
end
/-! ### slices of tuples -/
end L2

end
section
set_option Elab.async false
set_option linter.all false
set_option maxRecDepth 100000
set_option maxHeartbeats 4000000

namespace My
open PySem L2
def top (i : Nat) : Stmt := PySem.Challenge.pw_midlanes_k24_ends.main.body.getD i (.Pass ⟨0, 0, 0, 0⟩)
abbrev s_row_of : Stmt := top 2
abbrev s_goes_to_row : Stmt := top 3
abbrev s_run : Stmt := top 7
abbrev s_end_of : Stmt := top 8
abbrev s_new_frame : Stmt := top 9
abbrev s_reckoned : Stmt := top 10
abbrev s_row_behind : Stmt := top 11
abbrev s__law_bag : Stmt := top 13
abbrev s__law_draw : Stmt := top 14
abbrev s__law_number : Stmt := top 15
abbrev s__law_whole : Stmt := top 16
abbrev s__law_words : Stmt := top 17
abbrev s__law_frames : Stmt := top 18
abbrev s__law_fields : Stmt := top 19
abbrev s__law_program : Stmt := top 20
abbrev s__law_stand : Stmt := top 21
abbrev s__law_ran : Stmt := top 22
abbrev s__law_asked : Stmt := top 23
abbrev s_law : Stmt := top 24
abbrev s_Hand___init__ : Stmt := inClass (top 6) 0
abbrev s_Hand_go : Stmt := inClass (top 6) 1
abbrev s_Hand_end_at : Stmt := inClass (top 6) 2
abbrev s_Hand_do_row : Stmt := inClass (top 6) 3
abbrev s_Hand_give_back : Stmt := inClass (top 6) 4
abbrev s_Hand_do_own : Stmt := inClass (top 6) 5

structure Blt (mg : Str → Option Value) : Prop where
  b_abs : mg "abs" = none
  b_bool : mg "bool" = none
  b_int : mg "int" = none
  b_isinstance : mg "isinstance" = none
  b_len : mg "len" = none
  b_list : mg "list" = none
  b_max : mg "max" = none
  b_min : mg "min" = none
  b_range : mg "range" = none
  b_tuple : mg "tuple" = none
  b_zip : mg "zip" = none
structure Glb (K : PySem.W.Frag) (mg : Str → Option Value) : Prop where
  c_MOST_FRAMES : ∃ t, mg "MOST_FRAMES" = some (.int 20 t)
  c_RECKONINGS : IsCT K mg "RECKONINGS" [V.str "put", V.str "copy", V.str "plus", V.str "less", V.str "times"]
structure CHand (K : PySem.W.Frag) (C : Addr) : Prop where
  cl : Cls K C
  n_program : NoAttr K C "program"
  n_frames : NoAttr K C "frames"
  n_news : NoAttr K C "news"
  n_gone : NoAttr K C "gone"
  n_left : NoAttr K C "left"
  n_end : NoAttr K C "end"

local macro_rules | `(tactic| walk_at "rd1") => `(tactic| (first | ((with_reducible refine' rd_var ?e ?_); (case e => exact rfl)) | with_reducible refine rd_c ?_ | with_reducible refine rd_op ?_ | with_reducible refine rd_un ?_ | with_reducible refine rd_seq ?_ | with_reducible refine rd_asg ?_ | with_reducible refine rd_gname ?_ | with_reducible refine rd_ret ?_ | with_reducible refine rd_drop ?_ | with_reducible refine rd_next ?_ | with_reducible refine rd_if ?_ | with_reducible refine rd_test ?_ | with_reducible refine rd_tb ?_ | with_reducible refine rd_and ?_ | with_reducible refine rd_or ?_ | with_reducible refine rd_not ?_ | with_reducible refine rd_true ?_ | with_reducible refine rd_andV ?_ | with_reducible refine rd_orV ?_ | with_reducible refine rd_notV ?_ | with_reducible refine rd_ifE ?_ | with_reducible refine rd_chain ?_ | with_reducible refine rd_nil ?_ | with_reducible refine rd_cons ?_ | with_reducible refine rd_cb ?_ | with_reducible refine rd_call ?_ | with_reducible refine rd_I0 ?_ | with_reducible refine rd_U ?_ | with_reducible refine rd_eqI ?_ | with_reducible refine rd_neI ?_ | with_reducible refine rd_eqS ?_ | with_reducible refine rd_neS ?_ | with_reducible refine rd_eqB ?_ | with_reducible refine rd_neB ?_ | with_reducible refine rd_bl ?_ | with_reducible refine rd_int ?_ | with_reducible refine rd_tup ?_ | with_reducible refine rd_lst ?_ | with_reducible refine rd_gsub ?_ | with_reducible refine rd_slice ?_ | with_reducible refine rd_nopart ?_ | with_reducible refine rd_part ?_ | with_reducible refine rd_bm ?_ | with_reducible refine rd_bm0 ?_ | with_reducible refine rd_comp ?_ | with_reducible refine rd_itup ?_ | with_reducible refine rd_ilist ?_ | with_reducible refine rd_irng ?_ | with_reducible refine rd_gcons ?_ | with_reducible refine rd_gnil ?_ | with_reducible refine rd_for ?_ | with_reducible refine rd_abs ?_ | with_reducible refine rd_max ?_ | with_reducible refine rd_min ?_ | with_reducible refine rd_intB ?_ | with_reducible refine rd_dput ?_ | with_reducible refine rd_dget2 ?_ | with_reducible refine rd_dget ?_ | with_reducible refine rd_fld ?_ | with_reducible refine rd_sfld ?_ | with_reducible refine rd_meth ?_ | with_reducible refine rd_make ?_ | with_reducible refine rd_isN ?_ | with_reducible refine rd_notN ?_ | with_reducible refine rd_izip ?_ | with_reducible refine iteNT ?_ | with_reducible refine iteNF ?_ | with_reducible refine iteF ?_ | with_reducible refine iteT ?_))
local macro_rules | `(tactic| walk_at "rd") => `(tactic| (repeat walk_at "rd1"))
local macro_rules | `(tactic| walk_at "mk") => `(tactic| refine ⟨mk_le rfl, ?_⟩)

section
variable {P : Program} {w : World} {K : PySem.W.Frag} {mg : Str → Option Value} {base : Heap}
section
theorem sc__law_draw : FnScope ["bag", "many", "found"] ["bag", "many"] (defScope s__law_draw) := ⟨rfl, rfl, rfl, by decide +kernel, rfl, by decide +kernel, by decide +kernel⟩
theorem c__law_draw (B : Blt mg) (T__law_draw : TopFn K mg "_law_draw" s__law_draw ["bag", "many"]) : Callee P w K mg base "_law_draw" 1 ["bag", "many"] sp_draw := by
  refine T__law_draw.ok2 sc__law_draw fun f cdv A outer s H v1 v2 Q E hr h => ?_
  have nd := sc__law_draw.nd
  obtain ⟨b, l, n, rfl, rfl, ⟨hn, hn2⟩, Bg, k⟩ := h
  obtain ⟨xs, i, m, st, c, hb, hl, hi, ⟨hm0, hm1⟩, ⟨hs0, hs1⟩, hxs, hlen⟩ := Bg.ex
  have nbl : l ≠ b := ne_of hl hb (by
    intro z
    injection z with z
    cases xs <;> simp [bagL] at z)
  have hl2 : ∀ o, upd H b o l = some (.lst (xs.map V.int)) := fun o => by rw [upd_ne nbl]; exact hl
  refine' go_body [some (.ref b), some (.int n), none] rfl ?hb ?hg
  case hb =>
   refine' pss_cons ?zb ?zc
   case zb =>
    refine' ps_if ?zd ?ze ?zf
    case zd =>
     refine' PW.pt ?zg
     case zg =>
      refine' pw_and ?zh ?zi
      case zh => exact (pt_cmpR op_eq (pe_ix (k_ix (K := K) rfl) (pv 0) pe_int (fun _ _ => rfl)) pe_int (nomark _))
      case zi =>
       refine' pw_and1 ?zj
       case zj =>
        refine' pt_cmpR ?zk ?zl ?zm ?zn
        case zk => exact op_lt
        case zl => exact (pe_ix (k_ix (K := K) rfl) (pv 0) pe_int (fun _ _ => rfl))
        case zm => exact (pe_callB (k_len (K := K) rfl) (by rfl) B.b_len bt_len (pa_consS (pe_ix (k_ix (K := K) rfl) (pv 0) pe_int (fun _ _ => rfl)) pa_nil))
        case zn => exact (nomark _)
    case ze =>
     refine' pss_cons ?zo ?zp
     case zo =>
      refine' ps_asg ?zq ?zr
      case zq =>
       refine' pe_ix ?zs ?zt ?zu ?zv
       case zs => exact (k_ix (K := K) rfl)
       case zt => exact (pe_ix (k_ix (K := K) rfl) (pv 0) pe_int (fun _ _ => rfl))
       case zu => exact (pe_ix (k_ix (K := K) rfl) (pv 0) pe_int (fun _ _ => rfl))
       case zv => exact (fun _ _ => rfl)
      case zr => exact (pg_sub (pv 0) pe_int set_list)
     case zp => exact (pss_one (ps_asg (pe_op op_add (pe_ix (k_ix (K := K) rfl) (pv 0) pe_int (fun _ _ => rfl)) pe_int) (pg_sub (pv 0) pe_int set_list)))
    case zf =>
     refine' pss_one ?zw
     case zw =>
      refine' ps_if ?zx ?zy ?zz
      case zx => exact (pt_cmpR op_eq (pe_ix (k_ix (K := K) rfl) (pv 0) pe_int (fun _ _ => rfl)) pe_int (nomark _))
      case zy =>
       refine' pss_cons ?zba ?zbb
       case zba => exact (ps_asg (pe_op op_add (pe_ix (k_ix (K := K) rfl) (pv 0) pe_int (fun _ _ => rfl)) pe_int) (pg_sub (pv 0) pe_int set_list))
       case zbb =>
        refine' pss_cons ?zbc ?zbd
        case zbc =>
         refine' ps_asg ?zbe ?zbf
         case zbe =>
          refine' pe_op ?zbg ?zbh ?zbi
          case zbg => exact op_mod
          case zbh =>
           refine' pe_op ?zbj ?zbk ?zbl
           case zbj => exact op_add
           case zbk =>
            refine' pe_op ?zbm ?zbn ?zbo
            case zbm => exact op_add
            case zbn =>
             refine' pe_op ?zbp ?zbq ?zbr
             case zbp => exact op_add
             case zbq => exact (pe_op op_pow (pe_ix (k_ix (K := K) rfl) (pv 0) pe_int (fun _ _ => rfl)) pe_int)
             case zbr => exact (pe_op op_mul pe_int (pe_ix (k_ix (K := K) rfl) (pv 0) pe_int (fun _ _ => rfl)))
            case zbo => exact (pe_op op_mul pe_int (pe_ix (k_ix (K := K) rfl) (pv 0) pe_int (fun _ _ => rfl)))
           case zbl => exact pe_int
          case zbi => exact pe_int
         case zbf => exact (pg_sub (pv 0) pe_int set_list)
        case zbd => exact (pss_one (ps_ret (pe_op op_mod (pe_op op_fdivB (pe_ix (k_ix (K := K) rfl) (pv 0) pe_int (fun _ _ => rfl)) pe_int) (pv 1))))
      case zz => exact pss_nil
   case zc =>
    refine' pss_cons ?zbs ?zbt
    case zbs => exact (ps_setB (i := 2) nd rfl (Or.inl rfl) (pe_op op_mod (pe_ix (k_ix (K := K) rfl) (pv 0) pe_int (fun _ _ => rfl)) (pv 1)))
    case zbt =>
     refine' pss_cons ?zbu ?zbv
     case zbu => exact (ps_asg (pe_op op_fdivB (pe_ix (k_ix (K := K) rfl) (pv 0) pe_int (fun _ _ => rfl)) (pv 1)) (pg_sub (pv 0) pe_int set_list))
     case zbv => exact (pss_one (ps_ret (pv 2)))
  have fin : ∀ (j : Nat) (m' : Int), j ≤ xs.length → 0 ≤ m' → m' ≤ 10 ^ 60 → ∀ H1, BSame b H H1 → H1 b = some (.lst (bagL l j m' st c)) → H1 l = some (.lst (xs.map V.int)) →
      Q (.int (m' % n)) (upd H1 b (.lst (bagL l j (m' / n) st c))) := by
    intro j m' hj h0 h1 H1 bs hb1 hl1
    have hd0 : 0 ≤ m' / n := Int.ediv_nonneg h0 (Int.le_of_lt hn)
    have hd1 : m' / n ≤ m' := Int.ediv_le_self _ h0
    refine k _ _ (Int.emod_nonneg _ (by omega)) (Int.emod_lt_of_pos _ hn) ⟨xs, j, m' / n, st, c, upd_same, by rw [upd_ne nbl]; exact hl1, hj, ⟨hd0, by omega⟩, ⟨hs0, hs1⟩, hxs, hlen⟩ (bs.trans BSame.wr)
  have tail : ∀ (j : Nat) (m' : Int) (σ2 : St), σ2 = [some (.ref b), some (.int n), none] → j ≤ xs.length → 0 ≤ m' → m' ≤ 10 ^ 60 → ∀ H1, BSame b H H1 → H1 b = some (.lst (bagL l j m' st c)) → H1 l = some (.lst (xs.map V.int)) →
      tSeq (tAsg (tOp (rI (fun _ j => 0 < j) fun i j => .int (i % j)) (tOp (rIxA K) (tVar 0) (tC (.int 2))) (tVar 1)) (gName 2))
        (tSeq (tAsg (tOp (rI CDivB fun i j => .int (i / j)) (tOp (rIxA K) (tVar 0) (tC (.int 2))) (tVar 1)) (gSub (tVar 0) (tC (.int 2)) rSetL)) (tRet (tVar 2))) { nx := fun _ H' => Q .non H', rt := Q } σ2 H1 := by
    intro j m' σ2 e hj h0 h1 H1 bs hb1 hl1
    subst e
    walk_at "rd"
    refine rd_ixaL (v := .int m') hb1 rfl ?_
    walk_at "rd"
    refine rd_I hn ?_
    walk_at "rd"
    refine rd_ixaL (v := .int m') hb1 rfl ?_
    walk_at "rd"
    refine rd_I (cdivb_of hn (by omega)) ?_
    walk_at "rd"
    refine rd_setL (k := 2) hb1 rfl ?_
    walk_at "rd"
    exact fin j m' hj h0 h1 H1 bs hb1 hl1
  walk_at "rd"
  refine rd_ixaL (v := .int m) hb rfl ?_
  walk_at "rd"
  refine ite_dd (fun hm => ?_) (fun hm => ?_)
  · walk_at "rd"
    refine rd_ixaL (v := .int i) hb rfl ?_
    walk_at "rd"
    refine rd_ixaL (v := .ref l) hb rfl ?_
    walk_at "rd"
    refine rd_lenL' (SqL.of hl) ?_
    walk_at "rd"
    rw [List.length_map]
    refine ite_dd (fun hi2 => ?_) (fun hi2 => ?_)
    · walk_at "rd"
      refine rd_ixaL (v := .ref l) hb rfl ?_
      walk_at "rd"
      refine rd_ixaL (v := .int i) hb rfl ?_
      walk_at "rd"
      have hil : i < xs.length := by omega
      have hxi := hxs _ (List.getElem_mem hil)
      refine rd_ixaL (v := .int xs[i]) hl (atI_at (n := i) rfl (by rw [List.getElem?_map, List.getElem?_eq_getElem hil]; rfl)) ?_
      walk_at "rd"
      refine rd_setL (k := 2) hb rfl ?_
      walk_at "rd"
      refine rd_ixaL (v := .int i) upd_same rfl ?_
      walk_at "rd"
      refine rd_setL (k := 1) upd_same rfl ?_
      exact tail (i + 1) xs[i] _ rfl (by omega) hxi.1 hxi.2 _ (BSame.wr.trans BSame.wr) upd_same (by rw [upd_ne nbl]; exact hl2 _)
    · walk_at "rd"
      refine rd_ixaL (v := .int m) hb rfl ?_
      walk_at "rd"
      refine ite_dy hm ?_
      walk_at "rd"
      refine rd_ixaL (v := .int c) hb rfl ?_
      walk_at "rd"
      refine rd_setL (k := 4) hb rfl ?_
      walk_at "rd"
      refine rd_ixaL (v := .int st) upd_same rfl ?_
      walk_at "rd"
      refine rd_I ⟨by decide, by decide, by omega⟩ ?_
      walk_at "rd"
      refine rd_ixaL (v := .int st) upd_same rfl ?_
      walk_at "rd"
      refine rd_I (.inl ⟨by decide, by decide⟩) ?_
      walk_at "rd"
      refine rd_ixaL (v := .int (c + 1)) upd_same rfl ?_
      walk_at "rd"
      refine rd_I (.inl ⟨by decide, by decide⟩) ?_
      walk_at "rd"
      refine rd_I (by decide) ?_
      walk_at "rd"
      refine rd_setL (k := 3) upd_same rfl ?_
      walk_at "rd"
      generalize hst : (st ^ (3 : Int).toNat + 48271 * st + 1013 * (c + 1) + 1) % 2147483647 = st'
      have h0 : 0 ≤ st' := by rw [← hst]; exact Int.emod_nonneg _ (by decide)
      have h1 : st' < 2147483647 := by rw [← hst]; exact Int.emod_lt_of_pos _ (by decide)
      refine rd_ixaL (v := .int st') upd_same rfl ?_
      walk_at "rd"
      refine rd_I (cdivb_of (by decide) (by decide +kernel)) ?_
      walk_at "rd"
      refine rd_I hn ?_
      refine k _ _ (Int.emod_nonneg _ (by omega)) (Int.emod_lt_of_pos _ hn) ⟨xs, i, m, st', c + 1, upd_same, by rw [upd_ne nbl]; exact hl2 _, hi, ⟨hm0, hm1⟩, ⟨h0, h1⟩, hxs, hlen⟩ (BSame.wr.trans BSame.wr)
  · walk_at "rd"
    refine rd_ixaL (v := .int m) hb rfl ?_
    walk_at "rd"
    refine ite_dn hm ?_
    exact tail i m _ rfl hi hm0 hm1 H (BSame.refl _ _) hb hl

end
section
theorem sc__law_number : FnScope ["bag"] ["bag"] (defScope s__law_number) := ⟨rfl, rfl, rfl, by decide +kernel, rfl, by decide +kernel, by decide +kernel⟩
theorem c__law_number (T__law_number : TopFn K mg "_law_number" s__law_number ["bag"]) (C_law_draw : Callee P w K mg base "_law_draw" 1 ["bag", "many"] sp_draw) : Callee P w K mg base "_law_number" 2 ["bag"] sp_number := by
  refine T__law_number.ok1 sc__law_number fun f cdv A outer s H v1 Q E hr h => ?_
  have nd := sc__law_number.nd
  obtain ⟨b, l, rfl, Bg, k⟩ := h
  refine' go_body [some (.ref b)] rfl ?hb ?hg
  case hb =>
   refine' pss_cons ?zbw ?zbx
   case zbw =>
    refine' ps_if ?zby ?zbz ?zca
    case zby => exact (pt_cmpR op_eq (pe_fn C_law_draw (hr.mono (by first | decide | omega)) (by rfl) (pa_consN (pv 0) (pa_consK pe_int pa_nil))) pe_int (nomark _))
    case zbz =>
     refine' pss_one ?zcb
     case zcb =>
      refine' ps_ret ?zcc
      case zcc =>
       refine' pe_op ?zcd ?zce ?zcf
       case zcd => exact op_mulB
       case zce =>
        refine' pe_op ?zcg ?zch ?zci
        case zcg => exact op_sub
        case zch => exact (pe_op op_mulB (pe_fn C_law_draw (hr.mono (by first | decide | omega)) (by rfl) (pa_consN (pv 0) (pa_consK pe_int pa_nil))) pe_int)
        case zci => exact pe_int
       case zcf => exact (pe_fn C_law_draw (hr.mono (by first | decide | omega)) (by rfl) (pa_consN (pv 0) (pa_consB (pe_op op_pow pe_int pe_int) pa_nil)))
    case zca => exact pss_nil
   case zbx => exact (pss_one (ps_ret (pe_op op_sub (pe_fn C_law_draw (hr.mono (by first | decide | omega)) (by rfl) (pa_consN (pv 0) (pa_consK pe_int pa_nil))) pe_int)))
  walk_at "rd"
  refine use2 ⟨b, l, 8, rfl, rfl, ⟨by decide, by decide⟩, Bg, fun r H1 h0 h1 B1 b1 => ?_⟩
  walk_at "rd"
  refine ite_dd (fun _ => ?_) (fun _ => ?_)
  · walk_at "rd"
    refine use2 ⟨b, l, 2, rfl, rfl, ⟨by decide, by decide⟩, B1, fun r2 H2 g0 g1 B2 b2 => ?_⟩
    walk_at "rd"
    refine rd_I (cbig_of (by omega) (by decide +kernel)) ?_
    walk_at "rd"
    refine rd_I cpow60 ?_
    walk_at "rd"
    refine use2 ⟨b, l, _, rfl, rfl, ⟨by decide +kernel, by decide +kernel⟩, B2, fun r3 H3 f0 f1 B3 b3 => ?_⟩
    rw [ten60] at f1
    refine rd_I (cbig_of (by omega) (by omega)) ?_
    refine k _ _ ?_ B3 ((b1.trans b2).trans b3)
    rw [Int.natAbs_mul]
    have e1 : (r2 * 2 - 1).natAbs ≤ 1 := by omega
    have e2 : r3.natAbs ≤ 10 ^ 60 := by omega
    calc (r2 * 2 - 1).natAbs * r3.natAbs ≤ 1 * 10 ^ 60 := Nat.mul_le_mul e1 e2
      _ = 10 ^ 60 := by rw [Nat.one_mul]
  · walk_at "rd"
    refine use2 ⟨b, l, 9, rfl, rfl, ⟨by decide, by decide⟩, B1, fun r2 H2 g0 g1 B2 b2 => ?_⟩
    walk_at "rd"
    exact k _ _ (by omega) B2 (b1.trans b2)

end
section
theorem sc__law_bag : FnScope ["script", "stir", "cell"] ["script"] (defScope s__law_bag) := ⟨rfl, rfl, rfl, by decide +kernel, rfl, by decide +kernel, by decide +kernel⟩
theorem c__law_bag (B : Blt mg) (T__law_bag : TopFn K mg "_law_bag" s__law_bag ["script"]) : Callee P w K mg base "_law_bag" 1 ["script"] (sp_bag K) := by
  refine T__law_bag.ok1 sc__law_bag fun f cdv A outer s H v1 Q E hr h => ?_
  have nd := sc__law_bag.nd
  obtain ⟨a, ns, rfl, hS, hlen, k⟩ := h
  refine' go_body [some (.ref a), none, none] rfl ?hb ?hg
  case hb =>
   refine' pss_cons ?zcj ?zck
   case zcj => exact (ps_set (i := 1) nd rfl (Or.inl rfl) pe_int)
   case zck =>
    refine' pss_cons ?zcl ?zcm
    case zcl =>
     refine' ps_for ?zcn ?zco ?zcp ?zcq ?zcr
     case zcn => exact PassesOwn.never
     case zco => exact rfl
     case zcp => exact (k_pi_list (K := K) rfl (pe_slice (k_sl (K := K) rfl) (pv 0) po_none (po_some pe_int)))
     case zcq => exact (pg_name (i := 2) nd rfl (Or.inl rfl))
     case zcr =>
      refine' pss_one ?zcs
      case zcs =>
       refine' ps_setB (i := 1) ?zct ?zcu ?zcv ?zcw
       case zct => exact nd
       case zcu => exact rfl
       case zcv => exact (Or.inl rfl)
       case zcw => exact (pe_op op_mod (pe_op op_add (pe_op op_add (pe_op op_mul (pv 1) pe_int) (pe_op op_mod (pv 2) pe_int)) pe_int) pe_int)
    case zcm =>
     refine' pss_one ?zcx
     case zcx =>
      refine' ps_ret ?zcy
      case zcy =>
       refine' pe_lst ?zcz
       case zcz =>
        refine' pa_consM ?zda ?zdb
        case zda =>
         refine' pe_comp (LN := ["cell"]) (FN := []) (fr := []) ?zdc ?zdd ?zde ?zdf ?zdg ?zdh
         case zdc => exact rfl
         case zdd => exact (bk_of (by rfl))
         case zde => exact (k_pi_list (K := K) rfl (pe_slice (k_sl (K := K) rfl) (pv 0) po_none (po_some pe_int)))
         case zdf =>
          intro cl C fp pins s H
          exact (pg_name (i := 0) (show ((["cell"] : List Str) ++ ([] : List Str)).Nodup by decide +kernel) rfl (Or.inl rfl))
         case zdg =>
          intro cl C fp pins s H
          exact pts_nil
         case zdh =>
          intro cl C fp pins s H
          exact (pe_op op_mod (pe_callB call_abs' (by rfl) B.b_abs bt_abs (pa_consN (pv 0) pa_nil)) (pe_op op_pow pe_int pe_int))
        case zdb => exact (pa_consK pe_int (pa_consK pe_int (pa_consN (pv 1) (pa_consK pe_int pa_nil))))
  walk_at "rd"
  refine rd_slL hS fun p hp => ?_
  obtain ⟨ms, em, hm⟩ := cutV_ints ns none (some 63)
  rw [em]
  refine ilK_of (SqL.of upd_same) ?_
  have s0 := Same.new (o := .lst (ms.map V.int)) hp
  generalize hH0 : upd H p (HO.lst (ms.map V.int)) = H0 at s0
  have hp0 : H0 p = some (.lst (ms.map V.int)) := by rw [← hH0]; exact upd_same
  refine for_list (xs := ms.map V.int) (fun i σ H1 => ∃ st c2, σ = [some (.ref a), some (.int st), c2] ∧ H1 = H0 ∧ 0 ≤ st ∧ st < 2147483647) ⟨11, none, rfl, rfl, by decide, by decide⟩ (fun i σ H1 _ ⟨_, _, _, e, _⟩ => by rw [e]; exact SqL.of hp0) ?_ ?_
  · rintro i x σ H1 hx ⟨st, c2, rfl, rfl, h0, h1⟩
    obtain ⟨z, rfl, _⟩ := ints_get hx
    walk_at "rd"
    refine rd_I (.inr ⟨by decide, by decide⟩) ?_
    walk_at "rd"
    refine rd_I (by decide) ?_
    walk_at "rd"
    refine rd_I (by decide) ?_
    walk_at "rd"
    exact ⟨_, _, rfl, rfl, Int.emod_nonneg _ (by decide), Int.emod_lt_of_pos _ (by decide)⟩
  · rintro σ H1 ⟨st, c2, rfl, rfl, h0, h1⟩
    walk_at "rd"
    refine rd_slL (s0.seq hS) fun p2 hp2 => ?_
    rw [em]
    refine ilK_of (SqL.of upd_same) ?_
    have s2 := Same.new (o := .lst (ms.map V.int)) hp2
    generalize hH2 : upd H1 p2 (HO.lst (ms.map V.int)) = H2 at s2
    have hp2' : H2 p2 = some (.lst (ms.map V.int)) := by rw [← hH2]; exact upd_same
    refine cw_list (xs := ms.map V.int) (small_le (by rw [List.length_map]; omega)) (fun i ys σ H3 => (∃ x1, σ = [x1]) ∧ H3 = H2 ∧ ∃ zs : List Int, ys = zs.map V.int ∧ ∀ z ∈ zs, 0 ≤ z ∧ z ≤ 10 ^ 60) ⟨⟨none, rfl⟩, rfl, [], rfl, fun _ h => by cases h⟩ (fun i ys σ H3 _ ⟨_, e, _⟩ => by rw [e]; exact SqL.of hp2') ?_ ?_
    · rintro i x ys σ H3 hx hle hlt ⟨⟨x1, rfl⟩, rfl, zs, rfl, hz⟩
      obtain ⟨z, rfl, _⟩ := ints_get hx
      walk_at "rd"
      refine rd_I cpow60 ?_
      refine rd_I (by decide +kernel) ?_
      rw [ten60]
      refine ⟨hlt, by simpa using hle, ⟨_, rfl⟩, rfl, zs ++ [_], by rw [List.map_append]; rfl, fun u hu => ?_⟩
      rcases List.mem_append.mp hu with hu | hu
      · exact hz u hu
      · obtain rfl := List.mem_singleton.mp hu
        omega
    · rintro ys σ H3 hyl ⟨⟨x1, rfl⟩, rfl, zs, rfl, hz⟩ l hl
      walk_at "rd"
      walk_at "mk"; intro bb hbb
      have sA := Same.new (o := .lst (zs.map V.int)) hl
      have sB := Same.new (o := .lst [V.ref l, V.int 0, V.int 0, V.int st, V.int 0]) hbb
      have sall := ((s0.trans s2).trans sA).trans sB
      rw [List.length_map, List.length_map] at hyl
      exact k bb l _ (((s0.trans s2).trans sA).free hbb) sall ⟨zs, 0, 0, st, 0, upd_same, upd_old upd_same hbb, Nat.zero_le _, ⟨by decide, by decide⟩, ⟨h0, h1⟩, hz, by omega⟩

end
section
theorem sc__law_whole : FnScope ["found"] ["found"] (defScope s__law_whole) := ⟨rfl, rfl, rfl, by decide +kernel, rfl, by decide +kernel, by decide +kernel⟩
theorem c__law_whole (B : Blt mg) (T__law_whole : TopFn K mg "_law_whole" s__law_whole ["found"]) : Callee P w K mg base "_law_whole" 1 ["found"] sp_wholeI := by
  refine T__law_whole.ok1 sc__law_whole fun f cdv A outer s H v1 Q E hr h => ?_
  have nd := sc__law_whole.nd
  obtain ⟨n, rfl, k⟩ := h
  refine' go_body [some (.int n)] rfl ?hb ?hg
  case hb =>
   refine' pss_one ?zdi
   case zdi =>
    refine' ps_ret ?zdj
    case zdj =>
     refine' pe_and ?zdk ?zdl
     case zdk => exact (pe_callB call_isi (by rfl) B.b_isinstance bt_isinstance (pa_consN (pv 0) (pa_consN (pe_bltn (v := .ty "int") (by rfl) B.b_int bt_int rfl) pa_nil)))
     case zdl =>
      refine' pe_one ?zdm
      case zdm =>
       refine' pe_not ?zdn
       case zdn =>
        refine' pe_callB ?zdo ?zdp ?zdq ?zdr ?zds
        case zdo => exact call_isi
        case zdp => exact (by rfl)
        case zdq => exact B.b_isinstance
        case zdr => exact bt_isinstance
        case zds => exact (pa_consN (pv 0) (pa_consN (pe_bltn (v := .ty "bool") (by rfl) B.b_bool bt_bool rfl) pa_nil))
  walk_at "rd"
  refine rd_isi rfl (by simp) (rd_bl (iteT ?_))
  walk_at "rd"
  refine rd_isi rfl (by simp) (rd_bl ?_)
  exact k

end
section
def sp_row_of : Sp := sp2 fun x y H Q => ∃ own P pp fr f at' bx d r, x = .ref pp ∧ y = .ref fr ∧ PgAt own H P pp ∧ H fr = some (.lst [.int f, .int at', .ref bx]) ∧ 0 ≤ f ∧ P[f.toNat]? = some d ∧ 0 ≤ at' ∧ d.rows[at'.toNat]? = some r ∧ ∀ v, Rep H (rowD (Rw.row r)) v → Q v H
theorem sc_row_of : FnScope ["program", "frame"] ["program", "frame"] (defScope s_row_of) := ⟨rfl, rfl, rfl, by decide +kernel, rfl, by decide +kernel, by decide +kernel⟩
theorem c_row_of (T_row_of : TopFn K mg "row_of" s_row_of ["program", "frame"]) : Callee P w K mg base "row_of" 1 ["program", "frame"] sp_row_of := by
  refine T_row_of.ok2 sc_row_of fun f cdv A outer s H v1 v2 Q E hr h => ?_
  have nd := sc_row_of.nd
  obtain ⟨own, Pg, pp, fr, fi, at', bx, d, r, rfl, rfl, ⟨vs, hv, _, hl, hd⟩, hf, f0, ed, a0, er, k⟩ := h
  refine' go_body [some (.ref pp), some (.ref fr)] rfl ?hb ?hg
  case hb =>
   refine' pss_one ?zdt
   case zdt =>
    refine' ps_ret ?zdu
    case zdu =>
     refine' pe_ix ?zdv ?zdw ?zdx ?zdy
     case zdv => exact (k_ix (K := K) rfl)
     case zdw =>
      refine' pe_ix ?zdz ?zea ?zeb ?zec
      case zdz => exact (k_ix (K := K) rfl)
      case zea => exact (pe_ix (k_ix (K := K) rfl) (pv 0) (pe_ix (k_ix (K := K) rfl) (pv 1) pe_int (fun _ _ => rfl)) (fun _ _ => rfl))
      case zeb => exact pe_int
      case zec => exact (fun _ _ => rfl)
     case zdx => exact (pe_ix (k_ix (K := K) rfl) (pv 1) pe_int (fun _ _ => rfl))
     case zdy => exact (fun _ _ => rfl)
  walk_at "rd"
  refine rd_ixaL (v := .int fi) hf rfl ?_
  have hlt : fi.toNat < vs.length := by rw [hl]; exact (List.getElem?_eq_some_iff.mp ed).1
  obtain ⟨t, q, ys, e1, h1, h2, _, rr⟩ := hd _ _ _ ed (List.getElem?_eq_getElem hlt)
  refine rd_ixaL hv (atI_at (n := fi.toNat) (by omega) (List.getElem?_eq_getElem hlt)) ?_
  rw [e1]
  walk_at "rd"
  refine rd_ixaT (v := .ref q) h1 rfl ?_
  walk_at "rd"
  refine rd_ixaL (v := .int at') hf rfl ?_
  obtain ⟨u, eu, ru⟩ := rr.get (i := at'.toNat) (d := rowD r.row) (by unfold rowsD; rw [List.getElem?_map, er]; rfl)
  refine rd_ixaL h2 (atI_at (n := at'.toNat) (by omega) eu) ?_
  exact k u ru
theorem rep_row0 {H : Hp} {r : Str × List D} {v : V} {Q : VK} (h : Rep H (rowD r) v) (q : Q (.str r.1) H) : rIxA K v (.int 0) H Q := rd_ixR (n := 0) h rfl rfl fun u ru => by rw [Rep] at ru; rw [ru]; exact q
theorem rep_rowI {H : Hp} {r : Str × List D} {v : V} {Q : VK} {i : Int} {n : Nat} {z : Int} (h : Rep H (rowD r) v) (hi : i = ((n + 1 : Nat) : Int)) (e : r.2[n]? = some (.int z)) (q : Q (.int z) H) : rIxA K v (.int i) H Q := rd_ixI (n := n + 1) h hi (by simpa [rowD] using e) q
def sp_goes : Sp := sp2 fun x y H Q => ∃ r n, Rep H (rowD r) x ∧ y = .int n ∧ Q (.bl (if r.1 = "zero" then decide (n = 0) else decide (n < 0))) H
theorem sc_goes_to_row : FnScope ["row", "number"] ["row", "number"] (defScope s_goes_to_row) := ⟨rfl, rfl, rfl, by decide +kernel, rfl, by decide +kernel, by decide +kernel⟩
theorem c_goes_to_row (T_goes_to_row : TopFn K mg "goes_to_row" s_goes_to_row ["row", "number"]) : Callee P w K mg base "goes_to_row" 1 ["row", "number"] sp_goes := by
  refine T_goes_to_row.ok2 sc_goes_to_row fun f cdv A outer s H v1 v2 Q E hr h => ?_
  have nd := sc_goes_to_row.nd
  obtain ⟨r, n, rv, rfl, k⟩ := h
  refine' go_body [some v1, some (.int n)] rfl ?hb ?hg
  case hb =>
   refine' pss_one ?zed
   case zed =>
    refine' ps_ret ?zee
    case zee =>
     refine' pe_ifExp ?zef ?zeg ?zeh
     case zef => exact (pt_cmpR op_eq (pe_ix (k_ix (K := K) rfl) (pv 0) pe_int (fun _ _ => rfl)) pe_str (nomark _))
     case zeg => exact (pe_cmpR op_eq (pv 1) pe_int (nomark _))
     case zeh => exact (pe_cmpR op_lt (pv 1) pe_int (nomark _))
  walk_at "rd"
  refine rep_row0 rv ?_
  walk_at "rd"
  refine ite_dd (fun e => ?_) (fun e => ?_)
  · rw [if_pos e] at k
    walk_at "rd"
    exact k
  · rw [if_neg e] at k
    walk_at "rd"
    exact k
def sp_newfr (K : PySem.W.Frag) : Sp := sp3 fun x y z H Q => ∃ own P pp f q ns d, x = .ref pp ∧ y = .int f ∧ z = .ref q ∧ PgAt own H P pp ∧ 0 ≤ f ∧ P[f.toNat]? = some d ∧ (0 ≤ d.boxes ∧ d.boxes ≤ 1000) ∧ H q = some (.lst ((ns : List Int).map V.int)) ∧ (ns.length : Int) ≤ d.boxes ∧
  ∀ fr bx H', H fr = none → H bx = none → fr ≠ bx → Same H H' → H' fr = some (.lst [.int f, .int 0, .ref bx]) → H' bx = some (.lst ((ns ++ List.replicate (d.boxes.toNat - ns.length) 0).map V.int)) → Q (.ref fr) H'
theorem sc_new_frame : FnScope ["program", "f", "numbers"] ["program", "f", "numbers"] (defScope s_new_frame) := ⟨rfl, rfl, rfl, by decide +kernel, rfl, by decide +kernel, by decide +kernel⟩
theorem c_new_frame (B : Blt mg) (T_new_frame : TopFn K mg "new_frame" s_new_frame ["program", "f", "numbers"]) : Callee P w K mg base "new_frame" 1 ["program", "f", "numbers"] (sp_newfr K) := by
  refine T_new_frame.ok3 sc_new_frame fun f cdv A outer s H v1 v2 v3 Q E hr h => ?_
  have nd := sc_new_frame.nd
  obtain ⟨own, Pg, pp, fi, q, ns, d, rfl, rfl, rfl, ⟨vs, hv, _, hl, hd⟩, f0, ed, ⟨b0, b1⟩, hq, hns, k⟩ := h
  refine' go_body [some (.ref pp), some (.int fi), some (.ref q)] rfl ?hb ?hg
  case hb =>
   refine' pss_one ?zei
   case zei =>
    refine' ps_ret ?zej
    case zej =>
     refine' pe_lst ?zek
     case zek =>
      refine' pa_consN ?zel ?zem
      case zel => exact (pv 1)
      case zem =>
       refine' pa_consK ?zen ?zeo
       case zen => exact pe_int
       case zeo =>
        refine' pa_consB ?zep ?zeq
        case zep =>
         refine' pe_op ?zer ?zes ?zet
         case zer => exact op_cat
         case zes => exact (pv 2)
         case zet =>
          refine' pe_op ?zeu ?zev ?zew
          case zeu => exact op_rep
          case zev => exact (pe_lst (pa_consK pe_int pa_nil))
          case zew =>
           refine' pe_op ?zex ?zey ?zez
           case zex => exact op_sub
           case zey => exact (pe_ix (k_ix (K := K) rfl) (pe_ix (k_ix (K := K) rfl) (pv 0) (pv 1) (fun _ _ => rfl)) pe_int (fun _ _ => rfl))
           case zez => exact (pe_callB (k_len (K := K) rfl) (by rfl) B.b_len bt_len (pa_consN (pv 2) pa_nil))
        case zeq => exact pa_nil
  walk_at "rd"
  walk_at "mk"; intro p1 hp1
  have s1 := Same.new (o := .lst ([(0 : Int)].map V.int)) hp1
  have hlt : fi.toNat < vs.length := by rw [hl]; exact (List.getElem?_eq_some_iff.mp ed).1
  obtain ⟨t, q2, ys, e1, h1, h2, _, rr⟩ := hd _ _ _ ed (List.getElem?_eq_getElem hlt)
  walk_at "rd"
  refine rd_ixaL (s1 _ _ hv) (atI_at (n := fi.toNat) (by omega) (List.getElem?_eq_getElem hlt)) ?_
  rw [e1]
  walk_at "rd"
  refine rd_ixaT (v := .int d.boxes) (s1 _ _ h1) rfl ?_
  walk_at "rd"
  refine rd_lenL' (SqL.of (s1 _ _ hq)) ?_
  rw [List.length_map]
  walk_at "rd"
  refine rd_rep0 upd_same (by omega) (by omega) fun p2 hp2 => ?_
  have s2 := Same.new (o := .lst ((List.replicate (d.boxes - (ns.length : Int)).toNat (0 : Int)).map V.int)) hp2
  walk_at "rd"
  refine rd_cat ((s1.trans s2) _ _ hq) upd_same (small_le' (by simp; omega)) fun p3 hp3 => ?_
  have s3 := Same.new (o := .lst (ns.map V.int ++ (List.replicate (d.boxes - (ns.length : Int)).toNat (0 : Int)).map V.int)) hp3
  walk_at "mk"; intro p4 hp4
  have s4 := Same.new (o := .lst [V.int fi, V.int 0, V.ref p3]) hp4
  have s12 := s1.trans s2
  have s123 := s12.trans s3
  refine k p4 p3 _ (s123.free hp4) (s12.free hp3) (fun z => ?_) (s123.trans s4) upd_same ?_
  · rw [z, upd_same] at hp4
    cases hp4
  · rw [s4 _ _ upd_same, List.map_append, show (d.boxes - (ns.length : Int)).toNat = d.boxes.toNat - ns.length by omega]

end
section
theorem box_get {ns : List Int} {q : Int} (h : In0 q ns.length) : atI (ns.map V.int) q = some (.int (boxAt ns q)) := by
  obtain ⟨h0, h1⟩ := h
  have hq : q.toNat < ns.length := by omega
  refine atI_at (n := q.toNat) (by omega) ?_
  rw [List.getElem?_map, List.getElem?_eq_getElem hq]
  simp [boxAt, hq]
theorem box_mem {ns : List Int} {q : Int} (h : In0 q ns.length) : boxAt ns q ∈ ns := by
  obtain ⟨h0, h1⟩ := h
  have hq : q.toNat < ns.length := by omega
  have : boxAt ns q = ns[q.toNat] := by simp [boxAt, hq]
  rw [this]
  exact List.getElem_mem hq
/-- numbers that may be multiplied -/
def MulOk (ns : List Int) : Prop := ∀ x ∈ ns, x.natAbs < 2 ^ 8000
theorem big99 {n : Int} (h : n.natAbs ≤ 99) : n.natAbs < 2 ^ 8000 := big_of (Nat.le_trans h (by decide +kernel))
def sp_reck : Sp := sp2 fun x y H Q => ∃ P many r bx ns p z, Rep H (rowD (Rw.row r)) x ∧ y = .ref bx ∧ H bx = some (.lst ((ns : List Int).map V.int)) ∧ Rw.Ok P ns.length many r ∧ MulOk ns ∧ r.calc ns = some (p, z) ∧ Q (.int z) H
theorem sc_reckoned : FnScope ["row", "boxes"] ["row", "boxes"] (defScope s_reckoned) := ⟨rfl, rfl, rfl, by decide +kernel, rfl, by decide +kernel, by decide +kernel⟩
theorem c_reckoned (T_reckoned : TopFn K mg "reckoned" s_reckoned ["row", "boxes"]) : Callee P w K mg base "reckoned" 1 ["row", "boxes"] sp_reck := by
  refine T_reckoned.ok2 sc_reckoned fun f cdv A outer s H v1 v2 Q E hr h => ?_
  have nd := sc_reckoned.nd
  obtain ⟨Pg, many, r, bx, ns, p, z, rv, rfl, hb, ok, mu, hc, k⟩ := h
  refine' go_body [some v1, some (.ref bx)] rfl ?hb ?hg
  case hb =>
   refine' pss_cons ?zfa ?zfb
   case zfa =>
    refine' ps_if ?zfc ?zfd ?zfe
    case zfc => exact (pt_cmpR op_eq (pe_ix (k_ix (K := K) rfl) (pv 0) pe_int (fun _ _ => rfl)) pe_str (nomark _))
    case zfd => exact (pss_one (ps_ret (pe_ix (k_ix (K := K) rfl) (pv 0) pe_int (fun _ _ => rfl))))
    case zfe => exact pss_nil
   case zfb =>
    refine' pss_cons ?zff ?zfg
    case zff =>
     refine' ps_if ?zfh ?zfi ?zfj
     case zfh => exact (pt_cmpR op_eq (pe_ix (k_ix (K := K) rfl) (pv 0) pe_int (fun _ _ => rfl)) pe_str (nomark _))
     case zfi => exact (pss_one (ps_ret (pe_ix (k_ix (K := K) rfl) (pv 1) (pe_ix (k_ix (K := K) rfl) (pv 0) pe_int (fun _ _ => rfl)) (fun _ _ => rfl))))
     case zfj => exact pss_nil
    case zfg =>
     refine' pss_cons ?zfk ?zfl
     case zfk =>
      refine' ps_if ?zfm ?zfn ?zfo
      case zfm => exact (pt_cmpR op_eq (pe_ix (k_ix (K := K) rfl) (pv 0) pe_int (fun _ _ => rfl)) pe_str (nomark _))
      case zfn =>
       refine' pss_one ?zfp
       case zfp =>
        refine' ps_ret ?zfq
        case zfq =>
         refine' pe_op ?zfr ?zfs ?zft
         case zfr => exact op_add
         case zfs => exact (pe_ix (k_ix (K := K) rfl) (pv 1) (pe_ix (k_ix (K := K) rfl) (pv 0) pe_int (fun _ _ => rfl)) (fun _ _ => rfl))
         case zft => exact (pe_ix (k_ix (K := K) rfl) (pv 1) (pe_ix (k_ix (K := K) rfl) (pv 0) pe_int (fun _ _ => rfl)) (fun _ _ => rfl))
      case zfo => exact pss_nil
     case zfl =>
      refine' pss_cons ?zfu ?zfv
      case zfu =>
       refine' ps_if ?zfw ?zfx ?zfy
       case zfw => exact (pt_cmpR op_eq (pe_ix (k_ix (K := K) rfl) (pv 0) pe_int (fun _ _ => rfl)) pe_str (nomark _))
       case zfx =>
        refine' pss_one ?zfz
        case zfz =>
         refine' ps_ret ?zga
         case zga =>
          refine' pe_op ?zgb ?zgc ?zgd
          case zgb => exact op_sub
          case zgc => exact (pe_ix (k_ix (K := K) rfl) (pv 1) (pe_ix (k_ix (K := K) rfl) (pv 0) pe_int (fun _ _ => rfl)) (fun _ _ => rfl))
          case zgd => exact (pe_ix (k_ix (K := K) rfl) (pv 1) (pe_ix (k_ix (K := K) rfl) (pv 0) pe_int (fun _ _ => rfl)) (fun _ _ => rfl))
       case zfy => exact pss_nil
      case zfv =>
       refine' pss_one ?zge
       case zge =>
        refine' ps_ret ?zgf
        case zgf =>
         refine' pe_op ?zgg ?zgh ?zgi
         case zgg => exact op_mulB
         case zgh => exact (pe_ix (k_ix (K := K) rfl) (pv 1) (pe_ix (k_ix (K := K) rfl) (pv 0) pe_int (fun _ _ => rfl)) (fun _ _ => rfl))
         case zgi => exact (pe_ix (k_ix (K := K) rfl) (pv 0) pe_int (fun _ _ => rfl))
  cases r with
  | put p' n =>
    cases hc
    walk_at "rd"
    refine rep_row0 rv (rd_c (rd_eqS (rd_bl (ite_dy rfl ?_))))
    walk_at "rd"
    exact rep_rowI (n := 1) rv rfl rfl k
  | copy p' q =>
    cases hc
    walk_at "rd"
    refine rep_row0 rv (rd_c (rd_eqS (rd_bl (ite_dn (by simp only [Rw.row]; decide) ?_))))
    walk_at "rd"
    refine rep_row0 rv (rd_c (rd_eqS (rd_bl (ite_dy rfl ?_))))
    walk_at "rd"
    exact rep_rowI (n := 1) rv rfl rfl (rd_ixaL hb (box_get ok.2) k)
  | plus p' q r =>
    cases hc
    walk_at "rd"
    refine rep_row0 rv (rd_c (rd_eqS (rd_bl (ite_dn (by simp only [Rw.row]; decide) ?_))))
    walk_at "rd"
    refine rep_row0 rv (rd_c (rd_eqS (rd_bl (ite_dn (by simp only [Rw.row]; decide) ?_))))
    walk_at "rd"
    refine rep_row0 rv (rd_c (rd_eqS (rd_bl (ite_dy rfl ?_))))
    walk_at "rd"
    refine rep_rowI (n := 1) rv rfl rfl (rd_ixaL hb (box_get ok.2.1) ?_)
    walk_at "rd"
    refine rep_rowI (n := 2) rv rfl rfl (rd_ixaL hb (box_get ok.2.2) ?_)
    walk_at "rd"
    exact k
  | less p' q r =>
    cases hc
    walk_at "rd"
    refine rep_row0 rv (rd_c (rd_eqS (rd_bl (ite_dn (by simp only [Rw.row]; decide) ?_))))
    walk_at "rd"
    refine rep_row0 rv (rd_c (rd_eqS (rd_bl (ite_dn (by simp only [Rw.row]; decide) ?_))))
    walk_at "rd"
    refine rep_row0 rv (rd_c (rd_eqS (rd_bl (ite_dn (by simp only [Rw.row]; decide) ?_))))
    walk_at "rd"
    refine rep_row0 rv (rd_c (rd_eqS (rd_bl (ite_dy rfl ?_))))
    walk_at "rd"
    refine rep_rowI (n := 1) rv rfl rfl (rd_ixaL hb (box_get ok.2.1) ?_)
    walk_at "rd"
    refine rep_rowI (n := 2) rv rfl rfl (rd_ixaL hb (box_get ok.2.2) ?_)
    walk_at "rd"
    exact k
  | times p' q n =>
    cases hc
    walk_at "rd"
    refine rep_row0 rv (rd_c (rd_eqS (rd_bl (ite_dn (by simp only [Rw.row]; decide) ?_))))
    walk_at "rd"
    refine rep_row0 rv (rd_c (rd_eqS (rd_bl (ite_dn (by simp only [Rw.row]; decide) ?_))))
    walk_at "rd"
    refine rep_row0 rv (rd_c (rd_eqS (rd_bl (ite_dn (by simp only [Rw.row]; decide) ?_))))
    walk_at "rd"
    refine rep_row0 rv (rd_c (rd_eqS (rd_bl (ite_dn (by simp only [Rw.row]; decide) ?_))))
    walk_at "rd"
    refine rep_rowI (n := 1) rv rfl rfl (rd_ixaL hb (box_get ok.2.1) ?_)
    walk_at "rd"
    refine rep_rowI (n := 2) rv rfl rfl ?_
    exact rd_I ⟨mu _ (box_mem ok.2.1), big99 ok.2.2⟩ k
  | _ => cases hc
def sp_behind : Sp := sp3 fun x y z H Q => ∃ P many r bx ns at', Rep H (rowD (Rw.row r)) x ∧ y = .int at' ∧ z = .ref bx ∧ H bx = some (.lst ((ns : List Int).map V.int)) ∧ Rw.Ok P ns.length many r ∧ ∀ H', Same H H' → Q (.int (r.next ns at')) H'
theorem in_two {x : Str} : inV (.str x) [V.str "zero", V.str "below"] = decide (x = "zero" ∨ x = "below") := by
  simp only [inV, eqV, List.any_cons, List.any_nil, Bool.or_false]
  rw [Bool.eq_iff_iff]
  simp
  constructor
  · rintro (z | z)
    · exact .inl z.symm
    · exact .inr z.symm
  · rintro (z | z)
    · exact .inl z.symm
    · exact .inr z.symm
theorem sc_row_behind : FnScope ["row", "at", "boxes"] ["row", "at", "boxes"] (defScope s_row_behind) := ⟨rfl, rfl, rfl, by decide +kernel, rfl, by decide +kernel, by decide +kernel⟩
theorem c_row_behind (T_row_behind : TopFn K mg "row_behind" s_row_behind ["row", "at", "boxes"]) (Cgoes_to_row : Callee P w K mg base "goes_to_row" 1 ["row", "number"] sp_goes) : Callee P w K mg base "row_behind" 2 ["row", "at", "boxes"] sp_behind := by
  refine T_row_behind.ok3 sc_row_behind fun f cdv A outer s H v1 v2 v3 Q E hr h => ?_
  have nd := sc_row_behind.nd
  obtain ⟨Pg, many, r, bx, ns, at', rv, rfl, rfl, hb, ok, k⟩ := h
  refine' go_body [some v1, some (.int at'), some (.ref bx)] rfl ?hb ?hg
  case hb =>
   refine' pss_cons ?zgj ?zgk
   case zgj =>
    refine' ps_if ?zgl ?zgm ?zgn
    case zgl => exact (pt_cmpR op_eq (pe_ix (k_ix (K := K) rfl) (pv 0) pe_int (fun _ _ => rfl)) pe_str (nomark _))
    case zgm => exact (pss_one (ps_ret (pe_ix (k_ix (K := K) rfl) (pv 0) pe_int (fun _ _ => rfl))))
    case zgn => exact pss_nil
   case zgk =>
    refine' pss_cons ?zgo ?zgp
    case zgo =>
     refine' ps_if ?zgq ?zgr ?zgs
     case zgq =>
      refine' PW.pt ?zgt
      case zgt =>
       refine' pw_and ?zgu ?zgv
       case zgu =>
        refine' pt_cmpR ?zgw ?zgx ?zgy ?zgz
        case zgw => exact (k_in (K := K) rfl)
        case zgx => exact (pe_ix (k_ix (K := K) rfl) (pv 0) pe_int (fun _ _ => rfl))
        case zgy => exact (pe_tup (pa_consK pe_str (pa_consK pe_str pa_nil)))
        case zgz => exact (by with_unfolding_all rfl)
       case zgv =>
        refine' pw_and1 ?zha
        case zha =>
         refine' pt_val ?zhb
         case zhb =>
          refine' pe_fn ?zhc ?zhd ?zhe ?zhf
          case zhc => exact Cgoes_to_row
          case zhd => exact (hr.mono (by first | decide | omega))
          case zhe => exact (by rfl)
          case zhf => exact (pa_consN (pv 0) (pa_consS (pe_ix (k_ix (K := K) rfl) (pv 2) (pe_ix (k_ix (K := K) rfl) (pv 0) pe_int (fun _ _ => rfl)) (fun _ _ => rfl)) pa_nil))
     case zgr => exact (pss_one (ps_ret (pe_ix (k_ix (K := K) rfl) (pv 0) pe_int (fun _ _ => rfl))))
     case zgs => exact pss_nil
    case zgp => exact (pss_one (ps_ret (pe_op op_add (pv 1) pe_int)))
  by_cases hj : r.row.1 = "jump"
  · cases r with
    | jump t =>
      walk_at "rd"
      refine rep_row0 rv (rd_c (rd_eqS (rd_bl (ite_dy rfl ?_))))
      walk_at "rd"
      exact rep_rowI (n := 0) rv rfl rfl (k H (Same.refl _))
    | _ => exact absurd hj (by simp only [Rw.row]; decide)
  · walk_at "rd"
    refine rep_row0 rv (rd_c (rd_eqS (rd_bl (ite_dn hj ?_))))
    walk_at "rd"
    refine rep_row0 rv ?_
    walk_at "rd"
    walk_at "mk"; intro p0 hp0
    have s0 := Same.new (o := .tup [V.str "zero", V.str "below"]) hp0
    refine ⟨p0, _, rfl, .inr (SqT.of upd_same), rfl, rfl, ?_⟩
    rw [if_neg Bool.false_ne_true, in_two]
    walk_at "rd"
    by_cases hz : r.row.1 = "zero" ∨ r.row.1 = "below"
    · refine ite_dy hz ?_
      cases r with
      | zero p t =>
        walk_at "rd"
        refine rep_rowI (n := 0) (rv.mono s0.ts) rfl rfl (rd_ixaL (s0 _ _ hb) (box_get ok.1) ?_)
        walk_at "rd"
        refine use2 ⟨_, _, rv.mono s0.ts, rfl, ?_⟩
        rw [if_pos (show (Rw.row (.zero p t)).1 = "zero" from rfl)]
        walk_at "rd"
        refine ite_dd (fun e => ?_) (fun e => ?_)
        · walk_at "rd"
          have q := k _ s0
          rw [show Rw.next ns at' (.zero p t) = t from if_pos e] at q
          exact rep_rowI (n := 1) (rv.mono s0.ts) rfl rfl q
        · walk_at "rd"
          have q := k _ s0
          rw [show Rw.next ns at' (.zero p t) = at' + 1 from if_neg e] at q
          exact q
      | below p t =>
        walk_at "rd"
        refine rep_rowI (n := 0) (rv.mono s0.ts) rfl rfl (rd_ixaL (s0 _ _ hb) (box_get ok.1) ?_)
        walk_at "rd"
        refine use2 ⟨_, _, rv.mono s0.ts, rfl, ?_⟩
        rw [if_neg (show ¬ (Rw.row (.below p t)).1 = "zero" by simp only [Rw.row]; decide)]
        walk_at "rd"
        refine ite_dd (fun e => ?_) (fun e => ?_)
        · walk_at "rd"
          have q := k _ s0
          rw [show Rw.next ns at' (.below p t) = t from if_pos e] at q
          exact rep_rowI (n := 1) (rv.mono s0.ts) rfl rfl q
        · walk_at "rd"
          have q := k _ s0
          rw [show Rw.next ns at' (.below p t) = at' + 1 from if_neg e] at q
          exact q
      | _ => exact absurd hz (by simp only [Rw.row]; decide)
    · refine ite_dn hz ?_
      walk_at "rd"
      have hn : r.next ns at' = at' + 1 := by
        cases r with
        | jump t => exact absurd rfl hj
        | zero p t => exact absurd (.inl rfl) hz
        | below p t => exact absurd (.inr rfl) hz
        | _ => rfl
      rw [hn] at k
      exact k _ s0

end
section
variable {C : Addr}
theorem fz_last {fz : List FZ} {z : FZ} : atI ((fz ++ [z]).map fun z => V.ref z.1.1) (-1) = some (.ref z.1.1) := by
  rw [List.map_append]
  exact atI_neg1
theorem rep_non {H : Hp} : Rep H .non .non := by rw [Rep]
def sp_end_at (C : Addr) : Sp := sp2 fun x y H Q => ∃ p dx pp pf pn pl fz z P h ve r many, x = .ref p ∧ HA C p dx pp pf pn pl (fz ++ [z]) H P h ve ∧ Rep H (rowD (Rw.row r)) y ∧ Rw.Ok P z.2.2.2.length many r ∧ ∀ v H', Same H H' → Rep H' (En.d (endAt h z.2 r)) v → Q v H'
theorem sc_Hand_end_at : FnScope ["self", "row", "frame"] ["self", "row"] (defScope s_Hand_end_at) := ⟨rfl, rfl, rfl, by decide +kernel, rfl, by decide +kernel, by decide +kernel⟩
theorem c_Hand_end_at (B : Blt mg) (G : Glb K mg) (HHand : CHand K C) (T_Hand_end_at : TopM K C "end_at" "Hand.end_at" s_Hand_end_at ["self", "row"]) : MCal P w K mg base C "end_at" 1 ["self", "row"] (sp_end_at C) := by
  refine T_Hand_end_at.ok2 sc_Hand_end_at fun f cdv A outer s H v1 v2 Q E hr hh => ?_
  have nd := sc_Hand_end_at.nd
  obtain ⟨p, dx, pp, pf, pn, pl, fz, z, Pg, h, ve, r, many, rfl, a, rv, ok, k⟩ := hh
  refine' go_body [some (.ref p), some v2, none] rfl ?hb ?hg
  case hb =>
   refine' pss_cons ?zhg ?zhh
   case zhg => exact (ps_setS (i := 2) nd rfl (Or.inl rfl) (pe_ix (k_ix (K := K) rfl) (k_fld (K := K) rfl (pv 0) rfl) (pe_un un_neg pe_int) (fun _ _ => rfl)))
   case zhh =>
    refine' pss_cons ?zhi ?zhj
    case zhi =>
     refine' ps_if ?zhk ?zhl ?zhm
     case zhk =>
      refine' PW.pt ?zhn
      case zhn =>
       refine' pw_and ?zho ?zhp
       case zho => exact (pt_cmpR op_eq (pe_ix (k_ix (K := K) rfl) (pv 1) pe_int (fun _ _ => rfl)) pe_str (nomark _))
       case zhp => exact (pw_and1 (pt_cmpR op_eq (pe_callB (k_len (K := K) rfl) (by rfl) B.b_len bt_len (pa_consA (k_fld (K := K) rfl (pv 0) rfl) pa_nil)) pe_int (nomark _)))
     case zhl =>
      refine' pss_one ?zhq
      case zhq =>
       refine' ps_ret ?zhr
       case zhr =>
        refine' pe_tup ?zhs
        case zhs =>
         refine' pa_consK ?zht ?zhu
         case zht => exact pe_str
         case zhu =>
          refine' pa_consS ?zhv ?zhw
          case zhv =>
           refine' pe_ix ?zhx ?zhy ?zhz ?zia
           case zhx => exact (k_ix (K := K) rfl)
           case zhy => exact (pe_ix (k_ix (K := K) rfl) (pv 2) pe_int (fun _ _ => rfl))
           case zhz => exact (pe_ix (k_ix (K := K) rfl) (pv 1) pe_int (fun _ _ => rfl))
           case zia => exact (fun _ _ => rfl)
          case zhw => exact pa_nil
     case zhm => exact pss_nil
    case zhj =>
     refine' pss_cons ?zib ?zic
     case zib =>
      refine' ps_if ?zid ?zie ?zif
      case zid =>
       refine' PW.pt ?zig
       case zig =>
        refine' pw_and ?zih ?zii
        case zih => exact (pt_cmpR op_eq (pe_ix (k_ix (K := K) rfl) (pv 1) pe_int (fun _ _ => rfl)) pe_str (nomark _))
        case zii => exact (pw_and1 (pt_cmpR op_eq (pe_callB (k_len (K := K) rfl) (by rfl) B.b_len bt_len (pa_consA (k_fld (K := K) rfl (pv 0) rfl) pa_nil)) pe_int (nomark _)))
      case zie =>
       refine' pss_one ?zij
       case zij =>
        refine' ps_ret ?zik
        case zik =>
         refine' pe_tup ?zil
         case zil =>
          refine' pa_consK ?zim ?zin
          case zim => exact pe_str
          case zin => exact (pa_consS (pe_ix (k_ix (K := K) rfl) (pv 2) pe_int (fun _ _ => rfl)) (pa_consS (pe_ix (k_ix (K := K) rfl) (pv 2) pe_int (fun _ _ => rfl)) pa_nil))
      case zif => exact pss_nil
     case zic =>
      refine' pss_cons ?zio ?zip
      case zio =>
       refine' ps_if ?ziq ?zir ?zis
       case ziq =>
        refine' PW.pt ?zit
        case zit =>
         refine' pw_and ?ziu ?ziv
         case ziu => exact (pt_cmpR op_eq (pe_ix (k_ix (K := K) rfl) (pv 1) pe_int (fun _ _ => rfl)) pe_str (nomark _))
         case ziv =>
          refine' pw_and1 ?ziw
          case ziw =>
           refine' pt_cmpR ?zix ?ziy ?ziz ?zja
           case zix => exact op_ge
           case ziy => exact (pe_callB (k_len (K := K) rfl) (by rfl) B.b_len bt_len (pa_consA (k_fld (K := K) rfl (pv 0) rfl) pa_nil))
           case ziz => exact (pe_cint (by rfl) G.c_MOST_FRAMES)
           case zja => exact (nomark _)
       case zir =>
        refine' pss_one ?zjb
        case zjb =>
         refine' ps_ret ?zjc
         case zjc =>
          refine' pe_tup ?zjd
          case zjd =>
           refine' pa_consK ?zje ?zjf
           case zje => exact pe_str
           case zjf => exact (pa_consS (pe_ix (k_ix (K := K) rfl) (pv 2) pe_int (fun _ _ => rfl)) (pa_consS (pe_ix (k_ix (K := K) rfl) (pv 2) pe_int (fun _ _ => rfl)) pa_nil))
       case zis => exact pss_nil
      case zip => exact (pss_one (ps_ret pe_non))
  have hfl : h.frames.length = fz.length + 1 := by rw [← a.fr]; simp
  have z1 := a.z1 (z := z) (by simp)
  have z2 := a.z2 (z := z) (by simp)
  walk_at "rd"
  refine fld_of a.obj HHand.cl HHand.n_frames hf_frames ?_
  walk_at "rd"
  refine rd_ixaL a.fl fz_last ?_
  walk_at "rd"
  refine rep_row0 rv ?_
  walk_at "rd"
  -- the last test, and what is told behind all
  by_cases hb : r.row.1 = "back"
  · refine ite_dy hb ?_
    walk_at "rd"
    refine fld_of a.obj HHand.cl HHand.n_frames hf_frames ?_
    walk_at "rd"
    refine rd_lenL' (SqL.of a.fl) ?_
    rw [List.length_map]
    walk_at "rd"
    cases r with
    | back q =>
      refine ite_dd (fun e => ?_) (fun e => ?_)
      · walk_at "rd"
        refine rd_ixaL (v := .ref z.1.2) z1 rfl ?_
        walk_at "rd"
        refine rep_rowI (n := 0) rv rfl rfl ?_
        refine rd_ixaL z2 (box_get ok) ?_
        walk_at "rd"
        walk_at "mk"; intro t ht
        have he : endAt h z.2 (.back q) = some (.back (boxAt z.2.2.2 q)) := if_pos (by rw [hfl]; simp at e; omega)
        refine k _ _ (Same.new ht) ?_
        rw [he]
        exact rep_tup upd_same (reps_cons (by rw [Rep]) (reps_cons rep_int reps_nil))
      · have he : endAt h z.2 (.back q) = none := if_neg (by rw [hfl]; simp at e; omega)
        rw [he] at k
        walk_at "rd"
        refine rep_row0 rv ?_
        walk_at "rd"
        refine ite_dn (by simp only [Rw.row]; decide) ?_
        walk_at "rd"
        refine rep_row0 rv ?_
        walk_at "rd"
        refine ite_dn (by simp only [Rw.row]; decide) ?_
        walk_at "rd"
        exact k _ _ (Same.refl _) rep_non
    | _ => exact absurd hb (by simp only [Rw.row]; decide)
  · refine ite_dn hb ?_
    walk_at "rd"
    refine rep_row0 rv ?_
    walk_at "rd"
    by_cases ht : r.row.1 = "take"
    · refine ite_dy ht ?_
      walk_at "rd"
      refine fld_of a.obj HHand.cl HHand.n_left hf_left ?_
      walk_at "rd"
      refine rd_lenL' (SqL.of a.ll) ?_
      rw [List.length_map]
      walk_at "rd"
      cases r with
      | take q =>
        refine ite_dd (fun e => ?_) (fun e => ?_)
        · walk_at "rd"
          refine rd_ixaL (v := .int z.2.1) z1 rfl ?_
          walk_at "rd"
          refine rd_ixaL (v := .int z.2.2.1) z1 rfl ?_
          walk_at "rd"
          walk_at "mk"; intro t ht
          have he : endAt h z.2 (.take q) = some (.dry z.2.1 z.2.2.1) := if_pos (List.eq_nil_of_length_eq_zero (by omega))
          refine k _ _ (Same.new ht) ?_
          rw [he]
          exact rep_tup upd_same (reps_cons (by rw [Rep]) (reps_cons rep_int (reps_cons rep_int reps_nil)))
        · have he : endAt h z.2 (.take q) = none := if_neg (fun e' => e (by rw [e']; rfl))
          rw [he] at k
          walk_at "rd"
          refine rep_row0 rv ?_
          walk_at "rd"
          refine ite_dn (by simp only [Rw.row]; decide) ?_
          walk_at "rd"
          exact k _ _ (Same.refl _) rep_non
      | _ => exact absurd ht (by simp only [Rw.row]; decide)
    · refine ite_dn ht ?_
      walk_at "rd"
      refine rep_row0 rv ?_
      walk_at "rd"
      by_cases hc : r.row.1 = "call"
      · refine ite_dy hc ?_
        walk_at "rd"
        refine fld_of a.obj HHand.cl HHand.n_frames hf_frames ?_
        walk_at "rd"
        refine rd_lenL' (SqL.of a.fl) ?_
        rw [List.length_map]
        walk_at "rd"
        cases r with
        | call q g qs =>
          refine ite_dd (fun e => ?_) (fun e => ?_)
          · walk_at "rd"
            refine rd_ixaL (v := .int z.2.1) z1 rfl ?_
            walk_at "rd"
            refine rd_ixaL (v := .int z.2.2.1) z1 rfl ?_
            walk_at "rd"
            walk_at "mk"; intro t ht
            have he : endAt h z.2 (.call q g qs) = some (.deep z.2.1 z.2.2.1) := if_pos (by rw [hfl]; simp at e; omega)
            refine k _ _ (Same.new ht) ?_
            rw [he]
            exact rep_tup upd_same (reps_cons (by rw [Rep]) (reps_cons rep_int (reps_cons rep_int reps_nil)))
          · have he : endAt h z.2 (.call q g qs) = none := if_neg (by rw [hfl]; simp at e; omega)
            rw [he] at k
            walk_at "rd"
            exact k _ _ (Same.refl _) rep_non
        | _ => exact absurd hc (by simp only [Rw.row]; decide)
      · refine ite_dn hc ?_
        have he : endAt h z.2 r = none := by
          cases r with
          | back q => exact absurd rfl hb
          | take q => exact absurd rfl ht
          | call q g qs => exact absurd rfl hc
          | _ => rfl
        rw [he] at k
        walk_at "rd"
        exact k _ _ (Same.refl _) rep_non

end
section
variable {C : Addr}
theorem HA.fresh {p dx pp pf pn pl : Addr} {fz : List FZ} {H : Hp} {Pg : List Df} {h : HS} {ve : V} (a : HA C p dx pp pf pn pl fz H Pg h ve) {b : Addr} (e : H b = none) : b ∉ ownA p pf pn pl fz := fun m => by
  rw [← own_objs (C := C) (dx := dx) (pp := pp) (h := h) (ve := ve)] at m
  obtain ⟨x, hx, rfl⟩ := List.mem_map.mp m
  rw [a.all x hx] at e
  cases e
def sp_do_own (C : Addr) : Sp := sp3 fun x y u H Q => ∃ p dx pp pf pn pl fz z P h ve r many, x = .ref p ∧ HA C p dx pp pf pn pl (fz ++ [z]) H P h ve ∧ Rep H (rowD (Rw.row r)) y ∧ u = .ref z.1.2 ∧ Rw.Ok P z.2.2.2.length many r ∧ MulOk z.2.2.2 ∧ (∀ q, r = .take q → h.left ≠ []) ∧ h.news.length ≤ 200000 ∧
  ∀ H', HA C p dx pp pf pn pl (fz ++ [(z.1, (z.2.1, z.2.2.1, (r.own3 z.2.2.2 h.left h.news).1))]) H' P { h with frames := fz.map (·.2) ++ [(z.2.1, z.2.2.1, (r.own3 z.2.2.2 h.left h.news).1)], left := (r.own3 z.2.2.2 h.left h.news).2.1, news := (r.own3 z.2.2.2 h.left h.news).2.2 } ve → OSame (ownA p pf pn pl (fz ++ [z])) H H' → Q .non H'
theorem sc_Hand_do_own : FnScope ["self", "row", "boxes"] ["self", "row", "boxes"] (defScope s_Hand_do_own) := ⟨rfl, rfl, rfl, by decide +kernel, rfl, by decide +kernel, by decide +kernel⟩
theorem c_Hand_do_own (B : Blt mg) (G : Glb K mg) (HHand : CHand K C) (T_Hand_do_own : TopM K C "do_own" "Hand.do_own" s_Hand_do_own ["self", "row", "boxes"]) (Creckoned : Callee P w K mg base "reckoned" 1 ["row", "boxes"] sp_reck) : MCal P w K mg base C "do_own" 2 ["self", "row", "boxes"] (sp_do_own C) := by
  refine T_Hand_do_own.ok3 sc_Hand_do_own fun f cdv A outer s H v1 v2 v3 Q E hr hh => ?_
  have nd := sc_Hand_do_own.nd
  obtain ⟨p, dx, pp, pf, pn, pl, fz, z, Pg, h, ve, r, many, rfl, a, rv, rfl, ok, mu, tk, few, k⟩ := hh
  refine' go_body [some (.ref p), some v2, some (.ref z.1.2)] rfl ?hb ?hg
  case hb =>
   refine' pss_one ?zjg
   case zjg =>
    refine' ps_if ?zjh ?zji ?zjj
    case zjh => exact (pt_cmpR op_eq (pe_ix (k_ix (K := K) rfl) (pv 1) pe_int (fun _ _ => rfl)) pe_str (nomark _))
    case zji =>
     refine' pss_one ?zjk
     case zjk =>
      refine' ps_expr ?zjl
      case zjl =>
       refine' k_bm (K := K) ?zjm ?zjn ?zjo ?zjp ?zjq ?zjr ?zjs
       case zjm => exact rfl
       case zjn => exact PySem.F.plainAttrs_list
       case zjo => exact PySem.F.slot_list_append
       case zjp => exact PySem.F.type_list_append
       case zjq => exact mt_append
       case zjr => exact (k_fld (K := K) rfl (pv 0) rfl)
       case zjs => exact (pa_consS (pe_ix (k_ix (K := K) rfl) (pv 2) (pe_ix (k_ix (K := K) rfl) (pv 1) pe_int (fun _ _ => rfl)) (fun _ _ => rfl)) pa_nil)
    case zjj =>
     refine' pss_one ?zjt
     case zjt =>
      refine' ps_if ?zju ?zjv ?zjw
      case zju => exact (pt_cmpR op_eq (pe_ix (k_ix (K := K) rfl) (pv 1) pe_int (fun _ _ => rfl)) pe_str (nomark _))
      case zjv =>
       refine' pss_one ?zjx
       case zjx =>
        refine' ps_asg ?zjy ?zjz
        case zjy =>
         refine' k_bm (K := K) ?zka ?zkb ?zkc ?zkd ?zke ?zkf ?zkg
         case zka => exact rfl
         case zkb => exact PySem.F.plainAttrs_list
         case zkc => exact PySem.F.slot_list_pop
         case zkd => exact PySem.F.type_list_pop
         case zke => exact mt_popAt
         case zkf => exact (k_fld (K := K) rfl (pv 0) rfl)
         case zkg => exact (pa_consK pe_int pa_nil)
        case zjz => exact (pg_sub (pv 2) (pe_ix (k_ix (K := K) rfl) (pv 1) pe_int (fun _ _ => rfl)) set_list)
      case zjw =>
       refine' pss_one ?zkh
       case zkh =>
        refine' ps_if ?zki ?zkj ?zkk
        case zki =>
         refine' pt_cmpR ?zkl ?zkm ?zkn ?zko
         case zkl => exact (k_in (K := K) rfl)
         case zkm => exact (pe_ix (k_ix (K := K) rfl) (pv 1) pe_int (fun _ _ => rfl))
         case zkn => exact (pe_ctup (K := K) (by rfl) G.c_RECKONINGS)
         case zko => exact (by with_unfolding_all rfl)
        case zkj =>
         refine' pss_one ?zkp
         case zkp =>
          refine' ps_asg ?zkq ?zkr
          case zkq => exact (pe_fn Creckoned (hr.mono (by first | decide | omega)) (by rfl) (pa_consN (pv 1) (pa_consN (pv 2) pa_nil)))
          case zkr => exact (pg_sub (pv 2) (pe_ix (k_ix (K := K) rfl) (pv 1) pe_int (fun _ _ => rfl)) set_list)
        case zkk => exact pss_nil
  have z2 := a.z2 (z := z) (by simp)
  have hz : h = { h with frames := fz.map (·.2) ++ [(z.2.1, z.2.2.1, z.2.2.2)], left := h.left, news := h.news } := by
    have := a.fr
    rw [List.map_append] at this
    cases h
    simp at this ⊢
    exact this.symm
  walk_at "rd"
  refine rep_row0 rv ?_
  walk_at "rd"
  -- nothing is done
  have nix : r.own3 z.2.2.2 h.left h.news = (z.2.2.2, h.left, h.news) → Q .non H := fun e => by
    rw [e] at k
    refine k H ?_ (OSame.refl _ _)
    have a' := a
    rw [hz] at a'
    exact a'
  by_cases hb : r.row.1 = "tell"
  · refine ite_dy hb ?_
    cases r with
    | tell q =>
      walk_at "rd"
      refine fld_of a.obj HHand.cl HHand.n_news hf_news ⟨.inl ⟨rfl, _, SqL.of a.nl⟩, ?_⟩
      walk_at "rd"
      refine rep_rowI (n := 0) rv rfl rfl ?_
      refine rd_ixaL z2 (box_get ok) ?_
      walk_at "rd"
      refine rd_append a.nl (Nat.lt_of_le_of_lt (show (h.news.map V.int).length ≤ 200000 by rw [List.length_map]; exact few) (by rw [sizeLine_eq]; decide)) ?_
      have e : h.news.map V.int ++ [V.int (boxAt z.2.2.2 q)] = (h.news ++ [boxAt z.2.2.2 q]).map V.int := by simp
      rw [e]
      obtain ⟨a1, o1⟩ := a.setNews (h.news ++ [boxAt z.2.2.2 q])
      walk_at "rd"
      refine k _ ?_ o1
      rw [hz] at a1
      exact a1
    | _ => exact absurd hb (by simp only [Rw.row]; decide)
  · refine ite_dn hb ?_
    walk_at "rd"
    refine rep_row0 rv ?_
    walk_at "rd"
    by_cases ht : r.row.1 = "take"
    · refine ite_dy ht ?_
      cases r with
      | take q =>
        obtain ⟨n, rest, hl⟩ : ∃ n rest, h.left = n :: rest := by
          cases e : h.left with
          | nil => exact absurd e (tk q rfl)
          | cons n rest => exact ⟨n, rest, rfl⟩
        walk_at "rd"
        refine fld_of a.obj HHand.cl HHand.n_left hf_left ⟨.inl ⟨rfl, _, SqL.of a.ll⟩, ?_⟩
        walk_at "rd"
        refine ⟨pl, _, 0, 0, .int n, rfl, rfl, a.ll, by decide, by decide, ?_, by rw [hl]; rfl, ?_⟩
        · rw [hl]; simp [seqIndex?]
        have e : (h.left.map V.int).eraseIdx 0 = rest.map V.int := by rw [hl]; rfl
        rw [e]
        obtain ⟨a1, o1⟩ := a.setLeft rest
        have rv1 := rv.mono (o1.ts a.notup)
        walk_at "rd"
        refine rep_rowI (n := 0) rv1 rfl rfl ?_
        have z2' := a1.z2 (z := z) (by simp)
        have hq : q.toNat < z.2.2.2.length := by have := ok.1; have := ok.2; omega
        refine rd_setL (k := q.toNat) z2' (ixN_at (by have := ok.1; omega) (by rw [List.length_map]; exact hq)) ?_
        rw [map_setAt]
        obtain ⟨a2, o2⟩ := a1.setBox (setAt z.2.2.2 q n)
        refine k _ ?_ (o1.trans o2 fun x hx => .inl hx)
        have e3 : Rw.own3 z.2.2.2 h.left h.news (.take q) = (setAt z.2.2.2 q n, rest, h.news) := by simp [Rw.own3, hl]
        rw [e3]
        exact a2
      | _ => exact absurd ht (by simp only [Rw.row]; decide)
    · refine ite_dn ht ?_
      walk_at "rd"
      refine rep_row0 rv ?_
      refine rd_ct fun ac hct => ?_
      refine ⟨ac, _, rfl, .inr (hct H), rfl, rfl, ?_⟩
      rw [if_neg Bool.false_ne_true]
      have calc_way : ∀ q v, r.calc z.2.2.2 = some (q, v) → In0 q z.2.2.2.length → r.row.2[0]? = some (.int q) → r.own3 z.2.2.2 h.left h.news = (setAt z.2.2.2 q v, h.left, h.news) → inV (.str r.row.1) [V.str "put", V.str "copy", V.str "plus", V.str "less", V.str "times"] = true →
          ∃ k', V.bl (inV (.str r.row.1) [V.str "put", V.str "copy", V.str "plus", V.str "less", V.str "times"]) = V.bl k' ∧ if k' = true then tAsg (tCall sp_reck [] E0 (tCons (tVar 1) (tCons (tVar 2) tNil))) (gSub (tVar 2) (tOp (rIxA K) (tVar 1) (tC (.int 1))) rSetL) { nx := fun _ H' => Q .non H', rt := Q } [some (.ref p), some v2, some (.ref z.1.2)] H else Q .non H := by
        intro q v hc hq hr0 ho hin
        rw [hin]
        refine ⟨true, rfl, iteT ?_⟩
        walk_at "rd"
        refine use2 ⟨Pg, many, r, z.1.2, z.2.2.2, q, v, rv, rfl, z2, ok, mu, hc, ?_⟩
        walk_at "rd"
        refine rep_rowI (n := 0) rv rfl hr0 ?_
        have hq' : q.toNat < z.2.2.2.length := by have := hq.1; have := hq.2; omega
        refine rd_setL (k := q.toNat) z2 (ixN_at (by have := hq.1; omega) (by rw [List.length_map]; exact hq')) ?_
        rw [map_setAt]
        obtain ⟨a2, o2⟩ := a.setBox (setAt z.2.2.2 q v)
        refine k _ ?_ o2
        rw [ho]
        exact a2
      have no_way : r.own3 z.2.2.2 h.left h.news = (z.2.2.2, h.left, h.news) → inV (.str r.row.1) [V.str "put", V.str "copy", V.str "plus", V.str "less", V.str "times"] = false →
          ∃ k', V.bl (inV (.str r.row.1) [V.str "put", V.str "copy", V.str "plus", V.str "less", V.str "times"]) = V.bl k' ∧ if k' = true then tAsg (tCall sp_reck [] E0 (tCons (tVar 1) (tCons (tVar 2) tNil))) (gSub (tVar 2) (tOp (rIxA K) (tVar 1) (tC (.int 1))) rSetL) { nx := fun _ H' => Q .non H', rt := Q } [some (.ref p), some v2, some (.ref z.1.2)] H else Q .non H := by
        intro ho hin
        rw [hin]
        exact ⟨false, rfl, iteF (nix ho)⟩
      cases r with
      | put q n => exact calc_way q n rfl ok.1 rfl rfl (by simp only [Rw.row]; decide)
      | copy q q1 => exact calc_way q _ rfl ok.1 rfl rfl (by simp only [Rw.row]; decide)
      | plus q q1 q2 => exact calc_way q _ rfl ok.1 rfl rfl (by simp only [Rw.row]; decide)
      | less q q1 q2 => exact calc_way q _ rfl ok.1 rfl rfl (by simp only [Rw.row]; decide)
      | times q q1 n => exact calc_way q _ rfl ok.1 rfl rfl (by simp only [Rw.row]; decide)
      | take q => exact absurd rfl ht
      | tell q => exact absurd rfl hb
      | jump t => exact no_way rfl (by simp only [Rw.row]; decide)
      | zero q t => exact no_way rfl (by simp only [Rw.row]; decide)
      | below q t => exact no_way rfl (by simp only [Rw.row]; decide)
      | call q g qs => exact no_way rfl (by simp only [Rw.row]; decide)
      | back q => exact no_way rfl (by simp only [Rw.row]; decide)

end
end
end My

end
section
set_option Elab.async false
set_option linter.all false
set_option maxRecDepth 100000
set_option maxHeartbeats 4000000

namespace My
open PySem L2
local macro_rules | `(tactic| walk_at "rd1") => `(tactic| (first | ((with_reducible refine' rd_var ?e ?_); (case e => exact rfl)) | with_reducible refine rd_c ?_ | with_reducible refine rd_op ?_ | with_reducible refine rd_un ?_ | with_reducible refine rd_seq ?_ | with_reducible refine rd_asg ?_ | with_reducible refine rd_gname ?_ | with_reducible refine rd_ret ?_ | with_reducible refine rd_drop ?_ | with_reducible refine rd_next ?_ | with_reducible refine rd_if ?_ | with_reducible refine rd_test ?_ | with_reducible refine rd_tb ?_ | with_reducible refine rd_and ?_ | with_reducible refine rd_or ?_ | with_reducible refine rd_not ?_ | with_reducible refine rd_true ?_ | with_reducible refine rd_andV ?_ | with_reducible refine rd_orV ?_ | with_reducible refine rd_notV ?_ | with_reducible refine rd_ifE ?_ | with_reducible refine rd_chain ?_ | with_reducible refine rd_nil ?_ | with_reducible refine rd_cons ?_ | with_reducible refine rd_cb ?_ | with_reducible refine rd_call ?_ | with_reducible refine rd_I0 ?_ | with_reducible refine rd_U ?_ | with_reducible refine rd_eqI ?_ | with_reducible refine rd_neI ?_ | with_reducible refine rd_eqS ?_ | with_reducible refine rd_neS ?_ | with_reducible refine rd_eqB ?_ | with_reducible refine rd_neB ?_ | with_reducible refine rd_bl ?_ | with_reducible refine rd_int ?_ | with_reducible refine rd_tup ?_ | with_reducible refine rd_lst ?_ | with_reducible refine rd_gsub ?_ | with_reducible refine rd_slice ?_ | with_reducible refine rd_nopart ?_ | with_reducible refine rd_part ?_ | with_reducible refine rd_bm ?_ | with_reducible refine rd_bm0 ?_ | with_reducible refine rd_comp ?_ | with_reducible refine rd_itup ?_ | with_reducible refine rd_ilist ?_ | with_reducible refine rd_irng ?_ | with_reducible refine rd_gcons ?_ | with_reducible refine rd_gnil ?_ | with_reducible refine rd_for ?_ | with_reducible refine rd_abs ?_ | with_reducible refine rd_max ?_ | with_reducible refine rd_min ?_ | with_reducible refine rd_intB ?_ | with_reducible refine rd_dput ?_ | with_reducible refine rd_dget2 ?_ | with_reducible refine rd_dget ?_ | with_reducible refine rd_fld ?_ | with_reducible refine rd_sfld ?_ | with_reducible refine rd_meth ?_ | with_reducible refine rd_make ?_ | with_reducible refine rd_isN ?_ | with_reducible refine rd_notN ?_ | with_reducible refine rd_izip ?_ | with_reducible refine iteNT ?_ | with_reducible refine iteNF ?_ | with_reducible refine iteF ?_ | with_reducible refine iteT ?_))
local macro_rules | `(tactic| walk_at "rd") => `(tactic| (repeat walk_at "rd1"))
local macro_rules | `(tactic| walk_at "mk") => `(tactic| refine ⟨mk_le rfl, ?_⟩)

section
variable {P : Program} {w : World} {K : PySem.W.Frag} {mg : Str → Option Value} {base : Heap}
section
variable {C : Addr}
def sp_give (C : Addr) : Sp := sp2 fun x y H Q => ∃ p dx pp pf pn pl fz z P h ve n d p2 g qs, x = .ref p ∧ HA C p dx pp pf pn pl (fz ++ [z]) H P h ve ∧ y = .int n ∧ 0 ≤ z.2.1 ∧ P[z.2.1.toNat]? = some d ∧ 0 ≤ z.2.2.1 ∧ d.rows[z.2.2.1.toNat]? = some (.call p2 g qs) ∧ In0 p2 z.2.2.2.length ∧
  ∀ H', HA C p dx pp pf pn pl (fz ++ [(z.1, (z.2.1, z.2.2.1 + 1, setAt z.2.2.2 p2 n))]) H' P { h with frames := fz.map (·.2) ++ [(z.2.1, z.2.2.1 + 1, setAt z.2.2.2 p2 n)] } ve → OSame (ownA p pf pn pl (fz ++ [z])) H H' → Q .non H'
theorem sc_Hand_give_back : FnScope ["self", "number", "frame", "call"] ["self", "number"] (defScope s_Hand_give_back) := ⟨rfl, rfl, rfl, by decide +kernel, rfl, by decide +kernel, by decide +kernel⟩
theorem c_Hand_give_back (HHand : CHand K C) (T_Hand_give_back : TopM K C "give_back" "Hand.give_back" s_Hand_give_back ["self", "number"]) (Crow_of : Callee P w K mg base "row_of" 1 ["program", "frame"] sp_row_of) : MCal P w K mg base C "give_back" 2 ["self", "number"] (sp_give C) := by
  refine T_Hand_give_back.ok2 sc_Hand_give_back fun f cdv A outer s H v1 v2 Q E hr hh => ?_
  have nd := sc_Hand_give_back.nd
  obtain ⟨p, dx, pp, pf, pn, pl, fz, z, Pg, h, ve, n, d, p2, g, qs, rfl, a, rfl, f0, ed, a0, er, hp2, k⟩ := hh
  refine' go_body [some (.ref p), some (.int n), none, none] rfl ?hb ?hg
  case hb =>
   refine' pss_cons ?zb ?zc
   case zb => exact (ps_setS (i := 2) nd rfl (Or.inl rfl) (pe_ix (k_ix (K := K) rfl) (k_fld (K := K) rfl (pv 0) rfl) (pe_un un_neg pe_int) (fun _ _ => rfl)))
   case zc =>
    refine' pss_cons ?zd ?ze
    case zd =>
     refine' ps_setC (i := 3) ?zf ?zg ?zh ?zi
     case zf => exact nd
     case zg => exact rfl
     case zh => exact (Or.inl rfl)
     case zi => exact (pe_fn Crow_of (hr.mono (by first | decide | omega)) (by rfl) (pa_consA (k_fld (K := K) rfl (pv 0) rfl) (pa_consN (pv 2) pa_nil)))
    case ze =>
     refine' pss_cons ?zj ?zk
     case zj =>
      refine' ps_asg ?zl ?zm
      case zl => exact (pv 1)
      case zm => exact (pg_sub (pe_ix (k_ix (K := K) rfl) (pv 2) pe_int (fun _ _ => rfl)) (pe_ix (k_ix (K := K) rfl) (pv 3) pe_int (fun _ _ => rfl)) set_list)
     case zk => exact (pss_one (ps_asg (pe_op op_add (pe_ix (k_ix (K := K) rfl) (pv 2) pe_int (fun _ _ => rfl)) pe_int) (pg_sub (pv 2) pe_int set_list)))
  have z1 := a.z1 (z := z) (by simp)
  have z2 := a.z2 (z := z) (by simp)
  walk_at "rd"
  refine fld_of a.obj HHand.cl HHand.n_frames hf_frames ?_
  walk_at "rd"
  refine rd_ixaL a.fl fz_last ?_
  walk_at "rd"
  refine fld_of a.obj HHand.cl HHand.n_program hf_program ?_
  walk_at "rd"
  refine use2 ⟨_, Pg, pp, z.1.1, z.2.1, z.2.2.1, z.1.2, d, .call p2 g qs, rfl, rfl, a.pg, z1, f0, ed, a0, er, fun v rv => ?_⟩
  walk_at "rd"
  refine rd_ixaL (v := .ref z.1.2) z1 rfl ?_
  walk_at "rd"
  refine rep_rowI (n := 0) rv rfl rfl ?_
  have hq : p2.toNat < z.2.2.2.length := by have := hp2.1; have := hp2.2; omega
  refine rd_setL (k := p2.toNat) z2 (ixN_at (by have := hp2.1; omega) (by rw [List.length_map]; exact hq)) ?_
  rw [map_setAt]
  obtain ⟨a1, o1⟩ := a.setBox (setAt z.2.2.2 p2 n)
  have w1 := a1.z1 (z := (z.1, (z.2.1, z.2.2.1, setAt z.2.2.2 p2 n))) (by simp)
  walk_at "rd"
  refine rd_ixaL (v := .int z.2.2.1) w1 rfl ?_
  walk_at "rd"
  refine rd_setL (k := 1) w1 rfl ?_
  obtain ⟨a2, o2⟩ := a1.setRow (z.2.2.1 + 1)
  walk_at "rd"
  refine k _ ?_ (o1.trans o2 fun x hx => .inl ?_)
  · have e : ({ h with frames := fz.map (·.2) ++ [(z.2.1, z.2.2.1 + 1, setAt z.2.2.2 p2 n)] } : HS) = { ({ h with frames := fz.map (·.2) ++ [(z.2.1, z.2.2.1, setAt z.2.2.2 p2 n)] } : HS) with frames := fz.map (·.2) ++ [(z.2.1, z.2.2.1 + 1, setAt z.2.2.2 p2 n)] } := rfl
    rw [e]
    exact a2
  · rw [own_app] at hx ⊢
    exact hx
theorem next_own {r : Rw} {bx l n : List Int} {at' : Int} : r.next (r.own3 bx l n).1 at' = r.next bx at' := by cases r <;> rfl
theorem own_len {r : Rw} {bx l n : List Int} : (r.own3 bx l n).1.length = bx.length := by cases r <;> simp [Rw.own3, Rw.calc, setAt]
theorem ne_pf {p pf pn pl : Addr} {fz : List FZ} (h : (ownA p pf pn pl fz).Nodup) {z : FZ} (m : z ∈ fz) : z.1.2 ≠ pf ∧ z.1.1 ≠ pf := by
  unfold ownA at h
  obtain ⟨_, _, n3⟩ := List.nodup_append.mp h
  exact ⟨fun e => n3 pf (by simp) z.1.2 (List.mem_flatMap.mpr ⟨z, m, by simp⟩) e.symm, fun e => n3 pf (by simp) z.1.1 (List.mem_flatMap.mpr ⟨z, m, by simp⟩) e.symm⟩
/-- what is told of frames, numbers left and news -/
def withT (h : HS) (t : List Fr × List Int × List Int) : HS := { h with frames := t.1, left := t.2.1, news := t.2.2 }
def sp_do_row (C : Addr) : Sp := sp2 fun x y H Q => ∃ p dx pp pf pn pl fz z P h ve d r, x = .ref p ∧ HA C p dx pp pf pn pl (fz ++ [z]) H P h ve ∧ Rep H (rowD (Rw.row r)) y ∧ PgOk P ∧ 0 ≤ z.2.1 ∧ P[z.2.1.toNat]? = some d ∧ d.rows[z.2.2.1.toNat]? = some r ∧ (z.2.2.2.length : Int) = d.boxes ∧ MulOk z.2.2.2 ∧ endAt h z.2 r = none ∧ h.news.length ≤ 200000 ∧ fz.length ≤ 20 ∧
  (∀ fz0 w, fz = fz0 ++ [w] → ∃ d2 p2 g qs, 0 ≤ w.2.1 ∧ P[w.2.1.toNat]? = some d2 ∧ 0 ≤ w.2.2.1 ∧ d2.rows[w.2.2.1.toNat]? = some (.call p2 g qs) ∧ In0 p2 w.2.2.2.length) ∧
  ∀ fz' H', HA C p dx pp pf pn pl fz' H' P (withT h (eff P (fz.map (·.2)) z.2 h.left h.news r)) ve → OSame (ownA p pf pn pl (fz ++ [z])) H H' → (∀ x ∈ ownA p pf pn pl fz', x ∈ ownA p pf pn pl (fz ++ [z]) ∨ H x = none) → Q .non H'
theorem sc_Hand_do_row : FnScope ["self", "row", "frame", "boxes"] ["self", "row"] (defScope s_Hand_do_row) := ⟨rfl, rfl, rfl, by decide +kernel, rfl, by decide +kernel, by decide +kernel⟩
theorem c_Hand_do_row (B : Blt mg) (HHand : CHand K C) (T_Hand_do_row : TopM K C "do_row" "Hand.do_row" s_Hand_do_row ["self", "row"]) (Cnew_frame : Callee P w K mg base "new_frame" 1 ["program", "f", "numbers"] (sp_newfr K)) (Crow_behind : Callee P w K mg base "row_behind" 2 ["row", "at", "boxes"] sp_behind)
    (MHand_give_back : MCal P w K mg base C "give_back" 2 ["self", "number"] (sp_give C)) (MHand_do_own : MCal P w K mg base C "do_own" 2 ["self", "row", "boxes"] (sp_do_own C)) : MCal P w K mg base C "do_row" 3 ["self", "row"] (sp_do_row C) := by
  refine T_Hand_do_row.ok2 sc_Hand_do_row fun f cdv A outer s H v1 v2 Q E hr hh => ?_
  have nd := sc_Hand_do_row.nd
  obtain ⟨p, dx, pp, pf, pn, pl, fz, z, Pg, h, ve, d, r, rfl, a, rv, PO, f0, ed, er, hbx, mu, hend, few, hfz, hw, k⟩ := hh
  have DO := PO.2.2 d (List.mem_of_getElem? ed)
  have ok : r.Ok Pg z.2.2.2.length d.rows.length := by rw [hbx]; exact DO.rows r (List.mem_of_getElem? er)
  refine' go_body [some (.ref p), some v2, none, none] rfl ?hb ?hg
  case hb =>
   refine' pss_cons ?zn ?zo
   case zn => exact (ps_setS (i := 2) nd rfl (Or.inl rfl) (pe_ix (k_ix (K := K) rfl) (k_fld (K := K) rfl (pv 0) rfl) (pe_un un_neg pe_int) (fun _ _ => rfl)))
   case zo =>
    refine' pss_cons ?zp ?zq
    case zp => exact (ps_setS (i := 3) nd rfl (Or.inr rfl) (pe_ix (k_ix (K := K) rfl) (pv 2) pe_int (fun _ _ => rfl)))
    case zq =>
     refine' pss_one ?zr
     case zr =>
      refine' ps_if ?zs ?zt ?zu
      case zs => exact (pt_cmpR op_eq (pe_ix (k_ix (K := K) rfl) (pv 1) pe_int (fun _ _ => rfl)) pe_str (nomark _))
      case zt =>
       refine' pss_one ?zv
       case zv =>
        refine' ps_expr ?zw
        case zw =>
         refine' k_bm (K := K) ?zx ?zy ?zz ?zba ?zbb ?zbc ?zbd
         case zx => exact rfl
         case zy => exact PySem.F.plainAttrs_list
         case zz => exact PySem.F.slot_list_append
         case zba => exact PySem.F.type_list_append
         case zbb => exact mt_append
         case zbc => exact (k_fld (K := K) rfl (pv 0) rfl)
         case zbd =>
          refine' pa_consC ?zbe ?zbf
          case zbe =>
           refine' pe_fn ?zbg ?zbh ?zbi ?zbj
           case zbg => exact Cnew_frame
           case zbh => exact (hr.mono (by first | decide | omega))
           case zbi => exact (by rfl)
           case zbj =>
            refine' pa_consA ?zbk ?zbl
            case zbk => exact (k_fld (K := K) rfl (pv 0) rfl)
            case zbl =>
             refine' pa_consS ?zbm ?zbn
             case zbm => exact (pe_ix (k_ix (K := K) rfl) (pv 1) pe_int (fun _ _ => rfl))
             case zbn =>
              refine' pa_consM ?zbo ?zbp
              case zbo =>
               refine' pe_comp (LN := ["q"]) (FN := ["boxes"]) (fr := [3]) ?zbq ?zbr ?zbs ?zbt ?zbu ?zbv
               case zbq => exact rfl
               case zbr => exact (bk_of (by rfl))
               case zbs => exact (k_pi_tup (K := K) rfl (pe_ix (k_ix (K := K) rfl) (pv 1) pe_int (fun _ _ => rfl)))
               case zbt =>
                intro cl C fp pins s H
                exact (pg_name (i := 0) (show ((["q"] : List Str) ++ (["boxes"] : List Str)).Nodup by decide +kernel) rfl (Or.inl rfl))
               case zbu =>
                intro cl C fp pins s H
                exact pts_nil
               case zbv =>
                intro cl C fp pins s H
                exact (pe_ix (k_ix (K := K) rfl) (pv 1) (pv 0) (fun _ _ => rfl))
              case zbp => exact pa_nil
          case zbf => exact pa_nil
      case zu =>
       refine' pss_one ?zbw
       case zbw =>
        refine' ps_if ?zbx ?zby ?zbz
        case zbx => exact (pt_cmpR op_eq (pe_ix (k_ix (K := K) rfl) (pv 1) pe_int (fun _ _ => rfl)) pe_str (nomark _))
        case zby =>
         refine' pss_cons ?zca ?zcb
         case zca => exact (ps_expr (k_bm0 (K := K) rfl PySem.F.plainAttrs_list PySem.F.slot_list_pop PySem.F.type_list_pop mt_pop (k_fld (K := K) rfl (pv 0) rfl)))
         case zcb =>
          refine' pss_one ?zcc
          case zcc =>
           refine' ps_expr ?zcd
           case zcd =>
            refine' pe_m ?zce ?zcf ?zcg ?zch ?zci
            case zce => exact MHand_give_back
            case zcf => exact HHand.cl
            case zcg => exact (hr.mono (by first | decide | omega))
            case zch => exact (pv 0)
            case zci => exact (pa_consS (pe_ix (k_ix (K := K) rfl) (pv 3) (pe_ix (k_ix (K := K) rfl) (pv 1) pe_int (fun _ _ => rfl)) (fun _ _ => rfl)) pa_nil)
        case zbz =>
         refine' pss_cons ?zcj ?zck
         case zcj => exact (ps_expr (pe_m MHand_do_own HHand.cl (hr.mono (by first | decide | omega)) (pv 0) (pa_consN (pv 1) (pa_consN (pv 3) pa_nil))))
         case zck =>
          refine' pss_one ?zcl
          case zcl =>
           refine' ps_asg ?zcm ?zcn
           case zcm =>
            refine' pe_fn ?zco ?zcp ?zcq ?zcr
            case zco => exact Crow_behind
            case zcp => exact (hr.mono (by first | decide | omega))
            case zcq => exact (by rfl)
            case zcr => exact (pa_consN (pv 1) (pa_consS (pe_ix (k_ix (K := K) rfl) (pv 2) pe_int (fun _ _ => rfl)) (pa_consN (pv 3) pa_nil)))
           case zcn => exact (pg_sub (pv 2) pe_int set_list)
  have z1 := a.z1 (z := z) (by simp)
  have z2 := a.z2 (z := z) (by simp)
  have hfr : h.frames = fz.map (·.2) ++ [z.2] := by rw [← a.fr]; simp
  walk_at "rd"
  refine fld_of a.obj HHand.cl HHand.n_frames hf_frames ?_
  walk_at "rd"
  refine rd_ixaL a.fl fz_last ?_
  walk_at "rd"
  refine rd_ixaL (v := .ref z.1.2) z1 rfl ?_
  walk_at "rd"
  refine rep_row0 rv ?_
  walk_at "rd"
  by_cases hc : r.row.1 = "call"
  · refine ite_dy hc ?_
    cases r with
    | call q g qs =>
      obtain ⟨hq, ⟨d2, g0, ed2, hl2⟩, hqs⟩ := ok
      have D2 := PO.2.2 d2 (List.mem_of_getElem? ed2)
      walk_at "rd"
      refine fld_of a.obj HHand.cl HHand.n_frames hf_frames ⟨.inl ⟨rfl, _, SqL.of a.fl⟩, ?_⟩
      walk_at "rd"
      refine fld_of a.obj HHand.cl HHand.n_program hf_program ?_
      walk_at "rd"
      refine rep_rowI (n := 1) rv rfl rfl ?_
      walk_at "rd"
      refine rd_ixR (n := 3) rv rfl rfl fun vq rq => ?_
      refine itK_rep rq fun aq xs eq ha rx => ?_
      have hlen := rx.length
      rw [List.length_map] at hlen
      have hq1000 : qs.length ≤ 1000 := by have := D2.t; have := D2.b; omega
      refine cw_tup (xs := xs) (small_le (by omega)) (fun i ys σ H1 => H1 = H ∧ (∃ x1, σ = [x1, some (.ref z.1.2)]) ∧ ys = ((qs.take i).map (boxAt z.2.2.2)).map V.int) ⟨rfl, ⟨none, rfl⟩, rfl⟩ (fun i ys σ H1 _ ⟨e, _⟩ => by rw [e]; exact SqT.of ha) ?_ ?_
      · rintro i x ys σ H1 hx hle hlt ⟨rfl, ⟨x1, rfl⟩, rfl⟩
        obtain ⟨dd', ed', rd'⟩ := rx.get' hx
        rw [List.getElem?_map] at ed'
        obtain ⟨qi, eqi, rfl⟩ := Option.map_eq_some_iff.mp ed'
        obtain rfl := rep_int_inv rd'
        walk_at "rd"
        refine rd_ixaL z2 (box_get (hqs qi (List.mem_of_getElem? eqi))) ?_
        refine ⟨hlt, by simpa using hle, rfl, ⟨_, rfl⟩, ?_⟩
        rw [List.take_add_one, eqi]
        simp
      · rintro ys σ H1 hyl ⟨hH, ⟨x1, rfl⟩, rfl⟩ pa hpa
        have hH := hH.symm
        subst hH
        rw [← hlen, List.take_length]
        have s1 := Same.new (o := .lst ((qs.map (boxAt z.2.2.2)).map V.int)) hpa
        have ha1 : upd H pa (.lst ((qs.map (boxAt z.2.2.2)).map V.int)) pa = some (.lst ((qs.map (boxAt z.2.2.2)).map V.int)) := upd_same
        generalize upd H pa (HO.lst ((qs.map (boxAt z.2.2.2)).map V.int)) = H1 at s1 ha1
        have a1 := a.mono s1
        walk_at "rd"
        refine use3 ⟨_, Pg, pp, g, pa, qs.map (boxAt z.2.2.2), d2, rfl, rfl, rfl, a1.pg, g0, ed2, ⟨by have := D2.b; omega, D2.b.2⟩, ha1, by have := D2.t; simp; omega, fun fr bx H2 hfr0 hbx0 nfb s2 h2f h2b => ?_⟩
        have a2 := a1.mono s2
        walk_at "rd"
        refine rd_append a2.fl (Nat.lt_of_le_of_lt (show ((fz ++ [z]).map fun z => V.ref z.1.1).length ≤ 1000 by simp; omega) (by decide)) ?_
        have hnf : newFr Pg g (qs.map (boxAt z.2.2.2)) = (g, 0, qs.map (boxAt z.2.2.2) ++ List.replicate (d2.boxes.toNat - (qs.map (boxAt z.2.2.2)).length) 0) := by
          unfold newFr boxesOf
          rw [ed2]
          rfl
        have m1 : PgAt [fr, bx] H2 Pg pp := a1.pg.by (OSame.of s2) s2.ts fun x hx => by
          simp only [List.mem_cons, List.not_mem_nil, or_false] at hx
          rcases hx with rfl | rfl
          · exact .inr hfr0
          · exact .inr hbx0
        have n1 : fr ∉ ownA p pf pn pl (fz ++ [z]) := HA.fresh a1 hfr0
        have n2 : bx ∉ ownA p pf pn pl (fz ++ [z]) := HA.fresh a1 hbx0
        obtain ⟨a3, o3⟩ := a2.push (f := newFr Pg g (qs.map (boxAt z.2.2.2))) (by rw [hnf]; exact h2f) (by rw [hnf]; exact h2b) n1 n2 nfb m1
        walk_at "rd"
        refine k (fz ++ [z] ++ [((fr, bx), newFr Pg g (qs.map (boxAt z.2.2.2)))]) _ ?_ ((OSame.of (s1.trans s2)).trans o3 fun x hx => .inl hx) fun x hx => ?_
        · have e : withT h (eff Pg (fz.map (·.2)) z.2 h.left h.news (.call q g qs)) = { h with frames := h.frames ++ [newFr Pg g (qs.map (boxAt z.2.2.2))] } := by
            simp [withT, eff, hfr]
          rw [e]
          exact a3
        · rw [own_app] at hx
          rcases List.mem_append.mp hx with hx | hx
          · exact .inl hx
          · simp only [List.mem_cons, List.not_mem_nil, or_false] at hx
            rcases hx with rfl | rfl
            · exact .inr (s1.free hfr0)
            · exact .inr (s1.free hbx0)
    | _ => exact absurd hc (by simp only [Rw.row]; decide)
  · refine ite_dn hc ?_
    walk_at "rd"
    refine rep_row0 rv ?_
    walk_at "rd"
    by_cases hb : r.row.1 = "back"
    · refine ite_dy hb ?_
      cases r with
      | back q =>
        have hne : h.frames.length ≠ 1 := fun e => by
          have : endAt h z.2 (.back q) = some (.back (boxAt z.2.2.2 q)) := if_pos e
          rw [this] at hend
          cases hend
        obtain ⟨fz0, wz, hfz0⟩ : ∃ fz0 w, fz = fz0 ++ [w] := by
          rcases List.eq_nil_or_concat fz with e | ⟨l, x, e⟩
          · rw [e] at hfr
            rw [hfr] at hne
            simp at hne
          · exact ⟨l, x, by simpa using e⟩
        subst hfz0
        obtain ⟨d2, p2, g, qs, w0, ew, w1, erw, hp2⟩ := hw fz0 wz rfl
        walk_at "rd"
        refine fld_of a.obj HHand.cl HHand.n_frames hf_frames ⟨.inl ⟨rfl, _, SqL.of a.fl⟩, ?_⟩
        refine ⟨pf, _, .ref z.1.1, rfl, rfl, a.fl, by simp, ?_⟩
        have edl : ((fz0 ++ [wz] ++ [z]).map fun z => V.ref z.1.1).dropLast = (fz0 ++ [wz]).map fun z => V.ref z.1.1 := by simp
        rw [edl]
        obtain ⟨a1, o1⟩ := a.pop
        have z2' : upd H pf (.lst ((fz0 ++ [wz]).map fun z => V.ref z.1.1)) z.1.2 = some (.lst (z.2.2.2.map V.int)) := by
          rw [upd_ne (ne_pf a.nd (z := z) (by simp)).1]
          exact z2
        have rv1 := rv.mono (o1.ts a.notup)
        walk_at "rd"
        refine meth_of a1.obj hm_give_back ?_
        walk_at "rd"
        refine rep_rowI (n := 0) rv1 rfl rfl ?_
        refine rd_ixaL z2' (box_get ok) ?_
        walk_at "rd"
        refine use2 ⟨p, dx, pp, pf, pn, pl, fz0, wz, Pg, _, ve, boxAt z.2.2.2 q, d2, p2, g, qs, rfl, a1, rfl, w0, ew, w1, erw, hp2, fun H2 a2 o2 => ?_⟩
        walk_at "rd"
        refine k (fz0 ++ [(wz.1, (wz.2.1, wz.2.2.1 + 1, setAt wz.2.2.2 p2 (boxAt z.2.2.2 q)))]) H2 ?_ (o1.trans o2 fun x hx => .inl (by rw [own_app]; exact List.mem_append_left _ hx)) fun x hx => .inl ?_
        · have hra : rowAt Pg wz.2.1 wz.2.2.1 = some (.call p2 g qs) := by unfold rowAt; rw [ew]; exact erw
          have e : withT h (eff Pg ((fz0 ++ [wz]).map (·.2)) z.2 h.left h.news (.back q)) = { ({ h with frames := (fz0 ++ [wz]).map (·.2) } : HS) with frames := fz0.map (·.2) ++ [(wz.2.1, wz.2.2.1 + 1, setAt wz.2.2.2 p2 (boxAt z.2.2.2 q))] } := by
            simp [withT, eff, hra]
          rw [e]
          exact a2
        · rw [own_app] at hx ⊢
          refine List.mem_append_left _ ?_
          rw [own_app]
          exact hx
      | _ => exact absurd hb (by simp only [Rw.row]; decide)
    · refine ite_dn hb ?_
      walk_at "rd"
      refine meth_of a.obj hm_do_own ?_
      walk_at "rd"
      refine use3 ⟨p, dx, pp, pf, pn, pl, fz, z, Pg, h, ve, r, d.rows.length, rfl, a, rv, rfl, ok, mu, fun q e => ?_, few, fun H1 a1 o1 => ?_⟩
      · subst e
        intro e
        have : endAt h z.2 (.take q) = some (.dry z.2.1 z.2.2.1) := if_pos e
        rw [this] at hend
        cases hend
      have rv1 := rv.mono (o1.ts a.notup)
      have w1 := a1.z1 (z := (z.1, (z.2.1, z.2.2.1, (r.own3 z.2.2.2 h.left h.news).1))) (by simp)
      have w2 := a1.z2 (z := (z.1, (z.2.1, z.2.2.1, (r.own3 z.2.2.2 h.left h.news).1))) (by simp)
      walk_at "rd"
      refine rd_ixaL (v := .int z.2.2.1) w1 rfl ?_
      walk_at "rd"
      refine use3 ⟨Pg, d.rows.length, r, z.1.2, (r.own3 z.2.2.2 h.left h.news).1, z.2.2.1, rv1, rfl, rfl, w2, by rw [own_len]; exact ok, fun H2 s2 => ?_⟩
      rw [next_own]
      have a2 := a1.mono s2
      walk_at "rd"
      refine rd_setL (k := 1) (s2 _ _ w1) rfl ?_
      obtain ⟨a3, o3⟩ := a2.setRow (r.next z.2.2.2 z.2.2.1)
      walk_at "rd"
      refine k (fz ++ [(z.1, (z.2.1, r.next z.2.2.2 z.2.2.1, (r.own3 z.2.2.2 h.left h.news).1))]) _ ?_ ((o1.trans (OSame.of (own := ownA p pf pn pl (fz ++ [z])) s2) fun x hx => .inl hx).trans o3 fun x hx => .inl ?_) fun x hx => .inl ?_
      · have e : withT h (eff Pg (fz.map (·.2)) z.2 h.left h.news r) = { h with frames := fz.map (·.2) ++ [(z.2.1, r.next z.2.2.2 z.2.2.1, (r.own3 z.2.2.2 h.left h.news).1)], left := (r.own3 z.2.2.2 h.left h.news).2.1, news := (r.own3 z.2.2.2 h.left h.news).2.2 } := by
          cases r with
          | call q g qs => exact absurd rfl hc
          | back q => exact absurd rfl hb
          | _ => rfl
        rw [e]
        exact a3
      · rw [own_app] at hx ⊢
        exact hx
      · rw [own_app] at hx ⊢
        exact hx

end
section
variable {C : Addr}
theorem go_eq {Pg : List Df} {h : HS} {fs : List Fr} {fr : Fr} {r : Rw} (e0 : h.fin = none) (e1 : h.frames = fs ++ [fr]) (e2 : rowAt Pg fr.1 fr.2.1 = some r) :
    h.go Pg = match endAt h fr r with
      | some e => { h with fin := some e }
      | none => withT { h with gone := h.gone + 1 } (eff Pg fs fr h.left h.news r) := by
  unfold HS.go
  rw [e0, e1]
  simp only [List.getLast?_append, List.getLast?_singleton, Option.some_or, e2, List.dropLast_concat]
  cases endAt h fr r <;> rfl
theorem en_ref {H : Hp} {e : En} {v : V} (h : Rep H (En.d (some e)) v) : ¬ v = .non := fun z => by
  subst z
  cases e <;> (obtain ⟨_, _, e', _⟩ := rep_tup_inv h; cases e')
theorem en_non {H : Hp} {v : V} (h : Rep H (En.d none) v) : v = .non := by
  simp only [En.d] at h
  rwa [Rep] at h
theorem mul_ok {Pg : List Df} {g : Int} {fr : Fr} (h : FrOk Pg g fr) (hg : g ≤ 900) : MulOk fr.2.2 := fun x hx => by
  have h1 := h.small x hx
  have h2 : (100 : Nat) ^ g.toNat ≤ 100 ^ 900 := Nat.pow_le_pow_right (by decide) (by omega)
  have h3 : 10 ^ 60 * 100 ^ g.toNat ≤ 10 ^ 60 * 100 ^ 900 := Nat.mul_le_mul_left _ h2
  have h4 : (10 ^ 60 * 100 ^ 900 : Nat) < 2 ^ 8000 := by decide +kernel
  omega
def sp_go (C : Addr) : Sp := sp1 fun x H Q => ∃ p dx pp pf pn pl fz P h ve, x = .ref p ∧ HA C p dx pp pf pn pl fz H P h ve ∧ PgOk P ∧ HsOk P h ∧ h.gone ≤ 900 ∧
  ∀ fz' ve' H', HA C p dx pp pf pn pl fz' H' P (h.go P) ve' → OSame (ownA p pf pn pl fz) H H' → (∀ x ∈ ownA p pf pn pl fz', x ∈ ownA p pf pn pl fz ∨ H x = none) → Q .non H'
theorem sc_Hand_go : FnScope ["self", "row"] ["self"] (defScope s_Hand_go) := ⟨rfl, rfl, rfl, by decide +kernel, rfl, by decide +kernel, by decide +kernel⟩
theorem c_Hand_go (HHand : CHand K C) (T_Hand_go : TopM K C "go" "Hand.go" s_Hand_go ["self"]) (Crow_of : Callee P w K mg base "row_of" 1 ["program", "frame"] sp_row_of) (MHand_end_at : MCal P w K mg base C "end_at" 1 ["self", "row"] (sp_end_at C)) (MHand_do_row : MCal P w K mg base C "do_row" 3 ["self", "row"] (sp_do_row C)) : MCal P w K mg base C "go" 4 ["self"] (sp_go C) := by
  refine T_Hand_go.ok1 sc_Hand_go fun f cdv A outer s H v1 Q E hr hh => ?_
  have nd := sc_Hand_go.nd
  obtain ⟨p, dx, pp, pf, pn, pl, fz, Pg, h, ve, rfl, a, PO, HO, hg, k⟩ := hh
  refine' go_body [some (.ref p), none] rfl ?hb ?hg
  case hb =>
   refine' pss_one ?zcs
   case zcs =>
    refine' ps_if ?zct ?zcu ?zcv
    case zct => exact (pt_cmpR op_isN' (k_fld (K := K) rfl (pv 0) rfl) pe_non (nomark _))
    case zcu =>
     refine' pss_cons ?zcw ?zcx
     case zcw =>
      refine' ps_setC (i := 1) ?zcy ?zcz ?zda ?zdb
      case zcy => exact nd
      case zcz => exact rfl
      case zda => exact (Or.inl rfl)
      case zdb =>
       refine' pe_fn ?zdc ?zdd ?zde ?zdf
       case zdc => exact Crow_of
       case zdd => exact (hr.mono (by first | decide | omega))
       case zde => exact (by rfl)
       case zdf =>
        refine' pa_consA ?zdg ?zdh
        case zdg => exact (k_fld (K := K) rfl (pv 0) rfl)
        case zdh => exact (pa_consS (pe_ix (k_ix (K := K) rfl) (k_fld (K := K) rfl (pv 0) rfl) (pe_un un_neg pe_int) (fun _ _ => rfl)) pa_nil)
     case zcx =>
      refine' pss_cons ?zdi ?zdj
      case zdi => exact (k_sfld (K := K) rfl (pv 0) (pe_m MHand_end_at HHand.cl (hr.mono (by first | decide | omega)) (pv 0) (pa_consN (pv 1) pa_nil)) rfl)
      case zdj =>
       refine' pss_one ?zdk
       case zdk =>
        refine' ps_if ?zdl ?zdm ?zdn
        case zdl => exact (pt_cmpR op_isN' (k_fld (K := K) rfl (pv 0) rfl) pe_non (nomark _))
        case zdm =>
         refine' pss_cons ?zdo ?zdp
         case zdo => exact (k_sfld (K := K) rfl (pv 0) (pe_op op_add (k_fld (K := K) rfl (pv 0) rfl) pe_int) rfl)
         case zdp => exact (pss_one (ps_expr (pe_m MHand_do_row HHand.cl (hr.mono (by first | decide | omega)) (pv 0) (pa_consN (pv 1) pa_nil))))
        case zdn => exact pss_nil
    case zcv => exact pss_nil
  walk_at "rd"
  refine fld_of a.obj HHand.cl HHand.n_end hf_end ?_
  walk_at "rd"
  cases hf : h.fin with
  | some e =>
    have en := a.en
    rw [hf] at en
    refine ite_dn (en_ref en) ?_
    walk_at "rd"
    have e2 : h.go Pg = h := by unfold HS.go; rw [hf]
    exact k fz ve H (by rw [e2]; exact a) (OSame.refl _ _) fun x hx => .inl hx
  | none =>
    have en := a.en
    rw [hf] at en
    obtain rfl := en_non en
    refine ite_dy rfl ?_
    obtain ⟨fz0, z, hz⟩ : ∃ fz0 z, fz = fz0 ++ [z] := by
      rcases List.eq_nil_or_concat fz with e | ⟨l, x, e⟩
      · have := a.fr
        rw [e] at this
        exact absurd this.symm HO.ne
      · exact ⟨l, x, by simpa using e⟩
    subst hz
    have hfr : h.frames = fz0.map (·.2) ++ [z.2] := by rw [← a.fr]; simp
    have z1 := a.z1 (z := z) (by simp)
    have FO := HO.fr z.2 (by rw [hfr]; simp)
    obtain ⟨d, f0, ed, hat, hbx⟩ := FO.ex
    have hlt : z.2.2.1.toNat < d.rows.length := by have := hat.1; have := hat.2; omega
    have er : d.rows[z.2.2.1.toNat]? = some d.rows[z.2.2.1.toNat] := List.getElem?_eq_getElem hlt
    generalize hr0 : d.rows[z.2.2.1.toNat] = r at er
    have DO := PO.2.2 d (List.mem_of_getElem? ed)
    have ok : r.Ok Pg z.2.2.2.length d.rows.length := by rw [hbx]; exact DO.rows r (List.mem_of_getElem? er)
    have hra : rowAt Pg z.2.1 z.2.2.1 = some r := by unfold rowAt; rw [ed]; exact er
    have hgo := go_eq hf hfr hra
    walk_at "rd"
    refine fld_of a.obj HHand.cl HHand.n_program hf_program ?_
    walk_at "rd"
    refine fld_of a.obj HHand.cl HHand.n_frames hf_frames ?_
    walk_at "rd"
    refine rd_ixaL a.fl fz_last ?_
    walk_at "rd"
    refine use2 ⟨_, Pg, pp, z.1.1, z.2.1, z.2.2.1, z.1.2, d, r, rfl, rfl, a.pg, z1, f0, ed, hat.1, er, fun v rv => ?_⟩
    walk_at "rd"
    refine meth_of a.obj hm_end_at ?_
    walk_at "rd"
    refine use2 ⟨p, dx, pp, pf, pn, pl, fz0, z, Pg, h, .non, r, d.rows.length, rfl, a, rv, ok, fun v' H1 s1 re => ?_⟩
    have a1 := a.mono s1
    walk_at "rd"
    refine sfld_of a1.obj HHand.cl HHand.n_end (by show 6 < 1000; decide) ?_
    rw [hp_end]
    obtain ⟨a2, o2⟩ := a1.setEnd re
    have o12 : OSame (ownA p pf pn pl (fz0 ++ [z])) H _ := (OSame.of (own := ownA p pf pn pl (fz0 ++ [z])) s1).trans o2 fun x hx => .inl hx
    have rv2 := rv.mono (o12.ts a.notup)
    walk_at "rd"
    refine fld_of a2.obj HHand.cl HHand.n_end hf_end ?_
    walk_at "rd"
    cases he : endAt h z.2 r with
    | some e =>
      rw [he] at re a2 hgo
      refine ite_dn (en_ref re) ?_
      walk_at "rd"
      exact k _ v' _ (by rw [hgo]; exact a2) o12 fun x hx => .inl hx
    | none =>
      rw [he] at re a2 hgo
      obtain rfl := en_non re
      refine ite_dy rfl ?_
      walk_at "rd"
      refine fld_of a2.obj HHand.cl HHand.n_gone hf_gone ?_
      walk_at "rd"
      refine sfld_of a2.obj HHand.cl HHand.n_gone (by show 6 < 1000; decide) ?_
      rw [hp_gone]
      obtain ⟨a3, o3⟩ := a2.setGone (h.gone + 1)
      have o13 := o12.trans o3 fun x hx => .inl hx
      have rv3 := rv.mono (o13.ts a.notup)
      walk_at "rd"
      refine meth_of a3.obj hm_do_row ?_
      walk_at "rd"
      have hnews : h.news.length ≤ 200000 := by have := HO.sz; omega
      have hlen20 : fz0.length ≤ 20 := by have := HO.few; rw [hfr] at this; simp at this; omega
      refine use2 ⟨p, dx, pp, pf, pn, pl, fz0, z, Pg, _, .non, d, r, rfl, a3, rv3, PO, f0, ed, er, hbx, mul_ok FO hg, ?_, hnews, hlen20, fun fz1 wz e1 => ?_, fun fz' H4 a4 o4 m4 => ?_⟩
      · have : endAt { ({ h with fin := none } : HS) with gone := h.gone + 1 } z.2 r = endAt h z.2 r := by cases r <;> rfl
        exact this.trans he
      · subst e1
        have hw := HO.wait fz1.length wz.2 (by rw [hfr]; simp) (by rw [hfr]; simp)
        obtain ⟨p2, g, qs, hw⟩ := hw
        have FW := HO.fr wz.2 (by rw [hfr]; simp)
        obtain ⟨d2, w0, ew, wat, wbx⟩ := FW.ex
        have hwlt : wz.2.2.1.toNat < d2.rows.length := by have := wat.1; have := wat.2; omega
        have erw : d2.rows[wz.2.2.1.toNat]? = some (.call p2 g qs) := by
          unfold rowAt at hw
          rw [ew] at hw
          exact hw
        have D2 := PO.2.2 d2 (List.mem_of_getElem? ew)
        have okw := D2.rows _ (List.mem_of_getElem? erw)
        exact ⟨d2, p2, g, qs, w0, ew, wat.1, erw, by rw [wbx]; exact okw.1⟩
      · walk_at "rd"
        refine k fz' .non H4 ?_ (o13.trans o4 fun x hx => .inl hx) fun x hx => ?_
        · rw [hgo]
          have : ({ h with fin := none } : HS) = h := by cases h; simp at hf; subst hf; rfl
          rw [this] at a4
          exact a4
        · rcases m4 x hx with q | q
          · exact .inl q
          · by_cases hx2 : x ∈ ownA p pf pn pl (fz0 ++ [z])
            · exact .inl hx2
            · right
              cases hHx : H x with
              | none => rfl
              | some ox =>
                rw [o13 x ox hx2 hHx] at q
                cases q

end
section
variable {C : Addr}
/-- a def of the program, its list of rows not known to H0 -/
def FDf (H0 H : Hp) (d : Df) (v : V) : Prop := ∃ t q ys, v = .ref t ∧ H t = some (.tup [.int d.takes, .int d.boxes, .ref q]) ∧ H q = some (.lst ys) ∧ H0 q = none ∧ Reps H (rowsD d.rows) ys
theorem FDf.mono {H0 H H' : Hp} {d : Df} {v : V} (h : FDf H0 H d v) (s : Same H H') : FDf H0 H' d v := by
  obtain ⟨t, q, ys, e, h1, h2, h3, r⟩ := h
  exact ⟨t, q, ys, e, s _ _ h1, s _ _ h2, h3, r.mono s.ts⟩
def FPg (H0 H : Hp) (P : List Df) (pp : Addr) : Prop := ∃ vs, H pp = some (.lst vs) ∧ H0 pp = none ∧ vs.length = P.length ∧ ∀ (i : Nat) (d : Df) (v : V), P[i]? = some d → vs[i]? = some v → FDf H0 H d v
theorem FPg.by {H0 H H' : Hp} {P : List Df} {pp p : Addr} (h : FPg H0 H P pp) (hp : H0 p ≠ none) (np : ∀ xs, H p ≠ some (.tup xs)) (s : OSame [p] H H') : FPg H0 H' P pp := by
  obtain ⟨vs, h1, h2, h3, h4⟩ := h
  have ne : ∀ q, H0 q = none → q ∉ [p] := fun q hq m => by
    simp only [List.mem_singleton] at m
    subst m
    exact hp hq
  have ts : TSame H H' := s.ts fun a ha => by
    simp only [List.mem_singleton] at ha
    subst ha
    exact np
  refine ⟨vs, s _ _ (ne _ h2) h1, h2, h3, fun i d v e1 e2 => ?_⟩
  obtain ⟨t, q, ys, e, k1, k2, k3, r⟩ := h4 i d v e1 e2
  exact ⟨t, q, ys, e, ts _ _ k1, s _ _ (ne _ k3) k2, k3, r.mono ts⟩
theorem FPg.at {H0 H : Hp} {P : List Df} {pp : Addr} (h : FPg H0 H P pp) {own : List Addr} (n : ∀ x ∈ own, H0 x ≠ none) : PgAt own H P pp := by
  obtain ⟨vs, h1, h2, h3, h4⟩ := h
  refine ⟨vs, h1, fun m => n _ m h2, h3, fun i d v e1 e2 => ?_⟩
  obtain ⟨t, q, ys, e, k1, k2, k3, r⟩ := h4 i d v e1 e2
  exact ⟨t, q, ys, e, k1, k2, fun m => n _ m k3, r⟩
theorem FPg.at2 {H0 H : Hp} {P : List Df} {pp : Addr} (h : FPg H0 H P pp) {own : List Addr} (n : ∀ x ∈ own, H0 x ≠ none ∨ H x = none) : PgAt own H P pp := by
  obtain ⟨vs, h1, h2, h3, h4⟩ := h
  have ne : ∀ q o, H0 q = none → H q = some o → q ∉ own := fun q o e1 e2 m => by
    rcases n q m with z | z
    · exact z e1
    · rw [z] at e2; cases e2
  refine ⟨vs, h1, ne _ _ h2 h1, h3, fun i d v e1 e2 => ?_⟩
  obtain ⟨t, q, ys, e, k1, k2, k3, r⟩ := h4 i d v e1 e2
  exact ⟨t, q, ys, e, k1, k2, ne _ _ k3 k2, r⟩
/-- a hand being made: what has changed since H is p's own fields and what is new -/
structure Ld (C p dx : Addr) (H Hk : Hp) (l : List (Addr × HO)) (fs : List (Str × V)) : Prop where
  os : OSame [p] H Hk
  all : AllAt Hk l
  nd : (p :: l.map (·.1)).Nodup
  fresh : ∀ x ∈ l.map (·.1), H x = none
  me : Hk p = some (.ins C dx fs)
section
variable {C p dx a : Addr} {H Hk Hk' : Hp} {l : List (Addr × HO)} {fs fs' : List (Str × V)} {o : HO}
theorem Ld.free (L : Ld C p dx H Hk l fs) (h : Hk a = none) : H a = none := by
  cases e : H a with
  | none => rfl
  | some u =>
    by_cases ha : a = p
    · subst ha; rw [L.me] at h; cases h
    · rw [L.os a u (by simpa using ha) e] at h; cases h
theorem Ld.same (L : Ld C p dx H Hk l fs) (s : Same Hk Hk') : Ld C p dx H Hk' l fs :=
  ⟨fun a u n e => s _ _ (L.os a u n e), L.all.mono s, L.nd, L.fresh, s _ _ L.me⟩
theorem Ld.add (L : Ld C p dx H Hk l fs) (s : Same Hk Hk') (h : Hk a = none) (h' : Hk' a = some o) : Ld C p dx H Hk' ((a, o) :: l) fs := by
  have L' := L.same s
  refine ⟨L'.os, fun e he => ?_, ?_, fun x hx => ?_, L'.me⟩
  · rcases List.mem_cons.mp he with rfl | he
    · exact h'
    · exact L'.all e he
  · have n1 : a ≠ p := fun z => by rw [z, L.me] at h; cases h
    have n2 : a ∉ l.map (·.1) := fun m => by
      obtain ⟨e, he, rfl⟩ := List.mem_map.mp m
      rw [L.all e he] at h; cases h
    have n3 := List.nodup_cons.mp L.nd
    refine List.nodup_cons.mpr ⟨fun m => ?_, List.nodup_cons.mpr ⟨n2, n3.2⟩⟩
    rcases List.mem_cons.mp m with z | z
    · exact n1 z.symm
    · exact n3.1 z
  · rcases List.mem_cons.mp hx with rfl | hx
    · exact L.free h
    · exact L.fresh x hx
theorem Ld.new (L : Ld C p dx H Hk l fs) (h : Hk a = none) : Ld C p dx H (upd Hk a o) ((a, o) :: l) fs := L.add (Same.new h) h upd_same
theorem Ld.add2 {b : Addr} {ob : HO} (L : Ld C p dx H Hk l fs) (s : Same Hk Hk') (ha : Hk a = none) (hb : Hk b = none) (n : a ≠ b) (ha' : Hk' a = some o) (hb' : Hk' b = some ob) : Ld C p dx H Hk' ((a, o) :: (b, ob) :: l) fs := by
  refine (L.new (o := ob) hb).add (a := a) (fun x u e => ?_) (by rw [upd_ne n]; exact ha) ha'
  by_cases hx : x = b
  · subst hx; rw [upd_same] at e; cases e; exact hb'
  · rw [upd_ne hx] at e; exact s _ _ e
theorem Ld.put (L : Ld C p dx H Hk l fs) : Ld C p dx H (upd Hk p (.ins C dx fs')) l fs' := by
  refine ⟨fun a u n e => ?_, fun e he => ?_, L.nd, L.fresh, upd_same⟩
  · rw [upd_ne (fun z : a = p => n (by simp [z]))]
    exact L.os a u n e
  · have : e.1 ≠ p := fun z => (List.nodup_cons.mp L.nd).1 (z ▸ List.mem_map_of_mem he)
    rw [upd_ne this]
    exact L.all e he
theorem Ld.ts (L : Ld C p dx H Hk l fs) (h : H p = some (.ins C dx fs')) : TSame H Hk := L.os.ts fun a ha xs e => by
  simp only [List.mem_singleton] at ha
  subst ha
  rw [h] at e; cases e
end
theorem plen {k : Str} {v : V} : ∀ {l : List (Str × V)} {n : Nat}, l.length ≤ n → (putF k v l).length ≤ n + 1
  | [], n, _ => by rw [pf_nil]; simp
  | (k', x) :: l, n, h => by
    by_cases e : k' = k
    · subst e; rw [pf_eq]; simp at h ⊢; omega
    · rw [pf_ne e]
      have := plen (k := k) (v := v) (l := l) (n := n - 1) (by simp at h; omega)
      simp at h ⊢; omega
def hand0 (P : List Df) (ns : List Int) : HS := ⟨[newFr P 0 []], ns, [], 0, none⟩
def sp_init (C : Addr) : Sp := sp3 fun x y z H Q => ∃ p dx P pp q ns, x = .ref p ∧ y = .ref pp ∧ z = .ref q ∧ H p = some (.ins C dx []) ∧ PgAt [] H P pp ∧ PgOk P ∧ H q = some (.lst ((ns : List Int).map V.int)) ∧ ns.length ≤ 100000 ∧
  ∀ pp' pf pn pl fz H', HA C p dx pp' pf pn pl fz H' P (hand0 P ns) .non → OSame [p] H H' → (∀ x ∈ ownA p pf pn pl fz, x = p ∨ H x = none) → (∀ own, (∀ x ∈ own, x ∈ ownA p pf pn pl fz ∨ H x ≠ none) → PgAt own H' P pp') → Q .non H'
theorem sc_Hand___init__ : FnScope ["self", "program", "inputs"] ["self", "program", "inputs"] (defScope s_Hand___init__) := ⟨rfl, rfl, rfl, by decide +kernel, rfl, by decide +kernel, by decide +kernel⟩
theorem c_Hand___init__ (B : Blt mg) (HHand : CHand K C) (T_Hand___init__ : TopI K mg C "Hand" "Hand.__init__" s_Hand___init__ ["self", "program", "inputs"]) (Cnew_frame : Callee P w K mg base "new_frame" 1 ["program", "f", "numbers"] (sp_newfr K)) : CCal P w K mg base C "Hand" 2 ["self", "program", "inputs"] (sp_init C) := by
  refine T_Hand___init__.ok3 sc_Hand___init__ fun f cdv A outer s H v1 v2 v3 Q E hr hh => ?_
  have nd := sc_Hand___init__.nd
  obtain ⟨p, dx, Pg, pp, q, ns, rfl, rfl, rfl, hp, pg, PO, hq, hns, k⟩ := hh
  refine' go_body [some (.ref p), some (.ref pp), some (.ref q)] rfl ?hb ?hg
  case hb =>
   refine' pss_cons ?zdq ?zdr
   case zdq =>
    refine' k_sfld (K := K) ?zds ?zdt ?zdu ?zdv
    case zds => exact rfl
    case zdt => exact (pv 0)
    case zdu =>
     refine' pe_comp (LN := ["one"]) (FN := []) (fr := []) ?zdw ?zdx ?zdy ?zdz ?zea ?zeb
     case zdw => exact rfl
     case zdx => exact (bk_of (by rfl))
     case zdy => exact (k_pi_list (K := K) rfl (pv 1))
     case zdz =>
      intro cl C fp pins s H
      exact (pg_name (i := 0) (show ((["one"] : List Str) ++ ([] : List Str)).Nodup by decide +kernel) rfl (Or.inl rfl))
     case zea =>
      intro cl C fp pins s H
      exact pts_nil
     case zeb =>
      intro cl C fp pins s H
      refine' pe_tup ?zec
      case zec =>
       refine' pa_consS ?zed ?zee
       case zed => exact (pe_ix (k_ix (K := K) rfl) (pv 0) pe_int (fun _ _ => rfl))
       case zee =>
        refine' pa_consS ?zef ?zeg
        case zef => exact (pe_ix (k_ix (K := K) rfl) (pv 0) pe_int (fun _ _ => rfl))
        case zeg =>
         refine' pa_consC ?zeh ?zei
         case zeh => exact (pe_callTy (k_lstOf (K := K) rfl) (by rfl) B.b_list bt_list (pa_consS (pe_ix (k_ix (K := K) rfl) (pv 0) pe_int (fun _ _ => rfl)) pa_nil))
         case zei => exact pa_nil
    case zdv => exact rfl
   case zdr =>
    refine' pss_cons ?zej ?zek
    case zej =>
     refine' k_sfld (K := K) ?zel ?zem ?zen ?zeo
     case zel => exact rfl
     case zem => exact (pv 0)
     case zen =>
      refine' pe_lst ?zep
      case zep =>
       refine' pa_consC ?zeq ?zer
       case zeq => exact (pe_fn Cnew_frame (hr.mono (by first | decide | omega)) (by rfl) (pa_consN (pv 1) (pa_consK pe_int (pa_consL (pe_lst pa_nil) pa_nil))))
       case zer => exact pa_nil
     case zeo => exact rfl
    case zek =>
     refine' pss_cons ?zes ?zet
     case zes => exact (k_sfld (K := K) rfl (pv 0) (pe_lst pa_nil) rfl)
     case zet =>
      refine' pss_cons ?zeu ?zev
      case zeu => exact (k_sfld (K := K) rfl (pv 0) pe_int rfl)
      case zev =>
       refine' pss_cons ?zew ?zex
       case zew => exact (k_sfld (K := K) rfl (pv 0) (pe_callTy (k_lstOf (K := K) rfl) (by rfl) B.b_list bt_list (pa_consN (pv 2) pa_nil)) rfl)
       case zex => exact (pss_one (k_sfld (K := K) rfl (pv 0) pe_non rfl))
  obtain ⟨vs, hv, _, hl, hd⟩ := pg
  walk_at "rd"
  have hvl : vs.length ≤ 1000 := by rw [hl]; exact PO.2.1
  refine ilK_of (SqL.of hv) ?_
  refine cw_list (xs := vs) (small_le (by omega)) (fun i ys σ Hy => (∃ x1, σ = [x1]) ∧ Same H Hy ∧ ys.length = i ∧ ∀ (j : Nat) (d : Df) (v : V), Pg[j]? = some d → ys[j]? = some v → FDf H Hy d v) ⟨⟨none, rfl⟩, Same.refl _, rfl, fun _ _ _ _ e => by simp at e⟩ (fun i ys σ Hy _ ⟨_, sy, _⟩ => SqL.of (sy _ _ hv)) ?_ ?_
  · rintro i x ys σ Hy hx hle hlt ⟨⟨x1, rfl⟩, sy, hyl, hall⟩
    have hi : i < vs.length := (List.getElem?_eq_some_iff.mp hx).1
    have ed : Pg[i]? = some Pg[i] := List.getElem?_eq_getElem (by omega)
    obtain ⟨t, q2, zs, rfl, h1, h2, _, rr⟩ := hd _ _ _ ed hx
    generalize Pg[i] = d at ed h1 rr
    walk_at "rd"
    refine rd_ixaT (v := .int d.takes) (sy _ _ h1) rfl ?_
    walk_at "rd"
    refine rd_ixaT (v := .int d.boxes) (sy _ _ h1) rfl ?_
    walk_at "rd"
    refine rd_ixaT (v := .ref q2) (sy _ _ h1) rfl ?_
    walk_at "rd"
    refine rd_lstOf (.inl (SqL.of (sy _ _ h2))) fun l hl2 => ?_
    have s1 := Same.new (o := .lst zs) hl2
    walk_at "mk"; intro p3 hp3
    have s2 := Same.new (o := .tup [.int d.takes, .int d.boxes, .ref l]) hp3
    have s12 := s1.trans s2
    refine ⟨hlt, by simp; omega, ⟨_, rfl⟩, sy.trans s12, by simp [hyl], fun j d' v e1 e2 => ?_⟩
    rcases Nat.lt_trichotomy j i with hj | hj | hj
    · rw [List.getElem?_append_left (by omega)] at e2
      exact (hall j d' v e1 e2).mono s12
    · subst hj
      rw [ed] at e1
      cases e1
      rw [List.getElem?_append_right (by omega), hyl, Nat.sub_self] at e2
      cases e2
      exact ⟨p3, l, zs, rfl, upd_same, s2 _ _ upd_same, sy.free hl2, rr.mono (sy.trans s12).ts⟩
    · rw [List.getElem?_append_right (by omega)] at e2
      have : j - ys.length ≠ 0 := by omega
      obtain ⟨m, hm⟩ := Nat.exists_eq_succ_of_ne_zero this
      rw [hm] at e2
      simp at e2
  · rintro ys σ Hy _ ⟨⟨x1, rfl⟩, sy, hyl, hall⟩ pa hpa
    have s1 := sy.trans (Same.new (o := .lst ys) hpa)
    have fp : FPg H (upd Hy pa (.lst ys)) Pg pa := ⟨ys, upd_same, sy.free hpa, by omega, fun i d v e1 e2 => (hall i d v e1 e2).mono (Same.new hpa)⟩
    generalize upd Hy pa (.lst ys) = H1 at s1 fp
    have hp0 : H p ≠ none := by rw [hp]; simp
    have hp1 := s1 _ _ hp
    have pg1 : PgAt [p] H1 Pg pp := by
      refine ⟨vs, s1 _ _ hv, fun m => ?_, hl, fun i d v e1 e2 => ?_⟩
      · simp only [List.mem_singleton] at m
        subst m; rw [hp] at hv; cases hv
      · obtain ⟨t, q2, zs, e, h1, h2, _, rr⟩ := hd i d v e1 e2
        refine ⟨t, q2, zs, e, s1 _ _ h1, s1 _ _ h2, fun m => ?_, rr.mono s1.ts⟩
        simp only [List.mem_singleton] at m
        subst m; rw [hp] at h2; cases h2
    have L1 : Ld C p dx H1 H1 [] [] := ⟨OSame.refl _ _, fun _ h => (by cases h), by simp, fun _ h => (by cases h), hp1⟩
    walk_at "rd"
    refine sfld_of hp1 HHand.cl HHand.n_program (by show 0 < 1000; decide) ?_
    have L2 := L1.put (fs' := putF "program" (V.ref pa) [])
    generalize upd H1 p (HO.ins C dx (putF "program" (V.ref pa) [])) = H2 at L2
    walk_at "rd"
    walk_at "mk"; intro p1 hp1'
    have L3 := L2.new (o := .lst []) hp1'
    have e3 : upd H2 p1 (.lst []) p1 = some (.lst (([] : List Int).map V.int)) := upd_same
    generalize upd H2 p1 (HO.lst []) = H3 at L3 e3
    walk_at "rd"
    obtain ⟨d0, ed0⟩ : ∃ d0, Pg[(0 : Int).toNat]? = some d0 := ⟨Pg[0]'(by have := PO.1; exact List.length_pos_iff.mpr this), List.getElem?_eq_getElem _⟩
    have D0 := PO.2.2 d0 (List.mem_of_getElem? ed0)
    refine use3 ⟨[p], Pg, pp, 0, p1, [], d0, rfl, rfl, rfl, pg1.by L3.os (L3.ts hp1) (fun x hx => .inl hx), Int.le_refl _, ed0, ⟨by have := D0.b; omega, D0.b.2⟩, e3, by have := D0.b; simp; omega, fun fr bx H4 hfr0 hbx0 nfb s4 h4f h4b => ?_⟩
    have L4 := L3.add2 s4 hfr0 hbx0 nfb h4f h4b
    walk_at "mk"; intro pf hpf
    have L5 := L4.new (o := .lst [.ref fr]) hpf
    generalize upd H4 pf (HO.lst [V.ref fr]) = H5 at L5
    walk_at "rd"
    refine sfld_of L5.me HHand.cl HHand.n_frames (Nat.lt_of_le_of_lt (plen (Nat.le_refl 0)) (by decide)) ?_
    have L6 := L5.put (fs' := putF "frames" (V.ref pf) (putF "program" (V.ref pa) []))
    generalize upd H5 p (HO.ins C dx (putF "frames" (V.ref pf) (putF "program" (V.ref pa) []))) = H6 at L6
    walk_at "rd"
    walk_at "mk"; intro pn hpn
    have L7 := L6.new (o := .lst []) hpn
    generalize upd H6 pn (HO.lst []) = H7 at L7
    walk_at "rd"
    refine sfld_of L7.me HHand.cl HHand.n_news (Nat.lt_of_le_of_lt (plen (plen (Nat.le_refl 0))) (by decide)) ?_
    have L8 := L7.put (fs' := putF "news" (V.ref pn) (putF "frames" (V.ref pf) (putF "program" (V.ref pa) [])))
    generalize upd H7 p (HO.ins C dx (putF "news" (V.ref pn) (putF "frames" (V.ref pf) (putF "program" (V.ref pa) [])))) = H8 at L8
    walk_at "rd"
    refine sfld_of L8.me HHand.cl HHand.n_gone (Nat.lt_of_le_of_lt (plen (plen (plen (Nat.le_refl 0)))) (by decide)) ?_
    have L9 := L8.put (fs' := putF "gone" (V.int 0) (putF "news" (V.ref pn) (putF "frames" (V.ref pf) (putF "program" (V.ref pa) []))))
    generalize upd H8 p (HO.ins C dx (putF "gone" (V.int 0) (putF "news" (V.ref pn) (putF "frames" (V.ref pf) (putF "program" (V.ref pa) []))))) = H9 at L9
    walk_at "rd"
    have hq9 : H9 q = some (.lst (ns.map V.int)) := L9.os _ _ (fun m => by
      simp only [List.mem_singleton] at m
      subst m; rw [hp] at hq; cases hq) (s1 _ _ hq)
    refine rd_lstOf (.inl (SqL.of hq9)) fun pl hpl => ?_
    have L10 := L9.new (o := .lst (ns.map V.int)) hpl
    generalize upd H9 pl (HO.lst (ns.map V.int)) = H10 at L10
    walk_at "rd"
    refine sfld_of L10.me HHand.cl HHand.n_left (Nat.lt_of_le_of_lt (plen (plen (plen (plen (Nat.le_refl 0))))) (by decide)) ?_
    have L11 := L10.put (fs' := putF "left" (V.ref pl) (putF "gone" (V.int 0) (putF "news" (V.ref pn) (putF "frames" (V.ref pf) (putF "program" (V.ref pa) [])))))
    generalize upd H10 p (HO.ins C dx (putF "left" (V.ref pl) (putF "gone" (V.int 0) (putF "news" (V.ref pn) (putF "frames" (V.ref pf) (putF "program" (V.ref pa) [])))))) = H11 at L11
    walk_at "rd"
    refine sfld_of L11.me HHand.cl HHand.n_end (Nat.lt_of_le_of_lt (plen (plen (plen (plen (plen (Nat.le_refl 0)))))) (by decide)) ?_
    have L12 := L11.put (fs' := putF "end" V.non (putF "left" (V.ref pl) (putF "gone" (V.int 0) (putF "news" (V.ref pn) (putF "frames" (V.ref pf) (putF "program" (V.ref pa) []))))))
    generalize upd H11 p (HO.ins C dx (putF "end" V.non (putF "left" (V.ref pl) (putF "gone" (V.int 0) (putF "news" (V.ref pn) (putF "frames" (V.ref pf) (putF "program" (V.ref pa) []))))))) = H12 at L12
    rw [hi_all] at L12
    have hnf : newFr Pg 0 [] = (0, 0, List.replicate d0.boxes.toNat 0) := by
      unfold newFr boxesOf
      rw [ed0]
      rfl
    have hnd := L12.nd
    have hown : ownA p pf pn pl [((fr, bx), newFr Pg 0 [])] = [p, pf, pn, pl, fr, bx] := rfl
    have hfr := L12.fresh
    simp only [List.map_cons, List.map_nil, List.mem_cons, List.not_mem_nil, or_false] at hfr
    have hold : ∀ x ∈ [p, pf, pn, pl, fr, bx], x = p ∨ H1 x = none := fun x hx => by
      simp only [List.mem_cons, List.not_mem_nil, or_false] at hx
      rcases hx with z | z | z | z | z | z
      · exact .inl z
      all_goals exact .inr (hfr x (by simp [z]))
    have hpg : ∀ own, (∀ x ∈ own, x ∈ [p, pf, pn, pl, fr, bx] ∨ H x ≠ none) → PgAt own H12 Pg pa := fun own hn => by
      have h1 : PgAt (p :: own) H1 Pg pa := fp.at2 fun x hx => by
        rcases List.mem_cons.mp hx with rfl | hx
        · exact .inl hp0
        · rcases hn x hx with z | z
          · rcases hold x z with rfl | z
            · exact .inl hp0
            · exact .inr z
          · exact .inl z
      exact (h1.by (fun a u n e => L12.os a u (fun m => n (by simp at m; simp [m])) e) (L12.ts hp1) (fun x hx => .inl hx)).by (own' := own) (OSame.refl _ _) (fun _ _ e => e) fun x hx => .inl (List.mem_cons_of_mem _ hx)
    refine k pa pf pn pl [((fr, bx), newFr Pg 0 [])] H12 ⟨fun e he => ?_, ?_, ?_, ?_, rfl⟩ (fun a u n e => L12.os a u n (s1 _ _ e)) (fun x hx => ?_) (by rw [hown]; exact hpg)
    · have ha := L12.all
      rw [hnf] at he
      simp only [hObjs, hand0, frObj, List.map_cons, List.map_nil, List.flatMap_cons, List.flatMap_nil, List.append_nil, List.cons_append, List.nil_append, List.mem_cons, List.not_mem_nil, or_false] at he
      rcases he with rfl | rfl | rfl | rfl | rfl | rfl
      · exact L12.me
      · exact ha (pf, _) (by simp)
      · exact ha (pn, _) (by simp)
      · exact ha (pl, _) (by simp)
      · exact ha (fr, _) (by simp)
      · exact ha (bx, _) (by simp)
    · rw [hown]
      simp only [List.map_cons, List.map_nil, List.nodup_cons, List.mem_cons, List.not_mem_nil, or_false, not_or, not_false_iff, List.nodup_nil, and_true] at hnd ⊢
      obtain ⟨⟨a1, a2, a3, a4, a5, a6⟩, ⟨b1, b2, b3, b4, b5⟩, ⟨c1, c2, c3, c4⟩, ⟨d1, d2, d3⟩, ⟨e1, e2⟩, f1⟩ := hnd
      exact ⟨⟨a3, a2, a1, a4, a5⟩, ⟨fun z => c1 z.symm, fun z => b2 z.symm, d1, d2⟩, ⟨fun z => b1 z.symm, c2, c3⟩, ⟨b3, b4⟩, e1⟩
    · show Rep H12 (En.d none) V.non
      simp only [En.d]
      rw [Rep]
    · exact hpg _ fun x hx => .inl hx
    · rcases hold x hx with z | z
      · exact .inl z
      · refine .inr ?_
        cases e : H x with
        | none => rfl
        | some u => rw [s1 _ _ e] at z; cases z

end
end
end My

end
section
set_option Elab.async false
set_option linter.all false
set_option maxRecDepth 100000
set_option maxHeartbeats 4000000

namespace My
open PySem L2
local macro_rules | `(tactic| walk_at "rd1") => `(tactic| (first | ((with_reducible refine' rd_var ?e ?_); (case e => exact rfl)) | with_reducible refine rd_c ?_ | with_reducible refine rd_op ?_ | with_reducible refine rd_un ?_ | with_reducible refine rd_seq ?_ | with_reducible refine rd_asg ?_ | with_reducible refine rd_gname ?_ | with_reducible refine rd_ret ?_ | with_reducible refine rd_drop ?_ | with_reducible refine rd_next ?_ | with_reducible refine rd_if ?_ | with_reducible refine rd_test ?_ | with_reducible refine rd_tb ?_ | with_reducible refine rd_and ?_ | with_reducible refine rd_or ?_ | with_reducible refine rd_not ?_ | with_reducible refine rd_true ?_ | with_reducible refine rd_andV ?_ | with_reducible refine rd_orV ?_ | with_reducible refine rd_notV ?_ | with_reducible refine rd_ifE ?_ | with_reducible refine rd_chain ?_ | with_reducible refine rd_nil ?_ | with_reducible refine rd_cons ?_ | with_reducible refine rd_cb ?_ | with_reducible refine rd_call ?_ | with_reducible refine rd_I0 ?_ | with_reducible refine rd_U ?_ | with_reducible refine rd_eqI ?_ | with_reducible refine rd_neI ?_ | with_reducible refine rd_eqS ?_ | with_reducible refine rd_neS ?_ | with_reducible refine rd_eqB ?_ | with_reducible refine rd_neB ?_ | with_reducible refine rd_bl ?_ | with_reducible refine rd_int ?_ | with_reducible refine rd_tup ?_ | with_reducible refine rd_lst ?_ | with_reducible refine rd_gsub ?_ | with_reducible refine rd_slice ?_ | with_reducible refine rd_nopart ?_ | with_reducible refine rd_part ?_ | with_reducible refine rd_bm ?_ | with_reducible refine rd_bm0 ?_ | with_reducible refine rd_comp ?_ | with_reducible refine rd_itup ?_ | with_reducible refine rd_ilist ?_ | with_reducible refine rd_irng ?_ | with_reducible refine rd_gcons ?_ | with_reducible refine rd_gnil ?_ | with_reducible refine rd_for ?_ | with_reducible refine rd_abs ?_ | with_reducible refine rd_max ?_ | with_reducible refine rd_min ?_ | with_reducible refine rd_intB ?_ | with_reducible refine rd_dput ?_ | with_reducible refine rd_dget2 ?_ | with_reducible refine rd_dget ?_ | with_reducible refine rd_fld ?_ | with_reducible refine rd_sfld ?_ | with_reducible refine rd_meth ?_ | with_reducible refine rd_make ?_ | with_reducible refine rd_isN ?_ | with_reducible refine rd_notN ?_ | with_reducible refine rd_izip ?_ | with_reducible refine iteNT ?_ | with_reducible refine iteNF ?_ | with_reducible refine iteF ?_ | with_reducible refine iteT ?_))
local macro_rules | `(tactic| walk_at "rd") => `(tactic| (repeat walk_at "rd1"))
local macro_rules | `(tactic| walk_at "mk") => `(tactic| refine ⟨mk_le rfl, ?_⟩)

section
variable {P : Program} {w : World} {K : PySem.W.Frag} {mg : Str → Option Value} {base : Heap}
section
def sp_words : Sp := sp2 fun x y H Q => ∃ a b zs, x = .ref a ∧ y = .ref b ∧ H a = some (.lst ((zs : List Int).map V.int)) ∧ H b = some (.lst (zs.map V.int)) ∧ zs.length ≤ 200000 ∧ Q (.bl true) H
theorem sc__law_words : FnScope ["found", "due", "k"] ["found", "due"] (defScope s__law_words) := ⟨rfl, rfl, rfl, by decide +kernel, rfl, by decide +kernel, by decide +kernel⟩
theorem c__law_words (B : Blt mg) (T__law_words : TopFn K mg "_law_words" s__law_words ["found", "due"]) (C_law_whole : Callee P w K mg base "_law_whole" 1 ["found"] sp_wholeI) : Callee P w K mg base "_law_words" 2 ["found", "due"] sp_words := by
  refine T__law_words.ok2 sc__law_words fun f cdv A outer s H v1 v2 Q E hr h => ?_
  have nd := sc__law_words.nd
  obtain ⟨a, b, zs, rfl, rfl, ha, hb, hz, k⟩ := h
  refine' go_body [some (.ref a), some (.ref b), none] rfl ?hb ?hg
  case hb =>
   refine' pss_cons ?zb ?zc
   case zb =>
    refine' ps_if ?zd ?ze ?zf
    case zd =>
     refine' PW.pt ?zg
     case zg =>
      refine' pw_or ?zh ?zi
      case zh =>
       refine' pt_not ?zj
       case zj =>
        refine' pt_val ?zk
        case zk =>
         refine' pe_callB ?zl ?zm ?zn ?zo ?zp
         case zl => exact call_isi
         case zm => exact (by rfl)
         case zn => exact B.b_isinstance
         case zo => exact bt_isinstance
         case zp => exact (pa_consN (pv 0) (pa_consN (pe_bltn (v := .ty "list") (by rfl) B.b_list bt_list rfl) pa_nil))
      case zi =>
       refine' pw_or1 ?zq
       case zq =>
        refine' pt_cmpR ?zr ?zs ?zt ?zu
        case zr => exact op_ne
        case zs => exact (pe_callB (k_len (K := K) rfl) (by rfl) B.b_len bt_len (pa_consN (pv 0) pa_nil))
        case zt => exact (pe_callB (k_len (K := K) rfl) (by rfl) B.b_len bt_len (pa_consN (pv 1) pa_nil))
        case zu => exact (nomark _)
    case ze => exact (pss_one (ps_ret pe_bl))
    case zf => exact pss_nil
   case zc =>
    refine' pss_cons ?zv ?zw
    case zv =>
     refine' ps_for ?zx ?zy ?zz ?zba ?zbb
     case zx => exact PassesOwn.never
     case zy => exact rfl
     case zz => exact (pi_range1 rfl B.b_range (pa_consC (pe_callB (k_len (K := K) rfl) (by rfl) B.b_len bt_len (pa_consN (pv 1) pa_nil)) pa_nil))
     case zba => exact (pg_name (i := 2) nd rfl (Or.inl rfl))
     case zbb =>
      refine' pss_one ?zbc
      case zbc =>
       refine' ps_if ?zbd ?zbe ?zbf
       case zbd =>
        refine' PW.pt ?zbg
        case zbg =>
         refine' pw_or ?zbh ?zbi
         case zbh =>
          refine' pt_not ?zbj
          case zbj =>
           refine' pt_val ?zbk
           case zbk => exact (pe_fn C_law_whole (hr.mono (by first | decide | omega)) (by rfl) (pa_consS (pe_ix (k_ix (K := K) rfl) (pv 0) (pv 2) (fun _ _ => rfl)) pa_nil))
         case zbi =>
          refine' pw_or1 ?zbl
          case zbl => exact (pt_cmpR op_ne (pe_ix (k_ix (K := K) rfl) (pv 0) (pv 2) (fun _ _ => rfl)) (pe_ix (k_ix (K := K) rfl) (pv 1) (pv 2) (fun _ _ => rfl)) (nomark _))
       case zbe => exact (pss_one (ps_ret pe_bl))
       case zbf => exact pss_nil
    case zw => exact (pss_one (ps_ret pe_bl))
  walk_at "rd"
  refine rd_isi (tyN_lst ha) (by simp) (rd_bl (iteF ?_))
  walk_at "rd"
  refine rd_lenL' (SqL.of ha) ?_
  walk_at "rd"
  refine rd_lenL' (SqL.of hb) ?_
  walk_at "rd"
  refine iteNS rfl ?_
  walk_at "rd"
  refine rd_lenL' (SqL.of hb) ?_
  walk_at "rd"
  refine irK_of (by omega) (by simp; omega) ?_
  refine for_range (n := ((zs.map V.int).length : Int).toNat) (fun j σ Hy => (∃ c3, σ = [some (.ref a), some (.ref b), c3]) ∧ Hy = H) ⟨⟨none, rfl⟩, rfl⟩ ?_ ?_
  · rintro j σ Hy hj ⟨⟨c3, rfl⟩, rfl⟩
    have hj' : j < zs.length := by simpa using hj
    have e : (zs.map V.int)[j]? = some (.int zs[j]) := by simp [hj']
    walk_at "rd"
    rw [show (0 : Int) + (j : Int) = (j : Int) by omega]
    refine rd_ixaL ha (atI_at (n := j) rfl e) ?_
    walk_at "rd"
    refine use1 ⟨zs[j], rfl, ?_⟩
    walk_at "rd"
    refine rd_ixaL ha (atI_at (n := j) rfl e) ?_
    walk_at "rd"
    refine rd_ixaL hb (atI_at (n := j) rfl e) ?_
    walk_at "rd"
    refine iteNS rfl ?_
    walk_at "rd"
    exact ⟨⟨_, rfl⟩, rfl⟩
  · rintro σ Hy ⟨⟨c3, rfl⟩, rfl⟩
    walk_at "rd"
    exact k

end
section
theorem cut2 (x y v : V) : cutV [x, y, v] none (some 2) = [x, y] := cut_to (xs := [x, y, v]) (k := 2) (by simp)
def FrsAt (H : Hp) (a : Addr) (fz : List FZ) : Prop := H a = some (.lst (fz.map fun z => V.ref z.1.1)) ∧ ∀ z ∈ fz, H z.1.1 = some (.lst [.int z.2.1, .int z.2.2.1, .ref z.1.2]) ∧ H z.1.2 = some (.lst (z.2.2.2.map V.int))
theorem FrsAt.mono {H H' : Hp} {a : Addr} {fz : List FZ} (h : FrsAt H a fz) (s : Same H H') : FrsAt H' a fz := ⟨s _ _ h.1, fun z hz => ⟨s _ _ (h.2 z hz).1, s _ _ (h.2 z hz).2⟩⟩
def sp_frames : Sp := sp2 fun x y H Q => ∃ a b fz gz, x = .ref a ∧ y = .ref b ∧ FrsAt H a fz ∧ FrsAt H b gz ∧ fz.map (·.2) = gz.map (·.2) ∧ fz.length ≤ 1000 ∧ (∀ z ∈ fz, z.2.2.2.length ≤ 1000) ∧ ∀ H', Same H H' → Q (.bl true) H'
theorem sc__law_frames : FnScope ["found", "due", "one", "two"] ["found", "due"] (defScope s__law_frames) := ⟨rfl, rfl, rfl, by decide +kernel, rfl, by decide +kernel, by decide +kernel⟩
theorem c__law_frames (B : Blt mg) (T__law_frames : TopFn K mg "_law_frames" s__law_frames ["found", "due"]) (C_law_words : Callee P w K mg base "_law_words" 2 ["found", "due"] sp_words) : Callee P w K mg base "_law_frames" 3 ["found", "due"] sp_frames := by
  refine T__law_frames.ok2 sc__law_frames fun f cdv A outer s H v1 v2 Q E hr h => ?_
  have nd := sc__law_frames.nd
  obtain ⟨a, b, fz, gz, rfl, rfl, ha, hb, hfg, hz, hbx, k⟩ := h
  have hlen : fz.length = gz.length := by simpa using congrArg List.length hfg
  refine' go_body [some (.ref a), some (.ref b), none, none] rfl ?hb ?hg
  case hb =>
   refine' pss_cons ?zbm ?zbn
   case zbm =>
    refine' ps_if ?zbo ?zbp ?zbq
    case zbo =>
     refine' PW.pt ?zbr
     case zbr =>
      refine' pw_or ?zbs ?zbt
      case zbs =>
       refine' pt_not ?zbu
       case zbu =>
        refine' pt_val ?zbv
        case zbv =>
         refine' pe_callB ?zbw ?zbx ?zby ?zbz ?zca
         case zbw => exact call_isi
         case zbx => exact (by rfl)
         case zby => exact B.b_isinstance
         case zbz => exact bt_isinstance
         case zca => exact (pa_consN (pv 0) (pa_consN (pe_bltn (v := .ty "list") (by rfl) B.b_list bt_list rfl) pa_nil))
      case zbt =>
       refine' pw_or1 ?zcb
       case zcb =>
        refine' pt_cmpR ?zcc ?zcd ?zce ?zcf
        case zcc => exact op_ne
        case zcd => exact (pe_callB (k_len (K := K) rfl) (by rfl) B.b_len bt_len (pa_consN (pv 0) pa_nil))
        case zce => exact (pe_callB (k_len (K := K) rfl) (by rfl) B.b_len bt_len (pa_consN (pv 1) pa_nil))
        case zcf => exact (nomark _)
    case zbp => exact (pss_one (ps_ret pe_bl))
    case zbq => exact pss_nil
   case zbn =>
    refine' pss_cons ?zcg ?zch
    case zcg =>
     refine' ps_for ?zci ?zcj ?zck ?zcl ?zcm
     case zci => exact PassesOwn.never
     case zcj => exact rfl
     case zck => exact (k_pi_zip (K := K) rfl (by rfl) B.b_zip (pa_consN (pv 0) (pa_consN (pv 1) pa_nil)))
     case zcl => exact (k_pg_tup (K := K) (n := 2) rfl rfl (pgs_cons (pg_name (i := 2) nd rfl (Or.inl rfl)) (pgs_cons (pg_name (i := 3) nd rfl (Or.inl rfl)) pgs_nil)))
     case zcm =>
      refine' pss_cons ?zcn ?zco
      case zcn =>
       refine' ps_if ?zcp ?zcq ?zcr
       case zcp =>
        refine' PW.pt ?zcs
        case zcs =>
         refine' pw_or ?zct ?zcu
         case zct =>
          refine' pt_not ?zcv
          case zcv =>
           refine' pt_val ?zcw
           case zcw =>
            refine' pe_callB ?zcx ?zcy ?zcz ?zda ?zdb
            case zcx => exact call_isi
            case zcy => exact (by rfl)
            case zcz => exact B.b_isinstance
            case zda => exact bt_isinstance
            case zdb => exact (pa_consN (pv 2) (pa_consN (pe_bltn (v := .ty "list") (by rfl) B.b_list bt_list rfl) pa_nil))
         case zcu =>
          refine' pw_or ?zdc ?zdd
          case zdc => exact (pt_cmpR op_ne (pe_callB (k_len (K := K) rfl) (by rfl) B.b_len bt_len (pa_consN (pv 2) pa_nil)) pe_int (nomark _))
          case zdd =>
           refine' pw_or1 ?zde
           case zde =>
            refine' pt_not ?zdf
            case zdf =>
             refine' pt_val ?zdg
             case zdg =>
              refine' pe_fn ?zdh ?zdi ?zdj ?zdk
              case zdh => exact C_law_words
              case zdi => exact (hr.mono (by first | decide | omega))
              case zdj => exact (by rfl)
              case zdk =>
               refine' pa_consS ?zdl ?zdm
               case zdl => exact (pe_slice (k_sl (K := K) rfl) (pv 2) po_none (po_some pe_int))
               case zdm => exact (pa_consS (pe_slice (k_sl (K := K) rfl) (pv 3) po_none (po_some pe_int)) pa_nil)
       case zcq => exact (pss_one (ps_ret pe_bl))
       case zcr => exact pss_nil
      case zco =>
       refine' pss_one ?zdn
       case zdn =>
        refine' ps_if ?zdo ?zdp ?zdq
        case zdo =>
         refine' pt_not ?zdr
         case zdr =>
          refine' pt_val ?zds
          case zds =>
           refine' pe_fn ?zdt ?zdu ?zdv ?zdw
           case zdt => exact C_law_words
           case zdu => exact (hr.mono (by first | decide | omega))
           case zdv => exact (by rfl)
           case zdw => exact (pa_consS (pe_ix (k_ix (K := K) rfl) (pv 2) pe_int (fun _ _ => rfl)) (pa_consS (pe_ix (k_ix (K := K) rfl) (pv 3) pe_int (fun _ _ => rfl)) pa_nil))
        case zdp => exact (pss_one (ps_ret pe_bl))
        case zdq => exact pss_nil
    case zch => exact (pss_one (ps_ret pe_bl))
  walk_at "rd"
  refine rd_isi (tyN_lst ha.1) (by simp) (rd_bl (iteF ?_))
  walk_at "rd"
  refine rd_lenL' (SqL.of ha.1) ?_
  walk_at "rd"
  refine rd_lenL' (SqL.of hb.1) ?_
  walk_at "rd"
  refine iteNS (by simp [hlen]) ?_
  walk_at "rd"
  refine izK_of (SqL.of ha.1) (SqL.of hb.1) ?_
  refine for_zip (xs := fz.map fun z => V.ref z.1.1) (ys := gz.map fun z => V.ref z.1.1) (by simp [hlen]) (fun j σ Hy => (∃ c3 c4, σ = [some (.ref a), some (.ref b), c3, c4]) ∧ Same H Hy) ⟨⟨none, none, rfl⟩, Same.refl _⟩ (fun i σ Hy _ ⟨_, sy⟩ => ⟨SqL.of (sy _ _ ha.1), SqL.of (sy _ _ hb.1)⟩) ?_ ?_
  · rintro j x y T σ Hy hx hy hT ⟨⟨c3, c4, rfl⟩, sy⟩
    rw [List.getElem?_map] at hx hy
    obtain ⟨z, ez, rfl⟩ := Option.map_eq_some_iff.mp hx
    obtain ⟨z', ez', rfl⟩ := Option.map_eq_some_iff.mp hy
    have hzz : z.2 = z'.2 := by
      have := congrArg (fun l => l[j]?) hfg
      simpa [ez, ez'] using this
    have s1 := sy.trans (Same.new (o := .tup [V.ref z.1.1, V.ref z'.1.1]) hT)
    have hT1 : upd Hy T (.tup [V.ref z.1.1, V.ref z'.1.1]) T = some (.tup [V.ref z.1.1, V.ref z'.1.1]) := upd_same
    generalize upd Hy T (HO.tup [V.ref z.1.1, V.ref z'.1.1]) = H1 at s1 hT1
    obtain ⟨h1, h2⟩ := (ha.mono s1).2 z (List.mem_of_getElem? ez)
    obtain ⟨g1, g2⟩ := (hb.mono s1).2 z' (List.mem_of_getElem? ez')
    have hbl := hbx z (List.mem_of_getElem? ez)
    rw [← hzz] at g1 g2
    refine rd_gtup hT1 rfl ?_
    walk_at "rd"
    refine rd_isi (tyN_lst h1) (by simp) (rd_bl (iteF ?_))
    walk_at "rd"
    refine rd_lenL' (SqL.of h1) ?_
    walk_at "rd"
    refine iteNS rfl ?_
    walk_at "rd"
    refine rd_slL (SqL.of h1) fun p1 hp1 => ?_
    rw [cut2]
    have s2 := Same.new (o := .lst ([V.int z.2.1, V.int z.2.2.1])) hp1
    walk_at "rd"
    refine rd_slL (SqL.of (s2 _ _ g1)) fun p2 hp2 => ?_
    rw [cut2]
    have s3 := Same.new (o := .lst ([V.int z.2.1, V.int z.2.2.1])) hp2
    walk_at "rd"
    refine use2 ⟨p1, p2, [z.2.1, z.2.2.1], rfl, rfl, s3 _ _ upd_same, upd_same, by simp, ?_⟩
    have s13 := (s1.trans s2).trans s3
    have s23 := s2.trans s3
    walk_at "rd"
    refine rd_ixaL (v := .ref z.1.2) (s23 _ _ h1) rfl ?_
    walk_at "rd"
    refine rd_ixaL (v := .ref z'.1.2) (s23 _ _ g1) rfl ?_
    walk_at "rd"
    refine use2 ⟨z.1.2, z'.1.2, z.2.2.2, rfl, rfl, s23 _ _ h2, s23 _ _ g2, by omega, ?_⟩
    walk_at "rd"
    exact ⟨⟨_, _, rfl⟩, s13⟩
  · rintro σ Hy ⟨⟨c3, c4, rfl⟩, sy⟩
    walk_at "rd"
    exact k _ sy
/-! ### the law's own state -/
def sObjs (ps sf sn sl : Addr) (gz : List FZ) (h : HS) (ve : V) : List (Addr × HO) :=
  [(ps, .lst [.ref sf, .ref sl, .ref sn, .int h.gone, ve]), (sf, .lst (gz.map fun z => V.ref z.1.1)), (sn, .lst (h.news.map V.int)), (sl, .lst (h.left.map V.int))] ++ gz.flatMap frObj
theorem own_sobjs {ps sf sn sl : Addr} {gz : List FZ} {h : HS} {ve : V} : (sObjs ps sf sn sl gz h ve).map (·.1) = ownA ps sf sn sl gz := by
  unfold sObjs ownA
  rw [List.map_append, List.map_flatMap]
  rfl
structure SA (ps sf sn sl : Addr) (gz : List FZ) (H : Hp) (h : HS) (ve : V) : Prop where
  all : AllAt H (sObjs ps sf sn sl gz h ve)
  nd : (ownA ps sf sn sl gz).Nodup
  en : Rep H (En.d h.fin) ve
  fr : gz.map (·.2) = h.frames
section
variable {ps sf sn sl : Addr} {gz : List FZ} {H : Hp} {h : HS} {ve : V}
theorem SA.obj (a : SA ps sf sn sl gz H h ve) : H ps = some (.lst [.ref sf, .ref sl, .ref sn, .int h.gone, ve]) := AllAt.here (l1 := []) a.all
theorem SA.fl (a : SA ps sf sn sl gz H h ve) : H sf = some (.lst (gz.map fun z => V.ref z.1.1)) := AllAt.here (l1 := [_]) a.all
theorem SA.nl (a : SA ps sf sn sl gz H h ve) : H sn = some (.lst (h.news.map V.int)) := AllAt.here (l1 := [_, _]) a.all
theorem SA.ll (a : SA ps sf sn sl gz H h ve) : H sl = some (.lst (h.left.map V.int)) := AllAt.here (l1 := [_, _, _]) a.all
theorem SA.z1 (a : SA ps sf sn sl gz H h ve) {z : FZ} (m : z ∈ gz) : H z.1.1 = some (.lst [.int z.2.1, .int z.2.2.1, .ref z.1.2]) := a.all (z.1.1, _) (List.mem_append_right _ (List.mem_flatMap.mpr ⟨z, m, List.mem_cons_self⟩))
theorem SA.z2 (a : SA ps sf sn sl gz H h ve) {z : FZ} (m : z ∈ gz) : H z.1.2 = some (.lst (z.2.2.2.map V.int)) := a.all (z.1.2, _) (List.mem_append_right _ (List.mem_flatMap.mpr ⟨z, m, List.mem_cons_of_mem _ List.mem_cons_self⟩))
theorem SA.mono {H' : Hp} (a : SA ps sf sn sl gz H h ve) (s : Same H H') : SA ps sf sn sl gz H' h ve := ⟨a.all.mono s, a.nd, a.en.mono s.ts, a.fr⟩
theorem SA.frs (a : SA ps sf sn sl gz H h ve) : FrsAt H sf gz := ⟨a.fl, fun z m => ⟨a.z1 m, a.z2 m⟩⟩
theorem _root_.L2.HA.frs {C p dx pp pf pn pl : Addr} {fz : List FZ} {P : List Df} (a : HA C p dx pp pf pn pl fz H P h ve) : FrsAt H pf fz := ⟨a.fl, fun z m => ⟨a.z1 m, a.z2 m⟩⟩
/-- what does not touch the state's own -/
theorem SA.by {own : List Addr} {H' : Hp} (a : SA ps sf sn sl gz H h ve) (s : OSame own H H') (n : NoTup own H) (m : ∀ x ∈ ownA ps sf sn sl gz, x ∉ own) : SA ps sf sn sl gz H' h ve :=
  ⟨a.all.by fun x o hx e => s x o (m x (by rw [← own_sobjs (h := h) (ve := ve)]; exact hx)) e, a.nd, a.en.mono (s.ts n), a.fr⟩
end

end
section
variable {C : Addr}
theorem rd_eqEn {H : Hp} {x y : V} {e : En} {Q : VK} (h1 : Rep H (En.d (some e)) x) (h2 : Rep H (En.d (some e)) y) (q : Q (.bl true) H) : rEqD x y H Q := by
  cases e <;> exact ⟨_, _, h1, h2, rfl, rfl, by simp [D.deps, D.dep], by rw [eqD_same]; exact q⟩
theorem ty_en {H : Hp} {x : V} {e : En} (h : Rep H (En.d (some e)) x) : tyN H x = some "tuple" := by
  cases e <;> (obtain ⟨a, _, rfl, ha, _⟩ := rep_tup_inv h; exact tyN_tup ha)
def sp_fields (C : Addr) : Sp := sp2 fun x y H Q => ∃ p dx pp pf pn pl fz P h ve ps sf sn sl gz ve', x = .ref p ∧ y = .ref ps ∧ HA C p dx pp pf pn pl fz H P h ve ∧ SA ps sf sn sl gz H h ve' ∧ h.frames.length ≤ 1000 ∧ (∀ fr ∈ h.frames, fr.2.2.length ≤ 1000) ∧ h.left.length ≤ 200000 ∧ h.news.length ≤ 200000 ∧ ∀ H', Same H H' → Q (.bl true) H'
theorem sc__law_fields : FnScope ["hand", "state"] ["hand", "state"] (defScope s__law_fields) := ⟨rfl, rfl, rfl, by decide +kernel, rfl, by decide +kernel, by decide +kernel⟩
theorem c__law_fields (B : Blt mg) (HHand : CHand K C) (T__law_fields : TopFn K mg "_law_fields" s__law_fields ["hand", "state"]) (C_law_whole : Callee P w K mg base "_law_whole" 1 ["found"] sp_wholeI) (C_law_words : Callee P w K mg base "_law_words" 2 ["found", "due"] sp_words) (C_law_frames : Callee P w K mg base "_law_frames" 3 ["found", "due"] sp_frames) : Callee P w K mg base "_law_fields" 4 ["hand", "state"] (sp_fields C) := by
  refine T__law_fields.ok2 sc__law_fields fun f cdv A outer s H v1 v2 Q E hr h => ?_
  have nd := sc__law_fields.nd
  have hu := hr.units
  obtain ⟨p, dx, pp, pf, pn, pl, fz, Pg, h, ve, ps, sf, sn, sl, gz, ve', rfl, rfl, a, st, hf, hb, hl, hn, k⟩ := h
  refine' go_body [some (.ref p), some (.ref ps)] rfl ?hb ?hg
  case hb =>
   refine' pss_cons ?zdx ?zdy
   case zdx =>
    refine' ps_if ?zdz ?zea ?zeb
    case zdz =>
     refine' PW.pt ?zec
     case zec =>
      refine' pw_or ?zed ?zee
      case zed =>
       refine' pt_not ?zef
       case zef =>
        refine' pt_val ?zeg
        case zeg =>
         refine' pe_fn ?zeh ?zei ?zej ?zek
         case zeh => exact C_law_frames
         case zei => exact (hr.mono (by first | decide | omega))
         case zej => exact (by rfl)
         case zek => exact (pa_consA (k_fld (K := K) rfl (pv 0) rfl) (pa_consS (pe_ix (k_ix (K := K) rfl) (pv 1) pe_int (fun _ _ => rfl)) pa_nil))
      case zee =>
       refine' pw_or1 ?zel
       case zel =>
        refine' pt_not ?zem
        case zem =>
         refine' pt_val ?zen
         case zen =>
          refine' pe_fn ?zeo ?zep ?zeq ?zer
          case zeo => exact C_law_words
          case zep => exact (hr.mono (by first | decide | omega))
          case zeq => exact (by rfl)
          case zer => exact (pa_consA (k_fld (K := K) rfl (pv 0) rfl) (pa_consS (pe_ix (k_ix (K := K) rfl) (pv 1) pe_int (fun _ _ => rfl)) pa_nil))
    case zea => exact (pss_one (ps_ret pe_bl))
    case zeb => exact pss_nil
   case zdy =>
    refine' pss_cons ?zes ?zet
    case zes =>
     refine' ps_if ?zeu ?zev ?zew
     case zeu =>
      refine' PW.pt ?zex
      case zex =>
       refine' pw_or ?zey ?zez
       case zey =>
        refine' pt_not ?zfa
        case zfa =>
         refine' pt_val ?zfb
         case zfb =>
          refine' pe_fn ?zfc ?zfd ?zfe ?zff
          case zfc => exact C_law_words
          case zfd => exact (hr.mono (by first | decide | omega))
          case zfe => exact (by rfl)
          case zff => exact (pa_consA (k_fld (K := K) rfl (pv 0) rfl) (pa_consS (pe_ix (k_ix (K := K) rfl) (pv 1) pe_int (fun _ _ => rfl)) pa_nil))
       case zez =>
        refine' pw_or ?zfg ?zfh
        case zfg => exact (pt_not (pt_val (pe_fn C_law_whole (hr.mono (by first | decide | omega)) (by rfl) (pa_consA (k_fld (K := K) rfl (pv 0) rfl) pa_nil))))
        case zfh => exact (pw_or1 (pt_cmpR op_ne (k_fld (K := K) rfl (pv 0) rfl) (pe_ix (k_ix (K := K) rfl) (pv 1) pe_int (fun _ _ => rfl)) (nomark _)))
     case zev => exact (pss_one (ps_ret pe_bl))
     case zew => exact pss_nil
    case zet =>
     refine' pss_cons ?zfi ?zfj
     case zfi =>
      refine' ps_if ?zfk ?zfl ?zfm
      case zfk => exact (pt_cmpR op_isN' (pe_ix (k_ix (K := K) rfl) (pv 1) pe_int (fun _ _ => rfl)) pe_non (nomark _))
      case zfl => exact (pss_one (ps_ret (pe_cmpR op_isN' (k_fld (K := K) rfl (pv 0) rfl) pe_non (nomark _))))
      case zfm => exact pss_nil
     case zfj =>
      refine' pss_one ?zfn
      case zfn =>
       refine' ps_ret ?zfo
       case zfo =>
        refine' pe_and ?zfp ?zfq
        case zfp =>
         refine' pe_callB ?zfr ?zfs ?zft ?zfu ?zfv
         case zfr => exact call_isi
         case zfs => exact (by rfl)
         case zft => exact B.b_isinstance
         case zfu => exact bt_isinstance
         case zfv => exact (pa_consA (k_fld (K := K) rfl (pv 0) rfl) (pa_consN (pe_bltn (v := .ty "tuple") (by rfl) B.b_tuple bt_tuple rfl) pa_nil))
        case zfq => exact (pe_one (pe_cmpR (op_eqD hu) (k_fld (K := K) rfl (pv 0) rfl) (pe_ix (k_ix (K := K) rfl) (pv 1) pe_int (fun _ _ => rfl)) (nomark _)))
  walk_at "rd"
  refine fld_of a.obj HHand.cl HHand.n_frames hf_frames ?_
  walk_at "rd"
  refine rd_ixaL (v := .ref sf) st.obj rfl ?_
  walk_at "rd"
  refine use2 ⟨pf, sf, fz, gz, rfl, rfl, a.frs, st.frs, by rw [a.fr, st.fr], by rw [← a.fr] at hf; simpa using hf, fun z hz => hb z.2 (by rw [← a.fr]; exact List.mem_map_of_mem hz), fun H1 s1 => ?_⟩
  have a1 := a.mono s1
  have st1 := st.mono s1
  walk_at "rd"
  refine fld_of a1.obj HHand.cl HHand.n_left hf_left ?_
  walk_at "rd"
  refine rd_ixaL (v := .ref sl) st1.obj rfl ?_
  walk_at "rd"
  refine use2 ⟨pl, sl, h.left, rfl, rfl, a1.ll, st1.ll, hl, ?_⟩
  walk_at "rd"
  refine fld_of a1.obj HHand.cl HHand.n_news hf_news ?_
  walk_at "rd"
  refine rd_ixaL (v := .ref sn) st1.obj rfl ?_
  walk_at "rd"
  refine use2 ⟨pn, sn, h.news, rfl, rfl, a1.nl, st1.nl, hn, ?_⟩
  walk_at "rd"
  refine fld_of a1.obj HHand.cl HHand.n_gone hf_gone ?_
  walk_at "rd"
  refine use1 ⟨h.gone, rfl, ?_⟩
  walk_at "rd"
  refine fld_of a1.obj HHand.cl HHand.n_gone hf_gone ?_
  walk_at "rd"
  refine rd_ixaL (v := .int h.gone) st1.obj rfl ?_
  walk_at "rd"
  refine iteNS rfl ?_
  walk_at "rd"
  refine rd_ixaL (v := ve') st1.obj rfl ?_
  walk_at "rd"
  have e1 := a1.en
  have e2 := st1.en
  cases hfin : h.fin with
  | none =>
    rw [hfin] at e1 e2
    obtain rfl := en_non e1
    obtain rfl := en_non e2
    refine ite_dy rfl ?_
    walk_at "rd"
    refine fld_of a1.obj HHand.cl HHand.n_end hf_end ?_
    walk_at "rd"
    exact k _ s1
  | some e =>
    rw [hfin] at e1 e2
    refine ite_dn (en_ref e2) ?_
    walk_at "rd"
    refine fld_of a1.obj HHand.cl HHand.n_end hf_end ?_
    walk_at "rd"
    refine rd_isi (ty_en e1) (by simp) ?_
    walk_at "rd"
    refine iteT ?_
    walk_at "rd"
    refine fld_of a1.obj HHand.cl HHand.n_end hf_end ?_
    walk_at "rd"
    refine rd_ixaL (v := ve') st1.obj rfl ?_
    exact rd_eqEn e1 e2 (k _ s1)

end
end
end My

end
section


set_option Elab.async false
set_option linter.all false
set_option maxRecDepth 100000
set_option maxHeartbeats 4000000

namespace My
open PySem L2
local macro_rules | `(tactic| walk_at "rd1") => `(tactic| (first | ((with_reducible refine' rd_var ?e ?_); (case e => exact rfl)) | with_reducible refine rd_c ?_ | with_reducible refine rd_op ?_ | with_reducible refine rd_un ?_ | with_reducible refine rd_seq ?_ | with_reducible refine rd_asg ?_ | with_reducible refine rd_gname ?_ | with_reducible refine rd_ret ?_ | with_reducible refine rd_drop ?_ | with_reducible refine rd_next ?_ | with_reducible refine rd_if ?_ | with_reducible refine rd_test ?_ | with_reducible refine rd_tb ?_ | with_reducible refine rd_and ?_ | with_reducible refine rd_or ?_ | with_reducible refine rd_not ?_ | with_reducible refine rd_true ?_ | with_reducible refine rd_andV ?_ | with_reducible refine rd_orV ?_ | with_reducible refine rd_notV ?_ | with_reducible refine rd_ifE ?_ | with_reducible refine rd_chain ?_ | with_reducible refine rd_nil ?_ | with_reducible refine rd_cons ?_ | with_reducible refine rd_cb ?_ | with_reducible refine rd_call ?_ | with_reducible refine rd_I0 ?_ | with_reducible refine rd_U ?_ | with_reducible refine rd_eqI ?_ | with_reducible refine rd_neI ?_ | with_reducible refine rd_eqS ?_ | with_reducible refine rd_neS ?_ | with_reducible refine rd_eqB ?_ | with_reducible refine rd_neB ?_ | with_reducible refine rd_bl ?_ | with_reducible refine rd_int ?_ | with_reducible refine rd_tupN ?_ | with_reducible refine rd_lstN ?_ | with_reducible refine rd_gsub ?_ | with_reducible refine rd_slice ?_ | with_reducible refine rd_nopart ?_ | with_reducible refine rd_part ?_ | with_reducible refine rd_bm ?_ | with_reducible refine rd_bm0 ?_ | with_reducible refine rd_comp ?_ | with_reducible refine rd_itup ?_ | with_reducible refine rd_ilist ?_ | with_reducible refine rd_irng ?_ | with_reducible refine rd_gcons ?_ | with_reducible refine rd_gnil ?_ | with_reducible refine rd_for ?_ | with_reducible refine rd_abs ?_ | with_reducible refine rd_max ?_ | with_reducible refine rd_min ?_ | with_reducible refine rd_intB ?_ | with_reducible refine rd_dput ?_ | with_reducible refine rd_dget2 ?_ | with_reducible refine rd_dget ?_ | with_reducible refine rd_fld ?_ | with_reducible refine rd_sfld ?_ | with_reducible refine rd_meth ?_ | with_reducible refine rd_makeN ?_ | with_reducible refine rd_isN ?_ | with_reducible refine rd_notN ?_ | with_reducible refine rd_izip ?_ | with_reducible refine iteNT ?_ | with_reducible refine iteNF ?_ | with_reducible refine iteF ?_ | with_reducible refine iteT ?_))
local macro_rules | `(tactic| walk_at "rd") => `(tactic| (repeat walk_at "rd1"))
local macro_rules | `(tactic| walk_at "mk") => `(tactic| refine ⟨mk_le rfl, ?_⟩)
local macro_rules | `(tactic| walk_at "rp") => `(tactic| (repeat first | exact reps_nil | refine reps_cons rep_int ?_ | refine reps_cons (by rw [Rep]) ?_ | refine reps_cons (by rw [Rep]; rfl) ?_ | refine reps_cons (by assumption) ?_))

section
variable {P : Program} {w : World} {K : PySem.W.Frag} {mg : Str → Option Value} {base : Heap}
section
/-! ### the hand's way, turn by turn -/
def hit (P : List Df) (ns : List Int) : Nat → HS
  | 0 => hand0 P ns
  | i + 1 => (hit P ns i).go P
theorem go_fix {P : List Df} {h : HS} {e : En} (hf : h.fin = some e) : h.go P = h := by unfold HS.go; rw [hf]
theorem hand0_ok {P : List Df} {ns : List Int} (PO : PgOk P) (hn : ∀ x ∈ ns, x.natAbs ≤ 10 ^ 60) (hl : ns.length ≤ 100000) : HsOk P (hand0 P ns) := by
  obtain ⟨d0, ed0⟩ : ∃ d0, P[(0 : Int).toNat]? = some d0 := ⟨P[0]'(by have := PO.1; exact List.length_pos_iff.mpr this), List.getElem?_eq_getElem _⟩
  have D0 := PO.2.2 d0 (List.mem_of_getElem? ed0)
  refine ⟨by simp [hand0], by simp [hand0], fun fr hfr => ?_, fun i fr e hi => ?_, hn, Int.le_refl _, by simp [hand0]; omega⟩
  · obtain rfl := List.mem_singleton.mp hfr
    exact fr_new PO (Int.le_refl _) ed0 (by have := D0.b; simp; omega) fun x hx => by cases hx
  · simp [hand0] at hi
theorem go_gone {P : List Df} {h : HS} : (h.go P).gone ≤ h.gone + 1 := by
  unfold HS.go
  cases h.fin with
  | some e => simp only; omega
  | none =>
    simp only
    cases h.frames.getLast? with
    | none => simp only; omega
    | some fr =>
      simp only
      cases rowAt P fr.1 fr.2.1 with
      | none => simp only; omega
      | some r =>
        simp only
        cases endAt h fr r with
        | none => simp only; omega
        | some e => simp only; omega
theorem hit_ok {P : List Df} {ns : List Int} (PO : PgOk P) (hn : ∀ x ∈ ns, x.natAbs ≤ 10 ^ 60) (hl : ns.length ≤ 100000) : ∀ i, HsOk P (hit P ns i) ∧ (hit P ns i).gone ≤ i
  | 0 => ⟨hand0_ok PO hn hl, Int.le_refl _⟩
  | i + 1 => by
    obtain ⟨a, b⟩ := hit_ok PO hn hl i
    refine ⟨a.go PO, ?_⟩
    have := go_gone (P := P) (h := hit P ns i)
    show ((hit P ns i).go P).gone ≤ ((i + 1 : Nat) : Int)
    omega
theorem SA.own_some {ps sf sn sl : Addr} {gz : List FZ} {H : Hp} {h : HS} {ve : V} (a : SA ps sf sn sl gz H h ve) {b : Addr} (m : b ∈ ownA ps sf sn sl gz) : H b ≠ none := fun e => by
  rw [← own_sobjs (h := h) (ve := ve)] at m
  obtain ⟨x, hx, rfl⟩ := List.mem_map.mp m
  rw [a.all x hx] at e
  cases e
variable {C : Addr}
def endD (h : HS) : D := match h.fin with
  | some e => En.d (some e)
  | none => match h.frames.getLast? with
    | some fr => .tup [.str "far", .int fr.1, .int fr.2.1]
    | none => .non
theorem endD_some {h : HS} {e : En} (hf : h.fin = some e) : endD h = En.d (some e) := by unfold endD; rw [hf]
theorem endD_none {h : HS} {fs : List Fr} {fr : Fr} (hf : h.fin = none) (e : h.frames = fs ++ [fr]) : endD h = .tup [.str "far", .int fr.1, .int fr.2.1] := by
  unfold endD; rw [hf, e]; simp
def sp_end_of (C : Addr) : Sp := sp1 fun x H Q => ∃ p dx pp pf pn pl fz P h ve, x = .ref p ∧ HA C p dx pp pf pn pl fz H P h ve ∧ h.frames ≠ [] ∧ ∀ v H', Same H H' → Rep H' (endD h) v → Q v H'
theorem sc_end_of : FnScope ["hand"] ["hand"] (defScope s_end_of) := ⟨rfl, rfl, rfl, by decide +kernel, rfl, by decide +kernel, by decide +kernel⟩
theorem c_end_of (HHand : CHand K C) (T_end_of : TopFn K mg "end_of" s_end_of ["hand"]) : Callee P w K mg base "end_of" 1 ["hand"] (sp_end_of C) := by
  refine T_end_of.ok1 sc_end_of fun f cdv A outer s H v1 Q E hr hh => ?_
  have nd := sc_end_of.nd
  obtain ⟨p, dx, pp, pf, pn, pl, fz, Pg, h, ve, rfl, a, ne, k⟩ := hh
  refine' go_body [some (.ref p)] rfl ?hb ?hg
  case hb =>
   refine' pss_cons ?zb ?zc
   case zb =>
    refine' ps_if ?zd ?ze ?zf
    case zd => exact (pt_cmpR op_isN' (k_fld (K := K) rfl (pv 0) rfl) pe_non (nomark _))
    case ze =>
     refine' pss_one ?zg
     case zg =>
      refine' ps_ret ?zh
      case zh =>
       refine' pe_tup ?zi
       case zi =>
        refine' pa_consK ?zj ?zk
        case zj => exact pe_str
        case zk =>
         refine' pa_consS ?zl ?zm
         case zl => exact (pe_ix (k_ix (K := K) rfl) (pe_ix (k_ix (K := K) rfl) (k_fld (K := K) rfl (pv 0) rfl) (pe_un un_neg pe_int) (fun _ _ => rfl)) pe_int (fun _ _ => rfl))
         case zm =>
          refine' pa_consS ?zn ?zo
          case zn => exact (pe_ix (k_ix (K := K) rfl) (pe_ix (k_ix (K := K) rfl) (k_fld (K := K) rfl (pv 0) rfl) (pe_un un_neg pe_int) (fun _ _ => rfl)) pe_int (fun _ _ => rfl))
          case zo => exact pa_nil
    case zf => exact pss_nil
   case zc => exact (pss_one (ps_ret (k_fld (K := K) rfl (pv 0) rfl)))
  obtain ⟨fz0, z, hz⟩ : ∃ fz0 z, fz = fz0 ++ [z] := by
    rcases List.eq_nil_or_concat fz with e | ⟨l, x, e⟩
    · have := a.fr
      rw [e] at this
      exact absurd this.symm ne
    · exact ⟨l, x, by simpa using e⟩
  subst hz
  have hfr : h.frames = fz0.map (·.2) ++ [z.2] := by rw [← a.fr]; simp
  have z1 := a.z1 (z := z) (by simp)
  walk_at "rd"
  refine fld_of a.obj HHand.cl HHand.n_end hf_end ?_
  walk_at "rd"
  have en := a.en
  cases hf : h.fin with
  | none =>
    rw [hf] at en
    obtain rfl := en_non en
    refine ite_dy rfl ?_
    walk_at "rd"
    refine fld_of a.obj HHand.cl HHand.n_frames hf_frames ?_
    walk_at "rd"
    refine rd_ixaL a.fl fz_last ?_
    walk_at "rd"
    refine rd_ixaL (v := .int z.2.1) z1 rfl ?_
    walk_at "rd"
    refine fld_of a.obj HHand.cl HHand.n_frames hf_frames ?_
    walk_at "rd"
    refine rd_ixaL a.fl fz_last ?_
    walk_at "rd"
    refine rd_ixaL (v := .int z.2.2.1) z1 rfl ?_
    walk_at "rd"
    walk_at "mk"; intro t ht
    refine k _ _ (Same.new ht) ?_
    rw [endD_none hf hfr]
    exact rep_tup upd_same (reps_cons (by rw [Rep]) (reps_cons rep_int (reps_cons rep_int reps_nil)))
  | some e =>
    rw [hf] at en
    refine ite_dn (en_ref en) ?_
    walk_at "rd"
    refine fld_of a.obj HHand.cl HHand.n_end hf_end ?_
    exact k _ _ (Same.refl _) (by rw [endD_some hf]; exact en)
theorem hit_gone {P : List Df} {ns : List Int} {i : Nat} (PO : PgOk P) (HO : HsOk P (hit P ns i)) (h : (hit P ns (i + 1)).fin = none) : (hit P ns (i + 1)).gone = (hit P ns i).gone + 1 := by
  have h' : ((hit P ns i).go P).fin = none := h
  show ((hit P ns i).go P).gone = _
  generalize hit P ns i = g at HO h'
  cases hf : g.fin with
  | some e => rw [go_fix hf, hf] at h'; cases h'
  | none =>
    obtain ⟨fs, fr, hfr⟩ : ∃ fs fr, g.frames = fs ++ [fr] := by
      rcases List.eq_nil_or_concat g.frames with e | ⟨l, x, e⟩
      · exact absurd e HO.ne
      · exact ⟨l, x, by simpa using e⟩
    obtain ⟨d, f0, ed, hat, hbx⟩ := (HO.fr fr (by rw [hfr]; simp)).ex
    have hlt : fr.2.1.toNat < d.rows.length := by have := hat.1; have := hat.2; omega
    have hra : rowAt P fr.1 fr.2.1 = some d.rows[fr.2.1.toNat] := by unfold rowAt; rw [ed]; exact List.getElem?_eq_getElem hlt
    have hgo := go_eq hf hfr hra
    rw [hgo] at h' ⊢
    cases he : endAt g fr d.rows[fr.2.1.toNat] with
    | some e => rw [he] at h'; cases h'
    | none => rfl
theorem hit_stay {P : List Df} {ns : List Int} {i : Nat} {e : En} (h : (hit P ns i).fin = some e) : ∀ j, hit P ns (i + j) = hit P ns i
  | 0 => rfl
  | j + 1 => by
    show (hit P ns (i + j)).go P = _
    rw [hit_stay h j]
    exact go_fix h
/-- behind i turns of a run that goes on as long as there is no end and fewer than m rows are gone -/
structure Ran (P : List Df) (ns : List Int) (m : Int) (i : Nat) : Prop where
  le : i ≤ m.toNat
  gone : (hit P ns i).fin = none → (hit P ns i).gone = i
theorem Ran.zero {P : List Df} {ns : List Int} {m : Int} : Ran P ns m 0 := ⟨Nat.zero_le _, fun _ => rfl⟩
theorem Ran.next {P : List Df} {ns : List Int} {m : Int} {i : Nat} (PO : PgOk P) (HO : HsOk P (hit P ns i)) (r : Ran P ns m i) (hf : (hit P ns i).fin = none) (hg : (hit P ns i).gone < m) : Ran P ns m (i + 1) := by
  have := r.gone hf
  refine ⟨by omega, fun h => ?_⟩
  rw [hit_gone PO HO h, this]
  push_cast
  rfl
theorem Ran.done1 {P : List Df} {ns : List Int} {m : Int} {i : Nat} {e : En} (r : Ran P ns m i) (h : (hit P ns i).fin = some e) : hit P ns m.toNat = hit P ns i := by
  have := hit_stay h (m.toNat - i)
  have hle := r.le
  rwa [show i + (m.toNat - i) = m.toNat by omega] at this
theorem Ran.done2 {P : List Df} {ns : List Int} {m : Int} {i : Nat} (r : Ran P ns m i) (h : (hit P ns i).fin = none) (hg : ¬ (hit P ns i).gone < m) : hit P ns m.toNat = hit P ns i := by
  have := r.gone h
  have hle := r.le
  rw [show m.toNat = i by omega]
def sp_ran : Sp := sp3 fun x y z H Q => ∃ P pp q ns m, x = .ref pp ∧ y = .ref q ∧ z = .int m ∧ PgAt [] H P pp ∧ PgOk P ∧ H q = some (.lst ((ns : List Int).map V.int)) ∧ ns.length ≤ 100000 ∧ (∀ x ∈ ns, x.natAbs ≤ 10 ^ 60) ∧ m ≤ 900 ∧
  ∀ t ve pn H', Same H H' → H' t = some (.tup [ve, .ref pn, .int (hit P ns m.toNat).gone]) → Rep H' (endD (hit P ns m.toNat)) ve → H' pn = some (.lst ((hit P ns m.toNat).news.map V.int)) → H pn = none → Q (.ref t) H'
theorem sc_run : FnScope ["program", "inputs", "most", "hand"] ["program", "inputs", "most"] (defScope s_run) := ⟨rfl, rfl, rfl, by decide +kernel, rfl, by decide +kernel, by decide +kernel⟩
theorem c_run (B : Blt mg) (HHand : CHand K C) (T_run : TopFn K mg "run" s_run ["program", "inputs", "most"]) (NHand : CCal P w K mg base C "Hand" 2 ["self", "program", "inputs"] (sp_init C)) (MHand_go : MCal P w K mg base C "go" 4 ["self"] (sp_go C)) (Cend_of : Callee P w K mg base "end_of" 1 ["hand"] (sp_end_of C)) : Callee P w K mg base "run" 5 ["program", "inputs", "most"] sp_ran := by
  refine T_run.ok3 sc_run fun f cdv A outer s H v1 v2 v3 Q E hr hh => ?_
  have nd := sc_run.nd
  obtain ⟨Pg, pp, q, ns, m, rfl, rfl, rfl, pg, PO, hq, hl, hn, hm, k⟩ := hh
  refine' go_body [some (.ref pp), some (.ref q), some (.int m), none] rfl ?hb ?hg
  case hb =>
   refine' pss_cons ?zp ?zq
   case zp => exact (ps_setC (i := 3) nd rfl (Or.inl rfl) (pe_new NHand (hr.mono (by first | decide | omega)) (by rfl) (pa_consN (pv 0) (pa_consN (pv 1) pa_nil))))
   case zq =>
    refine' pss_cons ?zr ?zs
    case zr =>
     refine' ps_while ?zt ?zu ?zv
     case zt => exact PassesOwn.never
     case zu =>
      refine' PW.pt ?zw
      case zw =>
       refine' pw_and ?zx ?zy
       case zx => exact (pt_cmpR op_isN' (k_fld (K := K) rfl (pv 3) rfl) pe_non (nomark _))
       case zy => exact (pw_and1 (pt_cmpR op_lt (k_fld (K := K) rfl (pv 3) rfl) (pv 2) (nomark _)))
     case zv => exact (pss_one (ps_expr (pe_m0 MHand_go HHand.cl (hr.mono (by first | decide | omega)) (pv 3))))
    case zs =>
     refine' pss_one ?zz
     case zz =>
      refine' ps_ret ?zba
      case zba =>
       refine' pe_tup ?zbb
       case zbb =>
        refine' pa_consC ?zbc ?zbd
        case zbc => exact (pe_fn Cend_of (hr.mono (by first | decide | omega)) (by rfl) (pa_consN (pv 3) pa_nil))
        case zbd => exact (pa_consA (k_fld (K := K) rfl (pv 3) rfl) (pa_consA (k_fld (K := K) rfl (pv 3) rfl) pa_nil))
  have HOA := fun i => hit_ok PO hn hl i
  walk_at "rd"
  intro p dx hp hdx hne
  have s2 : Same H (upd (upd H dx (.own p)) p (.ins C dx [])) := (Same.new (o := .own p) hdx).trans (Same.new (by rw [upd_ne (fun z => hne z.symm)]; exact hp))
  have hp2 : upd (upd H dx (.own p)) p (.ins C dx []) p = some (.ins C dx []) := upd_same
  generalize upd (upd H dx (HO.own p)) p (HO.ins C dx []) = H2 at s2 hp2
  refine use3 ⟨p, dx, Pg, pp, q, ns, rfl, rfl, rfl, hp2, pg.by (OSame.of s2) s2.ts (fun x hx => by cases hx), PO, s2 _ _ hq, hl, fun pa pf pn pl fz H3 a3 o3 f3 g3 => ⟨rfl, ?_⟩⟩
  have s3 : Same H H3 := fun a o e => o3 a o (fun m => by rw [List.mem_singleton.mp m, hp] at e; cases e) (s2 _ _ e)
  have n3 : ∀ x ∈ ownA p pf pn pl fz, H x = none := fun x hx => by
    rcases f3 x hx with h | h
    · rw [h]; exact hp
    · exact s2.free h
  walk_at "rd"
  refine ⟨fun mm σ Hx => ∃ i fz ve, mm = m.toNat - i ∧ σ = [some (.ref pp), some (.ref q), some (.int m), some (.ref p)] ∧ Ran Pg ns m i ∧ HA C p dx pa pf pn pl fz Hx Pg (hit Pg ns i) ve ∧ Same H Hx ∧ ∀ x ∈ ownA p pf pn pl fz, H x = none, ⟨m.toNat, 0, fz, .non, rfl, rfl, Ran.zero, a3, s3, n3⟩, ?_⟩
  rintro mm σ Hx ⟨i, fz, ve, rfl, rfl, rn, a, sx, nx⟩
  obtain ⟨HOi, gi⟩ := HOA i
  have fin : hit Pg ns m.toNat = hit Pg ns i → (tRet (tTup (tCons (tCall (sp_end_of C) [] E0 (tCons (tVar 3) tNil)) (tCons (tFld K (tVar 3) "news") (tCons (tFld K (tVar 3) "gone") tNil))))) { nx := fun _ H' => Q .non H', rt := Q } [some (.ref pp), some (.ref q), some (.int m), some (.ref p)] Hx := by
    intro hi
    rw [hi] at k
    walk_at "rd"
    refine use1 ⟨p, dx, pa, pf, pn, pl, fz, Pg, hit Pg ns i, ve, rfl, a, HOi.ne, fun v H4 s4 r4 => ?_⟩
    have a4 := a.mono s4
    walk_at "rd"
    refine fld_of a4.obj HHand.cl HHand.n_news hf_news ?_
    walk_at "rd"
    refine fld_of a4.obj HHand.cl HHand.n_gone hf_gone ?_
    walk_at "rd"
    walk_at "mk"; intro t ht
    have s5 := Same.new (o := .tup [v, .ref pn, .int (hit Pg ns i).gone]) ht
    exact k t v pn _ ((sx.trans s4).trans s5) upd_same (r4.mono s5.ts) (s5 _ _ a4.nl) (nx pn (by simp [ownA]))
  walk_at "rd"
  refine fld_of a.obj HHand.cl HHand.n_end hf_end ?_
  walk_at "rd"
  have en := a.en
  cases hf : (hit Pg ns i).fin with
  | some e =>
    rw [hf] at en
    refine ite_dn (en_ref en) ?_
    refine iteF ?_
    exact fin (rn.done1 hf)
  | none =>
    rw [hf] at en
    obtain rfl := en_non en
    refine ite_dy rfl ?_
    walk_at "rd"
    refine fld_of a.obj HHand.cl HHand.n_gone hf_gone ?_
    walk_at "rd"
    refine ite_dd (fun hg => ?_) (fun hg => fin (rn.done2 hf hg))
    refine ⟨fun σ' H' => ∃ m', m' < m.toNat - i ∧ ∃ i fz ve, m' = m.toNat - i ∧ σ' = [some (.ref pp), some (.ref q), some (.int m), some (.ref p)] ∧ Ran Pg ns m i ∧ HA C p dx pa pf pn pl fz H' Pg (hit Pg ns i) ve ∧ Same H H' ∧ ∀ x ∈ ownA p pf pn pl fz, H x = none, fun _ _ h => h, ?_⟩
    walk_at "rd"
    refine meth_of a.obj hm_go ?_
    walk_at "rd"
    refine use1 ⟨p, dx, pa, pf, pn, pl, fz, Pg, hit Pg ns i, .non, rfl, a, PO, HOi, by omega, fun fz' ve3 H4 a4 o4 f4 => ?_⟩
    have rn' := rn.next PO HOi hf hg
    have hgi := rn.gone hf
    refine ⟨_, ?_, i + 1, fz', ve3, rfl, rfl, rn', a4, fun b o e => o4 b o (fun mm => by rw [nx b mm] at e; cases e) (sx _ _ e), fun x hx => ?_⟩
    · have := rn'.le; omega
    · rcases f4 x hx with h | h
      · exact nx x h
      · exact sx.free h

variable {C : Addr}
/-- a hand's places -/
structure HR where
  p : Addr
  dx : Addr
  pa : Addr
  pf : Addr
  pn : Addr
  pl : Addr
  fz : List FZ
  ve : V
abbrev HR.own (r : HR) : List Addr := ownA r.p r.pf r.pn r.pl r.fz
abbrev HR.At (C : Addr) (r : HR) (H : Hp) (P : List Df) (h : HS) : Prop := HA C r.p r.dx r.pa r.pf r.pn r.pl r.fz H P h r.ve
theorem mk_hand {H : Hp} {P : List Df} {pp q : Addr} {ns : List Int} {Q : VK} (oth : List Addr) (pg : PgAt [] H P pp) (PO : PgOk P) (hq : H q = some (.lst (ns.map V.int))) (hl : ns.length ≤ 100000) (ho : ∀ x ∈ oth, H x ≠ none)
    (k : ∀ (r : HR) (H' : Hp) (kq : List Addr), Same H H' → r.At C H' P (hand0 P ns) → (∀ x ∈ r.own, H x = none) → PgF kq H' P r.pa → (∀ x ∈ kq, H' x ≠ none ∧ x ∉ r.own ∧ x ∉ oth) → Q (.ref r.p) H') : NewI C (sp_init C) [.ref pp, .ref q] H Q := by
  intro p dx hp hdx hne
  have s2 : Same H (upd (upd H dx (.own p)) p (.ins C dx [])) := (Same.new (o := .own p) hdx).trans (Same.new (by rw [upd_ne (fun z => hne z.symm)]; exact hp))
  have hp2 : upd (upd H dx (.own p)) p (.ins C dx []) p = some (.ins C dx []) := upd_same
  generalize upd (upd H dx (HO.own p)) p (HO.ins C dx []) = H2 at s2 hp2
  refine use3 ⟨p, dx, P, pp, q, ns, rfl, rfl, rfl, hp2, pg.by (OSame.of s2) s2.ts (fun x hx => by cases hx), PO, s2 _ _ hq, hl, fun pa pf pn pl fz H3 a3 o3 f3 g3 => ⟨rfl, ?_⟩⟩
  have s3 : Same H H3 := fun a o e => o3 a o (fun m => by rw [List.mem_singleton.mp m, hp] at e; cases e) (s2 _ _ e)
  have n3 : ∀ x ∈ ownA p pf pn pl fz, H x = none := fun x hx => by
    rcases f3 x hx with h | h
    · rw [h]; exact hp
    · exact s2.free h
  obtain ⟨kq, pga, hkq⟩ := PgF.of (g3 (ownA p pf pn pl fz ++ oth) fun x hx => by
    rcases List.mem_append.mp hx with h | h
    · exact .inl h
    · right
      intro e
      exact ho x h (s2.free e))
  refine k ⟨p, dx, pa, pf, pn, pl, fz, .non⟩ H3 kq s3 a3 n3 pga fun x hx => ?_
  obtain ⟨⟨ys, e⟩, n⟩ := hkq x hx
  exact ⟨by rw [e]; simp, fun m => n (List.mem_append_left _ m), fun m => n (List.mem_append_right _ m)⟩
/-- what a run tells -/
def Told (H : Hp) (h : HS) (v : V) : Prop := ∃ t ve pn, v = .ref t ∧ H t = some (.tup [ve, .ref pn, .int h.gone]) ∧ Rep H (endD h) ve ∧ H pn = some (.lst (h.news.map V.int))
theorem endD_shape {h : HS} (ne : h.frames ≠ []) : ∃ s ns, endD h = .tup (.str s :: (ns : List Int).map D.int) ∧ ns.length ≤ 2 ∧ ns ≠ [] := by
  cases hf : h.fin with
  | some e =>
    rw [endD_some hf]
    cases e with
    | back n => exact ⟨_, [n], rfl, by simp, by simp⟩
    | dry f a => exact ⟨_, [f, a], rfl, by simp, by simp⟩
    | deep f a => exact ⟨_, [f, a], rfl, by simp, by simp⟩
  | none =>
    obtain ⟨fs, fr, hfr⟩ : ∃ fs fr, h.frames = fs ++ [fr] := by
      rcases List.eq_nil_or_concat h.frames with e | ⟨l, x, e⟩
      · exact absurd e ne
      · exact ⟨l, x, by simpa using e⟩
    rw [endD_none hf hfr]
    exact ⟨_, [fr.1, fr.2.1], rfl, by simp, by simp⟩
/-! ### the way of the law's own program -/
def outer24 (c : Int) : List Rw := [.put 0 c, .put 1 1, .call 2 1 [0, 1], .tell 2, .back 2]
def inner24 (t : Nat) : List Rw := [.zero 0 4, .less 0 0 1, .call 2 1 [0, 1], .jump (4 + t)] ++ List.replicate t (.take 2) ++ [.back 2]
def P24 (c : Int) (t : Nat) : List Df := [⟨0, 3, outer24 c⟩, ⟨2, 3, inner24 t⟩]
theorem inner_take {t i : Nat} (h : i < t) : (inner24 t)[4 + i]? = some (.take 2) := by
  unfold inner24
  rw [List.getElem?_append_left (by simp; omega), List.getElem?_append_right (by simp)]
  simp [h]
theorem inner_back {t : Nat} : (inner24 t)[4 + t]? = some (.back 2) := by
  unfold inner24
  rw [List.getElem?_append_right (by simp; omega)]
  rw [show 4 + t - ([Rw.zero 0 4, .less 0 0 1, .call 2 1 [0, 1], .jump (4 + t)] ++ List.replicate t (Rw.take 2)).length = 0 by simp; omega]
  rfl
theorem i03 : In0 0 3 := ⟨by decide, by decide⟩
theorem i13 : In0 1 3 := ⟨by decide, by decide⟩
theorem i23 : In0 2 3 := ⟨by decide, by decide⟩
abbrev F24 (f a : Int) (b : List Int) : Fr := (f, a, b)
theorem inner_len {t : Nat} : (inner24 t).length = t + 5 := by simp [inner24]
theorem p24_ok {c : Int} {t : Nat} (hc : c.natAbs ≤ 10 ^ 60) (ht : t ≤ 100) : PgOk (P24 c t) := by
  refine ⟨by simp [P24], by simp [P24], fun d hd => ?_⟩
  simp only [P24, List.mem_cons, List.not_mem_nil, or_false] at hd
  have hcall : ∀ m, Rw.Ok (P24 c t) 3 m (.call 2 1 [0, 1]) := fun m => ⟨i23, ⟨⟨2, 3, inner24 t⟩, by decide, rfl, rfl⟩, fun q hq => by
    simp only [List.mem_cons, List.not_mem_nil, or_false] at hq
    rcases hq with rfl | rfl
    · exact i03
    · exact i13⟩
  rcases hd with rfl | rfl
  · refine ⟨⟨(by decide : (1 : Int) ≤ 3), (by decide : (3 : Int) ≤ 1000)⟩, ⟨(by decide : (0 : Int) ≤ 0), (by decide : (0 : Int) ≤ 3)⟩, by simp [outer24], fun r hr => ?_, ⟨.back 2, rfl, trivial⟩⟩
    simp only [outer24, List.mem_cons, List.not_mem_nil, or_false] at hr
    rcases hr with rfl | rfl | rfl | rfl | rfl
    · exact ⟨i03, hc⟩
    · exact ⟨i13, by decide⟩
    · exact hcall _
    · exact i23
    · exact i23
  · refine ⟨⟨(by decide : (1 : Int) ≤ 3), (by decide : (3 : Int) ≤ 1000)⟩, ⟨(by decide : (0 : Int) ≤ 2), (by decide : (2 : Int) ≤ 3)⟩, by show (inner24 t).length ≤ 1000; rw [inner_len]; omega, fun r hr => ?_, ⟨.back 2, by show (inner24 t)[(inner24 t).length - 1]? = _; rw [inner_len, show t + 5 - 1 = 4 + t by omega]; exact inner_back, trivial⟩⟩
    have hl : (((inner24 t).length : Nat) : Int) = t + 5 := by rw [inner_len]; rfl
    show Rw.Ok _ 3 (((inner24 t).length : Nat) : Int) r
    rw [hl]
    have hr : r ∈ inner24 t := hr
    simp only [inner24, List.mem_append, List.mem_cons, List.not_mem_nil, or_false, List.mem_replicate] at hr
    rcases hr with ((rfl | rfl | rfl | rfl) | ⟨_, rfl⟩) | rfl
    · exact ⟨i03, ⟨by decide, by omega⟩⟩
    · exact ⟨i03, i03, i13⟩
    · exact hcall _
    · exact ⟨by omega, by omega⟩
    · exact i23
    · exact i23
/-- one row gone -/
theorem go24 {P : List Df} {fs : List Fr} {fr : Fr} {left news : List Int} {g : Int} {r : Rw} (hr : rowAt P fr.1 fr.2.1 = some r) (he : endAt ⟨fs ++ [fr], left, news, g, none⟩ fr r = none) :
    HS.go P ⟨fs ++ [fr], left, news, g, none⟩ = ⟨(eff P fs fr left news r).1, (eff P fs fr left news r).2.1, (eff P fs fr left news r).2.2, g + 1, none⟩ := by
  have h := go_eq (h := ⟨fs ++ [fr], left, news, g, none⟩) rfl rfl hr
  rw [he] at h
  exact h
theorem end24 {P : List Df} {fs : List Fr} {fr : Fr} {left news : List Int} {g : Int} {r : Rw} {e : En} (hr : rowAt P fr.1 fr.2.1 = some r) (he : endAt ⟨fs ++ [fr], left, news, g, none⟩ fr r = some e) :
    HS.go P ⟨fs ++ [fr], left, news, g, none⟩ = ⟨fs ++ [fr], left, news, g, some e⟩ := by
  have h := go_eq (h := ⟨fs ++ [fr], left, news, g, none⟩) rfl rfl hr
  rw [he] at h
  exact h
def stack24 (c : Int) (n : Nat) : List Fr := F24 0 2 [c, 1, 0] :: (List.range n).map fun k : Nat => F24 1 2 [c - (k : Int) - 1, 1, 0]
theorem stack_len {c : Int} {n : Nat} : (stack24 c n).length = n + 1 := by simp [stack24]
theorem stack_succ {c : Int} {n : Nat} : stack24 c (n + 1) = stack24 c n ++ [F24 1 (2) [c - n - 1, 1, 0]] := by simp [stack24, List.range_succ]
section
variable {c : Int} {t : Nat} {ns : List Int}
theorem row0 {f at' : Int} {r : Rw} {d : Df} (hd : (P24 c t)[f.toNat]? = some d) (hr : d.rows[at'.toNat]? = some r) : rowAt (P24 c t) f at' = some r := by unfold rowAt; rw [hd]; exact hr
theorem hit3 : hit (P24 c t) ns 3 = ⟨stack24 c 0 ++ [F24 1 0 [c, 1, 0]], ns, [], 3, none⟩ := by
  have h1 : hit (P24 c t) ns 1 = ⟨[] ++ [F24 0 1 [c, 0, 0]], ns, [], 1, none⟩ := go24 (fs := []) (fr := F24 0 0 [0, 0, 0]) (r := .put 0 c) (row0 rfl rfl) rfl
  have h2 : hit (P24 c t) ns 2 = ⟨[] ++ [F24 0 2 [c, 1, 0]], ns, [], 2, none⟩ := by
    show (hit (P24 c t) ns 1).go _ = _
    rw [h1]
    exact go24 (r := .put 1 1) (row0 rfl rfl) rfl
  show (hit (P24 c t) ns 2).go _ = _
  rw [h2]
  exact go24 (r := .call 2 1 [0, 1]) (row0 rfl rfl) rfl
/-- down by one def -/
theorem down24 {n i : Nat} {g : Int} (h : hit (P24 c t) ns i = ⟨stack24 c n ++ [F24 1 (0) [c - n, 1, 0]], ns, [], g, none⟩) (hn : n ≤ 18) (hz : c - n ≠ 0) :
    hit (P24 c t) ns (i + 2) = ⟨stack24 c n ++ [F24 1 (2) [c - n - 1, 1, 0]], ns, [], g + 2, none⟩ := by
  have e1 : hit (P24 c t) ns (i + 1) = ⟨stack24 c n ++ [F24 1 (1) [c - n, 1, 0]], ns, [], g + 1, none⟩ := by
    show (hit (P24 c t) ns i).go _ = _
    rw [h, go24 (r := .zero 0 4) (row0 rfl rfl) rfl]
    have : (Rw.zero 0 4).next [c - n, 1, 0] 0 = 1 := by simp [Rw.next, boxAt, hz]
    show (⟨stack24 c n ++ [(1, (Rw.zero 0 4).next [c - n, 1, 0] 0, [c - n, 1, 0])], ns, [], g + 1, none⟩ : HS) = _
    rw [this]
  show (hit (P24 c t) ns (i + 1)).go _ = _
  rw [e1, go24 (r := .less 0 0 1) (row0 rfl rfl) rfl]
  show (⟨stack24 c n ++ [F24 1 (2) [c - n - 1, 1, 0]], ns, [], g + 1 + 1, none⟩ : HS) = _
  rw [show g + 1 + 1 = g + 2 by omega]
theorem call24 {n i : Nat} {g : Int} (h : hit (P24 c t) ns i = ⟨stack24 c n ++ [F24 1 (2) [c - n - 1, 1, 0]], ns, [], g, none⟩) (hn : n < 18) :
    hit (P24 c t) ns (i + 1) = ⟨stack24 c (n + 1) ++ [F24 1 (0) [c - (n + 1 : Nat), 1, 0]], ns, [], g + 1, none⟩ := by
  show (hit (P24 c t) ns i).go _ = _
  rw [h, go24 (r := .call 2 1 [0, 1]) (row0 rfl rfl) ?_]
  · show (⟨stack24 c n ++ [F24 1 (2) [c - n - 1, 1, 0], F24 1 (0) [c - n - 1, 1, 0]], ns, [], g + 1, none⟩ : HS) = _
    rw [stack_succ]
    have : c - ((n + 1 : Nat) : Int) = c - n - 1 := by push_cast; omega
    rw [this]
    simp
  · have : (stack24 c n ++ [F24 1 ((2 : Int)) [c - n - 1, 1, 0]]).length = n + 2 := by simp [stack_len]
    exact if_neg (show ¬ 20 ≤ (stack24 c n ++ [F24 1 2 [c - n - 1, 1, 0]]).length by omega)
theorem downs24 : ∀ (n : Nat), n ≤ 18 → (∀ m : Nat, m < n → c - m ≠ 0) → hit (P24 c t) ns (3 + 3 * n) = ⟨stack24 c n ++ [F24 1 (0) [c - n, 1, 0]], ns, [], 3 + 3 * n, none⟩
  | 0, _, _ => by
    have := hit3 (c := c) (t := t) (ns := ns)
    simpa using this
  | n + 1, hn, hz => by
    have h0 := downs24 n (by omega) fun m hm => hz m (by omega)
    have h1 := down24 h0 (by omega) (hz n (by omega))
    have h2 := call24 h1 (by omega)
    rw [show 3 + 3 * (n + 1) = 3 + 3 * n + 2 + 1 by omega, h2]
    have e : (3 + 3 * (n : Int) + 2 + 1) = 3 + 3 * ((n + 1 : Nat) : Int) := by push_cast; omega
    rw [e]
theorem deep24 (hz : c < 0 ∨ 18 < c) : hit (P24 c t) ns 59 = ⟨stack24 c 18 ++ [F24 1 (2) [c - 19, 1, 0]], ns, [], 59, none⟩ ∧ hit (P24 c t) ns 60 = ⟨stack24 c 18 ++ [F24 1 (2) [c - 19, 1, 0]], ns, [], 59, some (.deep 1 2)⟩ := by
  have h0 := downs24 (c := c) (t := t) (ns := ns) 18 (by omega) fun m hm => by omega
  have h1 := down24 h0 (by omega) (by omega)
  have h1 : hit (P24 c t) ns 59 = ⟨stack24 c 18 ++ [F24 1 (2) [c - 19, 1, 0]], ns, [], 59, none⟩ := by
    rw [show (59 : Nat) = 3 + 3 * 18 + 2 by rfl, h1]
    have : c - ((18 : Nat) : Int) - 1 = c - 19 := by omega
    rw [this]
    rfl
  refine ⟨h1, ?_⟩
  show (hit (P24 c t) ns 59).go _ = _
  rw [h1]
  exact end24 (r := .call 2 1 [0, 1]) (row0 rfl rfl) rfl
/-- the innermost def: a nought, then the numbers taken -/
def got24 (ns : List Int) (i : Nat) : Int := (0 :: ns.take i).getLastD 0
theorem got_succ {i : Nat} {x : Int} (h : ns[i]? = some x) : got24 ns (i + 1) = x := by
  unfold got24
  rw [List.take_add_one, h]
  show ((0 :: ns.take i) ++ [x]).getLastD 0 = x
  rw [List.getLastD_eq_getLast?, List.getLast?_append]
  rfl
theorem takes24 {n : Nat} (hc : c = n) (hn : n ≤ 18) : ∀ i, i ≤ t → i ≤ ns.length → hit (P24 c t) ns (4 + 3 * n + i) = ⟨stack24 c n ++ [F24 1 (4 + i) [0, 1, got24 ns i]], ns.drop i, [], 4 + 3 * n + i, none⟩
  | 0, _, _ => by
    have h0 := downs24 (c := c) (t := t) (ns := ns) n hn fun m hm => by omega
    rw [show 4 + 3 * n + 0 = 3 + 3 * n + 1 by omega]
    show (hit (P24 c t) ns (3 + 3 * n)).go _ = _
    rw [h0, go24 (r := .zero 0 4) (row0 rfl rfl) rfl]
    have e0 : c - (n : Int) = 0 := by omega
    rw [e0]
    show (⟨stack24 c n ++ [F24 1 (4) [0, 1, 0]], ns, [], 3 + 3 * n + 1, none⟩ : HS) = _
    have : (3 + 3 * n + 1 : Int) = 4 + 3 * n + ((0 : Nat) : Int) := by omega
    rw [this]
    rfl
  | i + 1, hi, hl => by
    have h0 := takes24 hc hn i (by omega) (by omega)
    have hx : ns[i]? = some ns[i] := List.getElem?_eq_getElem (by omega)
    have hd : ns.drop i = ns[i] :: ns.drop (i + 1) := List.drop_eq_getElem_cons (by omega)
    rw [show 4 + 3 * n + (i + 1) = 4 + 3 * n + i + 1 by omega]
    show (hit (P24 c t) ns (4 + 3 * n + i)).go _ = _
    rw [h0, go24 (r := .take 2) (row0 rfl ?_) ?_]
    · rw [hd]
      show (⟨stack24 c n ++ [F24 1 (4 + i + 1) [0, 1, ns[i]]], ns.drop (i + 1), [], 4 + 3 * n + i + 1, none⟩ : HS) = _
      rw [got_succ hx]
      have e1 : (4 + (i : Int) + 1) = 4 + ((i + 1 : Nat) : Int) := by push_cast; omega
      have e2 : (4 + 3 * (n : Int) + i + 1) = 4 + 3 * n + ((i + 1 : Nat) : Int) := by push_cast; omega
      rw [e1, e2]
    · show (inner24 t)[(4 + (i : Int)).toNat]? = _
      rw [show (4 + (i : Int)).toNat = 4 + i by omega]
      exact inner_take (by omega)
    · show (if ns.drop i = [] then _ else _) = none
      rw [if_neg (by rw [hd]; exact List.cons_ne_nil _ _)]
theorem dry24 {n : Nat} (hc : c = n) (hn : n ≤ 18) (hl : ns.length < t) : hit (P24 c t) ns (4 + 3 * n + ns.length) = ⟨stack24 c n ++ [F24 1 (4 + ns.length) [0, 1, got24 ns ns.length]], [], [], 4 + 3 * n + ns.length, none⟩ ∧ hit (P24 c t) ns (4 + 3 * n + ns.length + 1) = ⟨stack24 c n ++ [F24 1 (4 + ns.length) [0, 1, got24 ns ns.length]], [], [], 4 + 3 * n + ns.length, some (.dry 1 (4 + ns.length))⟩ := by
  have h0 := takes24 (t := t) (ns := ns) hc hn ns.length (by omega) (Nat.le_refl _)
  rw [List.drop_length] at h0
  refine ⟨h0, ?_⟩
  show (hit (P24 c t) ns (4 + 3 * n + ns.length)).go _ = _
  rw [h0]
  refine end24 (r := .take 2) (row0 rfl ?_) rfl
  show (inner24 t)[(4 + (ns.length : Int)).toNat]? = _
  rw [show (4 + (ns.length : Int)).toNat = 4 + ns.length by omega]
  exact inner_take (by omega)
/-- back by one def -/
theorem up24 {n i : Nat} {x got g : Int} {left : List Int} (h : hit (P24 c t) ns i = ⟨stack24 c (n + 1) ++ [F24 1 (4 + t) [x, 1, got]], left, [], g, none⟩) (hn : n ≤ 18) :
    hit (P24 c t) ns (i + 2) = ⟨stack24 c n ++ [F24 1 (4 + t) [c - n - 1, 1, got]], left, [], g + 2, none⟩ := by
  have e1 : hit (P24 c t) ns (i + 1) = ⟨stack24 c n ++ [F24 1 (3) [c - n - 1, 1, got]], left, [], g + 1, none⟩ := by
    show (hit (P24 c t) ns i).go _ = _
    rw [h, go24 (r := .back 2) (row0 rfl ?_) ?_]
    · unfold eff
      rw [stack_succ]
      simp only [List.getLast?_append, List.getLast?_singleton, Option.some_or, List.dropLast_concat]
      rfl
    · show (inner24 t)[(4 + (t : Int)).toNat]? = _
      rw [show (4 + (t : Int)).toNat = 4 + t by omega]
      exact inner_back
    · exact if_neg (show ¬ (stack24 c (n + 1) ++ [F24 1 (4 + (t : Int)) [x, 1, got]]).length = 1 by simp [stack_len])
  show (hit (P24 c t) ns (i + 1)).go _ = _
  rw [e1, go24 (r := .jump (4 + t)) (row0 rfl rfl) rfl]
  show (⟨stack24 c n ++ [F24 1 (4 + t) [c - n - 1, 1, got]], left, [], g + 1 + 1, none⟩ : HS) = _
  rw [show g + 1 + 1 = g + 2 by omega]
theorem ups24 {i : Nat} {got g : Int} {left : List Int} : ∀ (n : Nat) (i : Nat) (x g : Int), n ≤ 18 → hit (P24 c t) ns i = ⟨stack24 c n ++ [F24 1 (4 + t) [x, 1, got]], left, [], g, none⟩ → ∃ y, hit (P24 c t) ns (i + 2 * n) = ⟨stack24 c 0 ++ [F24 1 (4 + t) [y, 1, got]], left, [], g + 2 * n, none⟩
  | 0, i, x, g, _, h => ⟨x, by simpa using h⟩
  | n + 1, i, x, g, hn, h => by
    have h1 := up24 h (by omega)
    obtain ⟨y, hy⟩ := ups24 (i := i) (g := g) n (i + 2) _ (g + 2) (by omega) h1
    refine ⟨y, ?_⟩
    rw [show i + 2 * (n + 1) = i + 2 + 2 * n by omega, hy]
    congr 1
    push_cast
    omega
theorem back24 {n : Nat} (hc : c = n) (hn : n ≤ 18) (hl : t ≤ ns.length) : hit (P24 c t) ns (4 + 3 * n + t + 2 * n + 2) = ⟨[F24 0 (4) [c, 1, got24 ns t]], ns.drop t, [got24 ns t], 4 + 3 * n + t + 2 * n + 2, none⟩ ∧ hit (P24 c t) ns (4 + 3 * n + t + 2 * n + 2 + 1) = ⟨[F24 0 (4) [c, 1, got24 ns t]], ns.drop t, [got24 ns t], 4 + 3 * n + t + 2 * n + 2, some (.back (got24 ns t))⟩ := by
  have h0 := takes24 (t := t) (ns := ns) hc hn t (Nat.le_refl _) hl
  obtain ⟨y, hy⟩ := ups24 (i := 0) (g := 0) n _ _ _ hn h0
  have h1 : hit (P24 c t) ns (4 + 3 * n + t + 2 * n + 1) = ⟨[F24 0 (3) [c, 1, got24 ns t]], ns.drop t, [], 4 + 3 * n + t + 2 * n + 1, none⟩ := by
    show (hit (P24 c t) ns (4 + 3 * n + t + 2 * n)).go _ = _
    rw [hy, go24 (r := .back 2) (row0 rfl ?_) rfl]
    · rfl
    · show (inner24 t)[(4 + (t : Int)).toNat]? = _
      rw [show (4 + (t : Int)).toNat = 4 + t by omega]
      exact inner_back
  have h2 : hit (P24 c t) ns (4 + 3 * n + t + 2 * n + 2) = ⟨[F24 0 (4) [c, 1, got24 ns t]], ns.drop t, [got24 ns t], 4 + 3 * n + t + 2 * n + 2, none⟩ := by
    show (hit (P24 c t) ns (4 + 3 * n + t + 2 * n + 1)).go _ = _
    rw [h1, show [F24 0 ((3 : Int)) [c, 1, got24 ns t]] = [] ++ [F24 0 (3) [c, 1, got24 ns t]] from rfl, go24 (r := .tell 2) (row0 rfl rfl) rfl]
    show (⟨[F24 0 (4) [c, 1, got24 ns t]], ns.drop t, [got24 ns t], 4 + 3 * n + t + 2 * n + 1 + 1, none⟩ : HS) = _
    congr 1
  refine ⟨h2, ?_⟩
  show (hit (P24 c t) ns (4 + 3 * n + t + 2 * n + 2)).go _ = _
  rw [h2]
  exact end24 (fs := []) (r := .back 2) (row0 rfl rfl) rfl
end


end
end
end My

end
section


set_option Elab.async false
set_option linter.all false
set_option maxRecDepth 100000
set_option maxHeartbeats 4000000

namespace My
open PySem L2
local macro_rules | `(tactic| walk_at "rd1") => `(tactic| (first | ((with_reducible refine' rd_var ?e ?_); (case e => exact rfl)) | with_reducible refine rd_c ?_ | with_reducible refine rd_op ?_ | with_reducible refine rd_un ?_ | with_reducible refine rd_seq ?_ | with_reducible refine rd_asg ?_ | with_reducible refine rd_gname ?_ | with_reducible refine rd_ret ?_ | with_reducible refine rd_drop ?_ | with_reducible refine rd_next ?_ | with_reducible refine rd_if ?_ | with_reducible refine rd_test ?_ | with_reducible refine rd_tb ?_ | with_reducible refine rd_and ?_ | with_reducible refine rd_or ?_ | with_reducible refine rd_not ?_ | with_reducible refine rd_true ?_ | with_reducible refine rd_andV ?_ | with_reducible refine rd_orV ?_ | with_reducible refine rd_notV ?_ | with_reducible refine rd_ifE ?_ | with_reducible refine rd_chain ?_ | with_reducible refine rd_nil ?_ | with_reducible refine rd_cons ?_ | with_reducible refine rd_cb ?_ | with_reducible refine rd_call ?_ | with_reducible refine rd_I0 ?_ | with_reducible refine rd_U ?_ | with_reducible refine rd_eqI ?_ | with_reducible refine rd_neI ?_ | with_reducible refine rd_eqS ?_ | with_reducible refine rd_neS ?_ | with_reducible refine rd_eqB ?_ | with_reducible refine rd_neB ?_ | with_reducible refine rd_bl ?_ | with_reducible refine rd_int ?_ | with_reducible refine rd_tupN ?_ | with_reducible refine rd_lstN ?_ | with_reducible refine rd_gsub ?_ | with_reducible refine rd_slice ?_ | with_reducible refine rd_nopart ?_ | with_reducible refine rd_part ?_ | with_reducible refine rd_bm ?_ | with_reducible refine rd_bm0 ?_ | with_reducible refine rd_comp ?_ | with_reducible refine rd_itup ?_ | with_reducible refine rd_ilist ?_ | with_reducible refine rd_irng ?_ | with_reducible refine rd_gcons ?_ | with_reducible refine rd_gnil ?_ | with_reducible refine rd_for ?_ | with_reducible refine rd_abs ?_ | with_reducible refine rd_max ?_ | with_reducible refine rd_min ?_ | with_reducible refine rd_intB ?_ | with_reducible refine rd_dput ?_ | with_reducible refine rd_dget2 ?_ | with_reducible refine rd_dget ?_ | with_reducible refine rd_fld ?_ | with_reducible refine rd_sfld ?_ | with_reducible refine rd_meth ?_ | with_reducible refine rd_makeN ?_ | with_reducible refine rd_isN ?_ | with_reducible refine rd_notN ?_ | with_reducible refine rd_izip ?_ | with_reducible refine iteNT ?_ | with_reducible refine iteNF ?_ | with_reducible refine iteF ?_ | with_reducible refine iteT ?_))
local macro_rules | `(tactic| walk_at "rd") => `(tactic| (repeat walk_at "rd1"))
local macro_rules | `(tactic| walk_at "mk") => `(tactic| refine ⟨mk_le rfl, ?_⟩)
local macro_rules | `(tactic| walk_at "rp") => `(tactic| (repeat first | exact reps_nil | refine reps_cons rep_int ?_ | refine reps_cons (by rw [Rep]) ?_ | refine reps_cons (by rw [Rep]; rfl) ?_ | refine reps_cons (by assumption) ?_))

section
variable {P : Program} {w : World} {K : PySem.W.Frag} {mg : Str → Option Value} {base : Heap}
section
variable {C : Addr}
def sp_prog24 : Sp := sp2 fun x y H Q => ∃ (c : Int) (t : Nat), x = .int c ∧ y = .int t ∧ t ≤ 100 ∧ ∀ pp H', Same H H' → FPg H H' (P24 c t) pp → Q (.ref pp) H'
theorem sc__law_program : FnScope ["count", "takes", "outer", "inner", "k"] ["count", "takes"] (defScope s__law_program) := ⟨rfl, rfl, rfl, by decide +kernel, rfl, by decide +kernel, by decide +kernel⟩
theorem c__law_program (B : Blt mg) (T__law_program : TopFn K mg "_law_program" s__law_program ["count", "takes"]) : Callee P w K mg base "_law_program" 1 ["count", "takes"] sp_prog24 := by
  refine T__law_program.ok2 sc__law_program fun f cdv A outer s H v1 v2 Q E hr hh => ?_
  have nd := sc__law_program.nd
  obtain ⟨c, t, rfl, rfl, ht, k⟩ := hh
  refine' go_body [some (.int c), some (.int t), none, none, none] rfl ?hb ?hg
  case hb =>
   refine' pss_cons ?zb ?zc
   case zb =>
    refine' ps_setL (i := 2) ?zd ?ze ?zf ?zg
    case zd => exact nd
    case ze => exact rfl
    case zf => exact (Or.inl rfl)
    case zg =>
     refine' pe_lst ?zh
     case zh =>
      refine' pa_consT ?zi ?zj
      case zi => exact (pe_tup (pa_consK pe_str (pa_consK pe_int (pa_consN (pv 0) pa_nil))))
      case zj =>
       refine' pa_consT ?zk ?zl
       case zk => exact (pe_tup (pa_consK pe_str (pa_consK pe_int (pa_consK pe_int pa_nil))))
       case zl =>
        refine' pa_consT ?zm ?zn
        case zm => exact (pe_tup (pa_consK pe_str (pa_consK pe_int (pa_consK pe_int (pa_consT (pe_tup (pa_consK pe_int (pa_consK pe_int pa_nil))) pa_nil)))))
        case zn => exact (pa_consT (pe_tup (pa_consK pe_str (pa_consK pe_int pa_nil))) (pa_consT (pe_tup (pa_consK pe_str (pa_consK pe_int pa_nil))) pa_nil))
   case zc =>
    refine' pss_cons ?zo ?zp
    case zo =>
     refine' ps_setL (i := 3) ?zq ?zr ?zs ?zt
     case zq => exact nd
     case zr => exact rfl
     case zs => exact (Or.inl rfl)
     case zt =>
      refine' pe_lst ?zu
      case zu =>
       refine' pa_consT ?zv ?zw
       case zv => exact (pe_tup (pa_consK pe_str (pa_consK pe_int (pa_consK pe_int pa_nil))))
       case zw =>
        refine' pa_consT ?zx ?zy
        case zx => exact (pe_tup (pa_consK pe_str (pa_consK pe_int (pa_consK pe_int (pa_consK pe_int pa_nil)))))
        case zy =>
         refine' pa_consT ?zz ?zba
         case zz => exact (pe_tup (pa_consK pe_str (pa_consK pe_int (pa_consK pe_int (pa_consT (pe_tup (pa_consK pe_int (pa_consK pe_int pa_nil))) pa_nil)))))
         case zba => exact (pa_consT (pe_tup (pa_consK pe_str (pa_consB (pe_op op_add pe_int (pv 1)) pa_nil))) pa_nil)
    case zp =>
     refine' pss_cons ?zbb ?zbc
     case zbb =>
      refine' ps_for ?zbd ?zbe ?zbf ?zbg ?zbh
      case zbd => exact PassesOwn.never
      case zbe => exact rfl
      case zbf => exact (pi_range1 rfl B.b_range (pa_consN (pv 1) pa_nil))
      case zbg => exact (pg_name (i := 4) nd rfl (Or.inl rfl))
      case zbh =>
       refine' pss_one ?zbi
       case zbi =>
        refine' ps_expr ?zbj
        case zbj =>
         refine' k_bm (K := K) ?zbk ?zbl ?zbm ?zbn ?zbo ?zbp ?zbq
         case zbk => exact rfl
         case zbl => exact PySem.F.plainAttrs_list
         case zbm => exact PySem.F.slot_list_append
         case zbn => exact PySem.F.type_list_append
         case zbo => exact mt_append
         case zbp => exact (pv 3)
         case zbq => exact (pa_consT (pe_tup (pa_consK pe_str (pa_consK pe_int pa_nil))) pa_nil)
     case zbc =>
      refine' pss_one ?zbr
      case zbr =>
       refine' ps_ret ?zbs
       case zbs =>
        refine' pe_lst ?zbt
        case zbt =>
         refine' pa_consT ?zbu ?zbv
         case zbu => exact (pe_tup (pa_consK pe_int (pa_consK pe_int (pa_consN (pv 2) pa_nil))))
         case zbv =>
          refine' pa_consT ?zbw ?zbx
          case zbw =>
           refine' pe_tup ?zby
           case zby =>
            refine' pa_consK ?zbz ?zca
            case zbz => exact pe_int
            case zca => exact (pa_consK pe_int (pa_consB (pe_op op_cat (pv 3) (pe_lst (pa_consT (pe_tup (pa_consK pe_str (pa_consK pe_int pa_nil))) pa_nil))) pa_nil))
          case zbx => exact pa_nil
  have w := WC.start (ow := []) (H := H) (fun _ h => by cases h)
  walk_at "rd"
  refine w.mkT (ds := [.str "put", .int 0, .int c]) (by walk_at "rp") fun a1 H1 _ w => ?_
  walk_at "rd"
  refine w.mkT (ds := [.str "put", .int 1, .int 1]) (by walk_at "rp") fun a2 H2 _ w => ?_
  walk_at "rd"
  refine w.mkT (ds := [.int 0, .int 1]) (by walk_at "rp") fun a3 H3 _ w => ?_
  walk_at "rd"
  refine w.mkT (ds := [.str "call", .int 2, .int 1, .tup [.int 0, .int 1]]) (reps_cons (by rw [Rep]) (reps_cons rep_int (reps_cons rep_int (reps_cons w.rp0 reps_nil)))) fun a4 H4 _ w => ?_
  walk_at "rd"
  refine w.mkT (ds := [.str "tell", .int 2]) (by walk_at "rp") fun a5 H5 _ w => ?_
  walk_at "rd"
  refine w.mkT (ds := [.str "back", .int 2]) (by walk_at "rp") fun a6 H6 _ w => ?_
  have ro : Reps H6 (rowsD (outer24 c)) [.ref a1, .ref a2, .ref a4, .ref a5, .ref a6] := by
    have r1 : Rep H6 (rowD (Rw.put 0 c).row) (.ref a1) := rep_of1 (w.rp ([_], [_]) (by simp [rowD, Rw.row]))
    have r2 : Rep H6 (rowD (Rw.put 1 1).row) (.ref a2) := rep_of1 (w.rp ([_], [_]) (by simp [rowD, Rw.row]))
    have r4 : Rep H6 (rowD (Rw.call 2 1 [0, 1]).row) (.ref a4) := rep_of1 (w.rp ([_], [_]) (by simp [rowD, Rw.row]))
    exact reps_cons r1 (reps_cons r2 (reps_cons r4 (reps_cons w.rp1 (reps_cons w.rp0 reps_nil))))
  have w := w.noR.addRs ro
  walk_at "rd"
  refine w.mkL fun qo H7 w => ?_
  walk_at "rd"
  refine w.mkT (ds := [.str "zero", .int 0, .int 4]) (by walk_at "rp") fun b1 H8 _ w => ?_
  walk_at "rd"
  refine w.mkT (ds := [.str "less", .int 0, .int 0, .int 1]) (by walk_at "rp") fun b2 H9 _ w => ?_
  walk_at "rd"
  refine w.mkT (ds := [.int 0, .int 1]) (by walk_at "rp") fun b3 H10 _ w => ?_
  walk_at "rd"
  refine w.mkT (ds := [.str "call", .int 2, .int 1, .tup [.int 0, .int 1]]) (reps_cons (by rw [Rep]) (reps_cons rep_int (reps_cons rep_int (reps_cons w.rp0 reps_nil)))) fun b4 H11 _ w => ?_
  walk_at "rd"
  refine w.mkT (ds := [.str "jump", .int (4 + t)]) (by walk_at "rp") fun b5 H12 _ w => ?_
  have ri : Reps H12 (rowsD ([.zero 0 4, .less 0 0 1, .call 2 1 [0, 1], .jump (4 + t)] ++ List.replicate 0 (.take 2))) [.ref b1, .ref b2, .ref b4, .ref b5] := by
    have r1 : Rep H12 (rowD (Rw.zero 0 4).row) (.ref b1) := rep_of1 (w.rp ([_], [_]) (by simp [rowD, Rw.row]))
    have r2 : Rep H12 (rowD (Rw.less 0 0 1).row) (.ref b2) := rep_of1 (w.rp ([_], [_]) (by simp [rowD, Rw.row]))
    exact reps_cons r1 (reps_cons r2 (reps_cons w.rp1 (reps_cons w.rp0 reps_nil)))
  have ro : Reps H12 (rowsD (outer24 c)) [.ref a1, .ref a2, .ref a4, .ref a5, .ref a6] := w.rp (rowsD (outer24 c), [.ref a1, .ref a2, .ref a4, .ref a5, .ref a6]) (by simp)
  have w := (w.noR.addRs ro).addRs ri
  walk_at "rd"
  refine w.mkL fun qi H13 w => ?_
  walk_at "rd"
  refine irK_of (by omega) (by omega) ?_
  refine for_range (n := t) (fun i σ Hx => (∃ c4, σ = [some (.int c), some (.int t), some (.ref qo), some (.ref qi), c4]) ∧ ∃ ys, WC [] H Hx [(qi, .lst ys), (qo, .lst [.ref a1, .ref a2, .ref a4, .ref a5, .ref a6])] [(rowsD ([.zero 0 4, .less 0 0 1, .call 2 1 [0, 1], .jump (4 + t)] ++ List.replicate i (.take 2)), ys), (rowsD (outer24 c), [.ref a1, .ref a2, .ref a4, .ref a5, .ref a6])]) ⟨⟨_, rfl⟩, _, w⟩ ?_ ?_
  · rintro i σ Hx hi ⟨⟨c4, rfl⟩, ys, w⟩
    have hl := w.rps0.length
    unfold rowsD at hl
    simp at hl
    walk_at "rd"
    refine ⟨.inl ⟨rfl, _, SqL.of w.get0⟩, ?_⟩
    walk_at "rd"
    refine w.mkT (ds := [.str "take", .int 2]) (by walk_at "rp") fun u H14 _ w => ?_
    walk_at "rd"
    refine w.app0 (by omega) fun H15 w => ?_
    walk_at "rd"
    refine ⟨⟨_, rfl⟩, ys ++ [.ref u], (w.subR (R' := [(rowsD (outer24 c), [.ref a1, .ref a2, .ref a4, .ref a5, .ref a6])]) (by simp)).addRs ?_⟩
    have r := w.rps1
    unfold rowsD at r ⊢
    rw [List.replicate_succ', ← List.append_assoc, List.map_append]
    exact r.append (reps_cons w.rp0 reps_nil)
  · rintro σ Hx ⟨⟨c4, rfl⟩, ys, w⟩
    have hl := w.rps0.length
    unfold rowsD at hl
    simp at hl
    walk_at "rd"
    refine w.mkU fun t1 H14 s14 ht1 _ w => ?_
    walk_at "rd"
    have v := WC.start (ow := []) (H := H14) (fun _ h => by cases h)
    refine v.mkT (ds := [.str "back", .int 2]) (by walk_at "rp") fun u H15 _ v => ?_
    walk_at "rd"
    refine v.mkL fun q1 H16 v => ?_
    walk_at "rd"
    refine v.cat (v.sm _ _ w.get0) v.get0 (by simp; omega) fun q2 H17 v => ?_
    have hq2 := v.get0
    have ri : Reps H17 (rowsD (inner24 t)) (ys ++ [.ref u]) := by
      have r := w.rps0.mono v.ts
      unfold rowsD inner24 at *
      rw [List.map_append]
      exact r.append (reps_cons v.rp0 reps_nil)
    have ro : Reps H17 (rowsD (outer24 c)) [.ref a1, .ref a2, .ref a4, .ref a5, .ref a6] := w.rps1.mono v.ts
    have hqo := v.sm _ _ w.get1
    have ht1 := v.sm _ _ ht1
    have nq2 : H q2 = none := w.sm.free (v.nw q2 (by simp))
    have nqo : H qo = none := w.nw qo (by simp)
    have s17 : Same H H17 := w.sm.trans v.sm
    walk_at "rd"
    walk_at "mk"; intro t2 ht2
    have n1 := Same.new (o := .tup [.int 2, .int 3, .ref q2]) ht2
    walk_at "rd"
    walk_at "mk"; intro pp hpp
    have n2 := Same.new (o := .lst [.ref t1, .ref t2]) hpp
    have n12 := n1.trans n2
    refine k pp _ (s17.trans n12) ⟨[.ref t1, .ref t2], upd_same, (s17.trans n1).free hpp, rfl, fun j d x e1 e2 => ?_⟩
    rcases j with _ | _ | j
    · cases e1; cases e2
      exact ⟨t1, qo, _, rfl, n12 _ _ ht1, n12 _ _ hqo, nqo, ro.mono n12.ts⟩
    · cases e1; cases e2
      exact ⟨t2, q2, _, rfl, n2 _ _ upd_same, n12 _ _ hq2, nq2, ri.mono n12.ts⟩
    · simp [P24] at e1
def sp_stand24 : Sp := sp3 fun x y z H Q => ∃ (c : Int) (n : Nat) (la : Addr), x = .int c ∧ y = .int n ∧ z = .ref la ∧ n ≤ 100 ∧ ∀ a gz H', gz.map (·.2) = stack24 c n → WC [] H H' ((a, .lst ((gz.map fun z => V.ref z.1.1) ++ [.ref la])) :: (gz : List FZ).flatMap frObj) [] → Q (.ref a) H'
theorem sc__law_stand : FnScope ["count", "depth", "last", "frames", "k"] ["count", "depth", "last"] (defScope s__law_stand) := ⟨rfl, rfl, rfl, by decide +kernel, rfl, by decide +kernel, by decide +kernel⟩
theorem c__law_stand (B : Blt mg) (T__law_stand : TopFn K mg "_law_stand" s__law_stand ["count", "depth", "last"]) : Callee P w K mg base "_law_stand" 1 ["count", "depth", "last"] sp_stand24 := by
  refine T__law_stand.ok3 sc__law_stand fun f cdv A outer s H v1 v2 v3 Q E hr hh => ?_
  have nd := sc__law_stand.nd
  obtain ⟨c, n, la, rfl, rfl, rfl, hn, k⟩ := hh
  refine' go_body [some (.int c), some (.int n), some (.ref la), none, none] rfl ?hb ?hg
  case hb =>
   refine' pss_cons ?zcb ?zcc
   case zcb =>
    refine' ps_setL (i := 3) ?zcd ?zce ?zcf ?zcg
    case zcd => exact nd
    case zce => exact rfl
    case zcf => exact (Or.inl rfl)
    case zcg =>
     refine' pe_lst ?zch
     case zch => exact (pa_consL (pe_lst (pa_consK pe_int (pa_consK pe_int (pa_consL (pe_lst (pa_consN (pv 0) (pa_consK pe_int (pa_consK pe_int pa_nil)))) pa_nil)))) pa_nil)
   case zcc =>
    refine' pss_cons ?zci ?zcj
    case zci =>
     refine' ps_for ?zck ?zcl ?zcm ?zcn ?zco
     case zck => exact PassesOwn.never
     case zcl => exact rfl
     case zcm => exact (pi_range1 rfl B.b_range (pa_consN (pv 1) pa_nil))
     case zcn => exact (pg_name (i := 4) nd rfl (Or.inl rfl))
     case zco =>
      refine' pss_one ?zcp
      case zcp =>
       refine' ps_expr ?zcq
       case zcq =>
        refine' k_bm (K := K) ?zcr ?zcs ?zct ?zcu ?zcv ?zcw ?zcx
        case zcr => exact rfl
        case zcs => exact PySem.F.plainAttrs_list
        case zct => exact PySem.F.slot_list_append
        case zcu => exact PySem.F.type_list_append
        case zcv => exact mt_append
        case zcw => exact (pv 3)
        case zcx =>
         refine' pa_consL ?zcy ?zcz
         case zcy =>
          refine' pe_lst ?zda
          case zda =>
           refine' pa_consK ?zdb ?zdc
           case zdb => exact pe_int
           case zdc => exact (pa_consK pe_int (pa_consL (pe_lst (pa_consB (pe_op op_sub (pe_op op_sub (pv 0) (pv 4)) pe_int) (pa_consK pe_int (pa_consK pe_int pa_nil)))) pa_nil))
         case zcz => exact pa_nil
    case zcj => exact (pss_one (ps_ret (pe_op op_cat (pv 3) (pe_lst (pa_consN (pv 2) pa_nil)))))
  have w := WC.start (ow := []) (H := H) (fun _ h => by cases h)
  walk_at "rd"
  refine w.mkL fun b0 H1 w => ?_
  walk_at "rd"
  refine w.mkL fun f0 H2 w => ?_
  walk_at "rd"
  refine w.mkL fun a H3 w => ?_
  walk_at "rd"
  refine irK_of (by omega) (by omega) ?_
  refine for_range (n := n) (fun i σ Hx => (∃ c4, σ = [some (.int c), some (.int n), some (.ref la), some (.ref a), c4]) ∧ ∃ gz : List FZ, gz.map (·.2) = stack24 c i ∧ WC [] H Hx ((a, .lst (gz.map fun z => V.ref z.1.1)) :: gz.flatMap frObj) []) ⟨⟨_, rfl⟩, [((f0, b0), F24 0 2 [c, 1, 0])], rfl, by simpa [frObj] using w⟩ ?_ ?_
  · rintro i σ Hx hi ⟨⟨c4, rfl⟩, gz, hgz, w⟩
    have hgl : gz.length = i + 1 := by have := congrArg List.length hgz; simpa [stack_len] using this
    walk_at "rd"
    refine ⟨.inl ⟨rfl, _, SqL.of w.get0⟩, ?_⟩
    walk_at "rd"
    refine w.mkL fun bx H4 w => ?_
    walk_at "rd"
    refine w.mkL fun fr H5 w => ?_
    walk_at "rd"
    refine WC.app (l1 := [_, _]) w (Nat.lt_of_le_of_lt (show (gz.map fun z => V.ref z.1.1).length ≤ 200000 by simp; omega) (by rw [sizeLine_eq]; decide)) fun H6 w => ?_
    walk_at "rd"
    refine ⟨⟨_, rfl⟩, gz ++ [((fr, bx), F24 1 2 [c - i - 1, 1, 0])], by rw [List.map_append, hgz, stack_succ]; rfl, w.perm ?_⟩
    rw [List.flatMap_append, List.map_append]
    have e : c - (0 + (i : Int)) - 1 = c - i - 1 := by omega
    rw [e]
    exact List.perm_append_comm (l₁ := [(fr, HO.lst [.int 1, .int 2, .ref bx]), (bx, HO.lst [.int (c - i - 1), .int 1, .int 0])]) (l₂ := (a, HO.lst ((gz.map fun z => V.ref z.1.1) ++ [.ref fr])) :: gz.flatMap frObj)
  · rintro σ Hx ⟨⟨c4, rfl⟩, gz, hgz, w⟩
    have hgl : gz.length = n + 1 := by have := congrArg List.length hgz; simpa [stack_len] using this
    walk_at "rd"
    refine w.mkL fun q1 H4 w => ?_
    walk_at "rd"
    refine w.cat w.get1 w.get0 (by simp; omega) fun q2 H5 w => ?_
    exact k q2 gz _ hgz (w.subL (List.Sublist.cons₂ _ (List.Sublist.cons _ (List.Sublist.cons _ (List.Sublist.refl _)))))

end
end
end My

end
section


set_option Elab.async false
set_option linter.all false
set_option maxRecDepth 100000
set_option maxHeartbeats 4000000

namespace My
open PySem L2
local macro_rules | `(tactic| walk_at "rd1") => `(tactic| (first | ((with_reducible refine' rd_var ?e ?_); (case e => exact rfl)) | with_reducible refine rd_c ?_ | with_reducible refine rd_op ?_ | with_reducible refine rd_un ?_ | with_reducible refine rd_seq ?_ | with_reducible refine rd_asg ?_ | with_reducible refine rd_gname ?_ | with_reducible refine rd_ret ?_ | with_reducible refine rd_drop ?_ | with_reducible refine rd_next ?_ | with_reducible refine rd_if ?_ | with_reducible refine rd_test ?_ | with_reducible refine rd_tb ?_ | with_reducible refine rd_and ?_ | with_reducible refine rd_or ?_ | with_reducible refine rd_not ?_ | with_reducible refine rd_true ?_ | with_reducible refine rd_andV ?_ | with_reducible refine rd_orV ?_ | with_reducible refine rd_notV ?_ | with_reducible refine rd_ifE ?_ | with_reducible refine rd_chain ?_ | with_reducible refine rd_nil ?_ | with_reducible refine rd_cons ?_ | with_reducible refine rd_cb ?_ | with_reducible refine rd_call ?_ | with_reducible refine rd_I0 ?_ | with_reducible refine rd_U ?_ | with_reducible refine rd_eqI ?_ | with_reducible refine rd_neI ?_ | with_reducible refine rd_eqS ?_ | with_reducible refine rd_neS ?_ | with_reducible refine rd_eqB ?_ | with_reducible refine rd_neB ?_ | with_reducible refine rd_bl ?_ | with_reducible refine rd_int ?_ | with_reducible refine rd_tupN ?_ | with_reducible refine rd_lstN ?_ | with_reducible refine rd_gsub ?_ | with_reducible refine rd_slice ?_ | with_reducible refine rd_nopart ?_ | with_reducible refine rd_part ?_ | with_reducible refine rd_bm ?_ | with_reducible refine rd_bm0 ?_ | with_reducible refine rd_comp ?_ | with_reducible refine rd_itup ?_ | with_reducible refine rd_ilist ?_ | with_reducible refine rd_irng ?_ | with_reducible refine rd_gcons ?_ | with_reducible refine rd_gnil ?_ | with_reducible refine rd_for ?_ | with_reducible refine rd_abs ?_ | with_reducible refine rd_max ?_ | with_reducible refine rd_min ?_ | with_reducible refine rd_intB ?_ | with_reducible refine rd_dput ?_ | with_reducible refine rd_dget2 ?_ | with_reducible refine rd_dget ?_ | with_reducible refine rd_fld ?_ | with_reducible refine rd_sfld ?_ | with_reducible refine rd_meth ?_ | with_reducible refine rd_makeN ?_ | with_reducible refine rd_isN ?_ | with_reducible refine rd_notN ?_ | with_reducible refine rd_izip ?_ | with_reducible refine iteNT ?_ | with_reducible refine iteNF ?_ | with_reducible refine iteF ?_ | with_reducible refine iteT ?_))
local macro_rules | `(tactic| walk_at "rd") => `(tactic| (repeat walk_at "rd1"))
local macro_rules | `(tactic| walk_at "mk") => `(tactic| refine ⟨mk_le rfl, ?_⟩)
local macro_rules | `(tactic| walk_at "rp") => `(tactic| (repeat first | exact reps_nil | refine reps_cons rep_int ?_ | refine reps_cons (by rw [Rep]) ?_ | refine reps_cons (by rw [Rep]; rfl) ?_ | refine reps_cons (by assumption) ?_))

section
variable {P : Program} {w : World} {K : PySem.W.Frag} {mg : Str → Option Value} {base : Heap}
section
variable {C : Addr}
theorem endD_pl {h : HS} (ne : h.frames ≠ []) : ∃ ds, endD h = .tup ds ∧ D.pls ds = true ∧ D.deps ds ≤ 40 := by
  obtain ⟨s, ns, e, _⟩ := endD_shape ne
  refine ⟨_, e, ?_, ?_⟩
  · rw [D.pls, pls_ints]; rfl
  · simp [D.deps, D.dep, deps_ints]
def sp_ran24 : Sp := sp4 fun x y z u H Q => ∃ P pp q ns m, x = .ref pp ∧ y = .ref q ∧ z = .int m ∧ PgAt [] H P pp ∧ PgOk P ∧ H q = some (.lst ((ns : List Int).map V.int)) ∧ ns.length ≤ 1000 ∧ (∀ x ∈ ns, x.natAbs ≤ 10 ^ 60) ∧ 0 ≤ m ∧ m ≤ 900 ∧ Told H (hit P ns m.toNat) u ∧ ∀ H', Same H H' → Q (.bl true) H'
theorem sc__law_ran : FnScope ["program", "numbers", "most", "due", "handed", "found"] ["program", "numbers", "most", "due"] (defScope s__law_ran) := ⟨rfl, rfl, rfl, by decide +kernel, rfl, by decide +kernel, by decide +kernel⟩
theorem c__law_ran (B : Blt mg) (T__law_ran : TopFn K mg "_law_ran" s__law_ran ["program", "numbers", "most", "due"]) (Crun : Callee P w K mg base "run" 5 ["program", "inputs", "most"] sp_ran) (C_law_words : Callee P w K mg base "_law_words" 2 ["found", "due"] sp_words) (C_law_whole : Callee P w K mg base "_law_whole" 1 ["found"] sp_wholeI) : Callee P w K mg base "_law_ran" 6 ["program", "numbers", "most", "due"] sp_ran24 := by
  refine T__law_ran.ok4 sc__law_ran fun f cdv A outer s H v1 v2 v3 v4 Q E hr hh => ?_
  have nd := sc__law_ran.nd
  have hu := hr.units
  obtain ⟨Pg, pp, q, ns, m, rfl, rfl, rfl, pg, PO, hq, hl, hn, m0, m1, td, k⟩ := hh
  refine' go_body [some (.ref pp), some (.ref q), some (.int m), some v4, none, none] rfl ?hb ?hg
  case hb =>
   refine' pss_cons ?zb ?zc
   case zb => exact (ps_setC (i := 4) nd rfl (Or.inl rfl) (pe_callTy (k_lstOf (K := K) rfl) (by rfl) B.b_list bt_list (pa_consN (pv 1) pa_nil)))
   case zc =>
    refine' pss_cons ?zd ?ze
    case zd =>
     refine' ps_setC (i := 5) ?zf ?zg ?zh ?zi
     case zf => exact nd
     case zg => exact rfl
     case zh => exact (Or.inl rfl)
     case zi => exact (pe_fn Crun (hr.mono (by first | decide | omega)) (by rfl) (pa_consN (pv 0) (pa_consN (pv 4) (pa_consN (pv 2) pa_nil))))
    case ze =>
     refine' pss_cons ?zj ?zk
     case zj =>
      refine' ps_if ?zl ?zm ?zn
      case zl =>
       refine' PW.pt ?zo
       case zo =>
        refine' pw_or ?zp ?zq
        case zp =>
         refine' pt_not ?zr
         case zr =>
          refine' pt_val ?zs
          case zs =>
           refine' pe_callB ?zt ?zu ?zv ?zw ?zx
           case zt => exact call_isi
           case zu => exact (by rfl)
           case zv => exact B.b_isinstance
           case zw => exact bt_isinstance
           case zx => exact (pa_consN (pv 5) (pa_consN (pe_bltn (v := .ty "tuple") (by rfl) B.b_tuple bt_tuple rfl) pa_nil))
        case zq =>
         refine' pw_or ?zy ?zz
         case zy => exact (pt_cmpR op_ne (pe_callB (k_len (K := K) rfl) (by rfl) B.b_len bt_len (pa_consN (pv 5) pa_nil)) pe_int (nomark _))
         case zz =>
          refine' pw_or ?zba ?zbb
          case zba => exact (pt_cmpR (op_neD hu) (pe_ix (k_ix (K := K) rfl) (pv 5) pe_int (fun _ _ => rfl)) (pe_ix (k_ix (K := K) rfl) (pv 3) pe_int (fun _ _ => rfl)) (nomark _))
          case zbb => exact (pw_or1 (pt_cmpR (k_neL (K := K) rfl hu) (pv 4) (pv 1) (nomark _)))
      case zm => exact (pss_one (ps_ret pe_bl))
      case zn => exact pss_nil
     case zk =>
      refine' pss_one ?zbc
      case zbc =>
       refine' ps_ret ?zbd
       case zbd =>
        refine' pe_and ?zbe ?zbf
        case zbe =>
         refine' pe_fn ?zbg ?zbh ?zbi ?zbj
         case zbg => exact C_law_words
         case zbh => exact (hr.mono (by first | decide | omega))
         case zbi => exact (by rfl)
         case zbj => exact (pa_consS (pe_ix (k_ix (K := K) rfl) (pv 5) pe_int (fun _ _ => rfl)) (pa_consS (pe_ix (k_ix (K := K) rfl) (pv 3) pe_int (fun _ _ => rfl)) pa_nil))
        case zbf =>
         refine' pe_and ?zbk ?zbl
         case zbk => exact (pe_fn C_law_whole (hr.mono (by first | decide | omega)) (by rfl) (pa_consS (pe_ix (k_ix (K := K) rfl) (pv 5) pe_int (fun _ _ => rfl)) pa_nil))
         case zbl =>
          refine' pe_one ?zbm
          case zbm => exact (pe_cmpR op_eq (pe_ix (k_ix (K := K) rfl) (pv 5) pe_int (fun _ _ => rfl)) (pe_ix (k_ix (K := K) rfl) (pv 3) pe_int (fun _ _ => rfl)) (nomark _))
  obtain ⟨HO1, gi1⟩ := hit_ok PO hn (by omega) m.toNat
  have sz := HO1.sz
  obtain ⟨td0, tve, tpn, rfl, g1, g2, g3⟩ := td
  obtain ⟨ds, eds, pls, deps⟩ := endD_pl HO1.ne
  walk_at "rd"
  refine rd_lstOf (.inl (SqL.of hq)) fun qh hqh => ?_
  have s1 := Same.new (o := .lst (ns.map V.int)) hqh
  have h1 : upd H qh (.lst (ns.map V.int)) qh = some (.lst (ns.map V.int)) := upd_same
  generalize upd H qh (HO.lst (ns.map V.int)) = H1 at s1 h1
  walk_at "rd"
  refine use3 ⟨Pg, pp, qh, ns, m, rfl, rfl, rfl, pg.by (OSame.of s1) s1.ts (fun x hx => by cases hx), PO, h1, by omega, hn, m1, fun t ve pn H2 s2 e1 e2 e3 _ => ?_⟩
  have s12 := s1.trans s2
  rw [eds] at e2 g2
  walk_at "rd"
  refine rd_isi (tyN_tup e1) (by simp) (rd_bl (iteF ?_))
  walk_at "rd"
  refine rd_lenT' (SqT.of e1) ?_
  walk_at "rd"
  refine iteNS rfl ?_
  walk_at "rd"
  refine rd_ixaT (v := ve) e1 rfl ?_
  walk_at "rd"
  refine rd_ixaT (v := tve) (s12 _ _ g1) rfl ?_
  refine ⟨ds, ds, e2, g2.mono s12.ts, pls, pls, deps, ?_⟩
  rw [eqD_same]
  walk_at "rd"
  refine rd_neLI (SqL.of (s2 _ _ h1)) (SqL.of (s12 _ _ hq)) ?_
  walk_at "rd"
  refine iteNS rfl ?_
  walk_at "rd"
  refine rd_ixaT (v := .ref pn) e1 rfl ?_
  walk_at "rd"
  refine rd_ixaT (v := .ref tpn) (s12 _ _ g1) rfl ?_
  walk_at "rd"
  refine use2 ⟨pn, tpn, (hit Pg ns m.toNat).news, rfl, rfl, e3, s12 _ _ g3, by omega, ?_⟩
  walk_at "rd"
  refine rd_ixaT (v := .int (hit Pg ns m.toNat).gone) e1 rfl ?_
  walk_at "rd"
  refine use1 ⟨_, rfl, ?_⟩
  walk_at "rd"
  refine rd_ixaT (v := .int (hit Pg ns m.toNat).gone) e1 rfl ?_
  walk_at "rd"
  refine rd_ixaT (v := .int (hit Pg ns m.toNat).gone) (s12 _ _ g1) rfl ?_
  walk_at "rd"
  rw [decide_eq_true rfl]
  exact k _ s12
def sp_asked24 (C : Addr) : Sp := sp5 fun x y z u v H Q => ∃ P pp q ns r ps sf sn sl gz h e ve more, x = .ref pp ∧ y = .ref q ∧ z = .int r ∧ u = .ref ps ∧ v = .int more ∧ PgAt [] H P pp ∧ PgOk P ∧ H q = some (.lst ((ns : List Int).map V.int)) ∧ ns.length ≤ 1000 ∧ (∀ x ∈ ns, x.natAbs ≤ 10 ^ 60) ∧ (0 ≤ r ∧ r ≤ 400) ∧ (0 ≤ more ∧ more ≤ 100) ∧ SA ps sf sn sl gz H h ve ∧ h.fin = some e ∧ h.gone = r ∧ hit P ns r.toNat = { h with fin := none } ∧ hit P ns (r.toNat + 1) = h ∧ ∀ H', Q (.bl true) H'
theorem sc__law_asked : FnScope ["program", "numbers", "rows", "state", "more", "frame", "far", "near", "hand", "k"] ["program", "numbers", "rows", "state", "more"] (defScope s__law_asked) := ⟨rfl, rfl, rfl, by decide +kernel, rfl, by decide +kernel, by decide +kernel⟩
theorem c__law_asked (B : Blt mg) (HHand : CHand K C) (T__law_asked : TopFn K mg "_law_asked" s__law_asked ["program", "numbers", "rows", "state", "more"]) (C_law_ran : Callee P w K mg base "_law_ran" 6 ["program", "numbers", "most", "due"] sp_ran24) (NHand : CCal P w K mg base C "Hand" 2 ["self", "program", "inputs"] (sp_init C)) (MHand_go : MCal P w K mg base C "go" 4 ["self"] (sp_go C)) (C_law_fields : Callee P w K mg base "_law_fields" 4 ["hand", "state"] (sp_fields C)) : Callee P w K mg base "_law_asked" 7 ["program", "numbers", "rows", "state", "more"] (sp_asked24 C) := by
  refine T__law_asked.ok5 sc__law_asked fun f cdv A outer s H v1 v2 v3 v4 v5 Q E hr hh => ?_
  have nd := sc__law_asked.nd
  obtain ⟨Pg, pp, q, ns, r, ps, sf, sn, sl, gz, h, e, ve, more, rfl, rfl, rfl, rfl, rfl, pg, PO, hq, hl, hn, ⟨r0, r1⟩, ⟨mo0, mo1⟩, st, hf, hg, hr0, hr1, k⟩ := hh
  refine' go_body [some (.ref pp), some (.ref q), some (.int r), some (.ref ps), some (.int more), none, none, none, none, none] rfl ?hb ?hg
  case hb =>
   refine' pss_cons ?zbn ?zbo
   case zbn =>
    refine' ps_setS (i := 5) ?zbp ?zbq ?zbr ?zbs
    case zbp => exact nd
    case zbq => exact rfl
    case zbr => exact (Or.inl rfl)
    case zbs => exact (pe_ix (k_ix (K := K) rfl) (pe_ix (k_ix (K := K) rfl) (pv 3) pe_int (fun _ _ => rfl)) (pe_un un_neg pe_int) (fun _ _ => rfl))
   case zbo =>
    refine' pss_cons ?zbt ?zbu
    case zbt =>
     refine' ps_setT (i := 6) ?zbv ?zbw ?zbx ?zby
     case zbv => exact nd
     case zbw => exact rfl
     case zbx => exact (Or.inl rfl)
     case zby =>
      refine' pe_tup ?zbz
      case zbz =>
       refine' pa_consT ?zca ?zcb
       case zca =>
        refine' pe_tup ?zcc
        case zcc =>
         refine' pa_consK ?zcd ?zce
         case zcd => exact pe_str
         case zce => exact (pa_consS (pe_ix (k_ix (K := K) rfl) (pv 5) pe_int (fun _ _ => rfl)) (pa_consS (pe_ix (k_ix (K := K) rfl) (pv 5) pe_int (fun _ _ => rfl)) pa_nil))
       case zcb => exact (pa_consS (pe_ix (k_ix (K := K) rfl) (pv 3) pe_int (fun _ _ => rfl)) (pa_consN (pv 2) pa_nil))
    case zbu =>
     refine' pss_cons ?zcf ?zcg
     case zcf =>
      refine' ps_setT (i := 7) ?zch ?zci ?zcj ?zck
      case zch => exact nd
      case zci => exact rfl
      case zcj => exact (Or.inl rfl)
      case zck =>
       refine' pe_tup ?zcl
       case zcl =>
        refine' pa_consS ?zcm ?zcn
        case zcm => exact (pe_ix (k_ix (K := K) rfl) (pv 3) pe_int (fun _ _ => rfl))
        case zcn => exact (pa_consS (pe_ix (k_ix (K := K) rfl) (pv 3) pe_int (fun _ _ => rfl)) (pa_consN (pv 2) pa_nil))
     case zcg =>
      refine' pss_cons ?zco ?zcp
      case zco =>
       refine' ps_if ?zcq ?zcr ?zcs
       case zcq =>
        refine' PW.pt ?zct
        case zct =>
         refine' pw_or ?zcu ?zcv
         case zcu =>
          refine' pt_not ?zcw
          case zcw =>
           refine' pt_val ?zcx
           case zcx => exact (pe_fn C_law_ran (hr.mono (by first | decide | omega)) (by rfl) (pa_consN (pv 0) (pa_consN (pv 1) (pa_consN (pv 2) (pa_consN (pv 6) pa_nil)))))
         case zcv =>
          refine' pw_or1 ?zcy
          case zcy =>
           refine' pt_not ?zcz
           case zcz =>
            refine' pt_val ?zda
            case zda =>
             refine' pe_fn ?zdb ?zdc ?zdd ?zde
             case zdb => exact C_law_ran
             case zdc => exact (hr.mono (by first | decide | omega))
             case zdd => exact (by rfl)
             case zde => exact (pa_consN (pv 0) (pa_consN (pv 1) (pa_consB (pe_op op_add (pv 2) pe_int) (pa_consN (pv 7) pa_nil))))
       case zcr => exact (pss_one (ps_ret pe_bl))
       case zcs => exact pss_nil
      case zcp =>
       refine' pss_cons ?zdf ?zdg
       case zdf =>
        refine' ps_if ?zdh ?zdi ?zdj
        case zdh =>
         refine' pt_not ?zdk
         case zdk =>
          refine' pt_val ?zdl
          case zdl =>
           refine' pe_fn ?zdm ?zdn ?zdo ?zdp
           case zdm => exact C_law_ran
           case zdn => exact (hr.mono (by first | decide | omega))
           case zdo => exact (by rfl)
           case zdp => exact (pa_consN (pv 0) (pa_consN (pv 1) (pa_consB (pe_op op_add (pe_op op_add (pv 2) pe_int) (pv 4)) (pa_consN (pv 7) pa_nil))))
        case zdi => exact (pss_one (ps_ret pe_bl))
        case zdj => exact pss_nil
       case zdg =>
        refine' pss_cons ?zdq ?zdr
        case zdq =>
         refine' ps_setC (i := 8) ?zds ?zdt ?zdu ?zdv
         case zds => exact nd
         case zdt => exact rfl
         case zdu => exact (Or.inl rfl)
         case zdv =>
          refine' pe_new ?zdw ?zdx ?zdy ?zdz
          case zdw => exact NHand
          case zdx => exact (hr.mono (by first | decide | omega))
          case zdy => exact (by rfl)
          case zdz => exact (pa_consN (pv 0) (pa_consC (pe_callTy (k_lstOf (K := K) rfl) (by rfl) B.b_list bt_list (pa_consN (pv 1) pa_nil)) pa_nil))
        case zdr =>
         refine' pss_cons ?zea ?zeb
         case zea =>
          refine' ps_for ?zec ?zed ?zee ?zef ?zeg
          case zec => exact PassesOwn.never
          case zed => exact rfl
          case zee => exact (pi_range1 rfl B.b_range (pa_consN (pv 2) pa_nil))
          case zef => exact (pg_name (i := 9) nd rfl (Or.inl rfl))
          case zeg => exact (pss_one (ps_expr (pe_m0 MHand_go HHand.cl (hr.mono (by first | decide | omega)) (pv 8))))
         case zeb =>
          refine' pss_cons ?zeh ?zei
          case zeh =>
           refine' ps_if ?zej ?zek ?zel
           case zej =>
            refine' pt_not ?zem
            case zem =>
             refine' pt_val ?zen
             case zen =>
              refine' pe_fn ?zeo ?zep ?zeq ?zer
              case zeo => exact C_law_fields
              case zep => exact (hr.mono (by first | decide | omega))
              case zeq => exact (by rfl)
              case zer => exact (pa_consN (pv 8) (pa_consB (pe_op op_cat (pe_slice (k_sl (K := K) rfl) (pv 3) po_none (po_some pe_int)) (pe_lst (pa_consK pe_non pa_nil))) pa_nil))
           case zek => exact (pss_one (ps_ret pe_bl))
           case zel => exact pss_nil
          case zei =>
           refine' pss_cons ?zes ?zet
           case zes =>
            refine' ps_for ?zeu ?zev ?zew ?zex ?zey
            case zeu => exact PassesOwn.never
            case zev => exact rfl
            case zew => exact (pi_range1 rfl B.b_range (pa_consK pe_int pa_nil))
            case zex => exact (pg_name (i := 9) nd rfl (Or.inl rfl))
            case zey =>
             refine' pss_cons ?zez ?zfa
             case zez => exact (ps_expr (pe_m0 MHand_go HHand.cl (hr.mono (by first | decide | omega)) (pv 8)))
             case zfa =>
              refine' pss_one ?zfb
              case zfb =>
               refine' ps_if ?zfc ?zfd ?zfe
               case zfc => exact (pt_not (pt_val (pe_fn C_law_fields (hr.mono (by first | decide | omega)) (by rfl) (pa_consN (pv 8) (pa_consN (pv 3) pa_nil)))))
               case zfd => exact (pss_one (ps_ret pe_bl))
               case zfe => exact pss_nil
           case zet => exact (pss_one (ps_ret pe_bl))
  have HOA := fun i => hit_ok PO hn (show ns.length ≤ 100000 by omega) i
  obtain ⟨HO1, _⟩ := HOA (r.toNat + 1)
  rw [hr1] at HO1
  have few := HO1.few
  have sz := HO1.sz
  obtain ⟨gz0, z, hz⟩ : ∃ gz0 z, gz = gz0 ++ [z] := by
    rcases List.eq_nil_or_concat gz with e | ⟨l, x, e⟩
    · have := st.fr
      rw [e] at this
      exact absurd this.symm HO1.ne
    · exact ⟨l, x, by simpa using e⟩
  have hfr : h.frames = gz0.map (·.2) ++ [z.2] := by rw [← st.fr, hz]; simp
  have fl := st.fl
  have fl' := fl
  rw [hz] at fl'
  have z1 := st.z1 (z := z) (by rw [hz]; simp)
  have ends : endD (hit Pg ns r.toNat) = .tup [.str "far", .int z.2.1, .int z.2.2.1] := by
    rw [hr0]; exact endD_none rfl hfr
  have enear : endD h = En.d (some e) := endD_some hf
  have en := st.en
  rw [hf] at en
  have news0 : (hit Pg ns r.toNat).news = h.news := by rw [hr0]
  have gone0 : (hit Pg ns r.toNat).gone = h.gone := by rw [hr0]
  have stays : ∀ j, hit Pg ns (r.toNat + 1 + j) = h := fun j => by rw [hit_stay (by rw [hr1]; exact hf) j, hr1]
  walk_at "rd"
  refine rd_ixaL (v := .ref sf) st.obj rfl ?_
  walk_at "rd"
  refine rd_ixaL fl' fz_last ?_
  walk_at "rd"
  refine rd_ixaL (v := .int z.2.1) z1 rfl ?_
  walk_at "rd"
  refine rd_ixaL (v := .int z.2.2.1) z1 rfl ?_
  walk_at "rd"
  walk_at "mk"; intro u1 hu1
  have m1 := Same.new (o := .tup [.str "far", .int z.2.1, .int z.2.2.1]) hu1
  have g1 : Rep (upd H u1 (.tup [.str "far", .int z.2.1, .int z.2.2.1])) (.tup [.str "far", .int z.2.1, .int z.2.2.1]) (.ref u1) := rep_tup upd_same (reps_cons (by rw [Rep]) (reps_cons rep_int (reps_cons rep_int reps_nil)))
  generalize upd H u1 (HO.tup [V.str "far", V.int z.2.1, V.int z.2.2.1]) = H1 at m1 g1
  walk_at "rd"
  refine rd_ixaL (v := .ref sn) (m1 _ _ st.obj) rfl ?_
  walk_at "rd"
  walk_at "mk"; intro t1 ht1
  have m2 := Same.new (o := .tup [.ref u1, .ref sn, .int r]) ht1
  have e_t1 : upd H1 t1 (.tup [.ref u1, .ref sn, .int r]) t1 = some (.tup [.ref u1, .ref sn, .int r]) := upd_same
  generalize upd H1 t1 (HO.tup [V.ref u1, V.ref sn, V.int r]) = H2 at m2 e_t1
  have m12 := m1.trans m2
  walk_at "rd"
  refine rd_ixaL (v := ve) (m12 _ _ st.obj) rfl ?_
  walk_at "rd"
  refine rd_ixaL (v := .ref sn) (m12 _ _ st.obj) rfl ?_
  walk_at "rd"
  walk_at "mk"; intro t2 ht2
  have m3 := Same.new (o := .tup [ve, .ref sn, .int r]) ht2
  have e_t2 : upd H2 t2 (.tup [ve, .ref sn, .int r]) t2 = some (.tup [ve, .ref sn, .int r]) := upd_same
  generalize upd H2 t2 (HO.tup [ve, V.ref sn, V.int r]) = H3 at m3 e_t2
  have s3 := m12.trans m3
  have far : ∀ {Hx : Hp}, Same H3 Hx → Told Hx (hit Pg ns r.toNat) (.ref t1) := fun s => ⟨t1, .ref u1, sn, rfl, by rw [gone0, hg]; exact s _ _ (m3 _ _ e_t1), by rw [ends]; exact g1.mono ((m2.trans m3).trans s).ts, by rw [news0]; exact s _ _ (s3 _ _ st.nl)⟩
  have near : ∀ {Hx : Hp}, Same H3 Hx → Told Hx h (.ref t2) := fun s => ⟨t2, ve, sn, rfl, by rw [hg]; exact s _ _ e_t2, by rw [enear]; exact en.mono (s3.trans s).ts, s _ _ (s3 _ _ st.nl)⟩
  have pgx : ∀ {Hx : Hp}, Same H3 Hx → PgAt [] Hx Pg pp := fun s => pg.by (OSame.of (s3.trans s)) (s3.trans s).ts (fun x hx => by cases hx)
  walk_at "rd"
  refine use4 ⟨Pg, pp, q, ns, r, rfl, rfl, rfl, pgx (Same.refl _), PO, s3 _ _ hq, hl, hn, r0, by omega, far (Same.refl _), fun H4 s4 => ?_⟩
  walk_at "rd"
  refine use4 ⟨Pg, pp, q, ns, r + 1, rfl, rfl, rfl, pgx s4, PO, s4 _ _ (s3 _ _ hq), hl, hn, by omega, by omega, by rw [show (r + 1).toNat = r.toNat + 1 by omega, hr1]; exact near s4, fun H5 s5 => ?_⟩
  have s45 := s4.trans s5
  walk_at "rd"
  refine use4 ⟨Pg, pp, q, ns, r + 1 + more, rfl, rfl, rfl, pgx s45, PO, s45 _ _ (s3 _ _ hq), hl, hn, by omega, by omega, by rw [show (r + 1 + more).toNat = r.toNat + 1 + more.toNat by omega, stays]; exact near s45, fun H6 s6 => ?_⟩
  have s46 := s45.trans s6
  have s06 := s3.trans s46
  walk_at "rd"
  refine rd_lstOf (.inl (SqL.of (s06 _ _ hq))) fun qh hqh => ?_
  have s7 := Same.new (o := .lst (ns.map V.int)) hqh
  have h7 : upd H6 qh (.lst (ns.map V.int)) qh = some (.lst (ns.map V.int)) := upd_same
  generalize upd H6 qh (HO.lst (ns.map V.int)) = H7 at s7 h7
  have s47 := s46.trans s7
  walk_at "rd"
  refine mk_hand [] (pgx s47) PO h7 (by omega) (fun _ m => by cases m) fun rr H8 kq s8 a8 n8 pga hkq => ?_
  have s08 := (s06.trans s7).trans s8
  have st8 := st.mono s08
  have d8 : ∀ x ∈ ownA ps sf sn sl gz, x ∉ rr.own := fun x hx m => SA.own_some (st.mono (s06.trans s7)) hx (n8 x m)
  walk_at "rd"
  refine irK_of (by omega) (by omega) ?_
  refine for_range (n := r.toNat) (fun i σ Hx => ∃ (fz : List FZ) (ve2 : V) (c9 : Option V), σ = [some (.ref pp), some (.ref q), some (.int r), some (.ref ps), some (.int more), some (.ref z.1.1), some (.ref t1), some (.ref t2), some (.ref rr.p), c9] ∧ HA C rr.p rr.dx rr.pa rr.pf rr.pn rr.pl fz Hx Pg (hit Pg ns i) ve2 ∧ SA ps sf sn sl gz Hx h ve ∧ ∀ x ∈ ownA ps sf sn sl gz, x ∉ ownA rr.p rr.pf rr.pn rr.pl fz) ⟨rr.fz, rr.ve, _, rfl, a8, st8, d8⟩ ?_ ?_
  · rintro i σ Hx hi ⟨fz, ve2, c9, rfl, a, st, d⟩
    obtain ⟨HOi, gi⟩ := HOA i
    walk_at "rd"
    refine meth_of a.obj hm_go ?_
    walk_at "rd"
    refine use1 ⟨_, _, _, _, _, _, _, Pg, hit Pg ns i, _, rfl, a, PO, HOi, by omega, fun fz' ve3 H9 a9 o9 f9 => ?_⟩
    exact ⟨fz', ve3, _, rfl, a9, st.by o9 a.notup d, apart f9 d fun x hx => SA.own_some st hx⟩
  rintro σ Hx ⟨fz, ve2, c9, rfl, a, st, d⟩
  rw [hr0] at a
  have bx : ∀ fr ∈ h.frames, fr.2.2.length ≤ 1000 := fun fr hfr => by
    obtain ⟨d', _, ed, _, hb⟩ := (HO1.fr fr hfr).ex
    have := (PO.2.2 d' (List.mem_of_getElem? ed)).b
    omega
  walk_at "rd"
  refine rd_slL (SqL.of st.obj) fun u2 hu2 => ?_
  have e4 : cutV [V.ref sf, V.ref sl, V.ref sn, V.int h.gone, ve] none (some 4) = [V.ref sf, V.ref sl, V.ref sn, V.int h.gone] := cut_to (k := 4) (by simp)
  rw [e4]
  have n1 := Same.new (o := .lst [V.ref sf, V.ref sl, V.ref sn, V.int h.gone]) hu2
  walk_at "rd"
  walk_at "mk"; intro u3 hu3
  have n2 := Same.new (o := .lst [V.non]) hu3
  walk_at "rd"
  refine rd_cat (n2 _ _ upd_same) upd_same (small_le (by simp)) fun p2 hp2 => ?_
  have n3 := Same.new (o := .lst ([V.ref sf, V.ref sl, V.ref sn, V.int h.gone] ++ [V.non])) hp2
  have n13 := (n1.trans n2).trans n3
  have hp20 : Hx p2 = none := (n1.trans n2).free hp2
  have e_p2 : upd (upd (upd Hx u2 (.lst [V.ref sf, V.ref sl, V.ref sn, V.int h.gone])) u3 (.lst [V.non])) p2 (.lst ([V.ref sf, V.ref sl, V.ref sn, V.int h.gone] ++ [V.non])) p2 = some (.lst [V.ref sf, V.ref sl, V.ref sn, V.int h.gone, V.non]) := upd_same
  generalize upd (upd (upd Hx u2 (HO.lst [V.ref sf, V.ref sl, V.ref sn, V.int h.gone])) u3 (HO.lst [V.non])) p2 (HO.lst ([V.ref sf, V.ref sl, V.ref sn, V.int h.gone] ++ [V.non])) = H9 at n13 e_p2
  have st9 := st.mono n13
  have a9 := a.mono n13
  have st2 : SA p2 sf sn sl gz H9 { h with fin := none } .non := by
    refine ⟨fun x hx => ?_, ?_, by show Rep H9 (En.d none) V.non; simp only [En.d]; rw [Rep], st.fr⟩
    · have hx : x ∈ (p2, HO.lst [.ref sf, .ref sl, .ref sn, .int h.gone, .non]) :: (sObjs ps sf sn sl gz h ve).tail := hx
      rcases List.mem_cons.mp hx with rfl | hx
      · exact e_p2
      · exact st9.all x (List.mem_of_mem_tail hx)
    · have hnd := st.nd
      have e1 : ownA ps sf sn sl gz = ps :: (ownA ps sf sn sl gz).tail := rfl
      have e2 : ownA p2 sf sn sl gz = p2 :: (ownA ps sf sn sl gz).tail := rfl
      rw [e1] at hnd
      rw [e2]
      refine List.nodup_cons.mpr ⟨fun m => SA.own_some st (List.mem_of_mem_tail m) hp20, (List.nodup_cons.mp hnd).2⟩
  walk_at "rd"
  refine use2 ⟨rr.p, rr.dx, rr.pa, rr.pf, rr.pn, rr.pl, fz, Pg, _, ve2, p2, sf, sn, sl, gz, .non, rfl, rfl, a9, st2, by show h.frames.length ≤ 1000; omega, bx, by show h.left.length ≤ 200000; omega, by show h.news.length ≤ 200000; omega, fun H10 s10 => ?_⟩
  have a10 := a9.mono s10
  have st10 := st9.mono s10
  walk_at "rd"
  refine irK_of (by omega) (by omega) ?_
  rw [← hr0] at a10
  refine for_range (n := 4) (fun i σ Hx => ∃ (fz : List FZ) (ve2 : V) (c9 : Option V), σ = [some (.ref pp), some (.ref q), some (.int r), some (.ref ps), some (.int more), some (.ref z.1.1), some (.ref t1), some (.ref t2), some (.ref rr.p), c9] ∧ HA C rr.p rr.dx rr.pa rr.pf rr.pn rr.pl fz Hx Pg (hit Pg ns (r.toNat + i)) ve2 ∧ SA ps sf sn sl gz Hx h ve ∧ ∀ x ∈ ownA ps sf sn sl gz, x ∉ ownA rr.p rr.pf rr.pn rr.pl fz) ⟨fz, ve2, _, rfl, a10, st10, d⟩ ?_ ?_
  · rintro i σ Hx hi ⟨fz, ve2, c9, rfl, a, st, d⟩
    obtain ⟨HOi, gi⟩ := HOA (r.toNat + i)
    walk_at "rd"
    refine meth_of a.obj hm_go ?_
    walk_at "rd"
    refine use1 ⟨_, _, _, _, _, _, _, Pg, hit Pg ns (r.toNat + i), _, rfl, a, PO, HOi, by omega, fun fz' ve3 H9 a9 o9 f9 => ?_⟩
    have a9' : HA C rr.p rr.dx rr.pa rr.pf rr.pn rr.pl fz' H9 Pg (hit Pg ns (r.toNat + (i + 1))) ve3 := a9
    have st' := st.by o9 a.notup d
    have d' := apart f9 d fun x hx => SA.own_some st hx
    have a9h : HA C rr.p rr.dx rr.pa rr.pf rr.pn rr.pl fz' H9 Pg h ve3 := by
      rw [show r.toNat + (i + 1) = r.toNat + 1 + i by omega, stays] at a9'
      exact a9'
    walk_at "rd"
    refine use2 ⟨rr.p, rr.dx, rr.pa, rr.pf, rr.pn, rr.pl, fz', Pg, h, ve3, ps, sf, sn, sl, gz, ve, rfl, rfl, a9h, st', by omega, bx, by omega, by omega, fun H10 s10 => ?_⟩
    walk_at "rd"
    exact ⟨fz', ve3, _, rfl, a9'.mono s10, st'.mono s10, d'⟩
  · rintro σ Hx ⟨fz, ve2, c9, rfl, a, st, d⟩
    walk_at "rd"
    exact k _

end
end
end My

end
section


set_option Elab.async false
set_option linter.all false
set_option maxRecDepth 100000
set_option maxHeartbeats 4000000

namespace My
open PySem L2
local macro_rules | `(tactic| walk_at "rd1") => `(tactic| (first | ((with_reducible refine' rd_var ?e ?_); (case e => exact rfl)) | with_reducible refine rd_c ?_ | with_reducible refine rd_op ?_ | with_reducible refine rd_un ?_ | with_reducible refine rd_seq ?_ | with_reducible refine rd_asg ?_ | with_reducible refine rd_gname ?_ | with_reducible refine rd_ret ?_ | with_reducible refine rd_drop ?_ | with_reducible refine rd_next ?_ | with_reducible refine rd_if ?_ | with_reducible refine rd_test ?_ | with_reducible refine rd_tb ?_ | with_reducible refine rd_and ?_ | with_reducible refine rd_or ?_ | with_reducible refine rd_not ?_ | with_reducible refine rd_true ?_ | with_reducible refine rd_andV ?_ | with_reducible refine rd_orV ?_ | with_reducible refine rd_notV ?_ | with_reducible refine rd_ifE ?_ | with_reducible refine rd_chain ?_ | with_reducible refine rd_nil ?_ | with_reducible refine rd_cons ?_ | with_reducible refine rd_cb ?_ | with_reducible refine rd_call ?_ | with_reducible refine rd_I0 ?_ | with_reducible refine rd_U ?_ | with_reducible refine rd_eqI ?_ | with_reducible refine rd_neI ?_ | with_reducible refine rd_eqS ?_ | with_reducible refine rd_neS ?_ | with_reducible refine rd_eqB ?_ | with_reducible refine rd_neB ?_ | with_reducible refine rd_bl ?_ | with_reducible refine rd_int ?_ | with_reducible refine rd_tupN ?_ | with_reducible refine rd_lstN ?_ | with_reducible refine rd_gsub ?_ | with_reducible refine rd_slice ?_ | with_reducible refine rd_nopart ?_ | with_reducible refine rd_part ?_ | with_reducible refine rd_bm ?_ | with_reducible refine rd_bm0 ?_ | with_reducible refine rd_comp ?_ | with_reducible refine rd_itup ?_ | with_reducible refine rd_ilist ?_ | with_reducible refine rd_irng ?_ | with_reducible refine rd_gcons ?_ | with_reducible refine rd_gnil ?_ | with_reducible refine rd_for ?_ | with_reducible refine rd_abs ?_ | with_reducible refine rd_max ?_ | with_reducible refine rd_min ?_ | with_reducible refine rd_intB ?_ | with_reducible refine rd_dput ?_ | with_reducible refine rd_dget2 ?_ | with_reducible refine rd_dget ?_ | with_reducible refine rd_fld ?_ | with_reducible refine rd_sfld ?_ | with_reducible refine rd_meth ?_ | with_reducible refine rd_makeN ?_ | with_reducible refine rd_isN ?_ | with_reducible refine rd_notN ?_ | with_reducible refine rd_izip ?_ | with_reducible refine iteNT ?_ | with_reducible refine iteNF ?_ | with_reducible refine iteF ?_ | with_reducible refine iteT ?_))
local macro_rules | `(tactic| walk_at "rd") => `(tactic| (repeat walk_at "rd1"))
local macro_rules | `(tactic| walk_at "mk") => `(tactic| refine ⟨mk_le rfl, ?_⟩)
local macro_rules | `(tactic| walk_at "rp") => `(tactic| (repeat first | exact reps_nil | refine reps_cons rep_int ?_ | refine reps_cons (by rw [Rep]) ?_ | refine reps_cons (by rw [Rep]; rfl) ?_ | refine reps_cons (by assumption) ?_))

section
variable {P : Program} {w : World} {K : PySem.W.Frag} {mg : Str → Option Value} {base : Heap}
section
variable {C : Addr}
/-- the state that the law lays out, from its parts -/
theorem sa_mk {ps sf sn sl : Addr} {gz : List FZ} {H : Hp} {h : HS} {ve : V} (h1 : H ps = some (.lst [.ref sf, .ref sl, .ref sn, .int h.gone, ve])) (h2 : H sf = some (.lst (gz.map fun z => V.ref z.1.1))) (h3 : H sn = some (.lst (h.news.map V.int))) (h4 : H sl = some (.lst (h.left.map V.int))) (h5 : AllAt H (gz.flatMap frObj)) (nd : (ownA ps sf sn sl gz).Nodup) (en : Rep H (En.d h.fin) ve) (fr : gz.map (·.2) = h.frames) : SA ps sf sn sl gz H h ve := by
  refine ⟨fun x hx => ?_, nd, en, fr⟩
  rcases List.mem_append.mp hx with hx | hx
  · simp only [List.mem_cons, List.not_mem_nil, or_false] at hx
    rcases hx with rfl | rfl | rfl | rfl
    · exact h1
    · exact h2
    · exact h3
    · exact h4
  · exact h5 x hx
theorem own_nd {ps sf sn sl : Addr} {gz : List FZ} (nd : (ps :: sf :: sn :: sl :: (gz.flatMap frObj).map (·.1)).Nodup) : (ownA ps sf sn sl gz).Nodup := by
  have e : ownA ps sf sn sl gz = ps :: sf :: sn :: sl :: (gz.flatMap frObj).map (·.1) := by
    unfold ownA
    rw [List.map_flatMap]
    rfl
  rw [e]; exact nd
theorem last_get {n : Int} {zs : List Int} : atI (V.int n :: zs.map V.int) (-1) = some (.int ((n :: zs).getLastD 0)) := by
  have e : V.int n :: zs.map V.int = (n :: zs).map V.int := rfl
  rw [e]
  obtain ⟨l, x, h⟩ : ∃ l x, n :: zs = l ++ [x] := by
    rcases List.eq_nil_or_concat (n :: zs) with h | ⟨l, x, h⟩
    · cases h
    · exact ⟨l, x, by simpa using h⟩
  rw [h, List.map_append]
  have : (l ++ [x]).getLastD 0 = x := by rw [List.getLastD_eq_getLast?, List.getLast?_append]; rfl
  rw [this]
  exact atI_neg1
theorem law_r9 (HHand : CHand K C) {D : Ends} {σ : St} {H : Hp} (k : ∀ H, D.rt (.bl true) H) {c0 c1 c2 c3 c7 c9 c10 c11 c12 : Option V} {t : Nat} {more c : Int} {qn : Addr} {ns : List Int}
    (hσ : σ = [c0, c1, c2, c3, some (.int t), some (.int more), some (.int c), c7, some (.ref qn), c9, c10, c11, c12]) (ht : t ≤ 100) (hmo : 0 ≤ more ∧ more ≤ 100) (hc : c.natAbs ≤ 10 ^ 60) (hqn : H qn = some (.lst (ns.map V.int))) (hl : ns.length ≤ 100) (hn : ∀ x ∈ ns, x.natAbs ≤ 10 ^ 60) : (tSeq (tAsg (tCall sp_prog24 [] E0 (tCons (tVar 6) (tCons (tVar 4) tNil))) (gName 9)) (tSeq (tIfS (tOr (tTest (tOp (rI0 fun i j => .bl (decide (i < j))) (tVar 6) (tC (.int 0)))) (tTest (tOp (rI0 fun i j => .bl (decide (j < i))) (tVar 6) (tC (.int 18))))) (tSeq (tAsg (tCall sp_stand24 [] E0 (tCons (tVar 6) (tCons (tC (.int 18)) (tCons (tLst (tCons (tC (.int 1)) (tCons (tC (.int 2)) (tCons (tLst (tCons (tOp (rI0 fun i j => .int (i - j)) (tVar 6) (tC (.int 19))) (tCons (tC (.int 1)) (tCons (tC (.int 0)) tNil)))) tNil)))) tNil)))) (gName 10)) (tRet (tCall (sp_asked24 C) [] E0 (tCons (tVar 9) (tCons (tVar 8) (tCons (tC (.int 59)) (tCons (tLst (tCons (tVar 10) (tCons (tVar 8) (tCons (tLst tNil) (tCons (tC (.int 59)) (tCons (tTup (tCons (tC (.str "deep")) (tCons (tC (.int 1)) (tCons (tC (.int 2)) tNil)))) tNil)))))) (tCons (tVar 5) tNil)))))))) tNext) (tSeq (tAsg (tOp (rI0 fun i j => .int (i + j)) (tC (.int 4)) (tOp (rI CBig fun i j => .int (i * j)) (tC (.int 3)) (tVar 6))) (gName 11)) (tSeq (tIfS (tTest (tOp (rI0 fun i j => .bl (decide (i < j))) (tCB (rLen K) (tCons (tVar 8) tNil)) (tVar 4))) (tSeq (tAsg (tOp (rIxA K) (tOp rCat (tLst (tCons (tC (.int 0)) tNil)) (tVar 8)) (tUn (rU fun i => V.int (-i)) (tC (.int 1)))) (gName 12)) (tSeq (tAsg (tCall sp_stand24 [] E0 (tCons (tVar 6) (tCons (tVar 6) (tCons (tLst (tCons (tC (.int 1)) (tCons (tOp (rI0 fun i j => .int (i + j)) (tC (.int 4)) (tCB (rLen K) (tCons (tVar 8) tNil))) (tCons (tLst (tCons (tC (.int 0)) (tCons (tC (.int 1)) (tCons (tVar 12) tNil)))) tNil)))) tNil)))) (gName 10)) (tSeq (tAsg (tOp (rI0 fun i j => .int (i + j)) (tVar 11) (tCB (rLen K) (tCons (tVar 8) tNil))) (gName 11)) (tRet (tCall (sp_asked24 C) [] E0 (tCons (tVar 9) (tCons (tVar 8) (tCons (tVar 11) (tCons (tLst (tCons (tVar 10) (tCons (tLst tNil) (tCons (tLst tNil) (tCons (tVar 11) (tCons (tTup (tCons (tC (.str "dry")) (tCons (tC (.int 1)) (tCons (tOp (rI0 fun i j => .int (i + j)) (tC (.int 4)) (tCB (rLen K) (tCons (tVar 8) tNil))) tNil)))) tNil)))))) (tCons (tVar 5) tNil)))))))))) tNext) (tSeq (tAsg (tOp (rIxA K) (tOp rCat (tLst (tCons (tC (.int 0)) tNil)) (tSl (rSlL K) (tVar 8) tNoPart (tPart (tVar 4)))) (tUn (rU fun i => V.int (-i)) (tC (.int 1)))) (gName 12)) (tSeq (tAsg (tOp (rI0 fun i j => .int (i + j)) (tOp (rI0 fun i j => .int (i + j)) (tOp (rI0 fun i j => .int (i + j)) (tOp (rI0 fun i j => .int (i + j)) (tVar 11) (tVar 4)) (tC (.int 1))) (tOp (rI CBig fun i j => .int (i * j)) (tC (.int 2)) (tVar 6))) (tC (.int 1))) (gName 11)) (tSeq (tAsg (tLst (tCons (tLst (tCons (tC (.int 0)) (tCons (tC (.int 4)) (tCons (tLst (tCons (tVar 6) (tCons (tC (.int 1)) (tCons (tVar 12) tNil)))) tNil)))) tNil)) (gName 10)) (tRet (tCall (sp_asked24 C) [] E0 (tCons (tVar 9) (tCons (tVar 8) (tCons (tVar 11) (tCons (tLst (tCons (tVar 10) (tCons (tSl (rSlL K) (tVar 8) (tPart (tVar 4)) tNoPart) (tCons (tLst (tCons (tVar 12) tNil)) (tCons (tVar 11) (tCons (tTup (tCons (tC (.str "back")) (tCons (tVar 12) tNil))) tNil)))))) (tCons (tVar 5) tNil)))))))))))))) D σ H := by
  subst hσ
  have PO := p24_ok (c := c) (t := t) hc ht
  walk_at "rd"
  refine use2 ⟨c, t, rfl, rfl, ht, fun pp H1 s1 f1 => ?_⟩
  have pg1 : PgAt [] H1 (P24 c t) pp := f1.at fun _ m => by cases m
  have hq1 := s1 _ _ hqn
  have mono : ∀ {Hx : Hp}, Same H1 Hx → PgAt [] Hx (P24 c t) pp := fun s => pg1.by (OSame.of s) s.ts (fun x hx => by cases hx)
  refine rd_gname ?_
  dsimp only
  refine rd_seq ?_
  have rest : ¬ (c < 0 ∨ 18 < c) → (tSeq (tAsg (tOp (rI0 fun i j => .int (i + j)) (tC (.int 4)) (tOp (rI CBig fun i j => .int (i * j)) (tC (.int 3)) (tVar 6))) (gName 11)) (tSeq (tIfS (tTest (tOp (rI0 fun i j => .bl (decide (i < j))) (tCB (rLen K) (tCons (tVar 8) tNil)) (tVar 4))) (tSeq (tAsg (tOp (rIxA K) (tOp rCat (tLst (tCons (tC (.int 0)) tNil)) (tVar 8)) (tUn (rU fun i => V.int (-i)) (tC (.int 1)))) (gName 12)) (tSeq (tAsg (tCall sp_stand24 [] E0 (tCons (tVar 6) (tCons (tVar 6) (tCons (tLst (tCons (tC (.int 1)) (tCons (tOp (rI0 fun i j => .int (i + j)) (tC (.int 4)) (tCB (rLen K) (tCons (tVar 8) tNil))) (tCons (tLst (tCons (tC (.int 0)) (tCons (tC (.int 1)) (tCons (tVar 12) tNil)))) tNil)))) tNil)))) (gName 10)) (tSeq (tAsg (tOp (rI0 fun i j => .int (i + j)) (tVar 11) (tCB (rLen K) (tCons (tVar 8) tNil))) (gName 11)) (tRet (tCall (sp_asked24 C) [] E0 (tCons (tVar 9) (tCons (tVar 8) (tCons (tVar 11) (tCons (tLst (tCons (tVar 10) (tCons (tLst tNil) (tCons (tLst tNil) (tCons (tVar 11) (tCons (tTup (tCons (tC (.str "dry")) (tCons (tC (.int 1)) (tCons (tOp (rI0 fun i j => .int (i + j)) (tC (.int 4)) (tCB (rLen K) (tCons (tVar 8) tNil))) tNil)))) tNil)))))) (tCons (tVar 5) tNil)))))))))) tNext) (tSeq (tAsg (tOp (rIxA K) (tOp rCat (tLst (tCons (tC (.int 0)) tNil)) (tSl (rSlL K) (tVar 8) tNoPart (tPart (tVar 4)))) (tUn (rU fun i => V.int (-i)) (tC (.int 1)))) (gName 12)) (tSeq (tAsg (tOp (rI0 fun i j => .int (i + j)) (tOp (rI0 fun i j => .int (i + j)) (tOp (rI0 fun i j => .int (i + j)) (tOp (rI0 fun i j => .int (i + j)) (tVar 11) (tVar 4)) (tC (.int 1))) (tOp (rI CBig fun i j => .int (i * j)) (tC (.int 2)) (tVar 6))) (tC (.int 1))) (gName 11)) (tSeq (tAsg (tLst (tCons (tLst (tCons (tC (.int 0)) (tCons (tC (.int 4)) (tCons (tLst (tCons (tVar 6) (tCons (tC (.int 1)) (tCons (tVar 12) tNil)))) tNil)))) tNil)) (gName 10)) (tRet (tCall (sp_asked24 C) [] E0 (tCons (tVar 9) (tCons (tVar 8) (tCons (tVar 11) (tCons (tLst (tCons (tVar 10) (tCons (tSl (rSlL K) (tVar 8) (tPart (tVar 4)) tNoPart) (tCons (tLst (tCons (tVar 12) tNil)) (tCons (tVar 11) (tCons (tTup (tCons (tC (.str "back")) (tCons (tVar 12) tNil))) tNil)))))) (tCons (tVar 5) tNil)))))))))))) D [c0, c1, c2, c3, some (.int t), some (.int more), some (.int c), c7, some (.ref qn), some (.ref pp), c10, c11, c12] H1 := by
    intro hcc
    obtain ⟨n, hn0⟩ : ∃ n : Nat, c = n := ⟨c.toNat, by omega⟩
    have hn18 : n ≤ 18 := by omega
    walk_at "rd"
    refine rd_I ⟨big62 (by decide), big62 (by omega)⟩ ?_
    walk_at "rd"
    refine rd_lenL' (SqL.of hq1) ?_
    walk_at "rd"
    rw [List.length_map]
    refine ite_dd (fun hlt => ?_) (fun hlt => ?_)
    · -- too few numbers
      have hlt : ns.length < t := by omega
      have w := WC.start (ow := []) (H := H1) (fun _ h => by cases h)
      walk_at "rd"
      refine w.mkL fun u1 H2 w => ?_
      walk_at "rd"
      refine w.cat w.get0 (w.sm _ _ hq1) (by simp; omega) fun u2 H3 w => ?_
      walk_at "rd"
      refine rd_ixaL w.get0 last_get ?_
      have eg : (0 :: ns).getLastD 0 = got24 ns ns.length := by unfold got24; rw [List.take_length]
      rw [eg]
      walk_at "rd"
      refine rd_lenL' (SqL.of (w.sm _ _ hq1)) ?_
      rw [List.length_map]
      walk_at "rd"
      refine w.mkL fun lb H4 w => ?_
      walk_at "rd"
      refine w.mkL fun la H5 w => ?_
      walk_at "rd"
      refine use3 ⟨c, n, la, rfl, by rw [hn0], rfl, by omega, fun sf gz H6 egz v => ?_⟩
      have w := w.comp v (fun _ h => by cases h)
      walk_at "rd"
      refine rd_lenL' (SqL.of (w.sm _ _ hq1)) ?_
      rw [List.length_map]
      walk_at "rd"
      refine w.mkL fun sl H7 w => ?_
      walk_at "rd"
      refine w.mkL fun sn H8 w => ?_
      walk_at "rd"
      refine rd_lenL' (SqL.of (w.sm _ _ hq1)) ?_
      rw [List.length_map]
      walk_at "rd"
      refine w.mkT (ds := [.str "dry", .int 1, .int (4 + ns.length)]) (by walk_at "rp") fun te H9 _ w => ?_
      walk_at "rd"
      refine w.mkL fun ps H10 w => ?_
      walk_at "rd"
      obtain ⟨d1, d2⟩ := dry24 (t := t) (ns := ns) hn0 hn18 hlt
      have er : (4 + 3 * c + (ns.length : Int)).toNat = 4 + 3 * n + ns.length := by omega
      refine use5 ⟨P24 c t, pp, qn, ns, 4 + 3 * c + ns.length, ps, sf, sn, sl, gz ++ [((la, lb), F24 1 (4 + ns.length) [0, 1, got24 ns ns.length])], ⟨stack24 c n ++ [F24 1 (4 + ns.length) [0, 1, got24 ns ns.length]], [], [], 4 + 3 * n + ns.length, some (.dry 1 (4 + ns.length))⟩, .dry 1 (4 + ns.length), .ref te, more, rfl, rfl, rfl, rfl, rfl, mono w.sm, PO, w.sm _ _ hq1, by omega, hn, ⟨by omega, by omega⟩, hmo, ?_, rfl, ?_, by rw [er, d1], by rw [er, d2], fun H' => k _⟩
      · refine sa_mk ?_ ?_ ?_ ?_ ?_ ?_ ?_ ?_
        · have := w.get0
          have e : (4 + 3 * c + (ns.length : Int)) = 4 + 3 * (n : Int) + ns.length := by omega
          rw [e] at this
          exact this
        · have := w.all (sf, .lst ((gz.map fun z => V.ref z.1.1) ++ [.ref la])) (by simp)
          simpa using this
        · exact w.all (sn, .lst []) (by simp)
        · exact w.all (sl, .lst []) (by simp)
        · intro x hx
          refine w.all x ?_
          rw [List.flatMap_append] at hx
          rcases List.mem_append.mp hx with hx | hx
          · simp [hx]
          · simp [frObj] at hx
            rcases hx with rfl | rfl <;> simp
        · refine own_nd ?_
          have hnd := w.nd
          have hp : List.Perm (((ps, HO.lst [V.ref sf, V.ref sl, V.ref sn, V.int (4 + 3 * c + ns.length), V.ref te]) :: (sn, HO.lst []) :: (sl, HO.lst []) :: ((sf, HO.lst ((gz.map fun z => V.ref z.1.1) ++ [V.ref la])) :: gz.flatMap frObj ++ [(la, HO.lst [V.int 1, V.int (4 + ns.length), V.ref lb]), (lb, HO.lst [V.int 0, V.int 1, V.int (got24 ns ns.length)])])).map (·.1)) (ps :: sf :: sn :: sl :: ((gz ++ [((la, lb), F24 1 (4 + ns.length) [0, 1, got24 ns ns.length])]).flatMap frObj).map (·.1)) := by
            rw [List.flatMap_append]
            simp only [List.map_cons, List.map_append, frObj, List.flatMap_cons, List.flatMap_nil, List.append_nil, List.cons_append, List.map_nil]
            refine List.Perm.cons _ ?_
            exact (List.perm_middle (l₁ := [sn, sl]))
          refine hp.nodup_iff.mp ?_
          refine hnd.sublist ?_
          refine List.Sublist.map _ ?_
          refine List.Sublist.cons₂ _ (List.Sublist.cons₂ _ (List.Sublist.cons₂ _ ?_))
          simp only [List.cons_append]
          refine List.Sublist.cons₂ _ ?_
          refine List.Sublist.append_left ?_ _
          exact List.Sublist.cons₂ _ (List.Sublist.cons₂ _ (List.nil_sublist _))
        · exact w.rp0
        · rw [List.map_append, egz, hn0]; rfl
      · show 4 + 3 * (n : Int) + ns.length = 4 + 3 * c + ns.length
        omega
    · -- it comes back
      have hlt : t ≤ ns.length := by omega
      have w := WC.start (ow := []) (H := H1) (fun _ h => by cases h)
      have etk : cutV (ns.map V.int) none (some (t : Int)) = (ns.take t).map V.int := by rw [cut_to (k := t) (by simp; omega), List.map_take]
      walk_at "rd"
      refine w.mkL fun u1 H2 w => ?_
      walk_at "rd"
      refine w.sl (SqL.of (w.sm _ _ hq1)) fun u2 H3 w => ?_
      rw [etk] at w
      walk_at "rd"
      refine w.cat w.get1 w.get0 (by simp; omega) fun u3 H4 w => ?_
      walk_at "rd"
      refine rd_ixaL w.get0 last_get ?_
      have eg : (0 :: ns.take t).getLastD 0 = got24 ns t := rfl
      rw [eg]
      walk_at "rd"
      refine rd_I ⟨big62 (by decide), big62 (by omega)⟩ ?_
      walk_at "rd"
      refine w.mkL fun lb H5 w => ?_
      walk_at "rd"
      refine w.mkL fun la H6 w => ?_
      walk_at "rd"
      refine w.mkL fun sf H7 w => ?_
      walk_at "rd"
      refine w.sl (SqL.of (w.sm _ _ hq1)) fun sl H8 w => ?_
      have edr : cutV (ns.map V.int) (some (t : Int)) none = (ns.drop t).map V.int := by rw [cut_from (k := t) (by simp; omega), List.map_drop]
      rw [edr] at w
      walk_at "rd"
      refine w.mkL fun sn H9 w => ?_
      walk_at "rd"
      refine w.mkT (ds := [.str "back", .int (got24 ns t)]) (by walk_at "rp") fun te H10 _ w => ?_
      walk_at "rd"
      refine w.mkL fun ps H11 w => ?_
      walk_at "rd"
      obtain ⟨d1, d2⟩ := back24 (t := t) (ns := ns) hn0 hn18 hlt
      have er : (4 + 3 * c + t + 1 + 2 * c + 1).toNat = 4 + 3 * n + t + 2 * n + 2 := by omega
      have eri : (4 + 3 * c + t + 1 + 2 * c + 1) = 4 + 3 * (n : Int) + t + 2 * n + 2 := by omega
      refine use5 ⟨P24 c t, pp, qn, ns, 4 + 3 * c + t + 1 + 2 * c + 1, ps, sf, sn, sl, [((la, lb), F24 0 4 [c, 1, got24 ns t])], ⟨[F24 0 4 [c, 1, got24 ns t]], ns.drop t, [got24 ns t], 4 + 3 * n + t + 2 * n + 2, some (.back (got24 ns t))⟩, .back (got24 ns t), .ref te, more, rfl, rfl, rfl, rfl, rfl, mono w.sm, PO, w.sm _ _ hq1, by omega, hn, ⟨by omega, by omega⟩, hmo, ?_, rfl, eri.symm, by rw [er, d1], by rw [er, d2], fun H' => k _⟩
      refine sa_mk ?_ ?_ ?_ ?_ ?_ ?_ ?_ ?_
      · have := w.get0
        rw [eri] at this
        exact this
      · exact w.all (sf, .lst [.ref la]) (by simp)
      · exact w.all (sn, .lst [.int (got24 ns t)]) (by simp)
      · exact w.all (sl, .lst ((ns.drop t).map V.int)) (by simp)
      · intro x hx
        refine w.all x ?_
        simp [frObj] at hx
        rcases hx with rfl | rfl <;> simp
      · refine own_nd ?_
        have hnd := w.nd
        have h5 : [ps, sn, sl, sf, la, lb].Nodup := hnd.sublist (by
          simp only [List.map_cons]
          exact List.Sublist.cons₂ _ (List.Sublist.cons₂ _ (List.Sublist.cons₂ _ (List.Sublist.cons₂ _ (List.Sublist.cons₂ _ (List.Sublist.cons₂ _ (List.nil_sublist _)))))))
        refine (List.Perm.nodup_iff ?_).mp h5
        exact List.Perm.cons _ (List.perm_middle (l₁ := [sn, sl]) (l₂ := [la, lb]))
      · exact w.rp0
      · rfl
  walk_at "rd"
  have deep : (c < 0 ∨ 18 < c) → ((tSeq (tAsg (tCall sp_stand24 [] E0 (tCons (tVar 6) (tCons (tC (.int 18)) (tCons (tLst (tCons (tC (.int 1)) (tCons (tC (.int 2)) (tCons (tLst (tCons (tOp (rI0 fun i j => .int (i - j)) (tVar 6) (tC (.int 19))) (tCons (tC (.int 1)) (tCons (tC (.int 0)) tNil)))) tNil)))) tNil)))) (gName 10)) (tRet (tCall (sp_asked24 C) [] E0 (tCons (tVar 9) (tCons (tVar 8) (tCons (tC (.int 59)) (tCons (tLst (tCons (tVar 10) (tCons (tVar 8) (tCons (tLst tNil) (tCons (tC (.int 59)) (tCons (tTup (tCons (tC (.str "deep")) (tCons (tC (.int 1)) (tCons (tC (.int 2)) tNil)))) tNil)))))) (tCons (tVar 5) tNil))))))))) { nx := (tSeq (tAsg (tOp (rI0 fun i j => .int (i + j)) (tC (.int 4)) (tOp (rI CBig fun i j => .int (i * j)) (tC (.int 3)) (tVar 6))) (gName 11)) (tSeq (tIfS (tTest (tOp (rI0 fun i j => .bl (decide (i < j))) (tCB (rLen K) (tCons (tVar 8) tNil)) (tVar 4))) (tSeq (tAsg (tOp (rIxA K) (tOp rCat (tLst (tCons (tC (.int 0)) tNil)) (tVar 8)) (tUn (rU fun i => V.int (-i)) (tC (.int 1)))) (gName 12)) (tSeq (tAsg (tCall sp_stand24 [] E0 (tCons (tVar 6) (tCons (tVar 6) (tCons (tLst (tCons (tC (.int 1)) (tCons (tOp (rI0 fun i j => .int (i + j)) (tC (.int 4)) (tCB (rLen K) (tCons (tVar 8) tNil))) (tCons (tLst (tCons (tC (.int 0)) (tCons (tC (.int 1)) (tCons (tVar 12) tNil)))) tNil)))) tNil)))) (gName 10)) (tSeq (tAsg (tOp (rI0 fun i j => .int (i + j)) (tVar 11) (tCB (rLen K) (tCons (tVar 8) tNil))) (gName 11)) (tRet (tCall (sp_asked24 C) [] E0 (tCons (tVar 9) (tCons (tVar 8) (tCons (tVar 11) (tCons (tLst (tCons (tVar 10) (tCons (tLst tNil) (tCons (tLst tNil) (tCons (tVar 11) (tCons (tTup (tCons (tC (.str "dry")) (tCons (tC (.int 1)) (tCons (tOp (rI0 fun i j => .int (i + j)) (tC (.int 4)) (tCB (rLen K) (tCons (tVar 8) tNil))) tNil)))) tNil)))))) (tCons (tVar 5) tNil)))))))))) tNext) (tSeq (tAsg (tOp (rIxA K) (tOp rCat (tLst (tCons (tC (.int 0)) tNil)) (tSl (rSlL K) (tVar 8) tNoPart (tPart (tVar 4)))) (tUn (rU fun i => V.int (-i)) (tC (.int 1)))) (gName 12)) (tSeq (tAsg (tOp (rI0 fun i j => .int (i + j)) (tOp (rI0 fun i j => .int (i + j)) (tOp (rI0 fun i j => .int (i + j)) (tOp (rI0 fun i j => .int (i + j)) (tVar 11) (tVar 4)) (tC (.int 1))) (tOp (rI CBig fun i j => .int (i * j)) (tC (.int 2)) (tVar 6))) (tC (.int 1))) (gName 11)) (tSeq (tAsg (tLst (tCons (tLst (tCons (tC (.int 0)) (tCons (tC (.int 4)) (tCons (tLst (tCons (tVar 6) (tCons (tC (.int 1)) (tCons (tVar 12) tNil)))) tNil)))) tNil)) (gName 10)) (tRet (tCall (sp_asked24 C) [] E0 (tCons (tVar 9) (tCons (tVar 8) (tCons (tVar 11) (tCons (tLst (tCons (tVar 10) (tCons (tSl (rSlL K) (tVar 8) (tPart (tVar 4)) tNoPart) (tCons (tLst (tCons (tVar 12) tNil)) (tCons (tVar 11) (tCons (tTup (tCons (tC (.str "back")) (tCons (tVar 12) tNil))) tNil)))))) (tCons (tVar 5) tNil)))))))))))) D, rt := D.rt } [c0, c1, c2, c3, some (.int t), some (.int more), some (.int c), c7, some (.ref qn), some (.ref pp), c10, c11, c12] H1 := by
    intro hcc
    have w := WC.start (ow := []) (H := H1) (fun _ h => by cases h)
    walk_at "rd"
    refine w.mkL fun lb H2 w => ?_
    walk_at "rd"
    refine w.mkL fun la H3 w => ?_
    walk_at "rd"
    refine use3 ⟨c, 18, la, rfl, rfl, rfl, by omega, fun sf gz H4 egz v => ?_⟩
    have w := w.comp v (fun _ h => by cases h)
    walk_at "rd"
    refine w.mkL fun sn H5 w => ?_
    walk_at "rd"
    refine w.mkT (ds := [.str "deep", .int 1, .int 2]) (by walk_at "rp") fun te H6 _ w => ?_
    walk_at "rd"
    refine w.mkL fun ps H7 w => ?_
    walk_at "rd"
    obtain ⟨d1, d2⟩ := deep24 (t := t) (ns := ns) hcc
    refine use5 ⟨P24 c t, pp, qn, ns, 59, ps, sf, sn, qn, gz ++ [((la, lb), F24 1 2 [c - 19, 1, 0])], ⟨stack24 c 18 ++ [F24 1 2 [c - 19, 1, 0]], ns, [], 59, some (.deep 1 2)⟩, .deep 1 2, .ref te, more, rfl, rfl, rfl, rfl, rfl, mono w.sm, PO, w.sm _ _ hq1, by omega, hn, ⟨by omega, by omega⟩, hmo, ?_, rfl, rfl, by rw [show (59 : Int).toNat = 59 from rfl, d1], by rw [show (59 : Int).toNat + 1 = 60 from rfl, d2], fun H' => k _⟩
    refine sa_mk ?_ ?_ ?_ ?_ ?_ ?_ ?_ ?_
    · exact w.get0
    · have := w.all (sf, .lst ((gz.map fun z => V.ref z.1.1) ++ [.ref la])) (by simp)
      simpa using this
    · exact w.all (sn, .lst []) (by simp)
    · exact w.sm _ _ hq1
    · intro x hx
      refine w.all x ?_
      rw [List.flatMap_append] at hx
      rcases List.mem_append.mp hx with hx | hx
      · simp [hx]
      · simp [frObj] at hx
        rcases hx with rfl | rfl <;> simp
    · refine own_nd ?_
      have hnd : (qn :: ((ps, HO.lst [V.ref sf, V.ref qn, V.ref sn, V.int 59, V.ref te]) :: (sn, HO.lst []) :: ((sf, HO.lst ((gz.map fun z => V.ref z.1.1) ++ [V.ref la])) :: gz.flatMap frObj ++ [(la, HO.lst [V.int 1, V.int 2, V.ref lb]), (lb, HO.lst [V.int (c - 19), V.int 1, V.int 0])])).map (·.1)).Nodup := List.nodup_cons.mpr ⟨fun m => absurd (w.nw qn m) (by rw [hq1]; simp), w.nd⟩
      refine (List.Perm.nodup_iff ?_).mp hnd
      rw [List.flatMap_append]
      simp only [List.map_cons, List.map_append, frObj, List.flatMap_cons, List.flatMap_nil, List.append_nil, List.cons_append, List.map_nil]
      refine ((List.perm_middle (a := qn) (l₁ := [ps, sn, sf])).symm).trans ?_
      refine List.Perm.cons _ ?_
      exact List.Perm.swap _ _ _
    · exact w.rp0
    · rw [List.map_append, egz]; rfl
  refine ite_dd (fun h => iteT (deep (.inl h))) (fun h => ?_)
  walk_at "rd"
  exact ite_dd (fun h' => deep (.inr h')) (fun h' => rd_next (rest (by omega)))

end
end
end My

end
section


set_option Elab.async false
set_option linter.all false
set_option maxRecDepth 100000
set_option maxHeartbeats 4000000

namespace My
open PySem L2
local macro_rules | `(tactic| walk_at "rd1") => `(tactic| (first | ((with_reducible refine' rd_var ?e ?_); (case e => exact rfl)) | with_reducible refine rd_c ?_ | with_reducible refine rd_op ?_ | with_reducible refine rd_un ?_ | with_reducible refine rd_seq ?_ | with_reducible refine rd_asg ?_ | with_reducible refine rd_gname ?_ | with_reducible refine rd_ret ?_ | with_reducible refine rd_drop ?_ | with_reducible refine rd_next ?_ | with_reducible refine rd_if ?_ | with_reducible refine rd_test ?_ | with_reducible refine rd_tb ?_ | with_reducible refine rd_and ?_ | with_reducible refine rd_or ?_ | with_reducible refine rd_not ?_ | with_reducible refine rd_true ?_ | with_reducible refine rd_andV ?_ | with_reducible refine rd_orV ?_ | with_reducible refine rd_notV ?_ | with_reducible refine rd_ifE ?_ | with_reducible refine rd_chain ?_ | with_reducible refine rd_nil ?_ | with_reducible refine rd_cons ?_ | with_reducible refine rd_cb ?_ | with_reducible refine rd_call ?_ | with_reducible refine rd_I0 ?_ | with_reducible refine rd_U ?_ | with_reducible refine rd_eqI ?_ | with_reducible refine rd_neI ?_ | with_reducible refine rd_eqS ?_ | with_reducible refine rd_neS ?_ | with_reducible refine rd_eqB ?_ | with_reducible refine rd_neB ?_ | with_reducible refine rd_bl ?_ | with_reducible refine rd_int ?_ | with_reducible refine rd_tupN ?_ | with_reducible refine rd_lstN ?_ | with_reducible refine rd_gsub ?_ | with_reducible refine rd_slice ?_ | with_reducible refine rd_nopart ?_ | with_reducible refine rd_part ?_ | with_reducible refine rd_bm ?_ | with_reducible refine rd_bm0 ?_ | with_reducible refine rd_comp ?_ | with_reducible refine rd_itup ?_ | with_reducible refine rd_ilist ?_ | with_reducible refine rd_irng ?_ | with_reducible refine rd_gcons ?_ | with_reducible refine rd_gnil ?_ | with_reducible refine rd_for ?_ | with_reducible refine rd_abs ?_ | with_reducible refine rd_max ?_ | with_reducible refine rd_min ?_ | with_reducible refine rd_intB ?_ | with_reducible refine rd_dput ?_ | with_reducible refine rd_dget2 ?_ | with_reducible refine rd_dget ?_ | with_reducible refine rd_fld ?_ | with_reducible refine rd_sfld ?_ | with_reducible refine rd_meth ?_ | with_reducible refine rd_makeN ?_ | with_reducible refine rd_isN ?_ | with_reducible refine rd_notN ?_ | with_reducible refine rd_izip ?_ | with_reducible refine iteNT ?_ | with_reducible refine iteNF ?_ | with_reducible refine iteF ?_ | with_reducible refine iteT ?_))
local macro_rules | `(tactic| walk_at "rd") => `(tactic| (repeat walk_at "rd1"))
local macro_rules | `(tactic| walk_at "mk") => `(tactic| refine ⟨mk_le rfl, ?_⟩)
local macro_rules | `(tactic| walk_at "rp") => `(tactic| (repeat first | exact reps_nil | refine reps_cons rep_int ?_ | refine reps_cons (by rw [Rep]) ?_ | refine reps_cons (by rw [Rep]; rfl) ?_ | refine reps_cons (by assumption) ?_))

section
variable {P : Program} {w : World} {K : PySem.W.Frag} {mg : Str → Option Value} {base : Heap}
section
variable {C : Addr}
theorem cpow50 : CPow 10 50 := ⟨by decide, by decide, by decide⟩
theorem law_r0 (HHand : CHand K C) {D : Ends} {H : Hp} (k : ∀ H, D.rt (.bl true) H) {a : Addr} {ns : List Int} (hS : SqL K H a (ns.map V.int)) (hlen : ns.length ≤ 63) : (tSeq (tAsg (tCall (sp_bag K) [] E0 (tCons (tVar 0) tNil)) (gName 1)) (tSeq (tAsg (tCall sp_draw [] E0 (tCons (tVar 1) (tCons (tC (.int 6)) tNil))) (gName 2)) (tSeq (tAsg (tCall sp_draw [] E0 (tCons (tVar 1) (tCons (tC (.int 3)) tNil))) (gName 3)) (tSeq (tAsg (tCall sp_draw [] E0 (tCons (tVar 1) (tCons (tC (.int 6)) tNil))) (gName 4)) (tSeq (tAsg (tCall sp_draw [] E0 (tCons (tVar 1) (tCons (tC (.int 40)) tNil))) (gName 5)) (tSeq (tAsg (tCall sp_draw [] E0 (tCons (tVar 1) (tCons (tC (.int 7)) tNil))) (gName 6)) (tSeq (tIfS (tTest (tOp rEq (tVar 2) (tC (.int 4)))) (tAsg (tOp (rI0 fun i j => .int (i + j)) (tC (.int 16)) (tCall sp_draw [] E0 (tCons (tVar 1) (tCons (tC (.int 5)) tNil)))) (gName 6)) tNext) (tSeq (tIfS (tTest (tOp rEq (tVar 2) (tC (.int 5)))) (tSeq (tAsg (tOp (rI0 fun i j => .int (i - j)) (tOp (rI CBig fun i j => .int (i * j)) (tCall sp_draw [] E0 (tCons (tVar 1) (tCons (tC (.int 2)) tNil))) (tC (.int 2))) (tC (.int 1))) (gName 7)) (tAsg (tOp (rI CBig fun i j => .int (i * j)) (tVar 7) (tOp (rI0 fun i j => .int (i + j)) (tC (.int 20)) (tCall sp_draw [] E0 (tCons (tVar 1) (tCons (tOp (rI CPow fun i j => .int (i ^ j.toNat)) (tC (.int 10)) (tC (.int 50))) tNil))))) (gName 6))) tNext) (tSeq (tAsg (tSl (rSlL K) (tComp ["k"] [1] (iRng1 (tCons (tOp (rI0 fun i j => .int (i + j)) (tVar 4) (tC (.int 1))) tNil)) (gName 0) tTrue (tCall sp_number [] E0 (tCons (tVar 1) tNil))) tNoPart (tPart (tCB rMax (tCons (tC (.int 0)) (tCons (tOp (rI0 fun i j => .int (i - j)) (tOp (rI0 fun i j => .int (i + j)) (tVar 4) (tC (.int 1))) (tVar 3)) tNil))))) (gName 8)) (tSeq (tAsg (tCall sp_prog24 [] E0 (tCons (tVar 6) (tCons (tVar 4) tNil))) (gName 9)) (tSeq (tIfS (tOr (tTest (tOp (rI0 fun i j => .bl (decide (i < j))) (tVar 6) (tC (.int 0)))) (tTest (tOp (rI0 fun i j => .bl (decide (j < i))) (tVar 6) (tC (.int 18))))) (tSeq (tAsg (tCall sp_stand24 [] E0 (tCons (tVar 6) (tCons (tC (.int 18)) (tCons (tLst (tCons (tC (.int 1)) (tCons (tC (.int 2)) (tCons (tLst (tCons (tOp (rI0 fun i j => .int (i - j)) (tVar 6) (tC (.int 19))) (tCons (tC (.int 1)) (tCons (tC (.int 0)) tNil)))) tNil)))) tNil)))) (gName 10)) (tRet (tCall (sp_asked24 C) [] E0 (tCons (tVar 9) (tCons (tVar 8) (tCons (tC (.int 59)) (tCons (tLst (tCons (tVar 10) (tCons (tVar 8) (tCons (tLst tNil) (tCons (tC (.int 59)) (tCons (tTup (tCons (tC (.str "deep")) (tCons (tC (.int 1)) (tCons (tC (.int 2)) tNil)))) tNil)))))) (tCons (tVar 5) tNil)))))))) tNext) (tSeq (tAsg (tOp (rI0 fun i j => .int (i + j)) (tC (.int 4)) (tOp (rI CBig fun i j => .int (i * j)) (tC (.int 3)) (tVar 6))) (gName 11)) (tSeq (tIfS (tTest (tOp (rI0 fun i j => .bl (decide (i < j))) (tCB (rLen K) (tCons (tVar 8) tNil)) (tVar 4))) (tSeq (tAsg (tOp (rIxA K) (tOp rCat (tLst (tCons (tC (.int 0)) tNil)) (tVar 8)) (tUn (rU fun i => V.int (-i)) (tC (.int 1)))) (gName 12)) (tSeq (tAsg (tCall sp_stand24 [] E0 (tCons (tVar 6) (tCons (tVar 6) (tCons (tLst (tCons (tC (.int 1)) (tCons (tOp (rI0 fun i j => .int (i + j)) (tC (.int 4)) (tCB (rLen K) (tCons (tVar 8) tNil))) (tCons (tLst (tCons (tC (.int 0)) (tCons (tC (.int 1)) (tCons (tVar 12) tNil)))) tNil)))) tNil)))) (gName 10)) (tSeq (tAsg (tOp (rI0 fun i j => .int (i + j)) (tVar 11) (tCB (rLen K) (tCons (tVar 8) tNil))) (gName 11)) (tRet (tCall (sp_asked24 C) [] E0 (tCons (tVar 9) (tCons (tVar 8) (tCons (tVar 11) (tCons (tLst (tCons (tVar 10) (tCons (tLst tNil) (tCons (tLst tNil) (tCons (tVar 11) (tCons (tTup (tCons (tC (.str "dry")) (tCons (tC (.int 1)) (tCons (tOp (rI0 fun i j => .int (i + j)) (tC (.int 4)) (tCB (rLen K) (tCons (tVar 8) tNil))) tNil)))) tNil)))))) (tCons (tVar 5) tNil)))))))))) tNext) (tSeq (tAsg (tOp (rIxA K) (tOp rCat (tLst (tCons (tC (.int 0)) tNil)) (tSl (rSlL K) (tVar 8) tNoPart (tPart (tVar 4)))) (tUn (rU fun i => V.int (-i)) (tC (.int 1)))) (gName 12)) (tSeq (tAsg (tOp (rI0 fun i j => .int (i + j)) (tOp (rI0 fun i j => .int (i + j)) (tOp (rI0 fun i j => .int (i + j)) (tOp (rI0 fun i j => .int (i + j)) (tVar 11) (tVar 4)) (tC (.int 1))) (tOp (rI CBig fun i j => .int (i * j)) (tC (.int 2)) (tVar 6))) (tC (.int 1))) (gName 11)) (tSeq (tAsg (tLst (tCons (tLst (tCons (tC (.int 0)) (tCons (tC (.int 4)) (tCons (tLst (tCons (tVar 6) (tCons (tC (.int 1)) (tCons (tVar 12) tNil)))) tNil)))) tNil)) (gName 10)) (tRet (tCall (sp_asked24 C) [] E0 (tCons (tVar 9) (tCons (tVar 8) (tCons (tVar 11) (tCons (tLst (tCons (tVar 10) (tCons (tSl (rSlL K) (tVar 8) (tPart (tVar 4)) tNoPart) (tCons (tLst (tCons (tVar 12) tNil)) (tCons (tVar 11) (tCons (tTup (tCons (tC (.str "back")) (tCons (tVar 12) tNil))) tNil)))))) (tCons (tVar 5) tNil))))))))))))))))))))))) D [some (.ref a), none, none, none, none, none, none, none, none, none, none, none, none] H := by
  walk_at "rd"
  refine use1 ⟨a, ns, rfl, hS, hlen, fun b l H1 hb s1 B1 => ?_⟩
  have w := WB.start B1
  walk_at "rd"
  refine w.draw (by decide) (by decide) fun way H2 way0 way1 w => ?_
  walk_at "rd"
  refine w.draw (by decide) (by decide) fun sh H3 sh0 sh1 w => ?_
  walk_at "rd"
  refine w.draw (by decide) (by decide) fun tk H4 tk0 tk1 w => ?_
  walk_at "rd"
  refine w.draw (by decide) (by decide) fun mo H5 mo0 mo1 w => ?_
  walk_at "rd"
  refine w.draw (by decide) (by decide) fun c H6 c0 c1 w => ?_
  obtain ⟨t, rfl⟩ : ∃ t : Nat, tk = t := ⟨tk.toNat, by omega⟩
  refine rd_gname ?_
  dsimp only
  refine rd_meet (fun σ' H' => ∃ c : Int, σ' = [some (.ref a), some (.ref b), some (.int way), some (.int sh), some (.int t), some (.int mo), some (.int c), none, none, none, none, none, none] ∧ c.natAbs ≤ 100 ∧ WB b l H1 H' [] []) ?_ fun N hN => ?_
  · rintro σ' H7 ⟨c, rfl, hc, w⟩
    refine rd_meet (fun σ' H' => ∃ (c : Int) (c7 : Option V), σ' = [some (.ref a), some (.ref b), some (.int way), some (.int sh), some (.int t), some (.int mo), some (.int c), c7, none, none, none, none, none] ∧ c.natAbs ≤ 10 ^ 60 ∧ WB b l H1 H' [] []) ?_ fun N hN => ?_
    · rintro σ' H8 ⟨c, c7, rfl, hc, w⟩
      walk_at "rd"
      refine irK_of (by omega) (by omega) ?_
      refine cw_range (n := ((t : Int) + 1).toNat) (small_le (by omega)) (fun i ys σ Hy => (∃ x1, σ = [x1, some (.ref b)]) ∧ WB b l H1 Hy [] [] ∧ ∃ zs : List Int, zs.length = i ∧ ys = zs.map V.int ∧ ∀ x ∈ zs, x.natAbs ≤ 10 ^ 60) ⟨⟨none, rfl⟩, w, [], rfl, rfl, fun _ h => (by cases h)⟩ ?_ ?_
      · rintro i ys σ Hy hi hle hlt ⟨⟨x1, rfl⟩, w, zs, hzl, rfl, hz⟩
        walk_at "rd"
        refine w.num fun n Hz hn w => ?_
        refine ⟨hlt, by simp; omega, ⟨_, rfl⟩, w, zs ++ [n], by simp [hzl], by simp, fun x hx => ?_⟩
        rcases List.mem_append.mp hx with h | h
        · exact hz x h
        · rw [List.mem_singleton.mp h]; exact hn
      · rintro ys σ Hy hyl ⟨⟨x1, rfl⟩, w, zs, hzl, rfl, hz⟩ q hq
        have w := w.newL (xs := zs.map V.int) hq
        generalize upd Hy q (HO.lst (zs.map V.int)) = H9 at w
        walk_at "rd"
        obtain ⟨mx, hmx, mx1⟩ : ∃ m : Nat, (if (0 : Int) < (t : Int) + 1 - sh then (t : Int) + 1 - sh else 0) = m ∧ m ≤ t + 1 := by
          by_cases h : (0 : Int) < (t : Int) + 1 - sh
          · exact ⟨((t : Int) + 1 - sh).toNat, by rw [if_pos h]; omega, by omega⟩
          · exact ⟨0, by rw [if_neg h]; rfl, by omega⟩
        rw [hmx]
        refine w.sl (SqL.of w.get0) fun qn H10 w => ?_
        rw [cut_to (k := mx) (by simp; omega), ← List.map_take] at w
        refine rd_gname ?_
        exact law_r9 HHand k rfl (by omega) ⟨by omega, by omega⟩ hc w.get0 (by simp; omega) fun x hx => hz x (List.mem_of_mem_take hx)
    · walk_at "rd"
      refine ite_dd (fun h => ?_) (fun h => rd_next (hN _ _ ⟨c, none, rfl, Nat.le_trans hc (by decide), w⟩))
      walk_at "rd"
      refine w.draw (by decide) (by decide) fun sg H8 sg0 sg1 w => ?_
      walk_at "rd"
      refine rd_I ⟨big62 (by omega), big62 (by decide)⟩ ?_
      walk_at "rd"
      refine rd_I cpow50 ?_
      walk_at "rd"
      refine w.draw (by decide) (by decide) fun dd H9 dd0 dd1 w => ?_
      walk_at "rd"
      have hdd : dd < 10 ^ 50 := dd1
      refine rd_I ⟨big62 (by omega), big62 (by omega)⟩ ?_
      have hcc : ((sg * 2 - 1) * (20 + dd)).natAbs ≤ 10 ^ 60 := by
        have : sg = 0 ∨ sg = 1 := by omega
        rcases this with rfl | rfl <;> omega
      walk_at "rd"
      exact hN _ _ ⟨_, _, rfl, hcc, w⟩
  · walk_at "rd"
    refine ite_dd (fun h => ?_) (fun h => rd_next (hN _ _ ⟨c, rfl, by omega, w⟩))
    walk_at "rd"
    refine w.draw (by decide) (by decide) fun c' H7 c0' c1' w => ?_
    walk_at "rd"
    exact hN _ _ ⟨16 + c', rfl, by omega, w⟩

end
end
end My

end
set_option Elab.async false
set_option linter.all false
set_option maxRecDepth 100000
set_option maxHeartbeats 4000000

namespace My
open PySem L2
section
variable {P : Program} {w : World} {K : PySem.W.Frag} {mg : Str → Option Value} {base : Heap}
variable {C : Addr}
theorem sc_law : FnScope ["script", "bag", "way", "short", "takes", "more", "count", "sign", "numbers", "program", "frames", "rows", "got"] ["script"] (defScope s_law) := ⟨rfl, rfl, rfl, by decide +kernel, rfl, by decide +kernel, by decide +kernel⟩
theorem law_fn {f : Addr} {fd : FuncData} (B : Blt mg) (G : Glb K mg) (HHand : CHand K C) (T__law_draw : TopFn K mg "_law_draw" s__law_draw ["bag", "many"]) (T__law_number : TopFn K mg "_law_number" s__law_number ["bag"]) (T__law_bag : TopFn K mg "_law_bag" s__law_bag ["script"]) (T__law_whole : TopFn K mg "_law_whole" s__law_whole ["found"]) (T_row_of : TopFn K mg "row_of" s_row_of ["program", "frame"]) (T_goes_to_row : TopFn K mg "goes_to_row" s_goes_to_row ["row", "number"]) (T_new_frame : TopFn K mg "new_frame" s_new_frame ["program", "f", "numbers"]) (T_reckoned : TopFn K mg "reckoned" s_reckoned ["row", "boxes"]) (T_row_behind : TopFn K mg "row_behind" s_row_behind ["row", "at", "boxes"]) (T_Hand_end_at : TopM K C "end_at" "Hand.end_at" s_Hand_end_at ["self", "row"]) (T_Hand_do_own : TopM K C "do_own" "Hand.do_own" s_Hand_do_own ["self", "row", "boxes"]) (T_Hand_give_back : TopM K C "give_back" "Hand.give_back" s_Hand_give_back ["self", "number"]) (T_Hand_do_row : TopM K C "do_row" "Hand.do_row" s_Hand_do_row ["self", "row"]) (T_Hand_go : TopM K C "go" "Hand.go" s_Hand_go ["self"]) (T_Hand___init__ : TopI K mg C "Hand" "Hand.__init__" s_Hand___init__ ["self", "program", "inputs"]) (T__law_words : TopFn K mg "_law_words" s__law_words ["found", "due"]) (T__law_frames : TopFn K mg "_law_frames" s__law_frames ["found", "due"]) (T__law_fields : TopFn K mg "_law_fields" s__law_fields ["hand", "state"]) (T_end_of : TopFn K mg "end_of" s_end_of ["hand"]) (T_run : TopFn K mg "run" s_run ["program", "inputs", "most"]) (T__law_program : TopFn K mg "_law_program" s__law_program ["count", "takes"]) (T__law_stand : TopFn K mg "_law_stand" s__law_stand ["count", "depth", "last"]) (T__law_ran : TopFn K mg "_law_ran" s__law_ran ["program", "numbers", "most", "due"]) (T__law_asked : TopFn K mg "_law_asked" s__law_asked ["program", "numbers", "rows", "state", "more"]) (T_law : Fun K "law" "law" s_law f fd) : FnOk P w K mg base CX0 12 f fd ["script"] (spLaw K) := by
  have C_law_draw := c__law_draw (P := P) (w := w) (base := base) B T__law_draw
  have C_law_number := c__law_number (P := P) (w := w) (base := base) T__law_number C_law_draw
  have C_law_bag := c__law_bag (P := P) (w := w) (base := base) B T__law_bag
  have C_law_whole := c__law_whole (P := P) (w := w) (base := base) B T__law_whole
  have Crow_of := c_row_of (P := P) (w := w) (base := base) T_row_of
  have Cgoes_to_row := c_goes_to_row (P := P) (w := w) (base := base) T_goes_to_row
  have Cnew_frame := c_new_frame (P := P) (w := w) (base := base) B T_new_frame
  have Creckoned := c_reckoned (P := P) (w := w) (base := base) T_reckoned
  have Crow_behind := c_row_behind (P := P) (w := w) (base := base) T_row_behind Cgoes_to_row
  have MHand_end_at := c_Hand_end_at (P := P) (w := w) (base := base) B G HHand T_Hand_end_at
  have MHand_do_own := c_Hand_do_own (P := P) (w := w) (base := base) B G HHand T_Hand_do_own Creckoned
  have MHand_give_back := c_Hand_give_back (P := P) (w := w) (base := base) HHand T_Hand_give_back Crow_of
  have MHand_do_row := c_Hand_do_row (P := P) (w := w) (base := base) B HHand T_Hand_do_row Cnew_frame Crow_behind MHand_give_back MHand_do_own
  have MHand_go := c_Hand_go (P := P) (w := w) (base := base) HHand T_Hand_go Crow_of MHand_end_at MHand_do_row
  have NHand := c_Hand___init__ (P := P) (w := w) (base := base) B HHand T_Hand___init__ Cnew_frame
  have C_law_words := c__law_words (P := P) (w := w) (base := base) B T__law_words C_law_whole
  have C_law_frames := c__law_frames (P := P) (w := w) (base := base) B T__law_frames C_law_words
  have C_law_fields := c__law_fields (P := P) (w := w) (base := base) B HHand T__law_fields C_law_whole C_law_words C_law_frames
  have Cend_of := c_end_of (P := P) (w := w) (base := base) HHand T_end_of
  have Crun := c_run (P := P) (w := w) (base := base) B HHand T_run NHand MHand_go Cend_of
  have C_law_program := c__law_program (P := P) (w := w) (base := base) B T__law_program
  have C_law_stand := c__law_stand (P := P) (w := w) (base := base) B T__law_stand
  have C_law_ran := c__law_ran (P := P) (w := w) (base := base) B T__law_ran Crun C_law_words C_law_whole
  have C_law_asked := c__law_asked (P := P) (w := w) (base := base) B HHand T__law_asked C_law_ran NHand MHand_go C_law_fields
  refine T_law.law (k := 11) sc_law fun cdv A outer s H a ns Q E hr hS hlen k => ?_
  have nd := sc_law.nd
  have hu := hr.units
  have main : (tSeq (tAsg (tCall (sp_bag K) [] E0 (tCons (tVar 0) tNil)) (gName 1)) (tSeq (tAsg (tCall sp_draw [] E0 (tCons (tVar 1) (tCons (tC (.int 6)) tNil))) (gName 2)) (tSeq (tAsg (tCall sp_draw [] E0 (tCons (tVar 1) (tCons (tC (.int 3)) tNil))) (gName 3)) (tSeq (tAsg (tCall sp_draw [] E0 (tCons (tVar 1) (tCons (tC (.int 6)) tNil))) (gName 4)) (tSeq (tAsg (tCall sp_draw [] E0 (tCons (tVar 1) (tCons (tC (.int 40)) tNil))) (gName 5)) (tSeq (tAsg (tCall sp_draw [] E0 (tCons (tVar 1) (tCons (tC (.int 7)) tNil))) (gName 6)) (tSeq (tIfS (tTest (tOp rEq (tVar 2) (tC (.int 4)))) (tAsg (tOp (rI0 fun i j => .int (i + j)) (tC (.int 16)) (tCall sp_draw [] E0 (tCons (tVar 1) (tCons (tC (.int 5)) tNil)))) (gName 6)) tNext) (tSeq (tIfS (tTest (tOp rEq (tVar 2) (tC (.int 5)))) (tSeq (tAsg (tOp (rI0 fun i j => .int (i - j)) (tOp (rI CBig fun i j => .int (i * j)) (tCall sp_draw [] E0 (tCons (tVar 1) (tCons (tC (.int 2)) tNil))) (tC (.int 2))) (tC (.int 1))) (gName 7)) (tAsg (tOp (rI CBig fun i j => .int (i * j)) (tVar 7) (tOp (rI0 fun i j => .int (i + j)) (tC (.int 20)) (tCall sp_draw [] E0 (tCons (tVar 1) (tCons (tOp (rI CPow fun i j => .int (i ^ j.toNat)) (tC (.int 10)) (tC (.int 50))) tNil))))) (gName 6))) tNext) (tSeq (tAsg (tSl (rSlL K) (tComp ["k"] [1] (iRng1 (tCons (tOp (rI0 fun i j => .int (i + j)) (tVar 4) (tC (.int 1))) tNil)) (gName 0) tTrue (tCall sp_number [] E0 (tCons (tVar 1) tNil))) tNoPart (tPart (tCB rMax (tCons (tC (.int 0)) (tCons (tOp (rI0 fun i j => .int (i - j)) (tOp (rI0 fun i j => .int (i + j)) (tVar 4) (tC (.int 1))) (tVar 3)) tNil))))) (gName 8)) (tSeq (tAsg (tCall sp_prog24 [] E0 (tCons (tVar 6) (tCons (tVar 4) tNil))) (gName 9)) (tSeq (tIfS (tOr (tTest (tOp (rI0 fun i j => .bl (decide (i < j))) (tVar 6) (tC (.int 0)))) (tTest (tOp (rI0 fun i j => .bl (decide (j < i))) (tVar 6) (tC (.int 18))))) (tSeq (tAsg (tCall sp_stand24 [] E0 (tCons (tVar 6) (tCons (tC (.int 18)) (tCons (tLst (tCons (tC (.int 1)) (tCons (tC (.int 2)) (tCons (tLst (tCons (tOp (rI0 fun i j => .int (i - j)) (tVar 6) (tC (.int 19))) (tCons (tC (.int 1)) (tCons (tC (.int 0)) tNil)))) tNil)))) tNil)))) (gName 10)) (tRet (tCall (sp_asked24 C) [] E0 (tCons (tVar 9) (tCons (tVar 8) (tCons (tC (.int 59)) (tCons (tLst (tCons (tVar 10) (tCons (tVar 8) (tCons (tLst tNil) (tCons (tC (.int 59)) (tCons (tTup (tCons (tC (.str "deep")) (tCons (tC (.int 1)) (tCons (tC (.int 2)) tNil)))) tNil)))))) (tCons (tVar 5) tNil)))))))) tNext) (tSeq (tAsg (tOp (rI0 fun i j => .int (i + j)) (tC (.int 4)) (tOp (rI CBig fun i j => .int (i * j)) (tC (.int 3)) (tVar 6))) (gName 11)) (tSeq (tIfS (tTest (tOp (rI0 fun i j => .bl (decide (i < j))) (tCB (rLen K) (tCons (tVar 8) tNil)) (tVar 4))) (tSeq (tAsg (tOp (rIxA K) (tOp rCat (tLst (tCons (tC (.int 0)) tNil)) (tVar 8)) (tUn (rU fun i => V.int (-i)) (tC (.int 1)))) (gName 12)) (tSeq (tAsg (tCall sp_stand24 [] E0 (tCons (tVar 6) (tCons (tVar 6) (tCons (tLst (tCons (tC (.int 1)) (tCons (tOp (rI0 fun i j => .int (i + j)) (tC (.int 4)) (tCB (rLen K) (tCons (tVar 8) tNil))) (tCons (tLst (tCons (tC (.int 0)) (tCons (tC (.int 1)) (tCons (tVar 12) tNil)))) tNil)))) tNil)))) (gName 10)) (tSeq (tAsg (tOp (rI0 fun i j => .int (i + j)) (tVar 11) (tCB (rLen K) (tCons (tVar 8) tNil))) (gName 11)) (tRet (tCall (sp_asked24 C) [] E0 (tCons (tVar 9) (tCons (tVar 8) (tCons (tVar 11) (tCons (tLst (tCons (tVar 10) (tCons (tLst tNil) (tCons (tLst tNil) (tCons (tVar 11) (tCons (tTup (tCons (tC (.str "dry")) (tCons (tC (.int 1)) (tCons (tOp (rI0 fun i j => .int (i + j)) (tC (.int 4)) (tCB (rLen K) (tCons (tVar 8) tNil))) tNil)))) tNil)))))) (tCons (tVar 5) tNil)))))))))) tNext) (tSeq (tAsg (tOp (rIxA K) (tOp rCat (tLst (tCons (tC (.int 0)) tNil)) (tSl (rSlL K) (tVar 8) tNoPart (tPart (tVar 4)))) (tUn (rU fun i => V.int (-i)) (tC (.int 1)))) (gName 12)) (tSeq (tAsg (tOp (rI0 fun i j => .int (i + j)) (tOp (rI0 fun i j => .int (i + j)) (tOp (rI0 fun i j => .int (i + j)) (tOp (rI0 fun i j => .int (i + j)) (tVar 11) (tVar 4)) (tC (.int 1))) (tOp (rI CBig fun i j => .int (i * j)) (tC (.int 2)) (tVar 6))) (tC (.int 1))) (gName 11)) (tSeq (tAsg (tLst (tCons (tLst (tCons (tC (.int 0)) (tCons (tC (.int 4)) (tCons (tLst (tCons (tVar 6) (tCons (tC (.int 1)) (tCons (tVar 12) tNil)))) tNil)))) tNil)) (gName 10)) (tRet (tCall (sp_asked24 C) [] E0 (tCons (tVar 9) (tCons (tVar 8) (tCons (tVar 11) (tCons (tLst (tCons (tVar 10) (tCons (tSl (rSlL K) (tVar 8) (tPart (tVar 4)) tNoPart) (tCons (tLst (tCons (tVar 12) tNil)) (tCons (tVar 11) (tCons (tTup (tCons (tC (.str "back")) (tCons (tVar 12) tNil))) tNil)))))) (tCons (tVar 5) tNil))))))))))))))))))))))) { nx := fun _ H' => Q .non H', rt := Q } [some (.ref a), none, none, none, none, none, none, none, none, none, none, none, none] H := law_r0 HHand k hS hlen
  refine' go_body [some (.ref a), none, none, none, none, none, none, none, none, none, none, none, none] rfl ?hb main
  case hb =>
   refine' pss_cons ?zb ?zc
   case zb => exact (ps_setC (i := 1) nd rfl (Or.inr rfl) (pe_fn C_law_bag (hr.mono (by first | decide | omega)) (by rfl) (pa_consN (pv 0) pa_nil)))
   case zc =>
    refine' pss_cons ?zd ?ze
    case zd => exact (ps_setC (i := 2) nd rfl (Or.inl rfl) (pe_fn C_law_draw (hr.mono (by first | decide | omega)) (by rfl) (pa_consN (pv 1) (pa_consK pe_int pa_nil))))
    case ze =>
     refine' pss_cons ?zf ?zg
     case zf => exact (ps_setC (i := 3) nd rfl (Or.inl rfl) (pe_fn C_law_draw (hr.mono (by first | decide | omega)) (by rfl) (pa_consN (pv 1) (pa_consK pe_int pa_nil))))
     case zg =>
      refine' pss_cons ?zh ?zi
      case zh => exact (ps_setC (i := 4) nd rfl (Or.inl rfl) (pe_fn C_law_draw (hr.mono (by first | decide | omega)) (by rfl) (pa_consN (pv 1) (pa_consK pe_int pa_nil))))
      case zi =>
       refine' pss_cons ?zj ?zk
       case zj => exact (ps_setC (i := 5) nd rfl (Or.inl rfl) (pe_fn C_law_draw (hr.mono (by first | decide | omega)) (by rfl) (pa_consN (pv 1) (pa_consK pe_int pa_nil))))
       case zk =>
        refine' pss_cons ?zl ?zm
        case zl => exact (ps_setC (i := 6) nd rfl (Or.inl rfl) (pe_fn C_law_draw (hr.mono (by first | decide | omega)) (by rfl) (pa_consN (pv 1) (pa_consK pe_int pa_nil))))
        case zm =>
         refine' pss_cons ?zn ?zo
         case zn =>
          refine' ps_if ?zp ?zq ?zr
          case zp => exact (pt_cmpR op_eq (pv 2) pe_int (nomark _))
          case zq =>
           refine' pss_one ?zs
           case zs =>
            refine' ps_setB (i := 6) ?zt ?zu ?zv ?zw
            case zt => exact nd
            case zu => exact rfl
            case zv => exact (Or.inl rfl)
            case zw => exact (pe_op op_add pe_int (pe_fn C_law_draw (hr.mono (by first | decide | omega)) (by rfl) (pa_consN (pv 1) (pa_consK pe_int pa_nil))))
          case zr => exact pss_nil
         case zo =>
          refine' pss_cons ?zx ?zy
          case zx =>
           refine' ps_if ?zz ?zba ?zbb
           case zz => exact (pt_cmpR op_eq (pv 2) pe_int (nomark _))
           case zba =>
            refine' pss_cons ?zbc ?zbd
            case zbc =>
             refine' ps_setB (i := 7) ?zbe ?zbf ?zbg ?zbh
             case zbe => exact nd
             case zbf => exact rfl
             case zbg => exact (Or.inl rfl)
             case zbh =>
              refine' pe_op ?zbi ?zbj ?zbk
              case zbi => exact op_sub
              case zbj => exact (pe_op op_mulB (pe_fn C_law_draw (hr.mono (by first | decide | omega)) (by rfl) (pa_consN (pv 1) (pa_consK pe_int pa_nil))) pe_int)
              case zbk => exact pe_int
            case zbd =>
             refine' pss_one ?zbl
             case zbl =>
              refine' ps_setB (i := 6) ?zbm ?zbn ?zbo ?zbp
              case zbm => exact nd
              case zbn => exact rfl
              case zbo => exact (Or.inl rfl)
              case zbp =>
               refine' pe_op ?zbq ?zbr ?zbs
               case zbq => exact op_mulB
               case zbr => exact (pv 7)
               case zbs =>
                refine' pe_op ?zbt ?zbu ?zbv
                case zbt => exact op_add
                case zbu => exact pe_int
                case zbv => exact (pe_fn C_law_draw (hr.mono (by first | decide | omega)) (by rfl) (pa_consN (pv 1) (pa_consB (pe_op op_pow pe_int pe_int) pa_nil)))
           case zbb => exact pss_nil
          case zy =>
           refine' pss_cons ?zbw ?zbx
           case zbw =>
            refine' ps_setS (i := 8) ?zby ?zbz ?zca ?zcb
            case zby => exact nd
            case zbz => exact rfl
            case zca => exact (Or.inl rfl)
            case zcb =>
             refine' pe_slice ?zcc ?zcd ?zce ?zcf
             case zcc => exact (k_sl (K := K) rfl)
             case zcd =>
              refine' pe_comp (LN := ["k"]) (FN := ["bag"]) (fr := [1]) ?zcg ?zch ?zci ?zcj ?zck ?zcl
              case zcg => exact rfl
              case zch => exact (bk_of (by rfl))
              case zci => exact (pi_range1 rfl B.b_range (pa_consB (pe_op op_add (pv 4) pe_int) pa_nil))
              case zcj =>
               intro cl C fp pins s H
               exact (pg_name (i := 0) (show ((["k"] : List Str) ++ (["bag"] : List Str)).Nodup by decide +kernel) rfl (Or.inl rfl))
              case zck =>
               intro cl C fp pins s H
               exact pts_nil
              case zcl =>
               intro cl C fp pins s H
               exact (pe_fn C_law_number (hr.mono (by first | decide | omega)) (by rfl) (pa_consN (pv 1) pa_nil))
             case zce => exact po_none
             case zcf => exact (po_some (pe_callB (call_max' rfl) (by rfl) B.b_max bt_max (pa_consK pe_int (pa_consB (pe_op op_sub (pe_op op_add (pv 4) pe_int) (pv 3)) pa_nil))))
           case zbx =>
            refine' pss_cons ?zcm ?zcn
            case zcm => exact (ps_setC (i := 9) nd rfl (Or.inl rfl) (pe_fn C_law_program (hr.mono (by first | decide | omega)) (by rfl) (pa_consN (pv 6) (pa_consN (pv 4) pa_nil))))
            case zcn =>
             refine' pss_cons ?zco ?zcp
             case zco =>
              refine' ps_if ?zcq ?zcr ?zcs
              case zcq => exact (PW.pt (pw_or (pt_cmpR op_lt (pv 6) pe_int (nomark _)) (pw_or1 (pt_cmpR op_gt (pv 6) pe_int (nomark _)))))
              case zcr =>
               refine' pss_cons ?zct ?zcu
               case zct =>
                refine' ps_setC (i := 10) ?zcv ?zcw ?zcx ?zcy
                case zcv => exact nd
                case zcw => exact rfl
                case zcx => exact (Or.inl rfl)
                case zcy =>
                 refine' pe_fn ?zcz ?zda ?zdb ?zdc
                 case zcz => exact C_law_stand
                 case zda => exact (hr.mono (by first | decide | omega))
                 case zdb => exact (by rfl)
                 case zdc =>
                  refine' pa_consN ?zdd ?zde
                  case zdd => exact (pv 6)
                  case zde =>
                   refine' pa_consK ?zdf ?zdg
                   case zdf => exact pe_int
                   case zdg =>
                    refine' pa_consL ?zdh ?zdi
                    case zdh =>
                     refine' pe_lst ?zdj
                     case zdj => exact (pa_consK pe_int (pa_consK pe_int (pa_consL (pe_lst (pa_consB (pe_op op_sub (pv 6) pe_int) (pa_consK pe_int (pa_consK pe_int pa_nil)))) pa_nil)))
                    case zdi => exact pa_nil
               case zcu =>
                refine' pss_one ?zdk
                case zdk =>
                 refine' ps_ret ?zdl
                 case zdl =>
                  refine' pe_fn ?zdm ?zdn ?zdo ?zdp
                  case zdm => exact C_law_asked
                  case zdn => exact (hr.mono (by first | decide | omega))
                  case zdo => exact (by rfl)
                  case zdp =>
                   refine' pa_consN ?zdq ?zdr
                   case zdq => exact (pv 9)
                   case zdr =>
                    refine' pa_consN ?zds ?zdt
                    case zds => exact (pv 8)
                    case zdt =>
                     refine' pa_consK ?zdu ?zdv
                     case zdu => exact pe_int
                     case zdv =>
                      refine' pa_consL ?zdw ?zdx
                      case zdw =>
                       refine' pe_lst ?zdy
                       case zdy =>
                        refine' pa_consN ?zdz ?zea
                        case zdz => exact (pv 10)
                        case zea => exact (pa_consN (pv 8) (pa_consL (pe_lst pa_nil) (pa_consK pe_int (pa_consT (pe_tup (pa_consK pe_str (pa_consK pe_int (pa_consK pe_int pa_nil)))) pa_nil))))
                      case zdx => exact (pa_consN (pv 5) pa_nil)
              case zcs => exact pss_nil
             case zcp =>
              refine' pss_cons ?zeb ?zec
              case zeb => exact (ps_setB (i := 11) nd rfl (Or.inl rfl) (pe_op op_add pe_int (pe_op op_mulB pe_int (pv 6))))
              case zec =>
               refine' pss_cons ?zed ?zee
               case zed =>
                refine' ps_if ?zef ?zeg ?zeh
                case zef => exact (pt_cmpR op_lt (pe_callB (k_len (K := K) rfl) (by rfl) B.b_len bt_len (pa_consN (pv 8) pa_nil)) (pv 4) (nomark _))
                case zeg =>
                 refine' pss_cons ?zei ?zej
                 case zei =>
                  refine' ps_setS (i := 12) ?zek ?zel ?zem ?zen
                  case zek => exact nd
                  case zel => exact rfl
                  case zem => exact (Or.inl rfl)
                  case zen => exact (pe_ix (k_ix (K := K) rfl) (pe_op op_cat (pe_lst (pa_consK pe_int pa_nil)) (pv 8)) (pe_un un_neg pe_int) (fun _ _ => rfl))
                 case zej =>
                  refine' pss_cons ?zeo ?zep
                  case zeo =>
                   refine' ps_setC (i := 10) ?zeq ?zer ?zes ?zet
                   case zeq => exact nd
                   case zer => exact rfl
                   case zes => exact (Or.inl rfl)
                   case zet =>
                    refine' pe_fn ?zeu ?zev ?zew ?zex
                    case zeu => exact C_law_stand
                    case zev => exact (hr.mono (by first | decide | omega))
                    case zew => exact (by rfl)
                    case zex =>
                     refine' pa_consN ?zey ?zez
                     case zey => exact (pv 6)
                     case zez =>
                      refine' pa_consN ?zfa ?zfb
                      case zfa => exact (pv 6)
                      case zfb =>
                       refine' pa_consL ?zfc ?zfd
                       case zfc =>
                        refine' pe_lst ?zfe
                        case zfe =>
                         refine' pa_consK ?zff ?zfg
                         case zff => exact pe_int
                         case zfg =>
                          refine' pa_consB ?zfh ?zfi
                          case zfh => exact (pe_op op_add pe_int (pe_callB (k_len (K := K) rfl) (by rfl) B.b_len bt_len (pa_consN (pv 8) pa_nil)))
                          case zfi => exact (pa_consL (pe_lst (pa_consK pe_int (pa_consK pe_int (pa_consN (pv 12) pa_nil)))) pa_nil)
                       case zfd => exact pa_nil
                  case zep =>
                   refine' pss_cons ?zfj ?zfk
                   case zfj => exact (ps_setB (i := 11) nd rfl (Or.inl rfl) (pe_op op_add (pv 11) (pe_callB (k_len (K := K) rfl) (by rfl) B.b_len bt_len (pa_consN (pv 8) pa_nil))))
                   case zfk =>
                    refine' pss_one ?zfl
                    case zfl =>
                     refine' ps_ret ?zfm
                     case zfm =>
                      refine' pe_fn ?zfn ?zfo ?zfp ?zfq
                      case zfn => exact C_law_asked
                      case zfo => exact (hr.mono (by first | decide | omega))
                      case zfp => exact (by rfl)
                      case zfq =>
                       refine' pa_consN ?zfr ?zfs
                       case zfr => exact (pv 9)
                       case zfs =>
                        refine' pa_consN ?zft ?zfu
                        case zft => exact (pv 8)
                        case zfu =>
                         refine' pa_consN ?zfv ?zfw
                         case zfv => exact (pv 11)
                         case zfw =>
                          refine' pa_consL ?zfx ?zfy
                          case zfx =>
                           refine' pe_lst ?zfz
                           case zfz =>
                            refine' pa_consN ?zga ?zgb
                            case zga => exact (pv 10)
                            case zgb =>
                             refine' pa_consL ?zgc ?zgd
                             case zgc => exact (pe_lst pa_nil)
                             case zgd =>
                              refine' pa_consL ?zge ?zgf
                              case zge => exact (pe_lst pa_nil)
                              case zgf =>
                               refine' pa_consN ?zgg ?zgh
                               case zgg => exact (pv 11)
                               case zgh =>
                                refine' pa_consT ?zgi ?zgj
                                case zgi =>
                                 refine' pe_tup ?zgk
                                 case zgk =>
                                  refine' pa_consK ?zgl ?zgm
                                  case zgl => exact pe_str
                                  case zgm => exact (pa_consK pe_int (pa_consB (pe_op op_add pe_int (pe_callB (k_len (K := K) rfl) (by rfl) B.b_len bt_len (pa_consN (pv 8) pa_nil))) pa_nil))
                                case zgj => exact pa_nil
                          case zfy => exact (pa_consN (pv 5) pa_nil)
                case zeh => exact pss_nil
               case zee =>
                refine' pss_cons ?zgn ?zgo
                case zgn =>
                 refine' ps_setS (i := 12) ?zgp ?zgq ?zgr ?zgs
                 case zgp => exact nd
                 case zgq => exact rfl
                 case zgr => exact (Or.inl rfl)
                 case zgs =>
                  refine' pe_ix ?zgt ?zgu ?zgv ?zgw
                  case zgt => exact (k_ix (K := K) rfl)
                  case zgu => exact (pe_op op_cat (pe_lst (pa_consK pe_int pa_nil)) (pe_slice (k_sl (K := K) rfl) (pv 8) po_none (po_some (pv 4))))
                  case zgv => exact (pe_un un_neg pe_int)
                  case zgw => exact (fun _ _ => rfl)
                case zgo =>
                 refine' pss_cons ?zgx ?zgy
                 case zgx =>
                  refine' ps_setB (i := 11) ?zgz ?zha ?zhb ?zhc
                  case zgz => exact nd
                  case zha => exact rfl
                  case zhb => exact (Or.inl rfl)
                  case zhc => exact (pe_op op_add (pe_op op_add (pe_op op_add (pe_op op_add (pv 11) (pv 4)) pe_int) (pe_op op_mulB pe_int (pv 6))) pe_int)
                 case zgy =>
                  refine' pss_cons ?zhd ?zhe
                  case zhd =>
                   refine' ps_setL (i := 10) ?zhf ?zhg ?zhh ?zhi
                   case zhf => exact nd
                   case zhg => exact rfl
                   case zhh => exact (Or.inl rfl)
                   case zhi =>
                    refine' pe_lst ?zhj
                    case zhj =>
                     refine' pa_consL ?zhk ?zhl
                     case zhk => exact (pe_lst (pa_consK pe_int (pa_consK pe_int (pa_consL (pe_lst (pa_consN (pv 6) (pa_consK pe_int (pa_consN (pv 12) pa_nil)))) pa_nil))))
                     case zhl => exact pa_nil
                  case zhe =>
                   refine' pss_one ?zhm
                   case zhm =>
                    refine' ps_ret ?zhn
                    case zhn =>
                     refine' pe_fn ?zho ?zhp ?zhq ?zhr
                     case zho => exact C_law_asked
                     case zhp => exact (hr.mono (by first | decide | omega))
                     case zhq => exact (by rfl)
                     case zhr =>
                      refine' pa_consN ?zhs ?zht
                      case zhs => exact (pv 9)
                      case zht =>
                       refine' pa_consN ?zhu ?zhv
                       case zhu => exact (pv 8)
                       case zhv =>
                        refine' pa_consN ?zhw ?zhx
                        case zhw => exact (pv 11)
                        case zhx =>
                         refine' pa_consL ?zhy ?zhz
                         case zhy =>
                          refine' pe_lst ?zia
                          case zia =>
                           refine' pa_consN ?zib ?zic
                           case zib => exact (pv 10)
                           case zic =>
                            refine' pa_consS ?zid ?zie
                            case zid => exact (pe_slice (k_sl (K := K) rfl) (pv 8) (po_some (pv 4)) po_none)
                            case zie => exact (pa_consL (pe_lst (pa_consN (pv 12) pa_nil)) (pa_consN (pv 11) (pa_consT (pe_tup (pa_consK pe_str (pa_consN (pv 12) pa_nil))) pa_nil)))
                         case zhz => exact (pa_consN (pv 5) pa_nil)

end
theorem all_mk {l : PySem.W.OpenLaw} {w : World} {K : PySem.W.Frag} {h : Heap} {mg : Str → Option Value} {fa : Addr} (X : K.In h) (G : h.Ns mainGlobals mg) (hfa : mg "law" = some (.ref fa))
    {f0 : Addr} {od0 an0 : Option Addr} {sl0 : Array (Option Value)} {oc0 kV0 dc0 pm0 cd0 ct0 : Value}
    {f1 : Addr} {od1 an1 : Option Addr} {sl1 : Array (Option Value)} {oc1 kV1 dc1 pm1 cd1 ct1 : Value}
    {f2 : Addr} {od2 an2 : Option Addr} {sl2 : Array (Option Value)} {oc2 kV2 dc2 pm2 cd2 ct2 : Value}
    {f3 : Addr} {od3 an3 : Option Addr} {sl3 : Array (Option Value)} {oc3 kV3 dc3 pm3 cd3 ct3 : Value}
    {f4 : Addr} {od4 an4 : Option Addr} {sl4 : Array (Option Value)} {oc4 kV4 dc4 pm4 cd4 ct4 : Value}
    {f5 : Addr} {od5 an5 : Option Addr} {sl5 : Array (Option Value)} {oc5 kV5 dc5 pm5 cd5 ct5 : Value}
    {f6 : Addr} {od6 an6 : Option Addr} {sl6 : Array (Option Value)} {oc6 kV6 dc6 pm6 cd6 ct6 : Value}
    {f7 : Addr} {od7 an7 : Option Addr} {sl7 : Array (Option Value)} {oc7 kV7 dc7 pm7 cd7 ct7 : Value}
    {f8 : Addr} {od8 an8 : Option Addr} {sl8 : Array (Option Value)} {oc8 kV8 dc8 pm8 cd8 ct8 : Value}
    {f9 : Addr} {od9 an9 : Option Addr} {sl9 : Array (Option Value)} {oc9 kV9 dc9 pm9 cd9 ct9 : Value}
    {f10 : Addr} {od10 an10 : Option Addr} {sl10 : Array (Option Value)} {oc10 kV10 dc10 pm10 cd10 ct10 : Value}
    {f11 : Addr} {od11 an11 : Option Addr} {sl11 : Array (Option Value)} {oc11 kV11 dc11 pm11 cd11 ct11 : Value}
    {f12 : Addr} {od12 an12 : Option Addr} {sl12 : Array (Option Value)} {oc12 kV12 dc12 pm12 cd12 ct12 : Value}
    {f13 : Addr} {od13 an13 : Option Addr} {sl13 : Array (Option Value)} {oc13 kV13 dc13 pm13 cd13 ct13 : Value}
    {f14 : Addr} {od14 an14 : Option Addr} {sl14 : Array (Option Value)} {oc14 kV14 dc14 pm14 cd14 ct14 : Value}
    {f15 : Addr} {od15 an15 : Option Addr} {sl15 : Array (Option Value)} {oc15 kV15 dc15 pm15 cd15 ct15 : Value}
    {f16 : Addr} {od16 an16 : Option Addr} {sl16 : Array (Option Value)} {oc16 kV16 dc16 pm16 cd16 ct16 : Value}
    {f17 : Addr} {od17 an17 : Option Addr} {sl17 : Array (Option Value)} {oc17 kV17 dc17 pm17 cd17 ct17 : Value}
    {f18 : Addr} {od18 an18 : Option Addr} {sl18 : Array (Option Value)} {oc18 kV18 dc18 pm18 cd18 ct18 : Value}
    {f19 : Addr} {od19 an19 : Option Addr} {sl19 : Array (Option Value)} {oc19 kV19 dc19 pm19 cd19 ct19 : Value}
    {f20 : Addr} {od20 an20 : Option Addr} {sl20 : Array (Option Value)} {oc20 kV20 dc20 pm20 cd20 ct20 : Value}
    {f21 : Addr} {od21 an21 : Option Addr} {sl21 : Array (Option Value)} {oc21 kV21 dc21 pm21 cd21 ct21 : Value}
    {f22 : Addr} {od22 an22 : Option Addr} {sl22 : Array (Option Value)} {oc22 kV22 dc22 pm22 cd22 ct22 : Value}
    {f23 : Addr} {od23 an23 : Option Addr} {sl23 : Array (Option Value)} {oc23 kV23 dc23 pm23 cd23 ct23 : Value}
    {f24 : Addr} {od24 an24 : Option Addr} {sl24 : Array (Option Value)} {oc24 kV24 dc24 pm24 cd24 ct24 : Value}
    {C_Hand : Addr}
    {t_MOST_FRAMES : Tok}
    {a_RECKONINGS : Addr} {od_RECKONINGS : Option Addr} {n_RECKONINGS : Nat} {sl_RECKONINGS : Array (Option Value)} {t_RECKONINGS_0 t_RECKONINGS_1 t_RECKONINGS_2 t_RECKONINGS_3 t_RECKONINGS_4 : Tok}
    (a0 : PySem.W.nsIn K mainGlobals "row_of" = some (some (.ref f0))) (l0 : K.lookup f0 = some ⟨oc0, od0, .func (PySem.W.fnOf "row_of" "row_of" (defArgs s_row_of) (defBody s_row_of) (defScope s_row_of) .none kV0 dc0 pm0 an0 cd0 ct0), sl0⟩) (c0 : PySem.W.codeIn K cd0 "row_of" = true) (k0 : PySem.W.keepIn K (.ref f0) = true)
    (a1 : PySem.W.nsIn K mainGlobals "goes_to_row" = some (some (.ref f1))) (l1 : K.lookup f1 = some ⟨oc1, od1, .func (PySem.W.fnOf "goes_to_row" "goes_to_row" (defArgs s_goes_to_row) (defBody s_goes_to_row) (defScope s_goes_to_row) .none kV1 dc1 pm1 an1 cd1 ct1), sl1⟩) (c1 : PySem.W.codeIn K cd1 "goes_to_row" = true) (k1 : PySem.W.keepIn K (.ref f1) = true)
    (a2 : PySem.W.nsIn K mainGlobals "run" = some (some (.ref f2))) (l2 : K.lookup f2 = some ⟨oc2, od2, .func (PySem.W.fnOf "run" "run" (defArgs s_run) (defBody s_run) (defScope s_run) .none kV2 dc2 pm2 an2 cd2 ct2), sl2⟩) (c2 : PySem.W.codeIn K cd2 "run" = true) (k2 : PySem.W.keepIn K (.ref f2) = true)
    (a3 : PySem.W.nsIn K mainGlobals "end_of" = some (some (.ref f3))) (l3 : K.lookup f3 = some ⟨oc3, od3, .func (PySem.W.fnOf "end_of" "end_of" (defArgs s_end_of) (defBody s_end_of) (defScope s_end_of) .none kV3 dc3 pm3 an3 cd3 ct3), sl3⟩) (c3 : PySem.W.codeIn K cd3 "end_of" = true) (k3 : PySem.W.keepIn K (.ref f3) = true)
    (a4 : PySem.W.nsIn K mainGlobals "new_frame" = some (some (.ref f4))) (l4 : K.lookup f4 = some ⟨oc4, od4, .func (PySem.W.fnOf "new_frame" "new_frame" (defArgs s_new_frame) (defBody s_new_frame) (defScope s_new_frame) .none kV4 dc4 pm4 an4 cd4 ct4), sl4⟩) (c4 : PySem.W.codeIn K cd4 "new_frame" = true) (k4 : PySem.W.keepIn K (.ref f4) = true)
    (a5 : PySem.W.nsIn K mainGlobals "reckoned" = some (some (.ref f5))) (l5 : K.lookup f5 = some ⟨oc5, od5, .func (PySem.W.fnOf "reckoned" "reckoned" (defArgs s_reckoned) (defBody s_reckoned) (defScope s_reckoned) .none kV5 dc5 pm5 an5 cd5 ct5), sl5⟩) (c5 : PySem.W.codeIn K cd5 "reckoned" = true) (k5 : PySem.W.keepIn K (.ref f5) = true)
    (a6 : PySem.W.nsIn K mainGlobals "row_behind" = some (some (.ref f6))) (l6 : K.lookup f6 = some ⟨oc6, od6, .func (PySem.W.fnOf "row_behind" "row_behind" (defArgs s_row_behind) (defBody s_row_behind) (defScope s_row_behind) .none kV6 dc6 pm6 an6 cd6 ct6), sl6⟩) (c6 : PySem.W.codeIn K cd6 "row_behind" = true) (k6 : PySem.W.keepIn K (.ref f6) = true)
    (a7 : PySem.W.nsIn K mainGlobals "_law_bag" = some (some (.ref f7))) (l7 : K.lookup f7 = some ⟨oc7, od7, .func (PySem.W.fnOf "_law_bag" "_law_bag" (defArgs s__law_bag) (defBody s__law_bag) (defScope s__law_bag) .none kV7 dc7 pm7 an7 cd7 ct7), sl7⟩) (c7 : PySem.W.codeIn K cd7 "_law_bag" = true) (k7 : PySem.W.keepIn K (.ref f7) = true)
    (a8 : PySem.W.nsIn K mainGlobals "_law_draw" = some (some (.ref f8))) (l8 : K.lookup f8 = some ⟨oc8, od8, .func (PySem.W.fnOf "_law_draw" "_law_draw" (defArgs s__law_draw) (defBody s__law_draw) (defScope s__law_draw) .none kV8 dc8 pm8 an8 cd8 ct8), sl8⟩) (c8 : PySem.W.codeIn K cd8 "_law_draw" = true) (k8 : PySem.W.keepIn K (.ref f8) = true)
    (a9 : PySem.W.nsIn K mainGlobals "_law_number" = some (some (.ref f9))) (l9 : K.lookup f9 = some ⟨oc9, od9, .func (PySem.W.fnOf "_law_number" "_law_number" (defArgs s__law_number) (defBody s__law_number) (defScope s__law_number) .none kV9 dc9 pm9 an9 cd9 ct9), sl9⟩) (c9 : PySem.W.codeIn K cd9 "_law_number" = true) (k9 : PySem.W.keepIn K (.ref f9) = true)
    (a10 : PySem.W.nsIn K mainGlobals "_law_whole" = some (some (.ref f10))) (l10 : K.lookup f10 = some ⟨oc10, od10, .func (PySem.W.fnOf "_law_whole" "_law_whole" (defArgs s__law_whole) (defBody s__law_whole) (defScope s__law_whole) .none kV10 dc10 pm10 an10 cd10 ct10), sl10⟩) (c10 : PySem.W.codeIn K cd10 "_law_whole" = true) (k10 : PySem.W.keepIn K (.ref f10) = true)
    (a11 : PySem.W.nsIn K mainGlobals "_law_words" = some (some (.ref f11))) (l11 : K.lookup f11 = some ⟨oc11, od11, .func (PySem.W.fnOf "_law_words" "_law_words" (defArgs s__law_words) (defBody s__law_words) (defScope s__law_words) .none kV11 dc11 pm11 an11 cd11 ct11), sl11⟩) (c11 : PySem.W.codeIn K cd11 "_law_words" = true) (k11 : PySem.W.keepIn K (.ref f11) = true)
    (a12 : PySem.W.nsIn K mainGlobals "_law_frames" = some (some (.ref f12))) (l12 : K.lookup f12 = some ⟨oc12, od12, .func (PySem.W.fnOf "_law_frames" "_law_frames" (defArgs s__law_frames) (defBody s__law_frames) (defScope s__law_frames) .none kV12 dc12 pm12 an12 cd12 ct12), sl12⟩) (c12 : PySem.W.codeIn K cd12 "_law_frames" = true) (k12 : PySem.W.keepIn K (.ref f12) = true)
    (a13 : PySem.W.nsIn K mainGlobals "_law_fields" = some (some (.ref f13))) (l13 : K.lookup f13 = some ⟨oc13, od13, .func (PySem.W.fnOf "_law_fields" "_law_fields" (defArgs s__law_fields) (defBody s__law_fields) (defScope s__law_fields) .none kV13 dc13 pm13 an13 cd13 ct13), sl13⟩) (c13 : PySem.W.codeIn K cd13 "_law_fields" = true) (k13 : PySem.W.keepIn K (.ref f13) = true)
    (a14 : PySem.W.nsIn K mainGlobals "_law_program" = some (some (.ref f14))) (l14 : K.lookup f14 = some ⟨oc14, od14, .func (PySem.W.fnOf "_law_program" "_law_program" (defArgs s__law_program) (defBody s__law_program) (defScope s__law_program) .none kV14 dc14 pm14 an14 cd14 ct14), sl14⟩) (c14 : PySem.W.codeIn K cd14 "_law_program" = true) (k14 : PySem.W.keepIn K (.ref f14) = true)
    (a15 : PySem.W.nsIn K mainGlobals "_law_stand" = some (some (.ref f15))) (l15 : K.lookup f15 = some ⟨oc15, od15, .func (PySem.W.fnOf "_law_stand" "_law_stand" (defArgs s__law_stand) (defBody s__law_stand) (defScope s__law_stand) .none kV15 dc15 pm15 an15 cd15 ct15), sl15⟩) (c15 : PySem.W.codeIn K cd15 "_law_stand" = true) (k15 : PySem.W.keepIn K (.ref f15) = true)
    (a16 : PySem.W.nsIn K mainGlobals "_law_ran" = some (some (.ref f16))) (l16 : K.lookup f16 = some ⟨oc16, od16, .func (PySem.W.fnOf "_law_ran" "_law_ran" (defArgs s__law_ran) (defBody s__law_ran) (defScope s__law_ran) .none kV16 dc16 pm16 an16 cd16 ct16), sl16⟩) (c16 : PySem.W.codeIn K cd16 "_law_ran" = true) (k16 : PySem.W.keepIn K (.ref f16) = true)
    (a17 : PySem.W.nsIn K mainGlobals "_law_asked" = some (some (.ref f17))) (l17 : K.lookup f17 = some ⟨oc17, od17, .func (PySem.W.fnOf "_law_asked" "_law_asked" (defArgs s__law_asked) (defBody s__law_asked) (defScope s__law_asked) .none kV17 dc17 pm17 an17 cd17 ct17), sl17⟩) (c17 : PySem.W.codeIn K cd17 "_law_asked" = true) (k17 : PySem.W.keepIn K (.ref f17) = true)
    (a18 : PySem.W.nsIn K mainGlobals "law" = some (some (.ref f18))) (l18 : K.lookup f18 = some ⟨oc18, od18, .func (PySem.W.fnOf "law" "law" (defArgs s_law) (defBody s_law) (defScope s_law) .none kV18 dc18 pm18 an18 cd18 ct18), sl18⟩) (c18 : PySem.W.codeIn K cd18 "law" = true) (k18 : PySem.W.keepIn K (.ref f18) = true)
    (a19 : PySem.W.findIn K (.ref C_Hand) "__init__" = some (some (.ref f19))) (i19 : PySem.W.isFn K (.ref f19) = true) (l19 : K.lookup f19 = some ⟨oc19, od19, .func (PySem.W.fnOf "__init__" "Hand.__init__" (defArgs s_Hand___init__) (defBody s_Hand___init__) (defScope s_Hand___init__) .none kV19 dc19 pm19 an19 cd19 ct19), sl19⟩) (c19 : PySem.W.codeIn K cd19 "Hand.__init__" = true) (k19 : PySem.W.keepIn K (.ref f19) = true)
    (a20 : PySem.W.findIn K (.ref C_Hand) "go" = some (some (.ref f20))) (i20 : PySem.W.isFn K (.ref f20) = true) (l20 : K.lookup f20 = some ⟨oc20, od20, .func (PySem.W.fnOf "go" "Hand.go" (defArgs s_Hand_go) (defBody s_Hand_go) (defScope s_Hand_go) .none kV20 dc20 pm20 an20 cd20 ct20), sl20⟩) (c20 : PySem.W.codeIn K cd20 "Hand.go" = true) (k20 : PySem.W.keepIn K (.ref f20) = true)
    (a21 : PySem.W.findIn K (.ref C_Hand) "end_at" = some (some (.ref f21))) (i21 : PySem.W.isFn K (.ref f21) = true) (l21 : K.lookup f21 = some ⟨oc21, od21, .func (PySem.W.fnOf "end_at" "Hand.end_at" (defArgs s_Hand_end_at) (defBody s_Hand_end_at) (defScope s_Hand_end_at) .none kV21 dc21 pm21 an21 cd21 ct21), sl21⟩) (c21 : PySem.W.codeIn K cd21 "Hand.end_at" = true) (k21 : PySem.W.keepIn K (.ref f21) = true)
    (a22 : PySem.W.findIn K (.ref C_Hand) "do_row" = some (some (.ref f22))) (i22 : PySem.W.isFn K (.ref f22) = true) (l22 : K.lookup f22 = some ⟨oc22, od22, .func (PySem.W.fnOf "do_row" "Hand.do_row" (defArgs s_Hand_do_row) (defBody s_Hand_do_row) (defScope s_Hand_do_row) .none kV22 dc22 pm22 an22 cd22 ct22), sl22⟩) (c22 : PySem.W.codeIn K cd22 "Hand.do_row" = true) (k22 : PySem.W.keepIn K (.ref f22) = true)
    (a23 : PySem.W.findIn K (.ref C_Hand) "give_back" = some (some (.ref f23))) (i23 : PySem.W.isFn K (.ref f23) = true) (l23 : K.lookup f23 = some ⟨oc23, od23, .func (PySem.W.fnOf "give_back" "Hand.give_back" (defArgs s_Hand_give_back) (defBody s_Hand_give_back) (defScope s_Hand_give_back) .none kV23 dc23 pm23 an23 cd23 ct23), sl23⟩) (c23 : PySem.W.codeIn K cd23 "Hand.give_back" = true) (k23 : PySem.W.keepIn K (.ref f23) = true)
    (a24 : PySem.W.findIn K (.ref C_Hand) "do_own" = some (some (.ref f24))) (i24 : PySem.W.isFn K (.ref f24) = true) (l24 : K.lookup f24 = some ⟨oc24, od24, .func (PySem.W.fnOf "do_own" "Hand.do_own" (defArgs s_Hand_do_own) (defBody s_Hand_do_own) (defScope s_Hand_do_own) .none kV24 dc24 pm24 an24 cd24 ct24), sl24⟩) (c24 : PySem.W.codeIn K cd24 "Hand.do_own" = true) (k24 : PySem.W.keepIn K (.ref f24) = true)
    (aC_Hand : PySem.W.nsIn K mainGlobals "Hand" = some (some (.ref C_Hand))) (pg_Hand : PySem.W.plainGet K C_Hand Str.empty = true) (hd_Hand : PySem.W.hasDictIn K C_Hand = true) (po_Hand : PySem.W.plainOver K C_Hand = true) (sa_Hand : PySem.W.findIn K (.ref C_Hand) "__setattr__" = some (some (.builtin "object.__setattr__"))) (mk_Hand : PySem.W.makesIn K C_Hand = true) (kc_Hand : PySem.W.keepIn K (.ref C_Hand) = true)
    (n_Hand_program : PySem.W.findIn K (.ref C_Hand) "program" = some none)
    (n_Hand_frames : PySem.W.findIn K (.ref C_Hand) "frames" = some none)
    (n_Hand_news : PySem.W.findIn K (.ref C_Hand) "news" = some none)
    (n_Hand_gone : PySem.W.findIn K (.ref C_Hand) "gone" = some none)
    (n_Hand_left : PySem.W.findIn K (.ref C_Hand) "left" = some none)
    (n_Hand_end : PySem.W.findIn K (.ref C_Hand) "end" = some none)
    (g_MOST_FRAMES : PySem.W.nsIn K mainGlobals "MOST_FRAMES" = some (some (.int 20 t_MOST_FRAMES)))
    (g_RECKONINGS : PySem.W.nsIn K mainGlobals "RECKONINGS" = some (some (.ref a_RECKONINGS))) (h_RECKONINGS : K.lookup a_RECKONINGS = some ⟨.type "tuple", od_RECKONINGS, .seq #[.str "put" t_RECKONINGS_0, .str "copy" t_RECKONINGS_1, .str "plus" t_RECKONINGS_2, .str "less" t_RECKONINGS_3, .str "times" t_RECKONINGS_4] n_RECKONINGS, sl_RECKONINGS⟩)
    (z_abs : PySem.W.nsIn K mainGlobals "abs" = some none)
    (z_bool : PySem.W.nsIn K mainGlobals "bool" = some none)
    (z_int : PySem.W.nsIn K mainGlobals "int" = some none)
    (z_isinstance : PySem.W.nsIn K mainGlobals "isinstance" = some none)
    (z_len : PySem.W.nsIn K mainGlobals "len" = some none)
    (z_list : PySem.W.nsIn K mainGlobals "list" = some none)
    (z_max : PySem.W.nsIn K mainGlobals "max" = some none)
    (z_min : PySem.W.nsIn K mainGlobals "min" = some none)
    (z_range : PySem.W.nsIn K mainGlobals "range" = some none)
    (z_tuple : PySem.W.nsIn K mainGlobals "tuple" = some none)
    (z_zip : PySem.W.nsIn K mainGlobals "zip" = some none)
    : ∃ fd : FuncData, (∀ (s : Shared) (v : Value), BindsTo s fd ⟨[v], []⟩ [("script", v)]) ∧ ∀ base : Heap, K.In base → base.Ns mainGlobals mg → FnOk l.prog w K mg base CX0 12 fa fd ["script"] (spLaw K) := by
  have B : Blt mg := ⟨PySem.W.mg_none_of X G z_abs, PySem.W.mg_none_of X G z_bool, PySem.W.mg_none_of X G z_int, PySem.W.mg_none_of X G z_isinstance, PySem.W.mg_none_of X G z_len, PySem.W.mg_none_of X G z_list, PySem.W.mg_none_of X G z_max, PySem.W.mg_none_of X G z_min, PySem.W.mg_none_of X G z_range, PySem.W.mg_none_of X G z_tuple, PySem.W.mg_none_of X G z_zip⟩
  have GG : Glb K mg := ⟨⟨_, PySem.W.mg_of X G g_MOST_FRAMES⟩, ⟨_, PySem.W.mg_of X G g_RECKONINGS, _, _, _, h_RECKONINGS, rfl, rfl, mk_le rfl, .cons ⟨_, rfl⟩ (.cons ⟨_, rfl⟩ (.cons ⟨_, rfl⟩ (.cons ⟨_, rfl⟩ (.cons ⟨_, rfl⟩ (.nil)))))⟩⟩
  have HHand : CHand K C_Hand := ⟨⟨pg_Hand, hd_Hand, po_Hand, sa_Hand⟩, n_Hand_program, n_Hand_frames, n_Hand_news, n_Hand_gone, n_Hand_left, n_Hand_end⟩
  have F0 := fun_mk (st := s_row_of) l0 c0 k0
  have T_row_of : TopFn K mg "row_of" s_row_of ["program", "frame"] := ⟨_, _, F0, PySem.W.mg_of X G a0, F0.binds (ps := ["program", "frame"]) fun _ _ _ _ _ _ us hl => match us, hl with | [_, _], _ => rfl⟩
  have F1 := fun_mk (st := s_goes_to_row) l1 c1 k1
  have T_goes_to_row : TopFn K mg "goes_to_row" s_goes_to_row ["row", "number"] := ⟨_, _, F1, PySem.W.mg_of X G a1, F1.binds (ps := ["row", "number"]) fun _ _ _ _ _ _ us hl => match us, hl with | [_, _], _ => rfl⟩
  have F2 := fun_mk (st := s_run) l2 c2 k2
  have T_run : TopFn K mg "run" s_run ["program", "inputs", "most"] := ⟨_, _, F2, PySem.W.mg_of X G a2, F2.binds (ps := ["program", "inputs", "most"]) fun _ _ _ _ _ _ us hl => match us, hl with | [_, _, _], _ => rfl⟩
  have F3 := fun_mk (st := s_end_of) l3 c3 k3
  have T_end_of : TopFn K mg "end_of" s_end_of ["hand"] := ⟨_, _, F3, PySem.W.mg_of X G a3, F3.binds (ps := ["hand"]) fun _ _ _ _ _ _ us hl => match us, hl with | [_], _ => rfl⟩
  have F4 := fun_mk (st := s_new_frame) l4 c4 k4
  have T_new_frame : TopFn K mg "new_frame" s_new_frame ["program", "f", "numbers"] := ⟨_, _, F4, PySem.W.mg_of X G a4, F4.binds (ps := ["program", "f", "numbers"]) fun _ _ _ _ _ _ us hl => match us, hl with | [_, _, _], _ => rfl⟩
  have F5 := fun_mk (st := s_reckoned) l5 c5 k5
  have T_reckoned : TopFn K mg "reckoned" s_reckoned ["row", "boxes"] := ⟨_, _, F5, PySem.W.mg_of X G a5, F5.binds (ps := ["row", "boxes"]) fun _ _ _ _ _ _ us hl => match us, hl with | [_, _], _ => rfl⟩
  have F6 := fun_mk (st := s_row_behind) l6 c6 k6
  have T_row_behind : TopFn K mg "row_behind" s_row_behind ["row", "at", "boxes"] := ⟨_, _, F6, PySem.W.mg_of X G a6, F6.binds (ps := ["row", "at", "boxes"]) fun _ _ _ _ _ _ us hl => match us, hl with | [_, _, _], _ => rfl⟩
  have F7 := fun_mk (st := s__law_bag) l7 c7 k7
  have T__law_bag : TopFn K mg "_law_bag" s__law_bag ["script"] := ⟨_, _, F7, PySem.W.mg_of X G a7, F7.binds (ps := ["script"]) fun _ _ _ _ _ _ us hl => match us, hl with | [_], _ => rfl⟩
  have F8 := fun_mk (st := s__law_draw) l8 c8 k8
  have T__law_draw : TopFn K mg "_law_draw" s__law_draw ["bag", "many"] := ⟨_, _, F8, PySem.W.mg_of X G a8, F8.binds (ps := ["bag", "many"]) fun _ _ _ _ _ _ us hl => match us, hl with | [_, _], _ => rfl⟩
  have F9 := fun_mk (st := s__law_number) l9 c9 k9
  have T__law_number : TopFn K mg "_law_number" s__law_number ["bag"] := ⟨_, _, F9, PySem.W.mg_of X G a9, F9.binds (ps := ["bag"]) fun _ _ _ _ _ _ us hl => match us, hl with | [_], _ => rfl⟩
  have F10 := fun_mk (st := s__law_whole) l10 c10 k10
  have T__law_whole : TopFn K mg "_law_whole" s__law_whole ["found"] := ⟨_, _, F10, PySem.W.mg_of X G a10, F10.binds (ps := ["found"]) fun _ _ _ _ _ _ us hl => match us, hl with | [_], _ => rfl⟩
  have F11 := fun_mk (st := s__law_words) l11 c11 k11
  have T__law_words : TopFn K mg "_law_words" s__law_words ["found", "due"] := ⟨_, _, F11, PySem.W.mg_of X G a11, F11.binds (ps := ["found", "due"]) fun _ _ _ _ _ _ us hl => match us, hl with | [_, _], _ => rfl⟩
  have F12 := fun_mk (st := s__law_frames) l12 c12 k12
  have T__law_frames : TopFn K mg "_law_frames" s__law_frames ["found", "due"] := ⟨_, _, F12, PySem.W.mg_of X G a12, F12.binds (ps := ["found", "due"]) fun _ _ _ _ _ _ us hl => match us, hl with | [_, _], _ => rfl⟩
  have F13 := fun_mk (st := s__law_fields) l13 c13 k13
  have T__law_fields : TopFn K mg "_law_fields" s__law_fields ["hand", "state"] := ⟨_, _, F13, PySem.W.mg_of X G a13, F13.binds (ps := ["hand", "state"]) fun _ _ _ _ _ _ us hl => match us, hl with | [_, _], _ => rfl⟩
  have F14 := fun_mk (st := s__law_program) l14 c14 k14
  have T__law_program : TopFn K mg "_law_program" s__law_program ["count", "takes"] := ⟨_, _, F14, PySem.W.mg_of X G a14, F14.binds (ps := ["count", "takes"]) fun _ _ _ _ _ _ us hl => match us, hl with | [_, _], _ => rfl⟩
  have F15 := fun_mk (st := s__law_stand) l15 c15 k15
  have T__law_stand : TopFn K mg "_law_stand" s__law_stand ["count", "depth", "last"] := ⟨_, _, F15, PySem.W.mg_of X G a15, F15.binds (ps := ["count", "depth", "last"]) fun _ _ _ _ _ _ us hl => match us, hl with | [_, _, _], _ => rfl⟩
  have F16 := fun_mk (st := s__law_ran) l16 c16 k16
  have T__law_ran : TopFn K mg "_law_ran" s__law_ran ["program", "numbers", "most", "due"] := ⟨_, _, F16, PySem.W.mg_of X G a16, F16.binds (ps := ["program", "numbers", "most", "due"]) fun _ _ _ _ _ _ us hl => match us, hl with | [_, _, _, _], _ => rfl⟩
  have F17 := fun_mk (st := s__law_asked) l17 c17 k17
  have T__law_asked : TopFn K mg "_law_asked" s__law_asked ["program", "numbers", "rows", "state", "more"] := ⟨_, _, F17, PySem.W.mg_of X G a17, F17.binds (ps := ["program", "numbers", "rows", "state", "more"]) fun _ _ _ _ _ _ us hl => match us, hl with | [_, _, _, _, _], _ => rfl⟩
  have F18 := fun_mk (st := s_law) l18 c18 k18
  have F19 := fun_mk (st := s_Hand___init__) l19 c19 k19
  have T_Hand___init__ : TopI K mg C_Hand "Hand" "Hand.__init__" s_Hand___init__ ["self", "program", "inputs"] := ⟨_, _, F19, ⟨mk_Hand, a19, i19, kc_Hand⟩, F19.binds (ps := ["self", "program", "inputs"]) fun _ _ _ _ _ _ us hl => match us, hl with | [_, _, _], _ => rfl, PySem.W.mg_of X G aC_Hand⟩
  have F20 := fun_mk (st := s_Hand_go) l20 c20 k20
  have T_Hand_go : TopM K C_Hand "go" "Hand.go" s_Hand_go ["self"] := ⟨_, _, F20, ⟨a20, i20, k20⟩, F20.binds (ps := ["self"]) fun _ _ _ _ _ _ us hl => match us, hl with | [_], _ => rfl⟩
  have F21 := fun_mk (st := s_Hand_end_at) l21 c21 k21
  have T_Hand_end_at : TopM K C_Hand "end_at" "Hand.end_at" s_Hand_end_at ["self", "row"] := ⟨_, _, F21, ⟨a21, i21, k21⟩, F21.binds (ps := ["self", "row"]) fun _ _ _ _ _ _ us hl => match us, hl with | [_, _], _ => rfl⟩
  have F22 := fun_mk (st := s_Hand_do_row) l22 c22 k22
  have T_Hand_do_row : TopM K C_Hand "do_row" "Hand.do_row" s_Hand_do_row ["self", "row"] := ⟨_, _, F22, ⟨a22, i22, k22⟩, F22.binds (ps := ["self", "row"]) fun _ _ _ _ _ _ us hl => match us, hl with | [_, _], _ => rfl⟩
  have F23 := fun_mk (st := s_Hand_give_back) l23 c23 k23
  have T_Hand_give_back : TopM K C_Hand "give_back" "Hand.give_back" s_Hand_give_back ["self", "number"] := ⟨_, _, F23, ⟨a23, i23, k23⟩, F23.binds (ps := ["self", "number"]) fun _ _ _ _ _ _ us hl => match us, hl with | [_, _], _ => rfl⟩
  have F24 := fun_mk (st := s_Hand_do_own) l24 c24 k24
  have T_Hand_do_own : TopM K C_Hand "do_own" "Hand.do_own" s_Hand_do_own ["self", "row", "boxes"] := ⟨_, _, F24, ⟨a24, i24, k24⟩, F24.binds (ps := ["self", "row", "boxes"]) fun _ _ _ _ _ _ us hl => match us, hl with | [_, _, _], _ => rfl⟩
  have e := hfa.symm.trans (PySem.W.mg_of X G a18)
  cases e
  refine ⟨PySem.W.fnOf "law" "law" (defArgs s_law) (defBody s_law) (defScope s_law) .none kV18 dc18 pm18 an18 cd18 ct18, fun s v => .of_eq rfl, fun base _ _ => ?_⟩
  exact law_fn (B := B) (G := GG) (HHand := HHand) (T_row_of := T_row_of) (T_goes_to_row := T_goes_to_row) (T_run := T_run) (T_end_of := T_end_of) (T_new_frame := T_new_frame) (T_reckoned := T_reckoned) (T_row_behind := T_row_behind) (T__law_bag := T__law_bag) (T__law_draw := T__law_draw) (T__law_number := T__law_number) (T__law_whole := T__law_whole) (T__law_words := T__law_words) (T__law_frames := T__law_frames) (T__law_fields := T__law_fields) (T__law_program := T__law_program) (T__law_stand := T__law_stand) (T__law_ran := T__law_ran) (T__law_asked := T__law_asked) (T_Hand___init__ := T_Hand___init__) (T_Hand_go := T_Hand_go) (T_Hand_end_at := T_Hand_end_at) (T_Hand_do_row := T_Hand_do_row) (T_Hand_give_back := T_Hand_give_back) (T_Hand_do_own := T_Hand_do_own) (T_law := F18)

end My
open PySem PySem.W PyProof.Rows
set_option maxRecDepth 100000 in
set_option maxHeartbeats 0 in
theorem PySem.Challenge.cw_midlanes_k24_ends_holds : PySem.Challenge.rw_midlanes_k24_ends.Holds := by
  w_on; o_law; k_head; (case hw => w_witness2)
  k_fill
  refine L2.walk_of (l := PySem.Challenge.rw_midlanes_k24_ends) (n := 63) (k := 12) (x := "script") (CX := fun _ => L2.CX0) (sp := fun w => L2.spLaw _) rfl (by decide) rfl ⟨rfl, by decide, by decide⟩ (fun w h Y => PySem.W.kIn_of Y) ?F (fun _ _ a ns hl _ hS => L2.spLaw_of hl hS) (fun _ _ _ _ _ z => z)
  case F =>
    intro w mg fa h KX G hmg
    refine' My.all_mk KX G hmg ?a0 ?l0 ?c0 ?k0 ?a1 ?l1 ?c1 ?k1 ?a2 ?l2 ?c2 ?k2 ?a3 ?l3 ?c3 ?k3 ?a4 ?l4 ?c4 ?k4 ?a5 ?l5 ?c5 ?k5 ?a6 ?l6 ?c6 ?k6 ?a7 ?l7 ?c7 ?k7 ?a8 ?l8 ?c8 ?k8 ?a9 ?l9 ?c9 ?k9 ?a10 ?l10 ?c10 ?k10 ?a11 ?l11 ?c11 ?k11 ?a12 ?l12 ?c12 ?k12 ?a13 ?l13 ?c13 ?k13 ?a14 ?l14 ?c14 ?k14 ?a15 ?l15 ?c15 ?k15 ?a16 ?l16 ?c16 ?k16 ?a17 ?l17 ?c17 ?k17 ?a18 ?l18 ?c18 ?k18 ?a19 ?i19 ?l19 ?c19 ?k19 ?a20 ?i20 ?l20 ?c20 ?k20 ?a21 ?i21 ?l21 ?c21 ?k21 ?a22 ?i22 ?l22 ?c22 ?k22 ?a23 ?i23 ?l23 ?c23 ?k23 ?a24 ?i24 ?l24 ?c24 ?k24 ?aC_Hand ?pg_Hand ?hd_Hand ?po_Hand ?sa_Hand ?mk_Hand ?kc_Hand ?n_Hand_program ?n_Hand_frames ?n_Hand_news ?n_Hand_gone ?n_Hand_left ?n_Hand_end ?g_MOST_FRAMES ?g_RECKONINGS ?h_RECKONINGS ?z_abs ?z_bool ?z_int ?z_isinstance ?z_len ?z_list ?z_max ?z_min ?z_range ?z_tuple ?z_zip
    (case aC_Hand => k_is)
    (case a0 => k_is)
    (case l0 => k_is)
    (case c0 => k_is)
    (case k0 => k_is)
    (case a1 => k_is)
    (case l1 => k_is)
    (case c1 => k_is)
    (case k1 => k_is)
    (case a2 => k_is)
    (case l2 => k_is)
    (case c2 => k_is)
    (case k2 => k_is)
    (case a3 => k_is)
    (case l3 => k_is)
    (case c3 => k_is)
    (case k3 => k_is)
    (case a4 => k_is)
    (case l4 => k_is)
    (case c4 => k_is)
    (case k4 => k_is)
    (case a5 => k_is)
    (case l5 => k_is)
    (case c5 => k_is)
    (case k5 => k_is)
    (case a6 => k_is)
    (case l6 => k_is)
    (case c6 => k_is)
    (case k6 => k_is)
    (case a7 => k_is)
    (case l7 => k_is)
    (case c7 => k_is)
    (case k7 => k_is)
    (case a8 => k_is)
    (case l8 => k_is)
    (case c8 => k_is)
    (case k8 => k_is)
    (case a9 => k_is)
    (case l9 => k_is)
    (case c9 => k_is)
    (case k9 => k_is)
    (case a10 => k_is)
    (case l10 => k_is)
    (case c10 => k_is)
    (case k10 => k_is)
    (case a11 => k_is)
    (case l11 => k_is)
    (case c11 => k_is)
    (case k11 => k_is)
    (case a12 => k_is)
    (case l12 => k_is)
    (case c12 => k_is)
    (case k12 => k_is)
    (case a13 => k_is)
    (case l13 => k_is)
    (case c13 => k_is)
    (case k13 => k_is)
    (case a14 => k_is)
    (case l14 => k_is)
    (case c14 => k_is)
    (case k14 => k_is)
    (case a15 => k_is)
    (case l15 => k_is)
    (case c15 => k_is)
    (case k15 => k_is)
    (case a16 => k_is)
    (case l16 => k_is)
    (case c16 => k_is)
    (case k16 => k_is)
    (case a17 => k_is)
    (case l17 => k_is)
    (case c17 => k_is)
    (case k17 => k_is)
    (case a18 => k_is)
    (case l18 => k_is)
    (case c18 => k_is)
    (case k18 => k_is)
    (case a19 => k_is)
    (case i19 => k_is)
    (case l19 => k_is)
    (case c19 => k_is)
    (case k19 => k_is)
    (case a20 => k_is)
    (case i20 => k_is)
    (case l20 => k_is)
    (case c20 => k_is)
    (case k20 => k_is)
    (case a21 => k_is)
    (case i21 => k_is)
    (case l21 => k_is)
    (case c21 => k_is)
    (case k21 => k_is)
    (case a22 => k_is)
    (case i22 => k_is)
    (case l22 => k_is)
    (case c22 => k_is)
    (case k22 => k_is)
    (case a23 => k_is)
    (case i23 => k_is)
    (case l23 => k_is)
    (case c23 => k_is)
    (case k23 => k_is)
    (case a24 => k_is)
    (case i24 => k_is)
    (case l24 => k_is)
    (case c24 => k_is)
    (case k24 => k_is)
    (case pg_Hand => k_is)
    (case hd_Hand => k_is)
    (case po_Hand => k_is)
    (case sa_Hand => k_is)
    (case mk_Hand => k_is)
    (case kc_Hand => k_is)
    (case n_Hand_program => k_is)
    (case n_Hand_frames => k_is)
    (case n_Hand_news => k_is)
    (case n_Hand_gone => k_is)
    (case n_Hand_left => k_is)
    (case n_Hand_end => k_is)
    (case g_MOST_FRAMES => k_is)
    (case g_RECKONINGS => k_is)
    (case h_RECKONINGS => k_is)
    (case z_abs => k_is)
    (case z_bool => k_is)
    (case z_int => k_is)
    (case z_isinstance => k_is)
    (case z_len => k_is)
    (case z_list => k_is)
    (case z_max => k_is)
    (case z_min => k_is)
    (case z_range => k_is)
    (case z_tuple => k_is)
    (case z_zip => k_is)

