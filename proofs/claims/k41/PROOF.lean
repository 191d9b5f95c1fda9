import PyProof.Rows.All
import Wide.All
import OpenK.AllK
import Wide.FinOn
import Lean
import PyProof.EqAt
import PyProof.EqKinds
import PyProof.TupleCall
import PyProof.NeKinds
import KE.KDictSum
import PyProof.Rows.SortRuns
import PySem.SetOps
import PyProof.Rows.SetFrom
import PyProof.DictWalks
import PyProof.FactsAll.set_1
import PyProof.FactsAll.set_2
import PyProof.MakeMany
import PyProof.CollectWalk
import PyProof.Rows.SortShell
import PyProof.StrWalks
import PyProof.StrLoop
import PyProof.ZipIter
import KE.KUnpack
import PySem.Challenge.RW_midlanes_k41_words_and_frames
section
set_option Elab.async false
set_option linter.all false
set_option maxRecDepth 100000
/-! THE HAND LAYER, for ints, bools, texts, own classes, LISTS and tuples (index, slices, in, append, pop ..), calls, loops. Paste it whole ahead of your own text; what your proof does not reach may be deleted. -/
namespace L2
open PySem PySem.Spec PyProof.Rows

/-- a key: an int or a str -/
abbrev Key := Sum Int Str
def keyIs : Key → Value → Bool
  | .inl k, v => Value.isInt k v
  | .inr x, v => Value.isStrOf x v
def keyH (w : World) : Key → Int
  | .inl k => hashInt k
  | .inr x => hashStr w x
theorem keyIs_shape : ∀ {k : Key} {v : Value}, keyIs k v = true → (∃ i t, k = Sum.inl i ∧ v = Value.int i t) ∨ (∃ x t, k = Sum.inr x ∧ v = Value.str x t)
  | .inl i, v, h => by
    obtain ⟨t, e⟩ := Value.isInt_shape (k := i) (v := v) h
    exact .inl ⟨i, t, rfl, e⟩
  | .inr x, v, h => by
    obtain ⟨t, e⟩ := Value.isStrOf_shape (x := x) (v := v) h
    exact .inr ⟨x, t, rfl, e⟩
theorem key_ll (a b : Int) : decide ((Sum.inl a : Key) = Sum.inl b) = (a == b) := by
  by_cases e : a = b
  · subst e; simp
  · have h : ¬ (Sum.inl a : Key) = Sum.inl b := fun q => e (Sum.inl.inj q)
    rw [decide_eq_false h]
    exact (beq_eq_false_iff_ne.mpr e).symm
theorem key_rr (a b : Str) : decide ((Sum.inr a : Key) = Sum.inr b) = decide (a = b) := by
  by_cases e : a = b
  · subst e; simp
  · have h : ¬ (Sum.inr a : Key) = Sum.inr b := fun q => e (Sum.inr.inj q)
    rw [decide_eq_false h, decide_eq_false e]
theorem key_lr (a : Int) (b : Str) : decide ((Sum.inl a : Key) = Sum.inr b) = false := decide_eq_false (fun q => nomatch q)
theorem key_rl (a : Str) (b : Int) : decide ((Sum.inr a : Key) = Sum.inl b) = false := decide_eq_false (fun q => nomatch q)

def mixKind (prog : Program) (w : World) : PySem.KeyKind prog w Key where
  is := keyIs
  hash := keyH w
  inj := fun v a b ha hb => by
    rcases keyIs_shape ha with ⟨i, t, rfl, rfl⟩ | ⟨x, t, rfl, rfl⟩
    · rcases keyIs_shape hb with ⟨j, u, rfl, e⟩ | ⟨y, u, rfl, e⟩
      · injection e with e1 _; rw [e1]
      · exact nomatch e
    · rcases keyIs_shape hb with ⟨j, u, rfl, e⟩ | ⟨y, u, rfl, e⟩
      · exact nomatch e
      · injection e with e1 _; rw [e1]
  byValue := fun k v h => by
    rcases keyIs_shape h with ⟨i, t, rfl, rfl⟩ | ⟨x, t, rfl, rfl⟩ <;> rfl
  pyHash := fun hv h => by
    rcases keyIs_shape hv with ⟨i, t, rfl, rfl⟩ | ⟨x, t, rfl, rfl⟩
    · exact wpAny_pyHash_int h
    · exact wpAny_pyHash_str h
  eqBool := fun hu hv h => by
    rcases keyIs_shape hu with ⟨i, t, rfl, rfl⟩ | ⟨x, t, rfl, rfl⟩
    · rcases keyIs_shape hv with ⟨j, u, rfl, rfl⟩ | ⟨y, u, rfl, rfl⟩
      · rw [key_ll] at h; exact wpAny_eqBool_int h
      · rw [key_lr] at h; exact SeqAt.EqAt.int_str i t y u _ _ _ _ h
    · rcases keyIs_shape hv with ⟨j, u, rfl, rfl⟩ | ⟨y, u, rfl, rfl⟩
      · rw [key_rl] at h; exact SeqAt.EqAt.str_int x t j u _ _ _ _ h
      · rw [key_rr] at h; exact wpAny_eqBool_str h
  «strs» := fun k x t v h => by
    rcases keyIs_shape h with ⟨i, u, rfl, e⟩ | ⟨y, u, rfl, e⟩
    · exact nomatch e
    · injection e with e1 _
      subst e1
      cases v <;> rfl

end L2

namespace L2
open PySem PySem.Spec PyProof.Rows

/-- a value, without the heap -/
inductive V where
  | non | bl (b : Bool) | int (i : Int) | str (x : Str) | byt (b : Array UInt8) | flt (b : UInt64) | ref (a : Addr) | ty (n : String)
  deriving DecidableEq

def RelV : V → Value → Prop
  | .non, u => u = Value.none
  | .bl b, u => u = Value.bool b
  | .int i, u => ∃ t, u = Value.int i t
  | .str x, u => ∃ t, u = Value.str x t
  | .byt b, u => ∃ t, u = Value.bytes b t
  | .flt b, u => ∃ t, u = Value.float b t
  | .ref a, u => u = Value.ref a
  | .ty n, u => u = Value.type n

abbrev Vals : List V → List Value → Prop := Paired RelV
theorem Vals.length {xs : List V} {us : List Value} (r : Vals xs us) : xs.length = us.length := Paired.length r
theorem Vals.get : ∀ {xs : List V} {us : List Value} {i : Nat} {x : V}, Vals xs us → xs[i]? = some x → ∃ u, us[i]? = some u ∧ RelV x u
  | _, _, _, _, .nil, e => by simp at e
  | _, _, 0, _, .cons r _, e => by simp at e; subst e; exact ⟨_, rfl, r⟩
  | _, _, i + 1, x, .cons _ t, e => by
    obtain ⟨u, h1, h2⟩ := Vals.get (i := i) (x := x) t (by simpa using e)
    exact ⟨u, by simpa using h1, h2⟩
theorem Vals.set {x : V} {u : Value} (r : RelV x u) : ∀ {xs : List V} {us : List Value} (i : Nat), Vals xs us → Vals (xs.set i x) (us.set i u)
  | _, _, _, .nil => .nil
  | _, _, 0, .cons _ t => .cons r t
  | _, _, i + 1, .cons q t => .cons q (Vals.set r i t)
theorem Vals.append : ∀ {xs ys : List V} {us ws : List Value}, Vals xs us → Vals ys ws → Vals (xs ++ ys) (us ++ ws)
  | _, _, _, _, .nil, s => s
  | _, _, _, _, .cons r t, s => .cons r (Vals.append t s)
theorem Vals.take : ∀ {xs : List V} {us : List Value} (n : Nat), Vals xs us → Vals (xs.take n) (us.take n)
  | _, _, 0, _ => .nil
  | _, _, _ + 1, .nil => .nil
  | _, _, n + 1, .cons r t => .cons r (Vals.take n t)
theorem Vals.drop : ∀ {xs : List V} {us : List Value} (n : Nat), Vals xs us → Vals (xs.drop n) (us.drop n)
  | _, _, 0, r => r
  | _, _, _ + 1, .nil => .nil
  | _, _, n + 1, .cons _ t => Vals.drop n t
def RelO : Option V → Option Value → Prop
  | some v, some u => RelV v u
  | none, none => True
  | _, _ => False
def KV {κ : Type} : List (κ × V) → List (κ × Value) → Prop := Paired fun (p : κ × V) (q : κ × Value) => p.1 = q.1 ∧ RelV p.2 q.2

/-- a key of a dict (00_mix): an int or a text -/
def kV : Key → V
  | .inl i => .int i
  | .inr x => .str x

/-- what stands at a tracked address -/
inductive HO where
  /-- a list -/
  | lst (xs : List V)
  /-- a tuple (never changes) -/
  | tup (xs : List V)
  /-- a dict whose keys are ints and texts; one whose keys are tuples of ints and texts (the empty one is both) -/
  | dK (kvs : List (Key × V)) | dT (kvs : List (List Key × V))
  /-- a set of ints: its members, its size -/
  | set (S : Int → Bool) (n : Nat)
  /-- an instance of the class at C, its dict at dx, its attributes -/
  | ins (C dx : Addr) (fs : List (Str × V))
  /-- the dict of the instance at x -/
  | own (x : Addr)
  /-- the dict of an exception -/
  | xd (fs : List (Str × V))
  /-- a bound method, f of x -/
  | met (f x : Addr)
  /-- a range object lo, lo + 1, .. below hi -/
  | rng (lo hi : Int)
  /-- a thing that is known to the object (the script; a dict while a loop walks it): read, never written while it is so -/
  | frz (o : Obj) (u : HO)
  /-- a code object's table -/
  | tbl (ps : Array Value)
  /-- any other thing, by what is true of its one object (a def of one's own: SetO a S n := HO.ext fun h => ..) -/
  | ext (φ : Heap → Prop)

abbrev Hp := Addr → Option HO
def upd (H : Hp) (a : Addr) (o : HO) : Hp := fun b => if b = a then some o else H b
theorem upd_same {H : Hp} {a : Addr} {o : HO} : upd H a o a = some o := by unfold upd; rw [if_pos rfl]
theorem upd_ne {H : Hp} {a b : Addr} {o : HO} (h : b ≠ a) : upd H a o b = H b := by unfold upd; rw [if_neg h]
/-- two objects of different content stand apart -/
theorem ne_of {H : Hp} {a b : Addr} {o u : HO} (h : H a = some o) (h' : H b = some u) (d : o ≠ u) : a ≠ b := by
  intro e; subst e; rw [h] at h'; exact d (Option.some.inj h')
theorem ne_of_none {H : Hp} {a b : Addr} {o : HO} (h : H a = some o) (h' : H b = none) : a ≠ b := by
  intro e; subst e; rw [h] at h'; cases h'

section
variable (P : Program) (w : World)
def ObjOk (H : Hp) (h : Heap) (a : Addr) : HO → Prop
  | .lst xs => xs.length ≤ sizeLine ∧ ∃ (its : List Value) (n : Nat), Vals xs its ∧ h.get? a = some { cls := .type "list", data := .seq its.toArray n }
  | .tup xs => xs.length ≤ sizeLine ∧ ∃ its : List Value, Vals xs its ∧ IsTup h a its.toArray
  | .dK kvs => kvs.length ≤ sizeLine ∧ (a == sysModules) = false ∧ ∃ vs, KV kvs vs ∧ h.DictOf (mixKind P w) a vs
  | .dT kvs => kvs.length ≤ sizeLine ∧ (a == sysModules) = false ∧ ∃ xs : List (List Key × Addr × Value),
      Paired (fun (p : List Key × V) (q : List Key × Addr × Value) => p.1 = q.1 ∧ H q.2.1 = some (.tup (p.1.map kV)) ∧ RelV p.2 q.2.2) kvs xs ∧
      ∃ o es ep, h.get? a = some o ∧ o.ExactDict ∧ o.data = .dict es ep ∧ es.toList = xs.map (entryOfKey (tupleKind (mixKind P w))) ∧ (xs.map (·.1)).Nodup
  | .set S n => h.SetOf (intKind P w) a S n
  | .ins C dx fs => H dx = some (.own a) ∧ fs.length ≤ 1000 ∧ dx ≠ a ∧ h.get? a = some (PySem.W.instObj C dx) ∧
      ∃ mA, h.Ns1 dx mA ∧ (∀ f, RelO (fs.lookup f) (mA f)) ∧ PySem.Within mA (fs.map (·.1))
  | .own _ => ∃ o, h.get? a = some o
  | .xd fs => ∃ mA, h.Ns1 a mA ∧ ∀ f, RelO (fs.lookup f) (mA f)
  | .rng lo hi => ∃ t u v, h.get? a = some { cls := .type "range", data := .fields #[.int lo t, .int hi u, .int 1 v] }
  | .frz o u => h.get? a = some o ∧ ObjOk H h a u
  | .tbl ps => h.get? a = some { cls := .none, data := .fields ps }
  | .met f x => h.get? a = some (PySem.W.methodObj (.ref f) (.ref x))
  | .ext φ => φ h ∧ (∃ o, h.get? a = some o) ∧ ∀ h1 h2 : Heap, φ h1 → (∀ o, h1.get? a = some o → h2.get? a = some o) → φ h2
/-- the abstract heap is held -/
def HOk (H : Hp) (h : Heap) : Prop := ∀ a o, H a = some o → ObjOk P w H h a o
end

section
variable {P : Program} {w : World} {H H' : Hp} {h h' : Heap} {a : Addr} {o : HO}
theorem ObjOk.lt (x : ObjOk P w H h a o) : a < h.objs.size := by
  cases o with
  | lst xs => obtain ⟨_, _, _, _, e⟩ := x; exact Heap.lt_size e
  | tup xs => obtain ⟨_, _, _, p⟩ := x; exact p.lt
  | dK kvs => obtain ⟨_, _, _, _, o, _, _, e, _⟩ := x; exact Heap.lt_size e
  | dT kvs => obtain ⟨_, _, _, _, o, _, _, e, _⟩ := x; exact Heap.lt_size e
  | set S n => obtain ⟨o, _, _, _, e, _⟩ := x; exact Heap.lt_size e
  | ins C dx fs => obtain ⟨_, _, _, e, _⟩ := x; exact Heap.lt_size e
  | own y => obtain ⟨_, e⟩ := x; exact Heap.lt_size e
  | xd fs => obtain ⟨_, ⟨_, _, _, e, _⟩, _⟩ := x; exact Heap.lt_size e
  | rng lo hi => obtain ⟨_, _, _, e⟩ := x; exact Heap.lt_size e
  | frz ob u => obtain ⟨e, _⟩ := x; exact Heap.lt_size e
  | tbl ps => exact Heap.lt_size (show h.get? a = some _ from x)
  | met f y => exact Heap.lt_size (show h.get? a = some _ from x)
  | ext φ => obtain ⟨_, ⟨_, e⟩, _⟩ := x; exact Heap.lt_size e
theorem Paired.mapP {α β : Type} {F G : α → β → Prop} : ∀ {l₁ : List α} {l₂ : List β}, Paired F l₁ l₂ → (∀ a b, F a b → G a b) → Paired G l₁ l₂
  | _, _, .nil, _ => .nil
  | _, _, .cons r t, f => .cons (f _ _ r) (Paired.mapP t f)
/-- what an object's description leans on: its own object, its own dict, the tuples -/
theorem ObjOk.stay (x : ObjOk P w H h a o) (k : ∀ b u, (b = a ∨ H b = some (.own a)) → h.get? b = some u → h'.get? b = some u)
    (ho : ∀ b, H b = some (.own a) → H' b = some (.own a)) (ht : ∀ b xs, H b = some (.tup xs) → H' b = some (.tup xs)) : ObjOk P w H' h' a o := by
  induction o with
  | lst xs => obtain ⟨z, its, n, r, e⟩ := x; exact ⟨z, its, n, r, k _ _ (.inl rfl) e⟩
  | tup xs => obtain ⟨z, its, r, ob, e, c⟩ := x; exact ⟨z, its, r, ob, k _ _ (.inl rfl) e, c⟩
  | dK kvs => obtain ⟨z, y, vs, r, ob, es, ep, e, c⟩ := x; exact ⟨z, y, vs, r, ob, es, ep, k _ _ (.inl rfl) e, c⟩
  | dT kvs =>
    obtain ⟨z, y, xs, r, ob, es, ep, e, c⟩ := x
    exact ⟨z, y, xs, Paired.mapP r fun p q z => ⟨z.1, ht _ _ z.2.1, z.2.2⟩, ob, es, ep, k _ _ (.inl rfl) e, c⟩
  | set S n => obtain ⟨ob, es, ep, t, e, c⟩ := x; exact ⟨ob, es, ep, t, k _ _ (.inl rfl) e, c⟩
  | ins C dx fs =>
    obtain ⟨d, z, ne, e, mA, ⟨od, es, ep, e2, c⟩, r⟩ := x
    exact ⟨ho _ d, z, ne, k _ _ (.inl rfl) e, mA, ⟨od, es, ep, k _ _ (.inr d) e2, c⟩, r⟩
  | own y => obtain ⟨ob, e⟩ := x; exact ⟨ob, k _ _ (.inl rfl) e⟩
  | xd fs => obtain ⟨mA, ⟨od, es, ep, e, c⟩, r⟩ := x; exact ⟨mA, ⟨od, es, ep, k _ _ (.inl rfl) e, c⟩, r⟩
  | rng lo hi => obtain ⟨t, u, v, e⟩ := x; exact ⟨t, u, v, k _ _ (.inl rfl) e⟩
  | frz ob u ih => obtain ⟨e, q⟩ := x; exact ⟨k _ _ (.inl rfl) e, ih q⟩
  | tbl ps =>
    have e : h.get? a = some { cls := .none, data := .fields ps } := x
    show h'.get? a = some { cls := .none, data := .fields ps }
    exact k a _ (.inl rfl) e
  | met f y =>
    have e : h.get? a = some (PySem.W.methodObj (.ref f) (.ref y)) := x
    show h'.get? a = some (PySem.W.methodObj (.ref f) (.ref y))
    exact k a _ (.inl rfl) e
  | ext φ => obtain ⟨p, ⟨o, e⟩, st⟩ := x; exact ⟨st _ _ p fun o q => k _ _ (.inl rfl) q, ⟨o, k _ _ (.inl rfl) e⟩, st⟩
theorem HOk.lt (x : HOk P w H h) (e : H a = some o) : a < h.objs.size := (x a o e).lt
theorem HOk.fresh (x : HOk P w H h) (e : h.objs.size ≤ a) : H a = none := by
  cases q : H a with
  | none => rfl
  | some u => exact absurd (Nat.lt_of_lt_of_le (x.lt q) e) (Nat.lt_irrefl _)
/-- every object of the heap is kept -/
theorem HOk.kept (x : HOk P w H h) (k : ∀ b u, h.get? b = some u → h'.get? b = some u) : HOk P w H h' := fun a o e =>
  (x a o e).stay (fun b u _ q => k b u q) (fun _ q => q) fun _ _ q => q
/-- a new object is laid and tracked -/
theorem HOk.laid (x : HOk P w H h) (k : ∀ b u, h.get? b = some u → h'.get? b = some u) (hp : h.objs.size ≤ a) (new : ObjOk P w (upd H a o) h' a o) : HOk P w (upd H a o) h' := fun b u e => by
  have hn := x.fresh hp
  by_cases hb : b = a
  · subst hb; rw [upd_same] at e; cases e; exact new
  · rw [upd_ne hb] at e
    exact (x b u e).stay (fun c v _ q => k c v q) (fun c q => by rw [upd_ne (ne_of_none q hn)]; exact q) fun c xs q => by rw [upd_ne (ne_of_none q hn)]; exact q
end

/-- what may be read as u: it is u, or a known u -/
def Rd (H : Hp) (a : Addr) (u : HO) : Prop := H a = some u ∨ ∃ o, H a = some (.frz o u)
theorem Rd.ok {P : Program} {w : World} {H : Hp} {h : Heap} {a : Addr} {u : HO} (r : Rd H a u) (x : HOk P w H h) : ObjOk P w H h a u := by
  rcases r with r | ⟨o, r⟩
  · exact x a u r
  · obtain ⟨_, q⟩ := x a _ r
    exact q
/-- what may be written -/
def Mut : Option HO → Prop
  | some (.lst _) => True
  | some (.dK _) => True
  | some (.dT _) => True
  | some (.set _ _) => True
  | some (.ins _ _ _) => True
  | some (.ext _) => True
  | _ => False
section
variable {P : Program} {w : World} {H : Hp} {h h' : Heap} {x e : Addr} {o' : HO}
/-- the object at e is changed: x itself, or the dict of the instance x -/
theorem HOk.write (ok : HOk P w H h) (mu : Mut (H x)) (he : e = x ∨ H e = some (.own x)) (k : ∀ b u, b ≠ e → h.get? b = some u → h'.get? b = some u) (heo : ∃ u, h'.get? e = some u)
    (new : ObjOk P w (upd H x o') h' x o') : HOk P w (upd H x o') h' := fun b u q => by
  have nown : ∀ c y, H c = some (.own y) → c ≠ x := fun c y r z => by subst z; rw [r] at mu; exact mu
  have ntup : ∀ c xs, H c = some (.tup xs) → c ≠ x := fun c xs r z => by subst z; rw [r] at mu; exact mu
  by_cases hb : b = x
  · subst hb; rw [upd_same] at q; cases q; exact new
  · rw [upd_ne hb] at q
    by_cases hbe : b = e
    · have q' : H b = some (.own x) := by
        rcases he with z | z
        · exact absurd (hbe.trans z) hb
        · rw [hbe]; exact z
      rw [q] at q'; cases q'
      obtain ⟨v, hv⟩ := heo
      exact ⟨v, by rw [hbe]; exact hv⟩
    · refine (ok b u q).stay (fun c v hc r => k c v ?_ r) (fun c r => by rw [upd_ne (nown c b r)]; exact r) fun c xs r => by rw [upd_ne (ntup c xs r)]; exact r
      rcases hc with rfl | hc
      · exact hbe
      · rintro rfl
        rcases he with z | z
        · exact nown c b hc z
        · rw [hc] at z; cases z; exact hb rfl
end

/-! ### kept unless tracked; of the frames at fs (the callers') the slots may change (an exception that passes writes there); of the records at ex (iterators) nothing is said -/
structure Un (fs ex : List Addr) (H H' : Hp) (h h' : Heap) : Prop where
  keep : ∀ b o, h.get? b = some o → H b = none → b ∉ fs → b ∉ ex → h'.get? b = some o
  slot : ∀ b o, h.get? b = some o → H b = none → b ∈ fs → b ∉ ex → ∃ sl, h'.get? b = some { o with slots := sl }
  free : ∀ b o, h.get? b = some o → H b = none → b ∉ ex → H' b = none
  there : ∀ b o, h.get? b = some o → b ∉ ex → ∃ o', h'.get? b = some o'
  tups : ∀ b xs, H b = some (.tup xs) → H' b = some (.tup xs)
  frzs : ∀ b o u, H b = some (.frz o u) → H' b = some (.frz o u)
  tbls : ∀ b ps, H b = some (.tbl ps) → ∃ more, H' b = some (.tbl (ps ++ more))
section
variable {fs fs' ex ex' : List Addr} {H H1 H2 : Hp} {h h1 h2 h' : Heap} {a x e : Addr} {o : HO}
theorem Un.any (u : Un fs ex H H1 h h1) {b : Addr} {ob : Obj} (q : h.get? b = some ob) (n : H b = none) (hx : b ∉ ex) : ∃ sl, h1.get? b = some { ob with slots := sl } := by
  by_cases hb : b ∈ fs
  · exact u.slot b ob q n hb hx
  · exact ⟨ob.slots, u.keep b ob q n hb hx⟩
theorem Un.kept (k : ∀ b u, h.get? b = some u → h'.get? b = some u) : Un fs ex H H h h' :=
  ⟨fun b ob q _ _ _ => k b ob q, fun b ob q _ _ _ => ⟨ob.slots, k b ob q⟩, fun _ _ _ n _ => n, fun b ob q _ => ⟨ob, k b ob q⟩, fun _ _ q => q, fun _ _ _ q => q, fun _ ps q => ⟨#[], by rw [q]; simp⟩⟩
theorem Un.refl : Un fs ex H H h h := Un.kept fun _ _ q => q
theorem Un.laid (k : ∀ b u, h.get? b = some u → h'.get? b = some u) (hp : h.objs.size ≤ a) (hn : H a = none) : Un fs ex H (upd H a o) h h' where
  keep := fun b u q _ _ _ => k b u q
  slot := fun b u q _ _ _ => ⟨u.slots, k b u q⟩
  free := fun b u q n _ => by rw [upd_ne (Nat.ne_of_lt (Nat.lt_of_lt_of_le (Heap.lt_size q) hp))]; exact n
  there := fun b u q _ => ⟨u, k b u q⟩
  tups := fun b xs q => by rw [upd_ne (ne_of_none q hn)]; exact q
  frzs := fun b u xs q => by rw [upd_ne (ne_of_none q hn)]; exact q
  tbls := fun b ps q => ⟨#[], by rw [upd_ne (ne_of_none q hn), q]; simp⟩
theorem Un.write (mu : Mut (H x)) (he : e = x ∨ H e = some (.own x)) (k : ∀ b u, b ≠ e → h.get? b = some u → h'.get? b = some u) (heo : ∃ u, h'.get? e = some u) : Un fs ex H (upd H x o) h h' := by
  have hx : ∀ b, H b = none → b ≠ x := fun b n z => by subst z; rw [n] at mu; exact mu
  have hb : ∀ b, H b = none → b ≠ e := fun b n z => by
    subst z
    rcases he with r | r
    · exact hx b n r
    · rw [n] at r; cases r
  have hm : ∀ b u, H b = some u → ¬ Mut (some u) → b ≠ x := fun b u q nm z => by subst z; rw [q] at mu; exact nm mu
  refine ⟨fun b u q n _ _ => k b u (hb b n) q, fun b u q n _ _ => ⟨u.slots, k b u (hb b n) q⟩, fun b u q n _ => by rw [upd_ne (hx b n)]; exact n, fun b u q _ => ?_,
    fun b xs q => by rw [upd_ne (hm b _ q fun z => z)]; exact q, fun b u xs q => by rw [upd_ne (hm b _ q fun z => z)]; exact q, fun b ps q => ⟨#[], by rw [upd_ne (hm b _ q fun z => z), q]; simp⟩⟩
  by_cases hbe : b = e
  · subst hbe; exact heo
  · exact ⟨u, k b u hbe q⟩
end

/-! ### the heap without what is tracked -/
def trk (h : Heap) (H : Hp) : List Addr := (List.range h.objs.size).filter fun a => (H a).isSome
def hidT (h : Heap) (H : Hp) : Heap := PySem.W.hideAll h (trk h H)
theorem hidT_size (h : Heap) (H : Hp) : (hidT h H).objs.size = h.objs.size := PySem.W.hideAll_size _ _
theorem hidT_get {h : Heap} {H : Hp} {b : Addr} {o : Obj} (e : h.get? b = some o) (n : H b = none) : (hidT h H).get? b = some o :=
  PySem.W.hideAll_get _ e fun hm => by
    have q : (H b).isSome = true := (List.mem_filter.mp hm).2
    rw [n] at q; simp at q
theorem of_hidT {h : Heap} {H : Hp} {b : Addr} {o : Obj} (e : (hidT h H).get? b = some o) : h.get? b = some o ∧ H b = none := by
  have e' : h.get? b = some o := PySem.W.of_hideAll (trk h H) e
  refine ⟨e', ?_⟩
  cases q : H b with
  | none => rfl
  | some x =>
    have hm : b ∈ trk h H := List.mem_filter.mpr ⟨List.mem_range.mpr (Heap.lt_size e'), by simp [q]⟩
    have z : (hidT h H).get? b = none := PySem.W.hideAll_none (trk h H) hm
    rw [z] at e; cases e

/-! ### OpenK's ledger, filled with every new object but one -/
def allNews (g h : Heap) (L : Addr) : List (Addr × Obj) := (List.range h.objs.size).filterMap fun a => if a = L ∨ (g.get? a).isSome = true then none else (h.get? a).map fun o => (a, o)
def rest (g h : Heap) (L d : Addr) : List (Addr × Obj) := (allNews g h L).filter fun p => decide (p.1 ≠ d)
end L2

namespace L2
open PySem PySem.Spec PyProof.Rows

/-- the module's facts, over the base: the heap at the law's entry without what is tracked there -/
structure Mod (K : PySem.W.Frag) (mg : Str → Option Value) (base : Heap) : Prop where
  kin : K.In base
  glob : base.Ns mainGlobals mg
  blt : ∃ mb, base.Ns builtinsNs mb ∧ ∀ x : Str, x ≠ "__name__" → mb x = bootBuiltins x
  nolimit : base.NoLimit

/-- the context: a def's body (or a comprehension's block) running. base: fixed through the whole law; s₀, H₀: the entry; outer: the frames whose slots others may change (a def's callers); stack: all frames that run;
   ex: iterators that were made ahead of the entry and are walked here (a comprehension's); fn: the names whose cells were made at the entry (a def: all; a comprehension's block: its own); calm: not within an except suite; pn: pins that every state bears; xe: what is wanted of an exception that leaves the code -/
structure Cx where
  prog : Program
  w : World
  K : PySem.W.Frag
  mg : Str → Option Value
  base : Heap
  A : Around
  N : List Str
  s₀ : Shared
  H₀ : Hp
  env : Env
  outer : List Env
  stack : List Env
  ex : List Addr
  fn : Str → Bool
  calm : Bool
  pn : List (Addr × Obj)
  xe : Value → Shared → Prop
/-- the callers' frames -/
def frs (l : List Env) : List Addr := l.filterMap (·.frame)
abbrev Cx.fs (X : Cx) : List Addr := frs X.outer

def Vis (sc : Scope) (x : Str) : Prop := sc.names.lookup x = some .local ∨ sc.names.lookup x = some .cell ∨ sc.names.lookup x = some .free
def Loc (sc : Scope) (x : Str) : Prop := sc.names.lookup x = some .local ∨ sc.names.lookup x = some .cell
def Look (env : Env) (h : Heap) (m : Str → Option Value) (x : Str) (u : Value) : Prop :=
  (env.kindOf x = some .local ∧ m x = some u) ∨ ((env.kindOf x = some .cell ∨ env.kindOf x = some .free) ∧ ∃ c, env.cells.lookup x = some c ∧ h.IsCell c (some u))

structure Cx.Ok (X : Cx) : Prop where
  mod : Mod X.K X.mg X.base
  kind : X.env.scope.kind = .function
  glob : X.env.globals = mainGlobals
  blt : X.env.builtins = builtinsNs
  above : X.s₀.heap.objs.size ≤ X.env.locals
  inj : ∀ x y c, X.env.cells.lookup x = some c → X.env.cells.lookup y = some c → x = y
  has : ∀ x, (X.env.kindOf x = some .cell ∨ X.env.kindOf x = some .free) → ∃ c, X.env.cells.lookup x = some c
  cab : ∀ x c, X.fn x = true → X.env.cells.lookup x = some c → X.s₀.heap.objs.size ≤ c
  hd : X.calm = true → X.A.handled = none
  frames : X.A.frames = some X.stack
  stk : X.stack = X.outer ∨ (X.stack = X.env :: X.outer ∧ X.env.frame = some X.env.locals)
  exf : ∀ b ∈ X.ex, b ≠ X.env.locals ∧ ∀ x c, X.env.cells.lookup x = some c → c ≠ b
  bs : ∀ b o, X.base.get? b = some o → X.s₀.heap.get? b = some o ∧ X.H₀ b = none
  bsz : X.base.objs.size ≤ X.s₀.heap.objs.size
  noex : ∀ b o, X.base.get? b = some o → b ∉ X.ex
  exfs : ∀ b ∈ X.ex, b ∉ X.fs
  funs : X.s₀.heap.FunFrames X.base X.outer
  frf : ∀ b ∈ X.fs, X.H₀ b = none

structure Inv (X : Cx) (pins : List (Addr × Obj)) (σ : List (Option V)) (H : Hp) (s : Shared) : Prop where
  ok : X.Ok
  os : s.os = X.s₀.os
  bare : AllBare s.gens
  base : Un X.fs X.ex X.H₀ H X.s₀.heap s.heap
  loc : ∃ m, s.heap.Ns X.env.locals m ∧ ∀ (i : Nat) (x : Str) (v : V), X.N[i]? = some x → σ[i]? = some (some v) → Vis X.env.scope x → ∃ u, RelV v u ∧ Look X.env s.heap m x u
  cell : ∀ x c, X.env.cells.lookup x = some c → ∃ v, s.heap.IsCell c v
  free : H X.env.locals = none
  freeC : ∀ x c, X.env.cells.lookup x = some c → H c = none
  pin : ∀ p ∈ X.pn ++ pins, s.heap.get? p.1 = some p.2 ∧ H p.1 = none ∧ p.1 ≠ X.env.locals ∧ p.1 ∉ X.fs ∧ ∀ v, p.2.data ≠ .cell v
  hok : HOk X.prog X.w H s.heap
  len : σ.length = X.N.length

section
variable {X : Cx} {pins : List (Addr × Obj)} {σ : List (Option V)} {H H' : Hp} {s : Shared} {h' : Heap}

theorem Cx.Ok.nofr (ok : X.Ok) {b : Addr} {o : Obj} (e : X.base.get? b = some o) : b ∉ X.fs := fun hb => by
  have := (ok.funs.mem hb).1
  rw [e] at this; cases this
theorem Inv.bs (I : Inv X pins σ H s) : ∀ b o, X.base.get? b = some o → s.heap.get? b = some o ∧ H b = none := fun b o e =>
  ⟨I.base.keep b o (I.ok.bs b o e).1 (I.ok.bs b o e).2 (I.ok.nofr e) (I.ok.noex b o e), I.base.free b o (I.ok.bs b o e).1 (I.ok.bs b o e).2 (I.ok.noex b o e)⟩
theorem Inv.bk (I : Inv X pins σ H s) : ∀ b o, X.base.get? b = some o → s.heap.get? b = some o := fun b o e => (I.bs b o e).1
theorem Inv.mod (I : Inv X pins σ H s) : Mod X.K X.mg X.base := I.ok.mod
theorem Inv.kIn (I : Inv X pins σ H s) : X.K.In s.heap := I.ok.mod.kin.keeps I.bk
theorem Inv.lt (I : Inv X pins σ H s) : X.env.locals < s.heap.objs.size := let ⟨_, hn, _⟩ := I.loc; hn.lt
theorem Inv.sz (I : Inv X pins σ H s) : X.s₀.heap.objs.size ≤ s.heap.objs.size := Nat.le_trans I.ok.above (Nat.le_of_lt I.lt)
theorem Inv.nofs (I : Inv X pins σ H s) {a : Addr} (h : s.heap.objs.size ≤ a) : a ∉ X.fs := fun hb => by
  obtain ⟨_, o, ho, _⟩ := I.ok.funs.mem hb
  exact absurd (Nat.lt_of_lt_of_le (Heap.lt_size ho) (Nat.le_trans I.sz h)) (Nat.lt_irrefl _)
theorem Inv.cne (I : Inv X pins σ H s) : ∀ x c, X.env.cells.lookup x = some c → c ≠ X.env.locals := fun x c e z => by
  obtain ⟨v, o, ho, hd⟩ := I.cell x c e
  obtain ⟨m, ⟨o', es, ep, ho', hd', _⟩, _⟩ := I.loc
  rw [z, ho'] at ho; cases ho; rw [hd'] at hd; cases hd
theorem Inv.funs (I : Inv X pins σ H s) : s.heap.FunFrames X.base X.outer := by
  have all : ∀ (l : List Env), (∀ b ∈ frs l, b ∈ X.fs) → X.s₀.heap.FunFrames X.base l → s.heap.FunFrames X.base l := by
    intro l
    induction l with
    | nil => intro _ _; trivial
    | cons env r ih =>
      intro hs hl
      obtain ⟨hk, ⟨L, o, hf, hn, ho, hd⟩, hr⟩ := hl
      have hL : L ∈ X.fs := hs L (by unfold frs; rw [List.filterMap_cons, hf]; exact List.mem_cons_self)
      obtain ⟨sl, e⟩ := I.base.slot L o ho (I.ok.frf L hL) hL fun z => I.ok.exfs L z hL
      exact ⟨hk, ⟨L, _, hf, hn, e, hd⟩, ih (fun b hb => hs b (by unfold frs; rw [List.filterMap_cons, hf]; exact List.mem_cons_of_mem _ hb)) hr⟩
  exact all X.outer (fun _ hb => hb) I.ok.funs

/-- the frames that run, for a call -/
theorem Inv.stack (I : Inv X pins σ H s) : s.heap.FunFrames X.base X.stack := by
  rcases I.ok.stk with e | ⟨e, hf⟩
  · rw [e]; exact I.funs
  · rw [e]
    obtain ⟨m, hn, _⟩ := I.loc
    refine .cons (by rw [I.ok.kind]; decide) hf hn ?_ I.funs
    exact Heap.get?_none_of_le (Nat.le_trans I.ok.bsz I.ok.above)
theorem Inv.stkSub (I : Inv X pins σ H s) : ∀ b ∈ frs X.stack, b ∈ X.env.locals :: X.fs := fun b hb => by
  rcases I.ok.stk with e | ⟨e, hf⟩
  · rw [e] at hb; exact List.mem_cons_of_mem _ hb
  · rw [e] at hb
    unfold frs at hb
    rw [List.filterMap_cons, hf] at hb
    exact hb
theorem Inv.stkFree (I : Inv X pins σ H s) : ∀ b ∈ frs X.stack, H b = none := fun b hb => by
  rcases List.mem_cons.mp (I.stkSub b hb) with e | hb
  · rw [e]; exact I.free
  · obtain ⟨_, o, ho, _⟩ := I.ok.funs.mem hb
    exact I.base.free b o ho (I.ok.frf b hb) fun z => I.ok.exfs b z hb

/-- THE STEP: the untracked objects but the frame and the records at ch are kept (the callers' frames up to slots), the frame's map is kept, the new abstract heap is held -/
theorem Inv.step {g' : Array GenState} {t' : Nat} {d' : Drawn} {ch : List Addr} (I : Inv X pins σ H s)
    (hch : ∀ b ∈ ch, (b ∈ X.ex ∨ X.s₀.heap.objs.size ≤ b) ∧ b ≠ X.env.locals ∧ (∀ x c, X.env.cells.lookup x = some c → c ≠ b) ∧ ∀ p ∈ X.pn ++ pins, p.1 ≠ b)
    (keep : ∀ b o, b ≠ X.env.locals → b ∉ X.fs → b ∉ ch → s.heap.get? b = some o → H b = none → h'.get? b = some o)
    (slot : ∀ b o, b ≠ X.env.locals → b ∈ X.fs → b ∉ ch → s.heap.get? b = some o → H b = none → ∃ sl, h'.get? b = some { o with slots := sl }) (free : ∀ b o, b ∉ ch → s.heap.get? b = some o → H b = none → H' b = none)
    (there : ∀ b o, b ∉ ch → s.heap.get? b = some o → ∃ o', h'.get? b = some o')
    (tups : ∀ b xs, H b = some (.tup xs) → H' b = some (.tup xs)) (frzs : ∀ b o u, H b = some (.frz o u) → H' b = some (.frz o u)) (tbls : ∀ b ps, H b = some (.tbl ps) → ∃ more, H' b = some (.tbl (ps ++ more)))
    (ns : ∀ m, s.heap.Ns X.env.locals m → h'.Ns X.env.locals m) (hok : HOk X.prog X.w H' h') (hg : AllBare g') :
    Inv X pins σ H' { s with heap := h', gens := g', drawn := d', toks := t' } := by
  have neL : ∀ b o, X.s₀.heap.get? b = some o → b ≠ X.env.locals := fun b o e => Nat.ne_of_lt (Nat.lt_of_lt_of_le (Heap.lt_size e) I.ok.above)
  have neC : ∀ b o, X.s₀.heap.get? b = some o → b ∉ X.ex → b ∉ ch := fun b o e hx hb => by
    rcases (hch b hb).1 with z | z
    · exact hx z
    · exact absurd (Nat.lt_of_lt_of_le (Heap.lt_size e) z) (Nat.lt_irrefl _)
  have cellK : ∀ x c, X.env.cells.lookup x = some c → ∀ v, s.heap.IsCell c v → h'.IsCell c v := fun x c e v ⟨o, ho, hd⟩ => by
    have nch : c ∉ ch := fun z => (hch c z).2.2.1 x c e rfl
    by_cases hc : c ∈ X.fs
    · obtain ⟨sl, q⟩ := slot c o (I.cne x c e) hc nch ho (I.freeC x c e)
      exact ⟨_, q, hd⟩
    · exact ⟨o, keep c o (I.cne x c e) hc nch ho (I.freeC x c e), hd⟩
  refine ⟨I.ok, I.os, hg, ⟨fun b o e n hb hx => ?_, fun b o e n hb hx => ?_, fun b o e n hx => ?_, fun b o e hx => ?_, fun b xs e => tups b xs (I.base.tups b xs e), fun b o xs e => frzs b o xs (I.base.frzs b o xs e), fun b ps e => ?_⟩, ?_, fun x c e => ?_, ?_, fun x c e => ?_, fun p hp => ?_, hok, I.len⟩
  · exact keep b o (neL b o e) hb (neC b o e hx) (I.base.keep b o e n hb hx) (I.base.free b o e n hx)
  · obtain ⟨sl, e1⟩ := I.base.slot b o e n hb hx
    obtain ⟨sl', e2⟩ := slot b _ (neL b o e) hb (neC b o e hx) e1 (I.base.free b o e n hx)
    exact ⟨sl', e2⟩
  · obtain ⟨o', e1⟩ := I.base.there b o e hx
    exact free b o' (neC b o e hx) e1 (I.base.free b o e n hx)
  · obtain ⟨o', e1⟩ := I.base.there b o e hx
    exact there b o' (neC b o e hx) e1
  · obtain ⟨m1, e1⟩ := I.base.tbls b ps e
    obtain ⟨m2, e2⟩ := tbls b _ e1
    exact ⟨m1 ++ m2, by rw [e2, Array.append_assoc]⟩
  · obtain ⟨m, hn, hl⟩ := I.loc
    refine ⟨m, ns m hn, fun i x v e1 e2 e3 => ?_⟩
    obtain ⟨u, r, l⟩ := hl i x v e1 e2 e3
    refine ⟨u, r, ?_⟩
    rcases l with l | ⟨k, c, e, z⟩
    · exact .inl l
    · exact .inr ⟨k, c, e, cellK x c e _ z⟩
  · obtain ⟨v, z⟩ := I.cell x c e
    exact ⟨v, cellK x c e v z⟩
  · obtain ⟨m, ⟨o, _, _, ho, _⟩, _⟩ := I.loc
    exact free _ o (fun z => (hch _ z).2.1 rfl) ho I.free
  · obtain ⟨v, o, ho, hd⟩ := I.cell x c e
    exact free c o (fun z => (hch c z).2.2.1 x c e rfl) ho (I.freeC x c e)
  · obtain ⟨e, n, ne, nf, d⟩ := I.pin p hp
    have nch : p.1 ∉ ch := fun z => (hch p.1 z).2.2.2 p hp rfl
    exact ⟨keep p.1 p.2 ne nf nch e n, free p.1 p.2 nch e n, ne, nf, d⟩
/-- .. where the frame's own object is kept too -/
theorem Inv.un {t' : Nat} (I : Inv X pins σ H s) (u : Un X.fs [] H H' s.heap h') (hok : HOk X.prog X.w H' h') : Inv X pins σ H' { s with heap := h', toks := t' } := by
  obtain ⟨m, ⟨o, es, ep, ho, r⟩, _⟩ := id I.loc
  obtain ⟨sl, hL⟩ := u.any ho I.free (by simp)
  exact I.step (g' := s.gens) (d' := s.drawn) (ch := []) (fun _ z => nomatch z) (fun b o _ hb _ e n => u.keep b o e n hb (by simp)) (fun b o _ hb _ e n => u.slot b o e n hb (by simp)) (fun b o _ e n => u.free b o e n (by simp)) (fun b o _ e => u.there b o e (by simp)) u.tups u.frzs u.tbls (fun m' hm => by
    obtain ⟨o', es', ep', ho', r'⟩ := hm
    rw [ho] at ho'; cases ho'
    exact ⟨_, es', ep', hL, r'⟩) hok I.bare
/-- behind a call (or a comprehension's block): the slots of this frame may have changed too, the records at ch may have turned -/
theorem Inv.call {g' : Array GenState} {t' : Nat} {d' : Drawn} {ch : List Addr} (I : Inv X pins σ H s) (u : Un (frs X.stack) ch H H' s.heap h') (hok : HOk X.prog X.w H' h') (hg : AllBare g')
    (hch : ∀ b ∈ ch, (b ∈ X.ex ∨ X.s₀.heap.objs.size ≤ b) ∧ b ≠ X.env.locals ∧ (∀ x c, X.env.cells.lookup x = some c → c ≠ b) ∧ ∀ p ∈ X.pn ++ pins, p.1 ≠ b) :
    Inv X pins σ H' { s with heap := h', gens := g', drawn := d', toks := t' } := by
  obtain ⟨m, ⟨o, es, ep, ho, r⟩, _⟩ := id I.loc
  obtain ⟨sl, hL⟩ := u.any ho I.free fun z => (hch _ z).2.1 rfl
  exact I.step (ch := ch) hch (fun b o hL hb hc e n => u.keep b o e n (fun z => (List.mem_cons.mp (I.stkSub b z)).elim hL hb) hc) (fun b o _ _ hc e n => u.any e n hc) (fun b o hc e n => u.free b o e n hc) (fun b o hc e => u.there b o e hc) u.tups u.frzs u.tbls (fun m' hm => by
    obtain ⟨o', es', ep', ho', r'⟩ := hm
    rw [ho] at ho'; cases ho'
    exact ⟨_, es', ep', hL, r'⟩) hok hg
/-- an untracked record of ours (an iterator) has turned -/
theorem Inv.turned {t' : Nat} {it : Addr} (I : Inv X pins σ H s) (k : ∀ b o, b ≠ it → s.heap.get? b = some o → h'.get? b = some o) (hn : H it = none) (hL : it ≠ X.env.locals)
    (h1 : it ∈ X.ex ∨ X.s₀.heap.objs.size ≤ it) (h2 : ∀ x c, X.env.cells.lookup x = some c → c ≠ it) (h3 : ∀ p ∈ X.pn ++ pins, p.1 ≠ it) : Inv X pins σ H { s with heap := h', toks := t' } := by
  have nit : ∀ b u, H b = some u → b ≠ it := fun b u e z => by rw [z, hn] at e; cases e
  refine I.step (g' := s.gens) (d' := s.drawn) (ch := [it]) (fun b hb => ?_) (fun b o _ _ hc e _ => k b o (fun z => hc (by simp [z])) e) (fun b o _ _ hc e _ => ⟨o.slots, k b o (fun z => hc (by simp [z])) e⟩) (fun _ _ _ _ n => n)
    (fun b o hc e => ⟨o, k b o (fun z => hc (by simp [z])) e⟩) (fun _ _ e => e) (fun _ _ _ e => e) (fun b ps e => ⟨#[], by rw [e]; simp⟩) (fun m hm => ?_) (fun b u e => ?_) I.bare
  · have e : b = it := by simpa using hb
    subst e
    exact ⟨h1, hL, h2, h3⟩
  · obtain ⟨o, es, ep, ho, r⟩ := hm
    exact ⟨o, es, ep, k _ o (Ne.symm hL) ho, r⟩
  · refine (I.hok b u e).stay (fun c v hc q => k c v ?_ q) (fun _ q => q) fun _ _ q => q
    rcases hc with z | z
    · rw [z]; exact nit b u e
    · exact nit c _ z
theorem Inv.tok (I : Inv X pins σ H s) (t : Nat) : Inv X pins σ H { s with toks := t } := I.un (h' := s.heap) (t' := t) Un.refl I.hok
/-- all objects kept -/
theorem Inv.kept {t' : Nat} (I : Inv X pins σ H s) (k : ∀ b u, s.heap.get? b = some u → h'.get? b = some u) : Inv X pins σ H { s with heap := h', toks := t' } := I.un (Un.kept k) (I.hok.kept k)
/-- a new object laid and tracked -/
theorem Inv.laid {a : Addr} {o : HO} {t' : Nat} (I : Inv X pins σ H s) (k : ∀ b u, s.heap.get? b = some u → h'.get? b = some u) (hp : s.heap.objs.size ≤ a) (new : ObjOk X.prog X.w (upd H a o) h' a o) :
    Inv X pins σ (upd H a o) { s with heap := h', toks := t' } := I.un (Un.laid k hp (I.hok.fresh hp)) (I.hok.laid k hp new)
/-- an object written -/
theorem Inv.write {x e : Addr} {o : HO} {t' : Nat} (I : Inv X pins σ H s) (mu : Mut (H x)) (he : e = x ∨ H e = some (.own x)) (k : ∀ b u, b ≠ e → s.heap.get? b = some u → h'.get? b = some u) (heo : ∃ u, h'.get? e = some u)
    (new : ObjOk X.prog X.w (upd H x o) h' x o) : Inv X pins σ (upd H x o) { s with heap := h', toks := t' } := I.un (Un.write mu he k heo) (I.hok.write mu he k heo new)
theorem Inv.pins_of {pins' : List (Addr × Obj)} (I : Inv X pins σ H s) (h : ∀ p ∈ pins', s.heap.get? p.1 = some p.2 ∧ H p.1 = none ∧ p.1 ≠ X.env.locals ∧ p.1 ∉ X.fs ∧ ∀ v, p.2.data ≠ .cell v) : Inv X pins' σ H s :=
  ⟨I.ok, I.os, I.bare, I.base, I.loc, I.cell, I.free, I.freeC, fun p hp => (List.mem_append.mp hp).elim (fun z => I.pin p (List.mem_append_left _ z)) (h p), I.hok, I.len⟩

theorem nodup_ix {N : List Str} (hN : N.Nodup) {i j : Nat} {x : Str} (a : N[i]? = some x) (b : N[j]? = some x) : i = j := by
  obtain ⟨h1, e1⟩ := List.getElem?_eq_some_iff.mp a
  obtain ⟨h2, e2⟩ := List.getElem?_eq_some_iff.mp b
  exact (List.getElem_inj hN).mp (e1.trans e2.symm)

/-- a name is stored; what changed -/
theorem store_ok2 {M : Model} {A : Around} {E : Value → Shared → Prop} {i : Nat} {x : Str} {v : V} {u : Value} {Q : Unit → Shared → Prop} (I : Inv X pins σ H s) (hN : X.N.Nodup) (hi : X.N[i]? = some x) (hx : Loc X.env.scope x) (r : RelV v u)
    (h : ∀ s', Inv X pins (σ.set i (some v)) H s' → (∃ a, Heap.SameBut a s.heap s'.heap ∧ (a = X.env.locals ∨ X.env.cells.lookup x = some a)) → Q () s') (hf : X.fn x = true ∨ X.env.scope.names.lookup x = some .local := by first | exact .inl rfl | exact .inr rfl | assumption) : wpAny M A (storeName X.env x u) Q E s := by
  obtain ⟨m, hn, hl⟩ := id I.loc
  have hcls : (X.env.scope.kind == .class || (X.env.scope.kind == .module && X.env.locals != X.env.globals)) = false := by rw [I.ok.kind]; rfl
  have hiσ : i < σ.length := by rw [I.len]; exact (List.getElem?_eq_some_iff.mp hi).1
  have cne := I.cne
  have tracked : ∀ {a : Addr} {h' : Heap}, (∃ o, s.heap.get? a = some o ∧ H a = none) → Heap.SameBut a s.heap h' → HOk X.prog X.w H h' := fun {a h'} ha hs b ob e => by
    obtain ⟨_, _, hfree⟩ := ha
    refine (I.hok b ob e).stay (fun c w' hc q => (hs.2 c ?_).trans q) (fun _ q => q) fun _ _ q => q
    rintro rfl
    rcases hc with rfl | hc
    · rw [hfree] at e; cases e
    · rw [hfree] at hc; cases hc
  rcases hx with hk | hk
  · refine wpAny_storeName_local hk hn (fun h' hn' hs => ?_) hcls
    obtain ⟨oL, _, _, hoL, _⟩ := id hn
    refine h _ ⟨I.ok, I.os, I.bare, ⟨fun b o e n hb hx => ?_, fun b o e n hb hx => ?_, I.base.free, fun b o e hx => ?_, I.base.tups, I.base.frzs, I.base.tbls⟩, ⟨_, hn', fun j y v' e1 e2 e3 => ?_⟩, fun y c e => ?_, I.free, I.freeC, fun p hp => ?_, tracked ⟨oL, hoL, I.free⟩ hs, by simpa using I.len⟩ ⟨_, hs, .inl rfl⟩
    · exact (hs.2 b (Nat.ne_of_lt (Nat.lt_of_lt_of_le (Heap.lt_size e) I.ok.above))).trans (I.base.keep b o e n hb hx)
    · obtain ⟨sl, e1⟩ := I.base.slot b o e n hb hx
      exact ⟨sl, (hs.2 b (Nat.ne_of_lt (Nat.lt_of_lt_of_le (Heap.lt_size e) I.ok.above))).trans e1⟩
    · obtain ⟨o', e1⟩ := I.base.there b o e hx
      exact ⟨o', (hs.2 b (Nat.ne_of_lt (Nat.lt_of_lt_of_le (Heap.lt_size e) I.ok.above))).trans e1⟩
    · by_cases hj : j = i
      · subst hj
        rw [hi] at e1; cases e1
        rw [List.getElem?_set_self hiσ] at e2
        cases e2
        exact ⟨u, r, .inl ⟨hk, by simp⟩⟩
      · rw [List.getElem?_set_ne (Ne.symm hj)] at e2
        obtain ⟨u', r', q⟩ := hl j y v' e1 e2 e3
        refine ⟨u', r', ?_⟩
        rcases q with ⟨k, e⟩ | ⟨k, c, e, z⟩
        · refine .inl ⟨k, ?_⟩
          have : y ≠ x := fun e => hj (nodup_ix hN e1 (e ▸ hi))
          simp [this, e]
        · exact .inr ⟨k, c, e, z.sameBut hs (cne y c e)⟩
    · obtain ⟨w', z⟩ := I.cell y c e
      exact ⟨w', z.sameBut hs (cne y c e)⟩
    · obtain ⟨e, n, ne, nf, d⟩ := I.pin p hp
      exact ⟨(hs.2 p.1 ne).trans e, n, ne, nf, d⟩
  · have hfn : X.fn x = true := by
      rcases hf with z | z
      · exact z
      · rw [z] at hk; cases hk
    obtain ⟨c, hc⟩ := I.ok.has x (.inl hk)
    obtain ⟨w', z⟩ := I.cell x c hc
    refine wpAny_storeName_cell I.ok.kind hk hc z (fun h' hc' hs => ?_)
    obtain ⟨oc, hoc, hocd⟩ := id z
    refine h { s with heap := h' } ⟨I.ok, I.os, I.bare, ⟨fun b o e n hb hx => ?_, fun b o e n hb hx => ?_, I.base.free, fun b o e hx => ?_, I.base.tups, I.base.frzs, I.base.tbls⟩, ⟨m, hn.sameBut hs (Ne.symm (cne x c hc)), fun j y v' e1 e2 e3 => ?_⟩, fun y c' e => ?_, I.free, I.freeC, fun p hp => ?_, tracked ⟨oc, hoc, I.freeC x c hc⟩ hs, by simpa using I.len⟩ ⟨c, hs, .inr hc⟩
    · exact (hs.2 b (Nat.ne_of_lt (Nat.lt_of_lt_of_le (Heap.lt_size e) (I.ok.cab x c hfn hc)))).trans (I.base.keep b o e n hb hx)
    · obtain ⟨sl, e1⟩ := I.base.slot b o e n hb hx
      exact ⟨sl, (hs.2 b (Nat.ne_of_lt (Nat.lt_of_lt_of_le (Heap.lt_size e) (I.ok.cab x c hfn hc)))).trans e1⟩
    · obtain ⟨o', e1⟩ := I.base.there b o e hx
      exact ⟨o', (hs.2 b (Nat.ne_of_lt (Nat.lt_of_lt_of_le (Heap.lt_size e) (I.ok.cab x c hfn hc)))).trans e1⟩
    · by_cases hj : j = i
      · subst hj
        rw [hi] at e1; cases e1
        rw [List.getElem?_set_self hiσ] at e2
        cases e2
        exact ⟨u, r, .inr ⟨.inl hk, c, hc, hc'⟩⟩
      · rw [List.getElem?_set_ne (Ne.symm hj)] at e2
        obtain ⟨u', r', q⟩ := hl j y v' e1 e2 e3
        refine ⟨u', r', ?_⟩
        rcases q with q | ⟨k, c', e, z'⟩
        · exact .inl q
        · refine .inr ⟨k, c', e, z'.sameBut hs ?_⟩
          rintro rfl
          exact hj (nodup_ix hN e1 (I.ok.inj _ _ _ e hc ▸ hi))
    · by_cases hcc : c' = c
      · subst hcc; exact ⟨_, hc'⟩
      · obtain ⟨w2, z2⟩ := I.cell y c' e
        exact ⟨w2, z2.sameBut hs hcc⟩
    · obtain ⟨e, n, ne, nf, d⟩ := I.pin p hp
      refine ⟨(hs.2 p.1 ?_).trans e, n, ne, nf, d⟩
      intro q
      rw [q, hoc] at e
      have q' : oc = p.2 := Option.some.inj e
      exact d w' (by rw [← q']; exact hocd)
theorem store_ok {M : Model} {A : Around} {E : Value → Shared → Prop} {i : Nat} {x : Str} {v : V} {u : Value} {Q : Unit → Shared → Prop} (I : Inv X pins σ H s) (hN : X.N.Nodup) (hi : X.N[i]? = some x) (hx : Loc X.env.scope x) (r : RelV v u)
    (h : ∀ s', Inv X pins (σ.set i (some v)) H s' → Q () s') (hf : X.fn x = true ∨ X.env.scope.names.lookup x = some .local := by first | exact .inl rfl | exact .inr rfl | assumption) : wpAny M A (storeName X.env x u) Q E s :=
  store_ok2 I hN hi hx r (fun s' I' _ => h s' I') hf
/-- behind a call or a block, the state as it is -/
theorem Inv.call' {s' : Shared} {ch : List Addr} (I : Inv X pins σ H s) (ho : s'.os = s.os) (u : Un (frs X.stack) ch H H' s.heap s'.heap) (hok : HOk X.prog X.w H' s'.heap) (hg : AllBare s'.gens)
    (hch : ∀ b ∈ ch, (b ∈ X.ex ∨ X.s₀.heap.objs.size ≤ b) ∧ b ≠ X.env.locals ∧ (∀ x c, X.env.cells.lookup x = some c → c ≠ b) ∧ ∀ p ∈ X.pn ++ pins, p.1 ≠ b) : Inv X pins σ H' s' := by
  obtain ⟨h', g', d', t', o'⟩ := s'
  have e : o' = s.os := ho
  subst e
  exact I.call (g' := g') (t' := t') (d' := d') u hok hg hch
end

/-! ### the judgements -/
/-- an exception: its class, its own dict's address (where it has one), the abstract heap behind it -/
abbrev XK := Value → Option Addr → Hp → Prop
abbrev St := List (Option V)
abbrev VK := V → Hp → Prop
/-- an expression's reading; a test's; an argument list's -/
abbrev TE := St → Hp → VK → Prop
abbrev TT := St → Hp → (Bool → Hp → Prop) → Prop
abbrev TA := St → Hp → (List V → Hp → Prop) → Prop
/-- what is wanted behind a statement -/
structure Ends where
  nx : St → Hp → Prop
  rt : VK
  bk : St → Hp → Prop := fun _ _ => False
  ct : St → Hp → Prop := fun _ _ => False
abbrev TS := Ends → St → Hp → Prop

def EP (X : Cx) (pins : List (Addr × Obj)) (σ : St) (Q : VK) (u : Value) (s' : Shared) : Prop := ∃ v H', Inv X pins σ H' s' ∧ RelV v u ∧ Q v H'
def TP (X : Cx) (pins : List (Addr × Obj)) (σ : St) (Q : Bool → Hp → Prop) (b : Bool) (s' : Shared) : Prop := ∃ H', Inv X pins σ H' s' ∧ Q b H'
def AP (X : Cx) (pins : List (Addr × Obj)) (σ : St) (Q : List V → Hp → Prop) (us : List Value) (s' : Shared) : Prop := ∃ vs H', Inv X pins σ H' s' ∧ Vals vs us ∧ Q vs H'
def SP (X : Cx) (pins : List (Addr × Obj)) (D : Ends) (f : Flow) (s' : Shared) : Prop :=
  match f with
  | .next => ∃ σ' H', Inv X pins σ' H' s' ∧ D.nx σ' H'
  | .brk => ∃ σ' H', Inv X pins σ' H' s' ∧ D.bk σ' H'
  | .cont => ∃ σ' H', Inv X pins σ' H' s' ∧ D.ct σ' H'
  | .ret u => ∃ v σ' H', Inv X pins σ' H' s' ∧ RelV v u ∧ D.rt v H'

def PE (X : Cx) (e : Expr) (t : TE) : Prop :=
  ∀ (pins : List (Addr × Obj)) (s : Shared) (σ : St) (H : Hp) (Q : VK), Inv X pins σ H s → t σ H Q → wpAny (model X.prog X.w) X.A (eval e X.env) (EP X pins σ Q) X.xe s
def PT (X : Cx) (e : Expr) (t : TT) : Prop :=
  ∀ (pins : List (Addr × Obj)) (s : Shared) (σ : St) (H : Hp) (Q : Bool → Hp → Prop), Inv X pins σ H s → t σ H Q → wpAny (model X.prog X.w) X.A (isTrue e X.env (eval e X.env)) (TP X pins σ Q) X.xe s
/-- a test whatever its 'whole' is (and, or) -/
def PW (X : Cx) (e : Expr) (t : TT) : Prop :=
  ∀ (whole : Sem Value) (pins : List (Addr × Obj)) (s : Shared) (σ : St) (H : Hp) (Q : Bool → Hp → Prop), Inv X pins σ H s → t σ H Q → wpAny (model X.prog X.w) X.A (isTrue e X.env whole) (TP X pins σ Q) X.xe s
theorem PW.pt {X : Cx} {e : Expr} {t : TT} (h : PW X e t) : PT X e t := h _
/-- an argument list (no star), from the left -/
def PA (X : Cx) (es : List Expr) (t : TA) : Prop :=
  ∀ (pos : Pos) (pins : List (Addr × Obj)) (s : Shared) (σ : St) (H : Hp) (Q : List V → Hp → Prop), Inv X pins σ H s → t σ H Q → wpAny (model X.prog X.w) X.A (spliced (backTo pos (starEach es X.env))) (AP X pins σ Q) X.xe s
def PS (X : Cx) (st : Stmt) (t : TS) : Prop :=
  ∀ (pins : List (Addr × Obj)) (s : Shared) (σ : St) (H : Hp) (D : Ends), Inv X pins σ H s → t D σ H → wpAny (model X.prog X.w) X.A (exec st X.env) (SP X pins D) X.xe s
def PSs (X : Cx) (st : List Stmt) (t : TS) : Prop :=
  ∀ (pins : List (Addr × Obj)) (s : Shared) (σ : St) (H : Hp) (D : Ends), Inv X pins σ H s → t D σ H → wpAny (model X.prog X.w) X.A (execs st X.env) (SP X pins D) X.xe s
/-- weaken the end -/
theorem thn {α : Type} {t : Sem α} {Q Q' : α → Shared → Prop} {M : Model} {A : Around} {E : Value → Shared → Prop} {s : Shared} (h : wpAny M A t Q E s) (hQ : ∀ a s, Q a s → Q' a s) : wpAny M A t Q' E s := wpAny_mono h hQ fun _ _ x => x
end L2

namespace L2
open PySem PySem.Spec PyProof.Rows
section
variable {X : Cx}

/-- two expressions in a row -/
theorem bin {a b : Expr} {ta tb : TE} (ha : PE X a ta) (hb : PE X b tb) {pins : List (Addr × Obj)} {s : Shared} {σ : St} {H : Hp} {R : V → V → Hp → Prop} (I : Inv X pins σ H s) (h : ta σ H fun x H1 => tb σ H1 fun y H2 => R x y H2)
    {α : Type} {Q : α → Shared → Prop} {f : Value → Value → Sem α}
    (hf : ∀ v u s2 x y H2, Inv X pins σ H2 s2 → RelV x v → RelV y u → R x y H2 → wpAny (model X.prog X.w) X.A (f v u) Q X.xe s2) :
    wpAny (model X.prog X.w) X.A (eval a X.env) (fun v s₁ => wpAny (model X.prog X.w) X.A (eval b X.env) (fun u s₂ => wpAny (model X.prog X.w) X.A (f v u) Q X.xe s₂) X.xe s₁) X.xe s := by
  refine thn (ha pins s σ H _ I h) fun v s1 ⟨x, H1, I1, r1, q1⟩ => ?_
  refine thn (hb pins s1 σ H1 _ I1 q1) fun u s2 ⟨y, H2, I2, r2, q2⟩ => ?_
  exact hf v u s2 x y H2 I2 r1 r2 q2

/-! ### names and constants -/
def tVar (i : Nat) : TE := fun σ H Q => ∃ v, σ[i]? = some (some v) ∧ Q v H
def tC (v : V) : TE := fun _ H Q => Q v H
theorem pe_var {i : Nat} {x : Str} {pos : Pos} (hN : X.N[i]? = some x) (hv : Vis X.env.scope x) (hd : (x == ("__debug__" : Str)) = false := by decide) (hcd : (x == ("__classdict__" : Str)) = false := by decide) : PE X (.Name x pos) (tVar i) := by
  intro pins s σ H Q I h
  obtain ⟨v, e, h⟩ := h
  obtain ⟨m, hn, hl⟩ := I.loc
  obtain ⟨u, r, l⟩ := hl i x v hN e hv
  have fin : EP X pins σ Q u s := ⟨v, H, I, r, h⟩
  rcases l with ⟨hk, hm⟩ | ⟨hk, c, hc, hcell⟩
  · exact wpAny_Name (wpAny_loadName_local I.ok.kind hk hn hm fin) hd
  · rcases hk with hk | hk
    · exact wpAny_Name (wpAny_loadName_cell I.ok.kind hk hc hcell fin) hd
    · exact wpAny_Name (wpAny_loadName_free I.ok.kind hk hc hcell fin hcd) hd
theorem pe_int {i j pos} : PE X (.Constant (.int i) j pos) (tC (.int i)) := fun _ _ _ H _ I h => wpAny_Constant_int ⟨.int i, H, I.tok _, ⟨_, rfl⟩, h⟩
theorem pe_bl {b j pos} : PE X (.Constant (.bool b) j pos) (tC (.bl b)) := fun _ _ _ H _ I h => Constant_bool ⟨.bl b, H, I, rfl, h⟩
theorem pe_non {j pos} : PE X (.Constant .none j pos) (tC .non) := fun _ _ _ H _ I h => Constant_none ⟨.non, H, I, rfl, h⟩
theorem pe_str {x j pos} : PE X (.Constant (.str x) j pos) (tC (.str x)) := fun _ _ _ H _ I h => Calls.Constant_str ⟨.str x, H, I.tok _, ⟨_, rfl⟩, h⟩

/-- a global name of the def -/
def Gl (X : Cx) (x : Str) : Prop := X.env.kindOf x = some .globalImplicit
theorem ld_glob {E : Value → Shared → Prop} {pins : List (Addr × Obj)} {s : Shared} {σ : St} {H : Hp} {x : Str} {u : Value} {pos : Pos} {Q : Value → Shared → Prop} (I : Inv X pins σ H s) (hg : Gl X x) (hm : X.mg x = some u) (h : Q u s)
    (hd : (x == ("__debug__" : Str)) = false := by decide) : wpAny (model X.prog X.w) X.A (eval (.Name x pos) X.env) Q E s :=
  Calls.Name_function_global I.ok.kind hg (Calls.loadGlobal_global (by rw [I.ok.glob]; exact I.mod.glob.keeps I.bk) hm h) hd
theorem ld_blt {E : Value → Shared → Prop} {pins : List (Addr × Obj)} {s : Shared} {σ : St} {H : Hp} {x : Str} {u : Value} {pos : Pos} {Q : Value → Shared → Prop} (I : Inv X pins σ H s) (hg : Gl X x) (hm : X.mg x = none) (hv : bootBuiltins x = some u) (h : Q u s)
    (hn : x ≠ "__name__" := by decide) (hd : (x == ("__debug__" : Str)) = false := by decide) : wpAny (model X.prog X.w) X.A (eval (.Name x pos) X.env) Q E s := by
  obtain ⟨mb, h1, h2⟩ := I.mod.blt
  exact Calls.Name_function_global I.ok.kind hg (Calls.loadGlobal_builtin (by rw [I.ok.glob]; exact I.mod.glob.keeps I.bk) hm (by rw [I.ok.blt]; exact h1.keeps I.bk) ((h2 x hn).trans hv) h) hd
/-- a module's constant, a class, a function, as a value -/
theorem pe_glob {x : Str} {v : V} {u : Value} {pos : Pos} (hg : Gl X x) (hm : X.mg x = some u) (r : RelV v u) (hd : (x == ("__debug__" : Str)) = false := by decide) : PE X (.Name x pos) (tC v) :=
  fun _ _ _ H _ I h => ld_glob I hg hm ⟨v, H, I, r, h⟩ hd
theorem pe_bltn {x : Str} {v : V} {u : Value} {pos : Pos} (hg : Gl X x) (hm : X.mg x = none) (hv : bootBuiltins x = some u) (r : RelV v u) (hn : x ≠ "__name__" := by decide) (hd : (x == ("__debug__" : Str)) = false := by decide) : PE X (.Name x pos) (tC v) :=
  fun _ _ _ H _ I h => ld_blt I hg hm hv ⟨v, H, I, r, h⟩ hn hd

/-! ### arithmetic -/
variable {a b : Expr} {ta tb : TE} {pos : Pos}
/-! ### comparisons -/
def PC (X : Cx) (op : CmpOp) (a b : Expr) (t : TE) : Prop :=
  ∀ (pins : List (Addr × Obj)) (s : Shared) (σ : St) (H : Hp) (Q : VK), Inv X pins σ H s → t σ H Q →
    wpAny (model X.prog X.w) X.A (eval a X.env) (fun v s₁ => wpAny (model X.prog X.w) X.A (eval b X.env) (fun u s₂ => wpAny (model X.prog X.w) X.A (compareOp op v u) (EP X pins σ Q) X.xe s₂) X.xe s₁) X.xe s
theorem nobehind (b : Expr) {op : CmpOp} (h : op ≠ .In) (h2 : op ≠ .NotIn) : behindInMarks op b = false := by
  have e1 : (op == CmpOp.In) = false := by cases op <;> first | rfl | exact absurd rfl h
  have e2 : (op == CmpOp.NotIn) = false := by cases op <;> first | rfl | exact absurd rfl h2
  cases b <;> simp [behindInMarks, e1, e2]
/-- a comparison as a value, as a test -/
def tB (t : TE) : TT := fun σ H Q => t σ H fun x H1 => ∃ c, x = .bl c ∧ Q c H1
theorem pt_cmp {op : CmpOp} {t : TE} (h : PC X op a b t) (h1 : behindInMarks op b = false := by first | exact nobehind _ (by decide) (by decide) | rfl) : PT X (.Compare a [op] [b] pos) (tB t) := by
  intro pins s σ H Q I hw
  refine wpAny_isTrue_Compare1 (thn (h pins s σ H _ I hw) fun v s1 h1 => thn h1 fun u s2 h2 => thn h2 fun c s3 ⟨x, H1, I1, r1, q1⟩ => ?_) h1
  obtain ⟨d, rfl, q⟩ := q1
  cases r1
  exact wpAny_truthy_bool ⟨H1, I1, q⟩
/-- an expression whose value is a bool, as a test -/
theorem pt_val {e : Expr} {t : TE} (h : PE X e t) (he : ∀ whole, isTrue e X.env whole = (do let v ← whole; standAt e.pos; holding [v] (truthy v)) := by intro _; rfl) : PT X e (tB t) := by
  intro pins s σ H Q I hw
  refine isTrue_plain (thn (h pins s σ H _ I hw) fun v s1 ⟨x, H1, I1, r1, q1⟩ => ?_) (he _)
  obtain ⟨d, rfl, q⟩ := q1
  cases r1
  exact wpAny_truthy_bool ⟨H1, I1, q⟩

/-! ### and, or, not -/
variable {tA tB' : TT} {rest : List Expr}
def tAnd (t u : TT) : TT := fun σ H Q => t σ H fun c H1 => if c = true then u σ H1 Q else Q false H1
def tOr (t u : TT) : TT := fun σ H Q => t σ H fun c H1 => if c = true then Q true H1 else u σ H1 Q
def tNot (t : TT) : TT := fun σ H Q => t σ H fun c H1 => Q (!c) H1
theorem pw_and1 (ha : PT X a tA) : PW X (.BoolOp .And [a] pos) tA := by
  intro wh pins s σ H Q I h
  refine isTrue_and (thn (ha pins s σ H Q I h) fun c s1 e => ?_)
  cases c with
  | true => exact isTrue_and_nil e
  | false => exact e
theorem pw_or1 (ha : PT X a tA) : PW X (.BoolOp .Or [a] pos) tA := by
  intro wh pins s σ H Q I h
  refine isTrue_or (thn (ha pins s σ H Q I h) fun c s1 e => ?_)
  cases c with
  | false => exact isTrue_or_nil e
  | true => exact e
theorem pw_and (ha : PT X a tA) (hb : PW X (.BoolOp .And (b :: rest) pos) tB') : PW X (.BoolOp .And (a :: b :: rest) pos) (tAnd tA tB') := by
  intro wh pins s σ H Q I h
  refine isTrue_and (thn (ha pins s σ H _ I h) fun c s1 ⟨H1, I1, q1⟩ => ?_)
  cases c with
  | true => exact hb wh pins s1 σ H1 Q I1 q1
  | false => exact ⟨H1, I1, q1⟩
theorem pw_or (ha : PT X a tA) (hb : PW X (.BoolOp .Or (b :: rest) pos) tB') : PW X (.BoolOp .Or (a :: b :: rest) pos) (tOr tA tB') := by
  intro wh pins s σ H Q I h
  refine isTrue_or (thn (ha pins s σ H _ I h) fun c s1 ⟨H1, I1, q1⟩ => ?_)
  cases c with
  | true => exact ⟨H1, I1, q1⟩
  | false => exact hb wh pins s1 σ H1 Q I1 q1
theorem pt_not (ha : PT X a tA) : PT X (.UnaryOp .Not a pos) (tNot tA) := by
  intro pins s σ H Q I h
  exact isTrue_not (ha pins s σ H (fun c H1 => Q (!c) H1) I h)
/-- .. as values (bools) -/
def tAndV (ta tb : TE) : TE := fun σ H Q => ta σ H fun x H1 => ∃ c, x = .bl c ∧ if c = true then tb σ H1 Q else Q (.bl false) H1
def tNotV (ta : TE) : TE := fun σ H Q => ta σ H fun x H1 => ∃ c, x = .bl c ∧ Q (.bl (!c)) H1
theorem pe_one {op} {t : TE} (h : PE X a t) : PE X (.BoolOp op [a] pos) t := fun pins s σ H Q I hw => BoolOp_one (h pins s σ H Q I hw)
theorem pe_and (ha : PE X a ta) (hb : PE X (.BoolOp .And (b :: rest) pos) tb) : PE X (.BoolOp .And (a :: b :: rest) pos) (tAndV ta tb) := by
  intro pins s σ H Q I h
  refine BoolOp_and (thn (ha pins s σ H _ I h) fun v s1 ⟨x, H1, I1, r1, q1⟩ => ?_)
  obtain ⟨c, rfl, q1⟩ := q1
  cases r1
  refine wpAny_truthy_bool ?_
  cases c with
  | true => exact hb pins s1 σ H1 Q I1 q1
  | false => exact ⟨.bl false, H1, I1, rfl, q1⟩
theorem pe_not (ha : PE X a ta) : PE X (.UnaryOp .Not a pos) (tNotV ta) := by
  intro pins s σ H Q I h
  refine UnaryOp_ (thn (ha pins s σ H _ I h) fun v s1 ⟨x, H1, I1, r1, q1⟩ => ?_)
  obtain ⟨c, rfl, q1⟩ := q1
  cases r1
  exact not_of (wpAny_truthy_bool ⟨.bl (!c), H1, I1, rfl, q1⟩)
/-- a if t else b -/
def tIf (t : TT) (ta tb : TE) : TE := fun σ H Q => t σ H fun c H1 => if c = true then ta σ H1 Q else tb σ H1 Q
theorem pe_ifExp {c : Expr} (hc : PT X c tA) (ha : PE X a ta) (hb : PE X b tb) : PE X (.IfExp c a b pos) (tIf tA ta tb) := by
  intro pins s σ H Q I h
  refine wpAny_IfExp (thn (hc pins s σ H _ I h) fun d s1 ⟨H1, I1, q1⟩ => ?_)
  cases d with
  | true => exact ha pins s1 σ H1 Q I1 q1
  | false => exact hb pins s1 σ H1 Q I1 q1
end
end L2

namespace L2
open PySem PySem.Spec PyProof.Rows

/-! ### a list, a tuple that is read: tracked, frozen, or an object of the module -/
def SqL (K : PySem.W.Frag) (H : Hp) (a : Addr) (xs : List V) : Prop :=
  Rd H a (.lst xs) ∨
    ∃ (o : Obj) (its : Array Value) (n : Nat), K.lookup a = some o ∧ o.cls = .type "list" ∧ o.dict = none ∧ o.data = .seq its n ∧ its.size ≤ sizeLine ∧ Vals xs its.toList
def SqT (K : PySem.W.Frag) (H : Hp) (a : Addr) (xs : List V) : Prop :=
  Rd H a (.tup xs) ∨
    ∃ (o : Obj) (its : Array Value) (n : Nat), K.lookup a = some o ∧ o.cls = .type "tuple" ∧ o.data = .seq its n ∧ its.size ≤ sizeLine ∧ Vals xs its.toList
def absV : Value → Option V
  | .none => some .non
  | .bool b => some (.bl b)
  | .int i _ => some (.int i)
  | .str x _ => some (.str x)
  | .bytes b _ => some (.byt b)
  | .float b _ => some (.flt b)
  | .ref a => some (.ref a)
  | .type n => some (.ty n)
  | _ => none
theorem RelV.abs {x : V} {u : Value} (r : RelV x u) : absV u = some x := by
  cases x with
  | non => cases r; rfl
  | bl _ => cases r; rfl
  | int _ => obtain ⟨t, rfl⟩ := r; rfl
  | str _ => obtain ⟨t, rfl⟩ := r; rfl
  | byt _ => obtain ⟨t, rfl⟩ := r; rfl
  | flt _ => obtain ⟨t, rfl⟩ := r; rfl
  | ref _ => cases r; rfl
  | ty _ => cases r; rfl
theorem RelV.inj {x y : V} {u : Value} (r : RelV x u) (q : RelV y u) : x = y := Option.some.inj (r.abs.symm.trans q.abs)
theorem Vals.inj : ∀ {xs ys : List V} {us : List Value}, Vals xs us → Vals ys us → xs = ys
  | _, _, _, .nil, .nil => rfl
  | _, _, _, .cons r t, .cons r' t' => by rw [r.inj r', Vals.inj t t']
section
variable {X : Cx} {pins : List (Addr × Obj)} {σ : St} {H : Hp} {s : Shared} {a : Addr} {xs ys : List V}
theorem SqL.of {K : PySem.W.Frag} (h : H a = some (.lst xs)) : SqL K H a xs := .inl (.inl h)
theorem SqT.of {K : PySem.W.Frag} (h : H a = some (.tup xs)) : SqT K H a xs := .inl (.inl h)
theorem Inv.list (I : Inv X pins σ H s) (h : SqL X.K H a xs) : ∃ its : List Value, Vals xs its ∧ PlainL s.heap a its.toArray ∧ xs.length ≤ sizeLine := by
  rcases h with h | ⟨o, its, n, hk, hc, hd, hs, hz, r⟩
  · obtain ⟨z, its, n, r, e⟩ := h.ok I.hok
    exact ⟨its, r, ⟨_, n, e, rfl, rfl, rfl⟩, z⟩
  · refine ⟨its.toList, r, ⟨o, n, I.kIn a o hk, hc, hd, by simpa using hs⟩, ?_⟩
    have e := r.length
    simp only [Array.length_toList] at e
    omega
theorem Inv.tuple (I : Inv X pins σ H s) (h : SqT X.K H a xs) : ∃ its : List Value, Vals xs its ∧ IsTup s.heap a its.toArray ∧ xs.length ≤ sizeLine := by
  rcases h with h | ⟨o, its, n, hk, hc, hs, hz, r⟩
  · obtain ⟨z, its, r, p⟩ := h.ok I.hok
    exact ⟨its, r, p, z⟩
  · refine ⟨its.toList, r, ⟨o, I.kIn a o hk, hc, n, by simpa using hs⟩, ?_⟩
    have e := r.length
    simp only [Array.length_toList] at e
    omega
theorem Inv.list_inj (I : Inv X pins σ H s) (h : SqL X.K H a xs) (h' : SqL X.K H a ys) : xs = ys := by
  obtain ⟨its, r, ⟨o, n, e, _, _, d⟩, _⟩ := I.list h
  obtain ⟨its', r', ⟨o', n', e', _, _, d'⟩, _⟩ := I.list h'
  rw [e] at e'; cases e'
  rw [d] at d'
  injection d' with d1 _
  have : its = its' := by simpa using congrArg Array.toList d1
  subst this
  exact r.inj r'
theorem Inv.tuple_inj (I : Inv X pins σ H s) (h : SqT X.K H a xs) (h' : SqT X.K H a ys) : xs = ys := by
  obtain ⟨its, r, ⟨o, e, _, n, d⟩, _⟩ := I.tuple h
  obtain ⟨its', r', ⟨o', e', _, n', d'⟩, _⟩ := I.tuple h'
  rw [e] at e'; cases e'
  rw [d] at d'
  injection d' with d1 _
  have : its = its' := by simpa using congrArg Array.toList d1
  subst this
  exact r.inj r'
end

/-! ### another wish about exceptions -/
abbrev Cx.wish (X : Cx) (E : Value → Shared → Prop) : Cx := { X with xe := E }
/-- no exception leaves -/
abbrev Cx.nox (X : Cx) : Cx := X.wish fun _ _ => False
theorem Cx.Ok.wish {X : Cx} (ok : X.Ok) (E : Value → Shared → Prop) : (X.wish E).Ok :=
  ⟨ok.mod, ok.kind, ok.glob, ok.blt, ok.above, ok.inj, ok.has, ok.cab, ok.hd, ok.frames, ok.stk, ok.exf, ok.bs, ok.bsz, ok.noex, ok.exfs, ok.funs, ok.frf⟩
theorem Cx.Ok.unwish {X : Cx} {E : Value → Shared → Prop} (ok : (X.wish E).Ok) : X.Ok :=
  ⟨ok.mod, ok.kind, ok.glob, ok.blt, ok.above, ok.inj, ok.has, ok.cab, ok.hd, ok.frames, ok.stk, ok.exf, ok.bs, ok.bsz, ok.noex, ok.exfs, ok.funs, ok.frf⟩
section
variable {X : Cx} {pins : List (Addr × Obj)} {σ : St} {H : Hp} {s : Shared} {E : Value → Shared → Prop}
theorem Inv.wish (I : Inv X pins σ H s) (E : Value → Shared → Prop) : Inv (X.wish E) pins σ H s := ⟨I.ok.wish E, I.os, I.bare, I.base, I.loc, I.cell, I.free, I.freeC, I.pin, I.hok, I.len⟩
theorem Inv.unwish (I : Inv (X.wish E) pins σ H s) : Inv X pins σ H s := ⟨I.ok.unwish, I.os, I.bare, I.base, I.loc, I.cell, I.free, I.freeC, I.pin, I.hok, I.len⟩
theorem SP.unwish {D : Ends} {f : Flow} {s' : Shared} (h : SP (X.wish E) pins D f s') : SP X pins D f s' := by
  cases f with
  | next => obtain ⟨σ', H', I, q⟩ := h; exact ⟨σ', H', I.unwish, q⟩
  | brk => obtain ⟨σ', H', I, q⟩ := h; exact ⟨σ', H', I.unwish, q⟩
  | cont => obtain ⟨σ', H', I, q⟩ := h; exact ⟨σ', H', I.unwish, q⟩
  | ret u => obtain ⟨v, σ', H', I, r, q⟩ := h; exact ⟨v, σ', H', I.unwish, r, q⟩
theorem PSs.nox {st : List Stmt} {t : TS} (h : PSs X.nox st t) : PSs X st t := fun pins s σ H D I hw =>
  wpAny_mono (h pins s σ H D (I.wish _) hw) (fun _ _ q => q.unwish) fun _ _ z => False.elim z
end

/-! ### blocks and small statements -/
section
variable {X : Cx} {st : Stmt} {rest : List Stmt} {t u : TS} {e : Expr} {te : TE} {pos : Pos}
def tNext : TS := fun D σ H => D.nx σ H
def tSeq (t u : TS) : TS := fun D σ H => t { D with nx := u D } σ H
theorem pss_nil : PSs X [] tNext := fun _ _ σ H _ I h => wpAny_execs_nil ⟨σ, H, I, h⟩
theorem pss_cons (h1 : PS X st t) (h2 : PSs X rest u) : PSs X (st :: rest) (tSeq t u) := by
  intro pins s σ H D I h
  refine wpAny_execs_cons (thn (h1 pins s σ H { D with nx := u D } I h) fun f s1 q => ?_)
  cases f with
  | next =>
    obtain ⟨σ', H', I', q⟩ := q
    exact h2 pins s1 σ' H' D I' q
  | ret v => exact q
  | brk => exact q
  | cont => exact q
theorem pss_one (h1 : PS X st t) : PSs X [st] t := by
  intro pins s σ H D I h
  refine wpAny_execs_cons (thn (h1 pins s σ H D I h) fun f s1 q => ?_)
  cases f with
  | next => exact wpAny_execs_nil q
  | ret v => exact q
  | brk => exact q
  | cont => exact q
/-- in a def's body nothing is shown -/
theorem Inv.quiet {pins : List (Addr × Obj)} {σ : St} {H : Hp} {s : Shared} (I : Inv X pins σ H s) : interactive X.env = false := by simp [interactive, I.ok.kind]
/-- an expression whose value is dropped -/
def tDrop (te : TE) : TS := fun D σ H => te σ H fun _ H1 => D.nx σ H1
theorem ps_expr (he : PE X e te) (hs : swapsWith e none pos.line X.env = pure false := by rfl) : PS X (.Expr e pos) (tDrop te) := by
  intro pins s σ H D I h
  exact wpAny_Expr_any (thn (he pins s σ H _ I h) fun v s1 ⟨x, H1, I1, r1, q1⟩ => ⟨σ, H1, I1, q1⟩) I.quiet hs
def tRet (te : TE) : TS := fun D σ H => te σ H D.rt
theorem ps_ret (he : PE X e te) : PS X (.Return (some e) pos) (tRet te) := by
  intro pins s σ H D I h
  exact wpAny_Return_some (thn (he pins s σ H _ I h) fun v s1 ⟨x, H1, I1, r1, q1⟩ => ⟨x, σ, H1, I1, r1, q1⟩)
def tIfS (c : TT) (t u : TS) : TS := fun D σ H => c σ H fun b H1 => if b = true then t D σ H1 else u D σ H1
theorem ps_if {c : Expr} {a b : List Stmt} {tc : TT} (hc : PT X c tc) (ha : PSs X a t) (hb : PSs X b u) : PS X (.If c a b pos) (tIfS tc t u) := by
  intro pins s σ H D I h
  refine wpAny_If (thn (hc pins s σ H _ I h) fun d s1 ⟨H1, I1, q1⟩ => ?_)
  cases d with
  | true => exact ha pins s1 σ H1 D I1 q1
  | false => exact hb pins s1 σ H1 D I1 q1
end

/-! ### targets -/
abbrev TG := V → St → Hp → (St → Hp → Prop) → Prop
abbrev TGs := List V → St → Hp → (St → Hp → Prop) → Prop
def PG (X : Cx) (target : Expr) (t : TG) : Prop :=
  ∀ (pins : List (Addr × Obj)) (s : Shared) (σ : St) (H : Hp) (v : V) (u : Value) (Q : St → Hp → Prop), Inv X pins σ H s → RelV v u → t v σ H Q →
    wpAny (model X.prog X.w) X.A (assign target X.env u) (fun _ s' => ∃ σ' H', Inv X pins σ' H' s' ∧ Q σ' H') X.xe s
/-- several targets, one after another -/
def PGs (X : Cx) (ts : List Expr) (t : TGs) : Prop :=
  ∀ (pins : List (Addr × Obj)) (s : Shared) (σ : St) (H : Hp) (vs : List V) (us : List Value) (Q : St → Hp → Prop), Inv X pins σ H s → Vals vs us → t vs σ H Q →
    wpAny (model X.prog X.w) X.A (assignInOrder ((assignEach ts X.env).map (·.2)) us) (fun _ s' => ∃ σ' H', Inv X pins σ' H' s' ∧ Q σ' H') X.xe s
/-- o[i] = v, by values -/
abbrev TSet := V → V → V → Hp → (Hp → Prop) → Prop
def PSet (X : Cx) (t : TSet) : Prop :=
  ∀ (pins : List (Addr × Obj)) (s : Shared) (σ : St) (H : Hp) (o i v : V) (ov iv u : Value) (Q : Hp → Prop), Inv X pins σ H s → RelV o ov → RelV i iv → RelV v u → t o i v H Q →
    wpAny (model X.prog X.w) X.A (setItem ov iv u) (fun _ s' => ∃ H', Inv X pins σ H' s' ∧ Q H') X.xe s
section
variable {X : Cx} {pos : Pos}
def gName (i : Nat) : TG := fun v σ H Q => Q (σ.set i (some v)) H
theorem pg_name {i : Nat} {x : Str} (hN : X.N.Nodup) (hi : X.N[i]? = some x) (hx : Loc X.env.scope x) (hf : X.fn x = true ∨ X.env.scope.names.lookup x = some .local := by first | exact .inl rfl | exact .inr rfl | assumption) : PG X (.Name x pos) (gName i) := by
  intro pins s σ H v u Q I r h
  exact wpAny_assign_Name (store_ok I hN hi hx r (fun s' I' => ⟨_, H, I', h⟩) hf)
def gNil : TGs := fun vs σ H Q => vs = [] ∧ Q σ H
def gCons (t : TG) (u : TGs) : TGs := fun vs σ H Q => ∃ v r, vs = v :: r ∧ t v σ H fun σ' H' => u r σ' H' Q
theorem pgs_nil : PGs X [] gNil := by
  intro pins s σ H vs us Q I r h
  obtain ⟨e, h⟩ := h
  subst e
  cases r
  exact assignInOrder_nil ⟨σ, H, I, h⟩
theorem pgs_cons {e : Expr} {es : List Expr} {t : TG} {u : TGs} (h1 : PG X e t) (h2 : PGs X es u)
    (hs : (assignEach (e :: es) X.env).map (·.2) = assign e X.env :: (assignEach es X.env).map (·.2) := by rfl) : PGs X (e :: es) (gCons t u) := by
  intro pins s σ H vs us Q I r h
  obtain ⟨v, vr, e1, h⟩ := h
  subst e1
  cases r with
  | cons r rr =>
    rw [hs]
    refine assignInOrder_cons (thn (h1 pins s σ H _ _ _ I r h) fun _ s1 ⟨σ1, H1, I1, q1⟩ => ?_)
    exact h2 pins s1 σ1 H1 _ _ Q I1 rr q1
/-- (a, b, ..) = a tuple of that length -/
def gTup (K : PySem.W.Frag) (n : Nat) (t : TGs) : TG := fun v σ H Q => ∃ a xs, v = .ref a ∧ SqT K H a xs ∧ xs.length = n ∧ t xs σ H Q
theorem pg_tup {es : List Expr} {k : Nat} {t : TGs} {n : Nat} (hc : X.calm = true) (h : PGs X es t)
    (hn : (assignEach es X.env).length = n := by rfl) (hst : (assignEach es X.env).findIdx? (·.1) = none := by rfl) : PG X (.Tuple es k pos) (gTup X.K n t) := by
  intro pins s σ H v u Q I r hw
  obtain ⟨a, xs, e1, hq, hl, hw⟩ := hw
  subst e1
  cases r
  obtain ⟨its, rv, ht, hz⟩ := I.tuple hq
  refine assign_Tuple_tuple (I.ok.hd hc) ht (by simp [hn, ← hl, rv.length]) hst fun h' hx => ?_
  have I1 : Inv X pins σ H { s with heap := h' } := I.kept (t' := s.toks) fun b o e => hx b o (Nat.ne_of_lt (Heap.lt_size e)) e
  exact h pins _ σ H xs _ Q I1 (by simpa using rv) hw
/-- o[i] = .. -/
def gSub (to ti : TE) (t : TSet) : TG := fun v σ H Q => to σ H fun o H1 => ti σ H1 fun i H2 => t o i v H2 fun H3 => Q σ H3
theorem pg_sub {o i : Expr} {to ti : TE} {t : TSet} (ho : PE X o to) (hi : PE X i ti) (hs : PSet X t)
    (ha : ∀ v, assign (.Subscript o i pos) X.env v = (do
      let ov ← holding [v] (eval o X.env)
      let iv ← holding [v, ov] (eval i X.env)
      standAt pos
      holding [v, ov, iv] (setItem ov iv v)
      release [v, ov, iv] []) := by intro _; rfl) : PG X (.Subscript o i pos) (gSub to ti t) := by
  intro pins s σ H v u Q I r h
  rw [ha]
  refine wpAny_bind (wpAny_holding (thn (ho pins s σ H _ I h) fun ov s1 ⟨x, H1, I1, r1, q1⟩ => ?_))
  refine wpAny_bind (wpAny_holding (thn (hi pins s1 σ H1 _ I1 q1) fun iv s2 ⟨y, H2, I2, r2, q2⟩ => ?_))
  refine wpAny_bind (wpAny_standAt (wpAny_bind (wpAny_holding (thn (hs pins s2 σ H2 x y v ov iv u _ I2 r1 r2 r q2) fun _ s3 ⟨H3, I3, q3⟩ => ?_))))
  exact wpAny_release ⟨σ, H3, I3, q3⟩
/-- target = value -/
def tAsg (te : TE) (g : TG) : TS := fun D σ H => te σ H fun x H1 => g x σ H1 D.nx
theorem ps_asg {tg e : Expr} {te : TE} {g : TG} (he : PE X e te) (hg : PG X tg g) (hs : swapsWithSole [tg] e pos.line X.env = pure false := by rfl) (hw : swappedStores [tg] e X.env = pure none := by rfl)
    (h1 : (assignEach [tg] X.env).map (·.2) = [assign tg X.env] := by rfl) : PS X (.Assign [tg] e pos) (tAsg te g) := by
  intro pins s σ H D I h
  refine wpAny_Assign_stores (thn (he pins s σ H _ I h) fun v s1 ⟨x, H1, I1, r1, q1⟩ => ?_) hs hw
  rw [h1]
  exact thn (hg pins s1 σ H1 x v _ I1 r1 q1) fun _ s2 q => q
/-- name = value -/
theorem ps_set {i : Nat} {x : Str} {e : Expr} {te : TE} {pos' : Pos} (hN : X.N.Nodup) (hi : X.N[i]? = some x) (hx : Loc X.env.scope x) (he : PE X e te) (hs : swapsWith e (some (.Name x pos')) pos.line X.env = pure false := by rfl) (hf : X.fn x = true ∨ X.env.scope.names.lookup x = some .local := by first | exact .inl rfl | exact .inr rfl | assumption) :
    PS X (.Assign [.Name x pos'] e pos) (tAsg te (gName i)) := by
  intro pins s σ H D I h
  refine wpAny_Assign_Name (thn (he pins s σ H _ I h) fun v s1 ⟨y, H1, I1, r1, q1⟩ => ?_) hs
  exact store_ok I1 hN hi hx r1 (fun s2 I2 => ⟨_, H1, I2, q1⟩) hf
end

/-! ### while -/
section
variable {X : Cx} {pos : Pos}
end

/-! ### what a loop or a comprehension walks -/
/-- at turn i: it yields x (the heap may grow), or it stops -/
structure It where
  go : Nat → Hp → Prop
  yld : Nat → Hp → V → Hp → Prop
  stop : Nat → Hp → Prop
/-- the iterator's own objects may turn: they are not the frame's, not pinned, younger than the entry (or a comprehension's own) -/
def FpOk (X : Cx) (pins : List (Addr × Obj)) (H : Hp) (b : Addr) : Prop :=
  H b = none ∧ b ≠ X.env.locals ∧ b ∉ X.fs ∧ (b ∈ X.ex ∨ X.s₀.heap.objs.size ≤ b) ∧ (∀ x c, X.env.cells.lookup x = some c → c ≠ b) ∧ ∀ p ∈ X.pn ++ pins, p.1 ≠ b
theorem Inv.fpOk {X : Cx} {pins : List (Addr × Obj)} {σ : St} {H H' : Hp} {s : Shared} {b : Addr} (I : Inv X pins σ H s) (hb : s.heap.objs.size ≤ b) (hn : H' b = none) : FpOk X pins H' b := by
  refine ⟨hn, Nat.ne_of_gt (Nat.lt_of_lt_of_le I.lt hb), I.nofs hb, .inr (Nat.le_trans I.sz hb), fun x c e z => ?_, fun p hp z => ?_⟩
  · obtain ⟨v, q⟩ := I.cell x c e
    exact absurd (Nat.lt_of_lt_of_le q.lt (by rw [z]; exact hb)) (Nat.lt_irrefl _)
  · exact absurd (Nat.lt_of_lt_of_le (Heap.lt_size (I.pin p hp).1) (by rw [z]; exact hb)) (Nat.lt_irrefl _)
structure Turn (P : Program) (w : World) (K : PySem.W.Frag) (tg : Expr) (J : It) (fp : List Addr) (it : Addr) (tn : Nat → Heap → Prop) : Prop where
  mem : it ∈ fp
  obj : ∀ i h, tn i h → ∀ b ∈ fp, ∃ o, h.get? b = some o ∧ ∀ v, o.data ≠ .cell v
  keep : ∀ i h h', tn i h → (∀ b ∈ fp, ∀ o, h.get? b = some o → h'.get? b = some o) → tn i h'
  item : ∀ (X : Cx), X.prog = P → X.w = w → X.K = K → X.calm = true → ∀ (i : Nat) (pins : List (Addr × Obj)) (s : Shared) (σ : St) (H : Hp) (E : Value → Shared → Prop), Inv X pins σ H s → (∀ b ∈ fp, FpOk X pins H b) → tn i s.heap → J.go i H →
    wpAny (model P w) X.A (pyNext (.ref it)) (fun r s1 => ∃ u, r = some u ∧
      wpAny (model P w) X.A (letOwnedTupleGo tg (.ref it) u) (fun _ s2 => ∃ x H', Inv X pins σ H' s2 ∧ RelV x u ∧ J.yld i H x H' ∧ tn (i + 1) s2.heap ∧ ∀ b ∈ fp, H' b = none) E s1) E s
  done : ∀ (X : Cx), X.prog = P → X.w = w → X.K = K → X.calm = true → ∀ (i : Nat) (pins : List (Addr × Obj)) (s : Shared) (σ : St) (H : Hp) (E : Value → Shared → Prop), Inv X pins σ H s → (∀ b ∈ fp, FpOk X pins H b) → tn i s.heap → J.stop i H →
    wpAny (model P w) X.A (pyNext (.ref it)) (fun r s1 => r = none ∧ Inv X pins σ H s1) E s
  self : ∀ (A : Around) (i : Nat) (s : Shared) (Q : Value → Shared → Prop) (E : Value → Shared → Prop), tn i s.heap → Q (.ref it) s → wpAny (model P w) A (pyIter (.ref it)) Q E s
abbrev TI := St → Hp → (It → Hp → Prop) → Prop
/-- an iterator has come -/
def PIE (X : Cx) (pins : List (Addr × Obj)) (σ : St) (tg : Expr) (R : It → Hp → Prop) (itv : Value) (s2 : Shared) : Prop :=
  ∃ (it : Addr) (fp : List Addr) (tn : Nat → Heap → Prop) (J : It) (H' : Hp), itv = .ref it ∧ Inv X pins σ H' s2 ∧ Turn X.prog X.w X.K tg J fp it tn ∧ tn 0 s2.heap ∧ (∀ b ∈ fp, FpOk X pins H' b) ∧ R J H'
def PI (X : Cx) (tg iter : Expr) (wi : TI) : Prop :=
  ∀ (pins : List (Addr × Obj)) (s : Shared) (σ : St) (H : Hp) (R : It → Hp → Prop), Inv X pins σ H s → wi σ H R →
    wpAny (model X.prog X.w) X.A (eval iter X.env) (fun v s1 => wpAny (model X.prog X.w) X.A (pyIter v) (PIE X pins σ tg R) X.xe s1) X.xe s

/-- the step ahead of the store is nothing for an iterator that keeps no tuple -/
theorem go_of {M : Model} {A : Around} {E : Value → Shared → Prop} {s : Shared} {tg : Expr} {it : Addr} {u : Value} {o : Obj} {n : String} {vs : Array Value} {Q : Unit → Shared → Prop} (ho : s.heap.get? it = some o) (hc : o.cls = .type n) (hd : o.data = .fields vs)
    (hn : ["enumerate", "zip", "dict_itemiterator", "dict_reverseitemiterator", "odict_iterator", "itertools.zip_longest", "itertools.pairwise"].contains n = false) (hQ : Q () s) : wpAny M A (letOwnedTupleGo tg (.ref it) u) Q E s := by
  unfold letOwnedTupleGo
  cases tg <;> first
    | exact wpAny_pure hQ
    | (cases u <;> first
        | exact wpAny_pure hQ
        | (refine wpAny_bind (wpAny_load ho ?_)
           rw [hc, hd]
           show wpAny M A (if (["enumerate", "zip", "dict_itemiterator", "dict_reverseitemiterator", "odict_iterator", "itertools.zip_longest", "itertools.pairwise"].contains n && vs[0]? == some (rawInt _)) = true then _ else _) Q E s
           rw [if_neg (by intro h; rw [hn, Bool.false_and] at h; cases h)]
           exact wpAny_pure hQ))

/-- the list at a, as it stands at each turn (a loop may append to it) -/
def Itl (K : PySem.W.Frag) (a : Addr) : It :=
  ⟨fun i H => ∃ xs x, SqL K H a xs ∧ xs[i]? = some x, fun i H x H' => H' = H ∧ ∀ xs, SqL K H a xs → xs[i]? = some x, fun i H => ∃ xs, SqL K H a xs ∧ xs.length ≤ i⟩
def Itt (K : PySem.W.Frag) (a : Addr) : It :=
  ⟨fun i H => ∃ xs x, SqT K H a xs ∧ xs[i]? = some x, fun i H x H' => H' = H ∧ ∀ xs, SqT K H a xs → xs[i]? = some x, fun i H => ∃ xs, SqT K H a xs ∧ xs.length ≤ i⟩
/-- lo, lo + 1, .. (n of them) -/
def Itr (lo : Int) (n : Nat) : It := ⟨fun i _ => i < n, fun i H x H' => H' = H ∧ x = .int (lo + i), fun i _ => n ≤ i⟩
theorem turn_list {P : Program} {w : World} {K : PySem.W.Frag} {tg : Expr} (a it : Addr) : Turn P w K tg (Itl K a) [it] it (fun i h => h.IsListIter it a i) where
  mem := by simp
  obj := fun i h st b hb => by
    have e : b = it := by simpa using hb
    subst e
    obtain ⟨o, e, c, d⟩ := st
    exact ⟨o, e, fun v z => by rw [d] at z; cases z⟩
  keep := fun i h h' st k => st.at fun o e => k it (by simp) o e
  item := by
    intro X hP hw hK hc i pins s σ H E I hf st hg
    subst hP hw hK
    obtain ⟨xs, x, hq, hx⟩ := hg
    obtain ⟨its, rv, p, hz⟩ := I.list hq
    obtain ⟨u, hu, ru⟩ := rv.get hx
    obtain ⟨f0, f1, f2, f3, f4, f5⟩ := hf it (by simp)
    refine wpAny_pyNext_list_item st p.isList (x := u) (by simpa using hu) fun h' st' sb => ?_
    have I1 : Inv X pins σ H { s with heap := h' } := I.turned (t' := s.toks) (fun b o hb e => (sb.2 b hb).trans e) f0 f1 f3 f4 f5
    obtain ⟨o, e, c, d⟩ := id st'
    exact ⟨u, rfl, go_of (s := { s with heap := h' }) e c d (by decide) ⟨x, H, I1, ru, ⟨rfl, fun ys hy => by rw [I.list_inj hy hq]; exact hx⟩, st', fun b hb => (hf b hb).1⟩⟩
  done := by
    intro X hP hw hK hc i pins s σ H E I hf st hg
    subst hP hw hK
    obtain ⟨xs, hq, hx⟩ := hg
    obtain ⟨its, rv, p, hz⟩ := I.list hq
    obtain ⟨f0, f1, f2, f3, f4, f5⟩ := hf it (by simp)
    have hl := rv.length
    exact wpAny_pyNext_list_end (I.ok.hd hc) st p.isList (by simp; omega) fun h' eb => ⟨rfl, I.turned (t' := s.toks) (fun b o hb e => eb b o hb e) f0 f1 f3 f4 f5⟩
  self := fun _ _ _ _ _ st h => wpAny_pyIter_listiter st h
theorem turn_tuple {P : Program} {w : World} {K : PySem.W.Frag} {tg : Expr} (a it : Addr) : Turn P w K tg (Itt K a) [it] it (fun i h => h.IsTupleIter it a i) where
  mem := by simp
  obj := fun i h st b hb => by
    have e : b = it := by simpa using hb
    subst e
    obtain ⟨o, e, c, d⟩ := st
    exact ⟨o, e, fun v z => by rw [d] at z; cases z⟩
  keep := fun i h h' st k => st.at fun o e => k it (by simp) o e
  item := by
    intro X hP hw hK hc i pins s σ H E I hf st hg
    subst hP hw hK
    obtain ⟨xs, x, hq, hx⟩ := hg
    obtain ⟨its, rv, p, hz⟩ := I.tuple hq
    obtain ⟨u, hu, ru⟩ := rv.get hx
    obtain ⟨f0, f1, f2, f3, f4, f5⟩ := hf it (by simp)
    refine wpAny_pyNext_tuple_item st (show s.heap.IsTuple a its.toArray from p) (x := u) (by simpa using hu) fun h' st' sb => ?_
    have I1 : Inv X pins σ H { s with heap := h' } := I.turned (t' := s.toks) (fun b o hb e => (sb.2 b hb).trans e) f0 f1 f3 f4 f5
    obtain ⟨o, e, c, d⟩ := id st'
    exact ⟨u, rfl, go_of (s := { s with heap := h' }) e c d (by decide) ⟨x, H, I1, ru, ⟨rfl, fun ys hy => by rw [I.tuple_inj hy hq]; exact hx⟩, st', fun b hb => (hf b hb).1⟩⟩
  done := by
    intro X hP hw hK hc i pins s σ H E I hf st hg
    subst hP hw hK
    obtain ⟨xs, hq, hx⟩ := hg
    obtain ⟨its, rv, p, hz⟩ := I.tuple hq
    obtain ⟨f0, f1, f2, f3, f4, f5⟩ := hf it (by simp)
    have hl := rv.length
    exact wpAny_pyNext_tuple_end (I.ok.hd hc) st (show s.heap.IsTuple a its.toArray from p) (by simp; omega) fun h' eb => ⟨rfl, I.turned (t' := s.toks) (fun b o hb e => eb b o hb e) f0 f1 f3 f4 f5⟩
  self := fun _ _ _ _ _ st h => wpAny_pyIter_tupleiter st h
theorem turn_range {P : Program} {w : World} {K : PySem.W.Frag} {tg : Expr} (it : Addr) (lo : Int) (n : Nat) : Turn P w K tg (Itr lo n) [it] it (fun i h => IsRangeIter h it (lo + (i : Nat) * 1) ((n : Int) - (i : Nat)) 1) where
  mem := by simp
  obj := fun i h st b hb => by
    have e : b = it := by simpa using hb
    subst e
    exact ⟨_, st, fun v z => by
      have z' : Data.fields _ = Data.cell v := z
      cases z'⟩
  keep := fun i h h' st k => k it (by simp) _ st
  item := by
    intro X hP hw hK hc i pins s σ H E I hf st hg
    subst hP hw hK
    obtain ⟨f0, f1, f2, f3, f4, f5⟩ := hf it (by simp)
    have W := Walks.range (prog := X.prog) (w := X.w) (I.ok.hd hc) it lo 1 n
    refine W.item i s _ _ hg st fun v h' tk hv st' kk => ?_
    obtain ⟨t, rfl⟩ := hv
    have I1 : Inv X pins σ H { s with heap := h', toks := tk } := I.turned (fun b o hb e => kk b o (by simpa using hb) e) f0 f1 f3 f4 f5
    refine ⟨_, rfl, go_of (s := { s with heap := h', toks := tk }) (n := "range_iterator") st' rfl rfl (by decide) ⟨.int (lo + i), H, I1, ⟨t, ?_⟩, ⟨rfl, rfl⟩, st', fun b hb => (hf b hb).1⟩⟩
    rw [Int.mul_one]
  done := by
    intro X hP hw hK hc i pins s σ H E I hf st hg
    subst hP hw hK
    obtain ⟨f0, f1, f2, f3, f4, f5⟩ := hf it (by simp)
    exact wpAny_pyNext_range_end (I.ok.hd hc) st (by have : n ≤ i := hg; omega) fun h' eb => ⟨rfl, I.turned (t' := s.toks) (fun b o hb e => eb b o hb e) f0 f1 f3 f4 f5⟩
  self := fun _ _ _ _ _ st h => wpAny_pyIter_rangeiter st h
end L2

namespace L2
open PySem PySem.Spec PyProof.Rows
section
variable {X : Cx} {tg : Expr}
def iList (K : PySem.W.Frag) (tl : TE) : TI := fun σ H R => tl σ H fun x H1 => ∃ a, x = .ref a ∧ (∃ xs, SqL K H1 a xs) ∧ R (Itl K a) H1
def iTup (K : PySem.W.Frag) (tl : TE) : TI := fun σ H R => tl σ H fun x H1 => ∃ a, x = .ref a ∧ (∃ xs, SqT K H1 a xs) ∧ R (Itt K a) H1
theorem pi_list {l : Expr} {tl : TE} (hl : PE X l tl) : PI X tg l (iList X.K tl) := by
  intro pins s σ H R I h
  refine thn (hl pins s σ H _ I h) fun v s1 ⟨x, H1, I1, r1, q1⟩ => ?_
  obtain ⟨a, e, ⟨xs, hq⟩, q⟩ := q1
  subst e
  cases r1
  obtain ⟨its, rv, p, hz⟩ := I1.list hq
  refine wpAny_pyIter_list p.isList ?_
  refine ⟨s1.heap.objs.size, [s1.heap.objs.size], _, _, H1, rfl, I1.kept (t' := s1.toks) fun b o e => Heap.get?_push_of_some _ e, turn_list a _, ⟨_, Heap.get?_push_size _ rfl, rfl, rfl⟩, fun b hb => ?_, q⟩
  have e : b = s1.heap.objs.size := by simpa using hb
  subst e
  exact I1.fpOk (Nat.le_refl _) (I1.hok.fresh (Nat.le_refl _))
theorem pi_tup {l : Expr} {tl : TE} (hl : PE X l tl) : PI X tg l (iTup X.K tl) := by
  intro pins s σ H R I h
  refine thn (hl pins s σ H _ I h) fun v s1 ⟨x, H1, I1, r1, q1⟩ => ?_
  obtain ⟨a, e, ⟨xs, hq⟩, q⟩ := q1
  subst e
  cases r1
  obtain ⟨its, rv, p, hz⟩ := I1.tuple hq
  refine wpAny_pyIter_tuple (show s1.heap.IsTuple a its.toArray from p) ?_
  refine ⟨s1.heap.objs.size, [s1.heap.objs.size], _, _, H1, rfl, I1.kept (t' := s1.toks) fun b o e => Heap.get?_push_of_some _ e, turn_tuple a _, ⟨_, Heap.get?_push_size _ rfl, rfl, rfl⟩, fun b hb => ?_, q⟩
  have e : b = s1.heap.objs.size := by simpa using hb
  subst e
  exact I1.fpOk (Nat.le_refl _) (I1.hok.fresh (Nat.le_refl _))
/-- a range object just made, walked -/
theorem range_it {pins : List (Addr × Obj)} {σ : St} {H : Hp} {s : Shared} {R : It → Hp → Prop} {E : Value → Shared → Prop} {lo hi : Int} {t u v : Tok} {tk : Nat} (I : Inv X pins σ H s) (h1 : -(2 ^ 62) ≤ lo) (h2 : lo < 2 ^ 62) (h3 : -(2 ^ 62) ≤ hi) (h4 : hi < 2 ^ 62)
    (q : R (Itr lo (hi - lo).toNat) H) : wpAny (model X.prog X.w) X.A (pyIter (.ref s.heap.objs.size)) (PIE X pins σ tg R) E { s with heap := s.heap.push { cls := .type "range", data := .fields #[.int lo t, .int hi u, .int 1 v] }, toks := tk } := by
  refine wpAny_pyIter_range (IsRange.new ..) (small_one h1 h2 h3 h4) ?_
  have I1 : Inv X pins σ H { s with heap := s.heap.push { cls := .type "range", data := .fields #[.int lo t, .int hi u, .int 1 v] }, toks := tk } := I.kept fun b o e => Heap.get?_push_of_some _ e
  refine ⟨(s.heap.push { cls := .type "range", data := .fields #[.int lo t, .int hi u, .int 1 v] }).objs.size, [(s.heap.push { cls := .type "range", data := .fields #[.int lo t, .int hi u, .int 1 v] }).objs.size], _, _, H, rfl,
    I1.kept (t' := tk) fun b o e => Heap.get?_push_of_some _ e, turn_range _ lo (hi - lo).toNat, ?_, fun b hb => ?_, q⟩
  · have e1 : lo + ((0 : Nat) : Int) * 1 = lo := by simp
    have e2 : (((hi - lo).toNat : Nat) : Int) - ((0 : Nat) : Int) = Builtin.Range.rangeSize lo hi 1 := by rw [rangeSize_one]; split <;> omega
    show IsRangeIter _ _ (lo + ((0 : Nat) : Int) * 1) ((((hi - lo).toNat : Nat) : Int) - ((0 : Nat) : Int)) 1
    rw [e1, e2]
    exact Heap.get?_push_size _ rfl
  · have e : b = (s.heap.push { cls := .type "range", data := .fields #[.int lo t, .int hi u, .int 1 v] }).objs.size := by simpa using hb
    subst e
    exact I1.fpOk (Nat.le_refl _) (I1.hok.fresh (Nat.le_refl _))
def iRng1 (ta : TA) : TI := fun σ H R => ta σ H fun vs H1 => ∃ j : Int, vs = [.int j] ∧ -(2 ^ 62) ≤ j ∧ j < 2 ^ 62 ∧ R (Itr 0 j.toNat) H1
theorem pi_range1 {a : Expr} {ta : TA} {p pos : Pos} (hg : Gl X "range") (hm : X.mg "range" = none) (ha : PA X [a] ta) (hs : starEach [a] X.env = [(false, eval a X.env)] := by rfl) : PI X tg (.Call (.Name "range" p) [a] [] pos) (iRng1 ta) := by
  intro pins s σ H R I h
  refine Call_ (ld_blt I hg hm boot_range (PyProof.Rows.callWith_type1 (thn (ha pos pins s σ H _ I h) fun us s1 ⟨vs, H1, I1, r1, q1⟩ => ?_) hs rfl))
  obtain ⟨j, e, q1, q2, q⟩ := q1
  subst e
  cases r1 with
  | cons r rr =>
    cases rr
    obtain ⟨t, rfl⟩ := r
    exact call_range_1 (range_it I1 (by omega) (by omega) q1 q2 (by simpa using q))
/-! ### for -/
/-- W: the invariant by the turn and a measure; N: what the body is to reach -/
def tFor (wi : TI) (g : TG) (tb : TS) : TS := fun D σ H => wi σ H fun J H1 => ∃ W : Nat → Nat → St → Hp → Prop, (∃ m, W 0 m σ H1) ∧ ∀ i m σ H, W i m σ H →
  (J.stop i H ∧ D.nx σ H) ∨ (J.go i H ∧ ∃ N : St → Hp → Prop, (∀ σ' H', N σ' H' → ∃ m', m' < m ∧ W (i + 1) m' σ' H') ∧ ∀ x H', J.yld i H x H' → g x σ H' fun σ2 H2 => tb { D with nx := N, ct := N, bk := D.nx } σ2 H2)
/-- the records at fp as they stand -/
def pinsAt (fp : List Addr) (h : Heap) : List (Addr × Obj) := fp.filterMap fun b => (h.get? b).map fun o => (b, o)
theorem mem_pinsAt {fp : List Addr} {h : Heap} {b : Addr} {o : Obj} (hb : b ∈ fp) (e : h.get? b = some o) : (b, o) ∈ pinsAt fp h := List.mem_filterMap.mpr ⟨b, hb, by rw [e]; rfl⟩
theorem of_pinsAt {fp : List Addr} {h : Heap} {p : Addr × Obj} (hp : p ∈ pinsAt fp h) : p.1 ∈ fp ∧ h.get? p.1 = some p.2 := by
  obtain ⟨b, hb, e⟩ := List.mem_filterMap.mp hp
  cases q : h.get? b with
  | none => rw [q] at e; cases e
  | some o =>
    rw [q] at e
    have e' : (b, o) = p := Option.some.inj e
    subst e'
    exact ⟨hb, q⟩
theorem Inv.pinned {pins : List (Addr × Obj)} {σ : St} {H : Hp} {s : Shared} {fp : List Addr} (I : Inv X pins σ H s) (hf : ∀ b ∈ fp, FpOk X pins H b) (ho : ∀ b ∈ fp, ∃ o, s.heap.get? b = some o ∧ ∀ v, o.data ≠ .cell v) : Inv X (pins ++ pinsAt fp s.heap) σ H s :=
  I.pins_of fun p hp => (List.mem_append.mp hp).elim (fun z => I.pin p (List.mem_append_right _ z)) fun z => by
    obtain ⟨hb, e⟩ := of_pinsAt z
    obtain ⟨f0, f1, f2, _⟩ := hf p.1 hb
    obtain ⟨o, e', d⟩ := ho p.1 hb
    rw [e] at e'; cases e'
    exact ⟨e, f0, f1, f2, d⟩
theorem Inv.unpinned {pins pl : List (Addr × Obj)} {σ : St} {H : Hp} {s : Shared} (I : Inv X (pins ++ pl) σ H s) : Inv X pins σ H s := I.pins_of fun p hp => I.pin p (List.mem_append_right _ (List.mem_append_left _ hp))
theorem ps_for {iter : Expr} {body : List Stmt} {wi : TI} {g : TG} {tb : TS} {pos : Pos} (hp : PassesOwn (model X.prog X.w) X.A X.env X.xe) (hc : X.calm = true) (hi : PI X tg iter wi) (hg : PG X tg g) (hb : PSs X body tb)
    (hs : ∀ x, foldedSetIterable iter X.env x = pure x := by intro _; rfl) : PS X (.For tg iter body [] pos) (tFor wi g tb) := by
  intro pins s σ H D I h
  refine wpAny_For (thn (hi pins s σ H _ I h) fun v s1 h1 => thn h1 fun itv s2 h2 => ?_) hs
  obtain ⟨it, fp, tn, J, H2, e, I2, T, st2, f2, W, ⟨m0, w0⟩, turn⟩ := h2
  subst e
  -- what stays true of the iterator's objects through the loop
  have stat : ∀ {H' : Hp}, (∀ b ∈ fp, H' b = none) → ∀ b ∈ fp, FpOk X pins H' b := fun hn b hb => ⟨hn b hb, (f2 b hb).2⟩
  refine codeAny_forLoop_any (fun n s' => ∃ i σ' H', Inv X pins σ' H' s' ∧ tn i s'.heap ∧ (∀ b ∈ fp, H' b = none) ∧ W i n σ' H') ?_ m0 ⟨0, σ, H2, I2, st2, fun b hb => (f2 b hb).1, w0⟩
  rintro n s3 ⟨i, σ3, H3, I3, st3, fr3, w3⟩
  rcases turn i n σ3 H3 w3 with ⟨stop, qn⟩ | ⟨go, N, hN, step⟩
  · refine wpAny_passesOwn hp (thn (T.done X rfl rfl rfl hc i pins s3 σ3 H3 X.xe I3 (stat fr3) st3 stop) fun r s4 ⟨hr, I4⟩ => ?_)
    subst hr
    exact wpAny_execs_nil ⟨σ3, H3, I4, qn⟩
  · refine wpAny_passesOwn hp (thn (T.item X rfl rfl rfl hc i pins s3 σ3 H3 X.xe I3 (stat fr3) st3 go) fun r s4 ⟨u, hr, h4⟩ => ?_)
    subst hr
    refine wpAny_passesOwn hp (thn h4 fun _ s5 ⟨x, H5, I5, r5, y5, st5, fr5⟩ => ?_)
    have I5' := I5.pinned (stat fr5) (T.obj _ _ st5)
    refine wpAny_passesOwn hp (thn (hg _ s5 σ3 H5 x u _ I5' r5 (step x H5 y5)) fun _ s6 ⟨σ6, H6, I6, q6⟩ => ?_)
    refine wpAny_passesOwn hp (thn (hb _ s6 σ6 H6 _ I6 q6) fun f s7 q7 => ?_)
    have again : ∀ {σ7 : St} {H7 : Hp}, Inv X (pins ++ pinsAt fp s5.heap) σ7 H7 s7 → N σ7 H7 → ∃ m, m < n ∧ ∃ i σ' H', Inv X pins σ' H' s7 ∧ tn i s7.heap ∧ (∀ b ∈ fp, H' b = none) ∧ W i m σ' H' := fun {σ7 H7} I7 n7 => by
      obtain ⟨m', hm, w7⟩ := hN σ7 H7 n7
      refine ⟨m', hm, i + 1, σ7, H7, I7.unpinned, T.keep _ _ _ st5 fun b hb o e => (I7.pin (b, o) (List.mem_append_right _ (List.mem_append_right _ (mem_pinsAt hb e)))).1, fun b hb => ?_, w7⟩
      obtain ⟨o, e, d⟩ := T.obj _ _ st5 b hb
      exact (I7.pin (b, o) (List.mem_append_right _ (List.mem_append_right _ (mem_pinsAt hb e)))).2.1
    cases f with
    | next => obtain ⟨σ7, H7, I7, n7⟩ := q7; exact again I7 n7
    | cont => obtain ⟨σ7, H7, I7, n7⟩ := q7; exact again I7 n7
    | brk => obtain ⟨σ7, H7, I7, q7⟩ := q7; exact ⟨σ7, H7, I7.unpinned, q7⟩
    | ret v => obtain ⟨x7, σ7, H7, I7, r7, q7⟩ := q7; exact ⟨x7, σ7, H7, I7.unpinned, r7, q7⟩
end

/-! ### the forms one uses -/
/-- over a list that the body leaves as it is -/
theorem for_list {K : PySem.W.Frag} {a : Addr} {xs : List V} {g : TG} {tb : TS} {D : Ends} {σ : St} {H : Hp} (Pv : Nat → St → Hp → Prop) (h0 : Pv 0 σ H) (hl : ∀ i σ H, i ≤ xs.length → Pv i σ H → SqL K H a xs)
    (hs : ∀ i x σ H, xs[i]? = some x → Pv i σ H → g x σ H fun σ2 H2 => tb { D with nx := Pv (i + 1), ct := Pv (i + 1), bk := D.nx } σ2 H2) (hd : ∀ σ H, Pv xs.length σ H → D.nx σ H) :
    ∃ W : Nat → Nat → St → Hp → Prop, (∃ m, W 0 m σ H) ∧ ∀ i m σ H, W i m σ H →
      ((Itl K a).stop i H ∧ D.nx σ H) ∨ ((Itl K a).go i H ∧ ∃ N : St → Hp → Prop, (∀ σ' H', N σ' H' → ∃ m', m' < m ∧ W (i + 1) m' σ' H') ∧ ∀ x H', (Itl K a).yld i H x H' → g x σ H' fun σ2 H2 => tb { D with nx := N, ct := N, bk := D.nx } σ2 H2) := by
  refine ⟨fun i m σ H => m = xs.length - i ∧ i ≤ xs.length ∧ Pv i σ H, ⟨xs.length, by simp, Nat.zero_le _, h0⟩, ?_⟩
  rintro i m σ H ⟨rfl, hi, p⟩
  have q := hl i σ H hi p
  by_cases hlt : i < xs.length
  · refine .inr ⟨⟨xs, xs[i], q, by simp [hlt]⟩, Pv (i + 1), fun σ' H' p' => ⟨xs.length - (i + 1), by omega, rfl, hlt, p'⟩, fun x H' y => ?_⟩
    obtain ⟨e, y⟩ := y
    subst e
    exact hs i x σ _ (y xs q) p
  · have e : i = xs.length := by omega
    subst e
    exact .inl ⟨⟨xs, q, Nat.le_refl _⟩, hd σ H p⟩
theorem for_tup {K : PySem.W.Frag} {a : Addr} {xs : List V} {g : TG} {tb : TS} {D : Ends} {σ : St} {H : Hp} (Pv : Nat → St → Hp → Prop) (h0 : Pv 0 σ H) (hl : ∀ i σ H, i ≤ xs.length → Pv i σ H → SqT K H a xs)
    (hs : ∀ i x σ H, xs[i]? = some x → Pv i σ H → g x σ H fun σ2 H2 => tb { D with nx := Pv (i + 1), ct := Pv (i + 1), bk := D.nx } σ2 H2) (hd : ∀ σ H, Pv xs.length σ H → D.nx σ H) :
    ∃ W : Nat → Nat → St → Hp → Prop, (∃ m, W 0 m σ H) ∧ ∀ i m σ H, W i m σ H →
      ((Itt K a).stop i H ∧ D.nx σ H) ∨ ((Itt K a).go i H ∧ ∃ N : St → Hp → Prop, (∀ σ' H', N σ' H' → ∃ m', m' < m ∧ W (i + 1) m' σ' H') ∧ ∀ x H', (Itt K a).yld i H x H' → g x σ H' fun σ2 H2 => tb { D with nx := N, ct := N, bk := D.nx } σ2 H2) := by
  refine ⟨fun i m σ H => m = xs.length - i ∧ i ≤ xs.length ∧ Pv i σ H, ⟨xs.length, by simp, Nat.zero_le _, h0⟩, ?_⟩
  rintro i m σ H ⟨rfl, hi, p⟩
  have q := hl i σ H hi p
  by_cases hlt : i < xs.length
  · refine .inr ⟨⟨xs, xs[i], q, by simp [hlt]⟩, Pv (i + 1), fun σ' H' p' => ⟨xs.length - (i + 1), by omega, rfl, hlt, p'⟩, fun x H' y => ?_⟩
    obtain ⟨e, y⟩ := y
    subst e
    exact hs i x σ _ (y xs q) p
  · have e : i = xs.length := by omega
    subst e
    exact .inl ⟨⟨xs, q, Nat.le_refl _⟩, hd σ H p⟩
theorem for_range {lo : Int} {n : Nat} {g : TG} {tb : TS} {D : Ends} {σ : St} {H : Hp} (Pv : Nat → St → Hp → Prop) (h0 : Pv 0 σ H)
    (hs : ∀ i σ H, i < n → Pv i σ H → g (.int (lo + i)) σ H fun σ2 H2 => tb { D with nx := Pv (i + 1), ct := Pv (i + 1), bk := D.nx } σ2 H2) (hd : ∀ σ H, Pv n σ H → D.nx σ H) :
    ∃ W : Nat → Nat → St → Hp → Prop, (∃ m, W 0 m σ H) ∧ ∀ i m σ H, W i m σ H →
      ((Itr lo n).stop i H ∧ D.nx σ H) ∨ ((Itr lo n).go i H ∧ ∃ N : St → Hp → Prop, (∀ σ' H', N σ' H' → ∃ m', m' < m ∧ W (i + 1) m' σ' H') ∧ ∀ x H', (Itr lo n).yld i H x H' → g x σ H' fun σ2 H2 => tb { D with nx := N, ct := N, bk := D.nx } σ2 H2) := by
  refine ⟨fun i m σ H => m = n - i ∧ i ≤ n ∧ Pv i σ H, ⟨n, by simp, Nat.zero_le _, h0⟩, ?_⟩
  rintro i m σ H ⟨rfl, hi, p⟩
  by_cases hlt : i < n
  · refine .inr ⟨hlt, Pv (i + 1), fun σ' H' p' => ⟨n - (i + 1), by omega, rfl, hlt, p'⟩, fun x H' y => ?_⟩
    obtain ⟨e, y⟩ := y
    subst e y
    exact hs i σ _ hlt p
  · have e : i = n := by omega
    subst e
    exact .inl ⟨Nat.le_refl _, hd σ H p⟩
end L2

namespace L2
open PySem PySem.Spec PyProof.Rows

abbrev R2 := V → V → Hp → VK → Prop
/-- a two-place operation on values: f is binaryOp op, inplaceOp op or compareOp op -/
def OpR (X : Cx) (f : Value → Value → Sem Value) (r : R2) : Prop :=
  ∀ (pins : List (Addr × Obj)) (s : Shared) (σ : St) (H : Hp) (x y : V) (v u : Value) (Q : VK), Inv X pins σ H s → RelV x v → RelV y u → r x y H Q →
    wpAny (model X.prog X.w) X.A (f v u) (EP X pins σ Q) X.xe s
/-- a one-place operation -/
def UnR (X : Cx) (f : Value → Sem Value) (r : V → Hp → VK → Prop) : Prop :=
  ∀ (pins : List (Addr × Obj)) (s : Shared) (σ : St) (H : Hp) (x : V) (v : Value) (Q : VK), Inv X pins σ H s → RelV x v → r x H Q →
    wpAny (model X.prog X.w) X.A (f v) (EP X pins σ Q) X.xe s
/-- a call of a value that is known (a builtin, a type) with values -/
def CallR (X : Cx) (f : Value) (r : List V → Hp → VK → Prop) : Prop :=
  ∀ (pins : List (Addr × Obj)) (s : Shared) (σ : St) (H : Hp) (xs : List V) (us : List Value) (Q : VK), Inv X pins σ H s → Vals xs us → r xs H Q →
    wpAny (model X.prog X.w) X.A (call f us) (EP X pins σ Q) X.xe s
/-- a value's truth -/
def TruR (X : Cx) (r : V → Hp → (Bool → Hp → Prop) → Prop) : Prop :=
  ∀ (pins : List (Addr × Obj)) (s : Shared) (σ : St) (H : Hp) (x : V) (v : Value) (Q : Bool → Hp → Prop), Inv X pins σ H s → RelV x v → r x H Q →
    wpAny (model X.prog X.w) X.A (truthy v) (TP X pins σ Q) X.xe s

def tOp (r : R2) (ta tb : TE) : TE := fun σ H Q => ta σ H fun x H1 => tb σ H1 fun y H2 => r x y H2 Q
def tUn (r : V → Hp → VK → Prop) (ta : TE) : TE := fun σ H Q => ta σ H fun x H1 => r x H1 Q
/-- ints in, under C, and a value out -/
def rI (C : Int → Int → Prop) (g : Int → Int → V) : R2 := fun x y H Q => ∃ i j, x = .int i ∧ y = .int j ∧ C i j ∧ Q (g i j) H
def rI0 (g : Int → Int → V) : R2 := fun x y H Q => ∃ i j, x = .int i ∧ y = .int j ∧ Q (g i j) H
def rU (g : Int → V) : V → Hp → VK → Prop := fun x H Q => ∃ i, x = .int i ∧ Q (g i) H

section
variable {X : Cx} {a b c : Expr} {ta tb tc : TE} {pos : Pos}

theorem binT (ha : PE X a ta) (hb : PE X b tb) {pins : List (Addr × Obj)} {s : Shared} {σ : St} {H : Hp} {R : V → V → Hp → Prop} (I : Inv X pins σ H s)
    (h : ta σ H fun x H1 => tb σ H1 fun y H2 => R x y H2) {Q : Value → Shared → Prop} {f : Value → Value → Sem Value}
    (hf : ∀ v u s2 x y H2, Inv X pins σ H2 s2 → RelV x v → RelV y u → R x y H2 → wpAny (model X.prog X.w) X.A (f v u) Q X.xe s2) :
    wpAny (model X.prog X.w) X.A (eval a X.env) (fun v s₁ => wpAny (model X.prog X.w) X.A (eval b X.env) (fun u s₂ => wpAny (model X.prog X.w) X.A (f v u) Q X.xe s₂) X.xe s₁) X.xe s := by
  refine thn (ha pins s σ H _ I h) fun v s1 ⟨x, H1, I1, r1, q1⟩ => ?_
  refine thn (hb pins s1 σ H1 _ I1 q1) fun u s2 ⟨y, H2, I2, r2, q2⟩ => ?_
  exact hf v u s2 x y H2 I2 r1 r2 q2

theorem pe_op {op : Operator} {r : R2} (ho : OpR X (binaryOp op) r) (ha : PE X a ta) (hb : PE X b tb) : PE X (.BinOp a op b pos) (tOp r ta tb) := by
  intro pins s σ H Q I h
  exact wpAny_BinOp (binT ha hb I h fun v u s2 x y H2 I2 rx ry q => ho pins s2 σ H2 x y v u Q I2 rx ry q)
theorem pe_un {op : UnaryOp} {r : V → Hp → VK → Prop} (ho : UnR X (unaryOp op) r) (ha : PE X a ta) : PE X (.UnaryOp op a pos) (tUn r ta) := by
  intro pins s σ H Q I h
  exact UnaryOp_ (thn (ha pins s σ H _ I h) fun v s1 ⟨x, H1, I1, r1, q1⟩ => ho pins s1 σ H1 x v Q I1 r1 q1)
/-! ### ints -/
theorem opI {f : Value → Value → Sem Value} {C : Int → Int → Prop} {g : Int → Int → Int}
    (rule : ∀ (i j : Int) (t u : Tok) (s : Shared) (Q : Value → Shared → Prop) (E : Value → Shared → Prop), C i j → Q (.int (g i j) s.toks) { s with toks := s.toks + 1 } → wpAny (model X.prog X.w) X.A (f (.int i t) (.int j u)) Q E s) :
    OpR X f (rI C fun i j => .int (g i j)) := by
  intro pins s σ H x y v u Q I rx ry h
  obtain ⟨i, j, rfl, rfl, hc, q⟩ := h
  obtain ⟨t, rfl⟩ := rx
  obtain ⟨t', rfl⟩ := ry
  exact rule i j t t' s _ _ hc ⟨.int (g i j), H, I.tok _, ⟨_, rfl⟩, q⟩
theorem opI0 {f : Value → Value → Sem Value} {g : Int → Int → Int}
    (rule : ∀ (i j : Int) (t u : Tok) (s : Shared) (Q : Value → Shared → Prop) (E : Value → Shared → Prop), Q (.int (g i j) s.toks) { s with toks := s.toks + 1 } → wpAny (model X.prog X.w) X.A (f (.int i t) (.int j u)) Q E s) :
    OpR X f (rI0 fun i j => .int (g i j)) := by
  intro pins s σ H x y v u Q I rx ry h
  obtain ⟨i, j, rfl, rfl, q⟩ := h
  obtain ⟨t, rfl⟩ := rx
  obtain ⟨t', rfl⟩ := ry
  exact rule i j t t' s _ _ ⟨.int (g i j), H, I.tok _, ⟨_, rfl⟩, q⟩
theorem opB0 {f : Value → Value → Sem Value} {g : Int → Int → Bool}
    (rule : ∀ (i j : Int) (t u : Tok) (s : Shared) (Q : Value → Shared → Prop) (E : Value → Shared → Prop), Q (.bool (g i j)) s → wpAny (model X.prog X.w) X.A (f (.int i t) (.int j u)) Q E s) :
    OpR X f (rI0 fun i j => .bl (g i j)) := by
  intro pins s σ H x y v u Q I rx ry h
  obtain ⟨i, j, rfl, rfl, q⟩ := h
  obtain ⟨t, rfl⟩ := rx
  obtain ⟨t', rfl⟩ := ry
  exact rule i j t t' s _ _ ⟨.bl (g i j), H, I, rfl, q⟩

def CPow (i j : Int) : Prop := 0 ≤ j ∧ j ≤ 1000000 ∧ i.natAbs < 2 ^ 64
def CMul (i j : Int) : Prop := (-(2 ^ 64) < i ∧ i < 2 ^ 64) ∨ (-(2 ^ 64) < j ∧ j < 2 ^ 64)
theorem CMul.ok {i j : Int} (h : CMul i j) : IntMulOk i j := by
  rcases h with ⟨h1, h2⟩ | ⟨h1, h2⟩
  · exact .of_left (intBits_le_64 h1 h2)
  · exact .of_right (intBits_le_64 h1 h2)
theorem op_add : OpR X (binaryOp .Add) (rI0 fun i j => .int (i + j)) := opI0 fun _ _ _ _ _ _ _ q => add_int q
theorem op_sub : OpR X (binaryOp .Sub) (rI0 fun i j => .int (i - j)) := opI0 fun _ _ _ _ _ _ _ q => sub_int q
theorem op_mul : OpR X (binaryOp .Mult) (rI CMul fun i j => .int (i * j)) := opI fun _ _ _ _ _ _ _ hc q => mul_int q hc.ok
/-- % by a positive divisor of any size -/
theorem op_mod : OpR X (binaryOp .Mod) (rI (fun _ j => 0 < j) fun i j => .int (i % j)) := opI fun i j _ _ _ _ _ hc q => by
  have h1 : (0 : Int) < j := hc
  exact mod_int' (by omega) (by rw [Int.fmod_eq_emod_of_nonneg i (by omega)]; exact q)
theorem op_pow : OpR X (binaryOp .Pow) (rI CPow fun i j => .int (i ^ j.toNat)) := opI fun _ _ _ _ _ _ _ hc q => pow_int_small hc.1 hc.2.1 hc.2.2 q
theorem unI {f : Value → Sem Value} {g : Int → Int}
    (rule : ∀ (i : Int) (t : Tok) (s : Shared) (Q : Value → Shared → Prop) (E : Value → Shared → Prop), Q (.int (g i) s.toks) { s with toks := s.toks + 1 } → wpAny (model X.prog X.w) X.A (f (.int i t)) Q E s) :
    UnR X f (rU fun i => .int (g i)) := by
  intro pins s σ H x v Q I rx h
  obtain ⟨i, rfl, q⟩ := h
  obtain ⟨t, rfl⟩ := rx
  exact rule i t s _ _ ⟨.int (g i), H, I.tok _, ⟨_, rfl⟩, q⟩
theorem un_neg : UnR X (unaryOp .USub) (rU fun i => .int (-i)) := unI fun _ _ _ _ _ q => neg_int q
/-! ### bools among ints: n += (a < b) -/
end

/-! ### comparisons -/
/-- the scalars that == tells apart as data does -/
def scal : V → V → Bool
  | .non, .non => true | .non, .int _ => true | .int _, .non => true | .non, .bl _ => true | .bl _, .non => true | .non, .str _ => true | .str _, .non => true
  | .int _, .int _ => true | .bl _, .bl _ => true | .str _, .str _ => true | .byt _, .byt _ => true
  | .int _, .str _ => true | .str _, .int _ => true | .bl _, .str _ => true | .str _, .bl _ => true
  | _, _ => false
def rEq : R2 := fun x y H Q => scal x y = true ∧ Q (.bl (decide (x = y))) H
def rNe : R2 := fun x y H Q => scal x y = true ∧ Q (.bl (!decide (x = y))) H

theorem dec_int {i j : Int} : decide (V.int i = V.int j) = (i == j) := by
  rw [Bool.eq_iff_iff]
  simp
theorem dec_bl {i j : Bool} : decide (V.bl i = V.bl j) = (i == j) := by
  rw [Bool.eq_iff_iff]
  simp
theorem dec_str {i j : Str} : decide (V.str i = V.str j) = (i == j) := by
  rw [Bool.eq_iff_iff]
  simp
theorem dec_byt {i j : Array UInt8} : decide (V.byt i = V.byt j) = (i.toList == j.toList) := by
  rw [Bool.eq_iff_iff]
  cases i
  cases j
  simp

section
variable {X : Cx} {a b c : Expr} {ta tb tc : TE} {pos : Pos}
theorem fin_bl {pins : List (Addr × Obj)} {σ : St} {H : Hp} {s : Shared} {Q : VK} {k k' : Bool} (I : Inv X pins σ H s) (q : Q (.bl k) H) (e : k = k') : EP X pins σ Q (.bool k') s := by
  subst e
  exact ⟨.bl k, H, I, rfl, q⟩
theorem op_eq : OpR X (compareOp .Eq) rEq := by
  intro pins s σ H x y v u Q I rx ry h
  obtain ⟨hs, q⟩ := h
  cases x with
  | non =>
    cases rx
    cases y with
    | non => cases ry; exact PySem.EqNone.eq_none_none (fin_bl I q (by simp))
    | bl j => cases ry; exact PySem.EqNone.eq_none_bool (fin_bl I q (by simp))
    | int j => obtain ⟨t', rfl⟩ := ry; exact PySem.EqNone.eq_none_int (fin_bl I q (by simp))
    | str j => obtain ⟨t', rfl⟩ := ry; exact PySem.EqNone.eq_none_str (fin_bl I q (by simp))
    | _ => exact absurd (show false = true from hs) Bool.false_ne_true
  | bl i =>
    cases rx
    cases y with
    | non => cases ry; exact PySem.EqNone.eq_bool_none (fin_bl I q (by simp))
    | bl j => cases ry; exact eq_bool (fin_bl I q dec_bl)
    | str j => obtain ⟨t', rfl⟩ := ry; exact PySem.EqMixed.eq_bool_str (fin_bl I q (by simp))
    | _ => exact absurd (show false = true from hs) Bool.false_ne_true
  | int i =>
    obtain ⟨t, rfl⟩ := rx
    cases y with
    | non => cases ry; exact PySem.EqNone.eq_int_none (fin_bl I q (by simp))
    | int j => obtain ⟨t', rfl⟩ := ry; exact eq_int (fin_bl I q dec_int)
    | str j => obtain ⟨t', rfl⟩ := ry; exact PySem.EqMixed.eq_int_str (fin_bl I q (by simp))
    | _ => exact absurd (show false = true from hs) Bool.false_ne_true
  | str i =>
    obtain ⟨t, rfl⟩ := rx
    cases y with
    | non => cases ry; exact PySem.EqNone.eq_str_none (fin_bl I q (by simp))
    | bl j => cases ry; exact PySem.EqMixed.eq_str_bool (fin_bl I q (by simp))
    | int j => obtain ⟨t', rfl⟩ := ry; exact PySem.EqMixed.eq_str_int (fin_bl I q (by simp))
    | str j => obtain ⟨t', rfl⟩ := ry; exact eq_str (fin_bl I q dec_str)
    | _ => exact absurd (show false = true from hs) Bool.false_ne_true
  | byt i =>
    obtain ⟨t, rfl⟩ := rx
    cases y with
    | byt j => obtain ⟨t', rfl⟩ := ry; exact PySem.W.eq_bytes (fin_bl I q dec_byt)
    | _ => exact absurd (show false = true from hs) Bool.false_ne_true
  | _ => cases y <;> exact absurd (show false = true from hs) Bool.false_ne_true
theorem op_ne : OpR X (compareOp .NotEq) rNe := by
  intro pins s σ H x y v u Q I rx ry h
  obtain ⟨hs, q⟩ := h
  cases x with
  | non =>
    cases rx
    cases y with
    | non => cases ry; exact PySem.EqNone.ne_none_none (fin_bl I q (by simp))
    | bl j => cases ry; exact PySem.EqNone.ne_none_bool (fin_bl I q (by simp))
    | int j => obtain ⟨t', rfl⟩ := ry; exact PySem.EqNone.ne_none_int (fin_bl I q (by simp))
    | str j => obtain ⟨t', rfl⟩ := ry; exact PySem.EqNone.ne_none_str (fin_bl I q (by simp))
    | _ => exact absurd (show false = true from hs) Bool.false_ne_true
  | bl i =>
    cases rx
    cases y with
    | non => cases ry; exact PySem.EqNone.ne_bool_none (fin_bl I q (by simp))
    | bl j => cases ry; exact ne_bool (fin_bl I q (congrArg not dec_bl))
    | str j => obtain ⟨t', rfl⟩ := ry; exact PySem.EqMixed.ne_bool_str (fin_bl I q (by simp))
    | _ => exact absurd (show false = true from hs) Bool.false_ne_true
  | int i =>
    obtain ⟨t, rfl⟩ := rx
    cases y with
    | non => cases ry; exact PySem.EqNone.ne_int_none (fin_bl I q (by simp))
    | int j => obtain ⟨t', rfl⟩ := ry; exact ne_int (fin_bl I q (congrArg not dec_int))
    | str j => obtain ⟨t', rfl⟩ := ry; exact PySem.EqMixed.ne_int_str (fin_bl I q (by simp))
    | _ => exact absurd (show false = true from hs) Bool.false_ne_true
  | str i =>
    obtain ⟨t, rfl⟩ := rx
    cases y with
    | non => cases ry; exact PySem.EqNone.ne_str_none (fin_bl I q (by simp))
    | bl j => cases ry; exact PySem.EqMixed.ne_str_bool (fin_bl I q (by simp))
    | int j => obtain ⟨t', rfl⟩ := ry; exact PySem.EqMixed.ne_str_int (fin_bl I q (by simp))
    | str j => obtain ⟨t', rfl⟩ := ry; exact ne_str (fin_bl I q (congrArg not dec_str))
    | _ => exact absurd (show false = true from hs) Bool.false_ne_true
  | byt i =>
    obtain ⟨t, rfl⟩ := rx
    cases y with
    | byt j => obtain ⟨t', rfl⟩ := ry; exact PySem.W.ne_bytes (fin_bl I q (congrArg not dec_byt))
    | _ => exact absurd (show false = true from hs) Bool.false_ne_true
  | _ => cases y <;> exact absurd (show false = true from hs) Bool.false_ne_true

theorem op_lt : OpR X (compareOp .Lt) (rI0 fun i j => .bl (decide (i < j))) := opB0 fun _ _ _ _ _ _ _ q => lt_int q
theorem op_gt : OpR X (compareOp .Gt) (rI0 fun i j => .bl (decide (j < i))) := opB0 fun _ _ _ _ _ _ _ q => gt_int q
theorem op_ge : OpR X (compareOp .GtE) (rI0 fun i j => .bl (decide (j ≤ i))) := opB0 fun _ _ _ _ _ _ _ q => ge_int q
/-- is None, is not None: the right side a value none -/
theorem op_isN : OpR X (compareOp .Is) (fun x y H Q => y = .non ∧ Q (.bl (decide (x = .non))) H) := by
  intro pins s σ H x y v u Q I rx ry h
  obtain ⟨rfl, q⟩ := h
  cases ry
  refine is_none_gen (fin_bl I q ?_)
  cases x <;> first
    | (cases rx; rfl)
    | (obtain ⟨t, rfl⟩ := rx; rfl)
theorem nomark (b : Expr) {op : CmpOp} (h : op ≠ .In := by decide) (h2 : op ≠ .NotIn := by decide) : behindInMarks op b = false := by
  have e1 : (op == CmpOp.In) = false := by cases op <;> first | rfl | exact absurd rfl h
  have e2 : (op == CmpOp.NotIn) = false := by cases op <;> first | rfl | exact absurd rfl h2
  cases b <;> simp [behindInMarks, e1, e2]
/-- a comparison as a value; hm: nomark b, or (for in, not in) by with_unfolding_all rfl -/
theorem pe_cmpR {op : CmpOp} {r : R2} (ho : OpR X (compareOp op) r) (ha : PE X a ta) (hb : PE X b tb) (hm : behindInMarks op b = false) : PE X (.Compare a [op] [b] pos) (tOp r ta tb) := by
  intro pins s σ H Q I h
  exact wpAny_Compare1 (binT ha hb I h fun v u s2 x y H2 I2 rx ry q => ho pins s2 σ H2 x y v u Q I2 rx ry q) hm
/-- a reading of a value as a test -/
def tTest (t : TE) : TT := fun σ H Q => t σ H fun x H' => ∃ k, x = .bl k ∧ Q k H'
theorem pt_cmpR {op : CmpOp} {r : R2} (ho : OpR X (compareOp op) r) (ha : PE X a ta) (hb : PE X b tb) (hm : behindInMarks op b = false) : PT X (.Compare a [op] [b] pos) (tTest (tOp r ta tb)) := by
  intro pins s σ H Q I h
  refine wpAny_isTrue_Compare1 (thn (ha pins s σ H _ I h) fun v s1 ⟨x, H1, I1, r1, q1⟩ => thn (hb pins s1 σ H1 _ I1 q1) fun u s2 ⟨y, H2, I2, r2, q2⟩ =>
    thn (ho pins s2 σ H2 x y v u _ I2 r1 r2 q2) fun c s3 ⟨z, H3, I3, r3, k, e, q3⟩ => ?_) hm
  subst e
  cases r3
  exact wpAny_truthy_bool ⟨H3, I3, q3⟩
/-! ### truth -/
/-- a value's truth by the abstract heap -/
def TruV (K : PySem.W.Frag) (x : V) (H : Hp) (k : Bool) : Prop :=
  match x with
  | .non => k = false
  | .bl b => k = b
  | .int i => k = (i != 0)
  | .str y => y.length ≤ sizeLine ∧ k = ((y.length : Int) != 0)
  | .byt y => y.size ≤ sizeLine ∧ k = ((y.size : Int) != 0)
  | .ref p => (∃ xs, SqL K H p xs ∧ k = !xs.isEmpty) ∨ (∃ xs, SqT K H p xs ∧ k = !xs.isEmpty) ∨ ∃ kvs, H p = some (.dK kvs) ∧ k = !kvs.isEmpty
  | _ => False
theorem isEmpty_kv {κ : Type} {kvs : List (κ × V)} {vs : List (κ × Value)} (r : KV kvs vs) : (!vs.isEmpty) = !kvs.isEmpty := by
  cases r <;> rfl
theorem isEmpty_of {xs : List V} {its : List Value} (r : Vals xs its) : (!its.toArray.isEmpty) = !xs.isEmpty := by
  cases r <;> simp
theorem line63 : (sizeLine : Nat) < 2 ^ 63 := by rw [sizeLine_eq]; decide
theorem tru_ok : TruR X (fun x H Q => ∃ k, TruV X.K x H k ∧ Q k H) := by
  intro pins s σ H x v Q I rx h
  obtain ⟨k, e, q⟩ := h
  have hl := line63
  have hs : sizeLine = 16777216 := sizeLine_eq
  cases x with
  | non =>
    cases rx
    have e' : k = false := e
    subst e'
    exact truthy_none ⟨H, I, q⟩
  | bl b =>
    cases rx
    have e' : k = b := e
    subst e'
    exact wpAny_truthy_bool ⟨H, I, q⟩
  | int i =>
    obtain ⟨t, rfl⟩ := rx
    have e' : k = (i != 0) := e
    subst e'
    exact PySem.P.truthy_int ⟨H, I, q⟩
  | str y =>
    obtain ⟨t, rfl⟩ := rx
    obtain ⟨hy, e'⟩ : y.length ≤ sizeLine ∧ k = ((y.length : Int) != 0) := e
    subst e'
    exact PySem.P.truthy_str (by omega) ⟨H, I.tok _, q⟩
  | byt y =>
    obtain ⟨t, rfl⟩ := rx
    obtain ⟨hy, e'⟩ : y.size ≤ sizeLine ∧ k = ((y.size : Int) != 0) := e
    subst e'
    exact PySem.W.truthy_bytes (by omega) ⟨H, I.tok _, q⟩
  | ref p =>
    cases rx
    have e' : (∃ xs, SqL X.K H p xs ∧ k = !xs.isEmpty) ∨ (∃ xs, SqT X.K H p xs ∧ k = !xs.isEmpty) ∨ ∃ kvs, H p = some (.dK kvs) ∧ k = !kvs.isEmpty := e
    rcases e' with ⟨xs, hx, e'⟩ | ⟨xs, hx, e'⟩ | ⟨kvs, hx, e'⟩
    · subst e'
      obtain ⟨its, r, pl, hz⟩ := I.list hx
      have hlen := r.length
      exact wpAny_truthy_list pl.isList (by simp only [List.size_toArray]; omega) ⟨H, I.tok _, by rw [isEmpty_of r]; exact q⟩
    · subst e'
      obtain ⟨its, r, pl, hz⟩ := I.tuple hx
      have hlen := r.length
      exact truthy_tuple pl (by simp only [List.size_toArray]; omega) ⟨H, I.tok _, by rw [isEmpty_of r]; exact q⟩
    · subst e'
      obtain ⟨hz, hS, vs, r, m⟩ : kvs.length ≤ sizeLine ∧ (p == sysModules) = false ∧ ∃ vs, KV kvs vs ∧ s.heap.DictOf (mixKind X.prog X.w) p vs := I.hok p _ hx
      have hlen : kvs.length = vs.length := Paired.length r
      exact wpAny_truthy_dict hS m (by omega) ⟨H, I.tok _, by rw [isEmpty_kv r]; exact q⟩
  | _ => exact (show False from e).elim
/-! ### strs and bytes -/
/-! ### scalar builtins, by CallR -/
theorem vals1 {x : V} {us : List Value} (r : Vals [x] us) : ∃ u, us = [u] ∧ RelV x u := by
  cases r with
  | cons r1 r2 => cases r2; exact ⟨_, rfl, r1⟩
theorem vals2 {x y : V} {us : List Value} (r : Vals [x, y] us) : ∃ u w', us = [u, w'] ∧ RelV x u ∧ RelV y w' := by
  cases r with
  | cons r1 r2 =>
    cases r2 with
    | cons r3 r4 => cases r4; exact ⟨_, _, rfl, r1, r3⟩
theorem call_abs : CallR X (.builtin "abs") (fun xs H Q => ∃ i, xs = [.int i] ∧ Q (.int (if i < 0 then -i else i)) H) := by
  intro pins s σ H xs us Q I r h
  obtain ⟨i, rfl, q⟩ := h
  obtain ⟨u, rfl, t, rfl⟩ := vals1 r
  exact call_abs_int fun u tk => ⟨.int (if i < 0 then -i else i), H, I.tok _, ⟨_, rfl⟩, q⟩
theorem call_min2 (hc : X.calm = true) : CallR X (.builtin "min") (fun xs H Q => ∃ i j, xs = [.int i, .int j] ∧ Q (.int (if j < i then j else i)) H) := by
  intro pins s σ H xs us Q I r h
  obtain ⟨i, j, rfl, q⟩ := h
  obtain ⟨u, w', rfl, ⟨t, rfl⟩, ⟨t', rfl⟩⟩ := vals2 r
  refine min_two_ints (I.ok.hd hc) fun h' tk k => ⟨_, H, I.kept k, ?_, q⟩
  by_cases hj : j < i
  · rw [if_pos hj, if_pos hj]; exact ⟨_, rfl⟩
  · rw [if_neg hj, if_neg hj]; exact ⟨_, rfl⟩
theorem call_int1 : CallR X (.type "int") (fun xs H Q => (∃ i, xs = [.int i] ∧ Q (.int i) H) ∨ ∃ k, xs = [.bl k] ∧ Q (.int (if k then 1 else 0)) H) := by
  intro pins s σ H xs us Q I r h
  rcases h with ⟨i, rfl, q⟩ | ⟨k, rfl, q⟩
  · obtain ⟨u, rfl, t, rfl⟩ := vals1 r
    exact call_int_int ⟨.int i, H, I, ⟨_, rfl⟩, q⟩
  · obtain ⟨u, rfl, r1⟩ := vals1 r
    cases r1
    exact call_int_bool ⟨.int (if k then 1 else 0), H, I.tok _, ⟨_, rfl⟩, q⟩
/-- len of a str, a bytes, a list, a tuple -/
def LenV (K : PySem.W.Frag) (x : V) (H : Hp) (n : Nat) : Prop :=
  match x with
  | .str y => y.length ≤ sizeLine ∧ n = y.length
  | .byt y => y.size ≤ sizeLine ∧ n = y.size
  | .ref p => (∃ xs, SqL K H p xs ∧ n = xs.length) ∨ ∃ xs, SqT K H p xs ∧ n = xs.length
  | _ => False
theorem call_len : CallR X (.builtin "len") (fun xs H Q => ∃ x n, xs = [x] ∧ LenV X.K x H n ∧ Q (.int n) H) := by
  intro pins s σ H xs us Q I r h
  obtain ⟨x, n, rfl, e, q⟩ := h
  obtain ⟨u, rfl, rx⟩ := vals1 r
  have hl := line63
  have hs : sizeLine = 16777216 := sizeLine_eq
  cases x with
  | str y =>
    obtain ⟨t, rfl⟩ := rx
    obtain ⟨hy, e'⟩ : y.length ≤ sizeLine ∧ n = y.length := e
    subst e'
    exact len_str (by omega) ⟨.int _, H, I.tok _, ⟨_, rfl⟩, q⟩
  | byt y =>
    obtain ⟨t, rfl⟩ := rx
    obtain ⟨hy, e'⟩ : y.size ≤ sizeLine ∧ n = y.size := e
    subst e'
    exact PySem.W.len_bytes (by omega) ⟨.int _, H, I.tok _, ⟨_, rfl⟩, q⟩
  | ref p =>
    cases rx
    have e' : (∃ xs, SqL X.K H p xs ∧ n = xs.length) ∨ ∃ xs, SqT X.K H p xs ∧ n = xs.length := e
    rcases e' with ⟨xs, hx, e'⟩ | ⟨xs, hx, e'⟩
    · subst e'
      obtain ⟨its, r', pl, hz⟩ := I.list hx
      have hlen := r'.length
      exact Calls.call_len_list pl.isList (by simp only [List.size_toArray]; omega) ⟨.int xs.length, H, I.tok _, ⟨_, by simp only [List.size_toArray]; rw [hlen]⟩, q⟩
    · subst e'
      obtain ⟨its, r', pl, hz⟩ := I.tuple hx
      have hlen := r'.length
      exact len_tuple pl (by simp only [List.size_toArray]; omega) ⟨.int xs.length, H, I.tok _, ⟨_, by simp only [List.size_toArray]; rw [hlen]⟩, q⟩
  | _ => exact (show False from e).elim
end
end L2

namespace L2
open PySem PySem.Spec PyProof.Rows

/-! ### an instance, its attributes a map -/
structure ObjM (h : Heap) (x dx C : Addr) (mA : Str → Option Value) : Prop where
  obj : h.get? x = some (PySem.W.instObj C dx)
  ns : h.Ns1 dx mA
  ne : dx ≠ x

theorem lookIn_ns {h : Heap} {dx : Addr} {mA : Str → Option Value} (n : h.Ns1 dx mA) : ∃ od, h.get? dx = some od ∧ ∀ name, PySem.W.lookIn name od = some (mA name) := by
  obtain ⟨o, es, ep, ho, hd, hk, _, hm⟩ := n
  refine ⟨o, ho, fun name => ?_⟩
  have e := hm name
  unfold nsFind findBy at e
  rw [← Array.find?_toList] at e
  unfold PySem.W.lookIn
  rw [hd]
  dsimp only
  split
  · rename_i y q
    rw [q] at e
    exact congrArg some e
  · rename_i q
    rw [q] at e
    have a : es.toList.any (·.refKey) = false := by
      rw [List.any_eq_false]
      intro y hy
      obtain ⟨z, t, hkey⟩ := hk y (Array.mem_toList_iff.mp hy)
      simp [DictEntry.refKey, hkey]
    have a' : ¬ es.toList.any (·.refKey) = true := by rw [a]; exact Bool.false_ne_true
    rw [if_neg a']
    exact congrArg some e

theorem ObjM.look {h : Heap} {x dx C : Addr} {mA : Str → Option Value} (I : ObjM h x dx C mA) : ∃ od, PySem.W.InstAt h x (PySem.W.instObj C dx) C (some od) ∧ ∀ name, PySem.W.lookIn name od = some (mA name) :=
  let ⟨od, ho, hl⟩ := lookIn_ns I.ns
  ⟨od, ⟨I.obj, rfl, rfl, ho⟩, hl⟩

section
variable {prog : Program} {w : World} {A : Around} {E : Value → Shared → Prop} {s : Shared} {K : PySem.W.Frag} {x dx C f : Addr} {mA : Str → Option Value} {name : Str} {v : Value}

theorem get_map {expr : Bool} {Q : Value → Shared → Prop} (X : K.In s.heap) (I : ObjM s.heap x dx C mA) (hg : PySem.W.plainGet K C name = true) (hh : PySem.W.hasDictIn K C = true)
    (ha : PySem.W.findIn K (.ref C) name = some none) (hv : mA name = some v) (hv' : PySem.W.handedIn v = true) (h : Q v { s with toks := s.toks + 1 }) :
    wpAny (model prog w) A (getAttr (.ref x) name expr) Q E s := by
  obtain ⟨od, J, hl⟩ := I.look
  exact PySem.W.get_value X J (PySem.W.plainGet_of hg).1 (PySem.W.findObj_own hh ha rfl (by rw [hl, hv])) hv' h

theorem get_meth {pl : Sem Bool} {Q : Value × List Value → Shared → Prop} (X : K.In s.heap) (I : ObjM s.heap x dx C mA) (hg : PySem.W.plainGet K C name = true)
    (hf : PySem.W.findIn K (.ref C) name = some (some (.ref f))) (ht : PySem.W.isFn K (.ref f) = true) (hv : mA name = none) (h : Q (.ref f, [.ref x]) s) :
    wpAny (model prog w) A (getMethod (.ref x) name pl) Q E s := by
  obtain ⟨od, J, hl⟩ := I.look
  exact PySem.W.method_fn X J (PySem.W.plainGet_of hg).1 (PySem.W.plainGet_of hg).2 hf (beq_iff_eq.mp ht) (by show (PySem.W.lookIn name od).map (·.isSome) = some false; rw [hl, hv]; rfl) h

theorem set_map {ns : List Str} {Q : Unit → Shared → Prop} (X : K.In s.heap) (I : ObjM s.heap x dx C mA)
    (hs : PySem.W.findIn K (.ref C) "__setattr__" = some (some (.builtin "object.__setattr__"))) (hp : PySem.W.plainOver K C = true) (ht : PySem.W.takerIn K C name = some none) (hh : PySem.W.hasDictIn K C = true)
    (hw : PySem.Within mA ns) (hsz : ns.length ≤ sizeLine)
    (h : ∀ h', ObjM h' x dx C (fun y => if y = name then some v else mA y) → Heap.SameBut dx s.heap h' → Q () { s with heap := h', toks := s.toks + 2 }) :
    wpAny (model prog w) A (setAttr (.ref x) name v) Q E s := by
  obtain ⟨od, J, hl⟩ := I.look
  refine PySem.W.set_plain X J hs (PySem.W.osa_open (s := { s with toks := s.toks + 1 }) (r := none) X J hp ht fun b => ?_)
  obtain ⟨cd, hc, hd'⟩ := PySem.W.any_some hh
  have hx : s.heap.get? x = some ⟨.ref C, some dx, .plain, #[]⟩ := I.obj
  refine wpAny_bind (wpAny_pure (wpAny_bind (wpAny_bind (wpAny_loadPart hx (wpAny_bind (PySem.W.Looks.here (s := { s with toks := s.toks + 1 }) (PySem.W.looks_clsIn X hc) ?_))))))
  rw [hd']
  refine wpAny_pure (a := some dx) (wpAny_bind (wpAny_pure (wpAny_bind ?_)))
  refine wpAny_nsSet1 (s := { s with toks := s.toks + 1 }) I.ns fun h' hn2 hs2 => ?_
  obtain ⟨oD, esD, epD, hoD, hdD, hcD⟩ := hn2.count (PySem.Within.cons name v hw)
  refine wpAny_bind (wpAny_lookBehind hoD (by rw [hdD]; exact pastItsLine_dict (Nat.le_trans hcD (by rw [List.length_cons]; omega))) ?_)
  exact wpAny_pure (h _ ⟨(hs2.2 _ (Ne.symm I.ne)).trans I.obj, hn2, I.ne⟩ hs2)

/-- C(..): the dict at the heap's end, the instance behind it; then its __init__ -/
theorem make_map {R : Result → Shared → Prop} {vs : List Value} {kw : List (Str × Value)} (X : K.In s.heap) (hm : PySem.W.makesIn K C = true)
    (hi : PySem.W.findIn K (.ref C) "__init__" = some (some (.ref f))) (hf : PySem.W.typeIn K (.ref f) = some (.type "function"))
    (h : codeAny (model prog w) (A.under (.builtin "type.__call__" ⟨.ref C :: vs, kw⟩)) (.call (.ref f) ⟨.ref (s.heap.objs.size + 1) :: vs, kw⟩) (PySem.W.InitBack (s.heap.objs.size + 1) R)
      { s with heap := (s.heap.push PySem.W.emptyDict).push (PySem.W.instObj C s.heap.objs.size) }) :
    codeAny (model prog w) A (.call (.ref C) ⟨vs, kw⟩) R s := by
  obtain ⟨hh, g, d, t, os⟩ := s
  exact PySem.W.make_core (PySem.W.makes_of X hm) (PySem.W.looks_findIn X hi) (fun self => PySem.W.bind_fn X self hf) (.inl rfl) h
end

/-! ### the attributes as a list of pairs -/
def putF (f : Str) (v : V) : List (Str × V) → List (Str × V)
  | [] => [(f, v)]
  | (g, x) :: r => if g = f then (g, v) :: r else (g, x) :: putF f v r
theorem lookup_putF (f g : Str) (v : V) : ∀ fs : List (Str × V), (putF f v fs).lookup g = if g = f then some v else fs.lookup g
  | [] => by
    show List.lookup g [(f, v)] = _
    by_cases h : g = f
    · have hb : (g == f) = true := beq_iff_eq.mpr h
      simp only [List.lookup, hb, if_pos h]
    · have hb : (g == f) = false := beq_eq_false_iff_ne.mpr h
      simp only [List.lookup, hb, if_neg h]
  | (k, x) :: r => by
    have ih := lookup_putF f g v r
    rw [show putF f v ((k, x) :: r) = (if k = f then (k, v) :: r else (k, x) :: putF f v r) from rfl]
    by_cases hk : k = f
    · rw [if_pos hk]
      by_cases h : g = k
      · have hb : (g == k) = true := beq_iff_eq.mpr h
        simp only [List.lookup, hb, if_pos (h.trans hk)]
      · have hb : (g == k) = false := beq_eq_false_iff_ne.mpr h
        simp only [List.lookup, hb, if_neg (fun e : g = f => h (e.trans hk.symm))]
    · rw [if_neg hk]
      by_cases h : g = k
      · have hb : (g == k) = true := beq_iff_eq.mpr h
        simp only [List.lookup, hb, if_neg (fun e : g = f => hk (h.symm.trans e))]
      · have hb : (g == k) = false := beq_eq_false_iff_ne.mpr h
        simp only [List.lookup, hb]
        exact ih
theorem keys_putF (f : Str) (v : V) : ∀ fs : List (Str × V), f ∈ (putF f v fs).map (·.1) ∧ ∀ g, g ∈ fs.map (·.1) → g ∈ (putF f v fs).map (·.1)
  | [] => ⟨by simp [putF], fun g h => by simp at h⟩
  | (k, x) :: r => by
    obtain ⟨i1, i2⟩ := keys_putF f v r
    rw [show putF f v ((k, x) :: r) = (if k = f then (k, v) :: r else (k, x) :: putF f v r) from rfl]
    by_cases hk : k = f
    · rw [if_pos hk]
      subst hk
      exact ⟨by simp, fun g h => by simpa using h⟩
    · rw [if_neg hk]
      refine ⟨?_, fun g h => ?_⟩
      · rw [List.map_cons]
        exact List.mem_cons_of_mem _ i1
      · rw [List.map_cons] at h ⊢
        rcases List.mem_cons.mp h with e | e
        · exact List.mem_cons.mpr (.inl e)
        · exact List.mem_cons_of_mem _ (i2 g e)
theorem length_putF (f : Str) (v : V) : ∀ fs : List (Str × V), (putF f v fs).length ≤ fs.length + 1
  | [] => by simp [putF]
  | (k, x) :: r => by
    have ih := length_putF f v r
    rw [show putF f v ((k, x) :: r) = (if k = f then (k, v) :: r else (k, x) :: putF f v r) from rfl]
    by_cases hk : k = f
    · rw [if_pos hk, List.length_cons, List.length_cons]; omega
    · rw [if_neg hk, List.length_cons, List.length_cons]; omega

theorem RelO.some_of {v : V} {o : Option Value} (r : RelO (some v) o) : ∃ u, o = some u ∧ RelV v u := by
  cases o with
  | none => exact (show False from r).elim
  | some u => exact ⟨u, rfl, r⟩
theorem RelO.none_of {o : Option Value} (r : RelO none o) : o = none := by
  cases o with
  | none => rfl
  | some u => exact (show False from r).elim
theorem handed_of {v : V} {u : Value} (r : RelV v u) : PySem.W.handedIn u = true := by
  cases v with
  | non => cases (show u = Value.none from r); rfl
  | bl b => cases (show u = Value.bool b from r); rfl
  | int i => obtain ⟨t, e⟩ := (show ∃ t, u = Value.int i t from r); cases e; rfl
  | str x => obtain ⟨t, e⟩ := (show ∃ t, u = Value.str x t from r); cases e; rfl
  | byt b => obtain ⟨t, e⟩ := (show ∃ t, u = Value.bytes b t from r); cases e; rfl
  | flt b => obtain ⟨t, e⟩ := (show ∃ t, u = Value.float b t from r); cases e; rfl
  | ref a => cases (show u = Value.ref a from r); rfl
  | ty n => cases (show u = Value.type n from r); rfl

section
variable {P : Program} {w : World} {H H' : Hp} {h h' : Heap} {a C dx : Addr} {fs fs' : List (Str × V)}
theorem ins_get (hok : HOk P w H h) (e : H a = some (.ins C dx fs)) : ∃ mA, ObjM h a dx C mA ∧ (∀ f, RelO (fs.lookup f) (mA f)) ∧ PySem.Within mA (fs.map (·.1)) ∧ fs.length ≤ 1000 ∧ H dx = some (.own a) := by
  obtain ⟨d, z, ne, ob, mA, n, r, q⟩ := (show ObjOk P w H h a (.ins C dx fs) from hok a _ e)
  exact ⟨mA, ⟨ob, n, ne⟩, r, q, z, d⟩
end

/-! ### what of the text a class must have -/
structure Cls (K : PySem.W.Frag) (C : Addr) : Prop where
  pg : PySem.W.plainGet K C Str.empty = true
  hd : PySem.W.hasDictIn K C = true
  po : PySem.W.plainOver K C = true
  sa : PySem.W.findIn K (.ref C) "__setattr__" = some (some (.builtin "object.__setattr__"))
theorem Cls.get {K : PySem.W.Frag} {C : Addr} (c : Cls K C) (f : Str) : PySem.W.plainGet K C f = true := c.pg
/-- no class of it has the name -/
def NoAttr (K : PySem.W.Frag) (C : Addr) (f : Str) : Prop := PySem.W.findIn K (.ref C) f = some none
theorem NoAttr.taker {K : PySem.W.Frag} {C : Addr} {f : Str} (n : NoAttr K C f) : PySem.W.takerIn K C f = some none := by
  unfold PySem.W.takerIn
  rw [show PySem.W.findIn K (.ref C) f = some none from n]
  rfl
/-- a constant of the class -/
structure Con (K : PySem.W.Frag) (C : Addr) (f : Str) (v : V) (u : Value) : Prop where
  at_ : PySem.W.findIn K (.ref C) f = some (some u)
  rel : RelV v u
  get : PySem.W.specialIn K u "__get__" = some none
  cp : PySem.W.copiedNames.contains f = false
/-- a method: a plain def of the class or of one above it -/
structure Meth (K : PySem.W.Frag) (C : Addr) (m : Str) (f : Addr) : Prop where
  at_ : PySem.W.findIn K (.ref C) m = some (some (.ref f))
  fn : PySem.W.isFn K (.ref f) = true
  kp : PySem.W.keepIn K (.ref f) = true

section
variable {X : Cx} {pins : List (Addr × Obj)} {σ : St} {H : Hp} {s : Shared} {a C dx : Addr} {fs : List (Str × V)} {f : Str} {v : V} {A : Around} {E : Value → Shared → Prop}

theorem getattr_ok {b : Bool} {Q : Value → Shared → Prop} (I : Inv X pins σ H s) (e : H a = some (.ins C dx fs)) (c : Cls X.K C) (n : NoAttr X.K C f) (l : fs.lookup f = some v)
    (h : ∀ u s', Inv X pins σ H s' → RelV v u → Q u s') : wpAny (model X.prog X.w) A (getAttr (.ref a) f b) Q E s := by
  obtain ⟨mA, O, r, _, _, _⟩ := ins_get I.hok e
  obtain ⟨u, hu, ru⟩ := RelO.some_of (v := v) (o := mA f) (by rw [← l]; exact r f)
  exact get_map I.kIn O (c.get f) c.hd n hu (handed_of ru) (h u _ (I.tok _) ru)

theorem getmeth_ok {m : Str} {g : Addr} {pl : Sem Bool} {Q : Value × List Value → Shared → Prop} (I : Inv X pins σ H s) (e : H a = some (.ins C dx fs)) (c : Cls X.K C) (k : Meth X.K C m g) (l : fs.lookup m = none)
    (h : Q (.ref g, [.ref a]) s) : wpAny (model X.prog X.w) A (getMethod (.ref a) m pl) Q E s := by
  obtain ⟨mA, O, r, _, _, _⟩ := ins_get I.hok e
  have hn : mA m = none := RelO.none_of (by rw [← l]; exact r m)
  exact get_meth I.kIn O (c.get m) k.at_ k.fn hn h

theorem setattr_ok {y : V} {u : Value} {Q : Unit → Shared → Prop} (I : Inv X pins σ H s) (e : H a = some (.ins C dx fs)) (c : Cls X.K C) (n : NoAttr X.K C f) (hl : fs.length < 1000) (ry : RelV y u)
    (h : ∀ s', Inv X pins σ (upd H a (.ins C dx (putF f y fs))) s' → Q () s') : wpAny (model X.prog X.w) A (setAttr (.ref a) f u) Q E s := by
  obtain ⟨mA, O, r, wi, _, ho⟩ := ins_get I.hok e
  have hz : (fs.map (·.1)).length ≤ sizeLine := by rw [List.length_map, sizeLine_eq]; omega
  refine set_map I.kIn O c.sa c.po n.taker c.hd wi hz fun h' O' sb => h _ ?_
  have hd : ∃ o, h'.get? dx = some o := let ⟨o, _, _, e', _⟩ := O'.ns; ⟨o, e'⟩
  refine I.write (x := a) (e := dx) (by rw [e]; exact True.intro) (.inr ho) (fun b q hb z => (sb.2 b hb).trans z) hd ?_
  refine ⟨by rw [upd_ne O.ne]; exact ho, ?_, O.ne, O'.obj, _, O'.ns, fun g => ?_, fun g hg => ?_⟩
  · have := length_putF f y fs; omega
  · show RelO ((putF f y fs).lookup g) (if g = f then some u else mA g)
    rw [lookup_putF]
    by_cases q : g = f
    · rw [if_pos q, if_pos q]; exact ry
    · rw [if_neg q, if_neg q]; exact r g
  · by_cases q : g = f
    · rw [q]; exact (keys_putF f y fs).1
    · refine (keys_putF f y fs).2 g (wi g fun z => hg ?_)
      show (if g = f then some u else mA g) = none
      rw [if_neg q]; exact z

/-- a new instance, tracked, without attributes -/
theorem Inv.made (I : Inv X pins σ H s) : Inv X pins σ (upd (upd H s.heap.objs.size (.own (s.heap.objs.size + 1))) (s.heap.objs.size + 1) (.ins C s.heap.objs.size []))
    { s with heap := (s.heap.push PySem.W.emptyDict).push (PySem.W.instObj C s.heap.objs.size) } := by
  have e1 : (s.heap.push PySem.W.emptyDict).get? s.heap.objs.size = some PySem.W.emptyDict := Heap.get?_push_size s.heap rfl
  have e2 : ((s.heap.push PySem.W.emptyDict).push (PySem.W.instObj C s.heap.objs.size)).get? (s.heap.objs.size + 1) = some (PySem.W.instObj C s.heap.objs.size) := by
    have := Heap.get?_push_size (s.heap.push PySem.W.emptyDict) (o := PySem.W.instObj C s.heap.objs.size) rfl
    rwa [Heap.size_push] at this
  have e3 : (s.heap.push PySem.W.emptyDict).Ns s.heap.objs.size (fun _ => none) := ⟨PySem.W.emptyDict, #[], _, e1, rfl, (fun e he => absurd he (by simp)), fun _ => rfl⟩
  have I1 := I.laid (a := s.heap.objs.size) (o := .own (s.heap.objs.size + 1)) (h' := s.heap.push PySem.W.emptyDict) (t' := s.toks) (fun b u q => Heap.get?_push_of_some _ q) (Nat.le_refl _) ⟨_, e1⟩
  refine I1.laid (a := s.heap.objs.size + 1) (o := .ins C s.heap.objs.size []) (t' := s.toks) (fun b u q => Heap.get?_push_of_some _ q) (Nat.le_of_eq (Heap.size_push _ _)) ?_
  have ne : s.heap.objs.size ≠ s.heap.objs.size + 1 := Nat.ne_of_lt (Nat.lt_succ_self _)
  refine ⟨by rw [upd_ne ne, upd_same], Nat.zero_le _, ne, e2, fun _ => none, (Heap.Ns1.of_empty e3).at fun o q => Heap.get?_push_of_some _ q, fun _ => True.intro, fun y hy => absurd rfl hy⟩

/-- e.f where nothing but the object is asked: through attributeBase (super) and the last hold -/
theorem attr_of {prog : Program} {w : World} {env : Env} {e : Expr} {f : Str} {pos : Pos} {s : Shared} {Q : Value → Shared → Prop} (hb : attributeBase e f env (eval e env) = eval e env)
    (h : wpAny (model prog w) A (eval e env) (fun o s₁ => wpAny (model prog w) A (getAttr o f true) Q E s₁) E s) : wpAny (model prog w) A (eval (.Attribute e f pos) env) Q E s :=
  Attribute_any_ h (by rw [arm_eval_Attribute, hb])
end

/-! ### readings and rules -/
/-- e.f, an attribute of the instance -/
def tFld (K : PySem.W.Frag) (ta : TE) (f : Str) : TE := fun σ H Q => ta σ H fun x H1 => ∃ a C dx fs v, x = .ref a ∧ H1 a = some (.ins C dx fs) ∧ Cls K C ∧ NoAttr K C f ∧ fs.lookup f = some v ∧ Q v H1
/-- e.f = value -/
def sFld (K : PySem.W.Frag) (ta tv : TE) (f : Str) : TS := fun D σ H => tv σ H fun y H1 => ta σ H1 fun x H2 => ∃ a C dx fs, x = .ref a ∧ H2 a = some (.ins C dx fs) ∧ Cls K C ∧ NoAttr K C f ∧ fs.length < 1000 ∧
  D.nx σ (upd H2 a (.ins C dx (putF f y fs)))
section
variable {X : Cx} {o e value : Expr} {f : Str} {pos pos' tpos : Pos} {ta tv : TE}
theorem pe_fld (he : PE X e ta) (hb : attributeBase e f X.env (eval e X.env) = eval e X.env) : PE X (.Attribute e f pos) (tFld X.K ta f) := by
  intro pins s σ H Q I h
  refine attr_of hb (thn (he pins s σ H _ I h) fun u s1 ⟨x, H1, I1, rx, a, C, dx, fs, v, ex, ea, c, n, l, q⟩ => ?_)
  subst ex
  obtain rfl : u = Value.ref a := rx
  exact getattr_ok I1 ea c n l fun u' s2 I2 ru => ⟨v, H1, I2, ru, q⟩
theorem ps_fld (ha : PE X o ta) (hv : PE X value tv) (hs : swapsWith value (some (.Attribute o f pos')) pos.line X.env = pure false) : PS X (.Assign [.Attribute o f pos'] value pos) (sFld X.K ta tv f) := by
  intro pins s σ H D I h
  refine plainObj_wpAny_Assign_Attribute (thn (hv pins s σ H _ I h) fun u s1 ⟨y, H1, I1, ry, q⟩ => thn (ha pins s1 σ H1 _ I1 q) fun ov s2 ⟨x, H2, I2, rx, a, C, dx, fs, ex, ea, c, n, l, q2⟩ => ?_) hs
  subst ex
  obtain rfl : ov = Value.ref a := rx
  exact setattr_ok I2 ea c n l ry fun s3 I3 => ⟨σ, _, I3, q2⟩
/-- what is between an instance and its method: the tree of a method call -/
theorem methcall_of {pl : Sem Bool} {m : Str} {apos : Pos} {args : List Expr} {pins : List (Addr × Obj)} {s : Shared} {σ : St} {H : Hp} {Q : Value → Shared → Prop} {te : TE} (he : PE X e te) (I : Inv X pins σ H s)
    (h : te σ H fun x H1 => ∃ a C dx fs g, x = .ref a ∧ H1 a = some (.ins C dx fs) ∧ Cls X.K C ∧ Meth X.K C m g ∧ fs.lookup m = none ∧
      ∀ s1, Inv X pins σ H1 s1 → wpAny (model X.prog X.w) X.A (callWith pos (.ref g) [.ref a] (backTo pos (starEach args X.env)) (backToKw pos (keywordEach [] X.env))) Q X.xe s1)
    (ht : eval (.Call (.Attribute e m apos) args [] pos) X.env = (do
      let ov ← eval e X.env
      standAt apos.atName
      let (f, first) ← holding [ov] (getMethod ov m pl)
      callWith pos f first (backTo pos (starEach args X.env)) (backToKw pos (keywordEach [] X.env)))) :
    wpAny (model X.prog X.w) X.A (eval (.Call (.Attribute e m apos) args [] pos) X.env) Q X.xe s := by
  refine PySem.W.methodCall_KW (pl := pl) (thn (he pins s σ H _ I h) fun u s1 ⟨x, H1, I1, rx, a, C, dx, fs, g, ex, ea, c, k, l, q⟩ => ?_) ht
  subst ex
  obtain rfl : u = Value.ref a := rx
  exact getmeth_ok I1 ea c k l (q s1 I1)
end

/-! ### isinstance -/
section
variable {X : Cx} {pins : List (Addr × Obj)} {σ : St} {H : Hp} {s : Shared} {A : Around} {E : Value → Shared → Prop} {Q : Value → Shared → Prop} {c : Value} {b : Bool}
/-- the type of a value, as the fragment's deciders take it; for an instance its class -/
inductive TyOf (K : PySem.W.Frag) (H : Hp) : V → Value → Prop where
  | non : TyOf K H .non (.type "NoneType")
  | bl (x : Bool) : TyOf K H (.bl x) (.type "bool")
  | int (i : Int) : TyOf K H (.int i) (.type "int")
  | str (x : Str) : TyOf K H (.str x) (.type "str")
  | flt (x : UInt64) : TyOf K H (.flt x) (.type "float")
  | lst {a : Addr} {xs : List V} (e : H a = some (.lst xs)) : TyOf K H (.ref a) (.type "list")
  | frz {a : Addr} {o : Obj} {xs : List V} (e : H a = some (.frz o (.lst xs))) : TyOf K H (.ref a) (.type "list")
  | tup {a : Addr} {xs : List V} (e : H a = some (.tup xs)) : TyOf K H (.ref a) (.type "tuple")
  | dK {a : Addr} {kvs : List (Key × V)} (e : H a = some (.dK kvs)) : TyOf K H (.ref a) (.type "dict")
  | dT {a : Addr} {kvs : List (List Key × V)} (e : H a = some (.dT kvs)) : TyOf K H (.ref a) (.type "dict")
  | ins {a C dx : Addr} {fs : List (Str × V)} (e : H a = some (.ins C dx fs)) (cl : Cls K C) (ha : PySem.W.findIn K (.ref C) "__class__" = some (some (.builtin "object.__class__")))
      (hn : PySem.W.specialIn K (.builtin "object.__class__") "__get__" = some (some (.builtin "getset_descriptor.__get__"))) (htk : PySem.W.takesIn K (.builtin "object.__class__") = some true)
      (hm : PySem.W.mroIn K C (.type "object") = some true) : TyOf K H (.ref a) (.ref C)
/-- isinstance(x, c) for one class c, a built-in or an own one: kitOne's answer -/
theorem isinst_ok {x : V} {u t : Value} (I : Inv X pins σ H s) (rx : RelV x u) (ty : TyOf X.K H x t) (e : PySem.W.kitOne X.K t c = some b) (h : ∀ tk, Q (.bool b) { s with toks := tk }) :
    wpAny (model X.prog X.w) A (call (.builtin "isinstance") [u, c]) Q E s := by
  cases ty with
  | non => cases (show u = Value.none from rx); exact PySem.W.kia_one PySem.W.kitx_none I.kIn True.intro e (fun z => nomatch z) h
  | bl y => cases (show u = Value.bool y from rx); exact PySem.W.kia_one PySem.W.kitx_bool I.kIn True.intro e (fun z => nomatch z) h
  | int i => obtain ⟨t, q⟩ := (show ∃ t, u = Value.int i t from rx); cases q; exact PySem.W.kia_one PySem.W.kitx_int I.kIn True.intro e (fun z => nomatch z) h
  | str y => obtain ⟨t, q⟩ := (show ∃ t, u = Value.str y t from rx); cases q; exact PySem.W.kia_one PySem.W.kitx_str I.kIn True.intro e (fun z => nomatch z) h
  | flt y => obtain ⟨t, q⟩ := (show ∃ t, u = Value.float y t from rx); cases q; exact PySem.W.kia_one PySem.W.kitx_float I.kIn True.intro e (fun z => nomatch z) h
  | @lst a xs ea =>
    cases (show u = Value.ref a from rx)
    obtain ⟨_, _, n, _, h1⟩ := (show ObjOk X.prog X.w H s.heap a (.lst xs) from I.hok a _ ea)
    exact PySem.W.kia_one PySem.W.kitx_list I.kIn ⟨_, h1, rfl⟩ e (fun z => nomatch z) h
  | @frz a ob xs ea =>
    cases (show u = Value.ref a from rx)
    obtain ⟨_, _, _, n, _, h1⟩ := (show ObjOk X.prog X.w H s.heap a (.frz ob (.lst xs)) from I.hok a _ ea)
    exact PySem.W.kia_one PySem.W.kitx_list I.kIn ⟨_, h1, rfl⟩ e (fun z => nomatch z) h
  | @tup a xs ea =>
    cases (show u = Value.ref a from rx)
    obtain ⟨_, _, _, p⟩ := (show ObjOk X.prog X.w H s.heap a (.tup xs) from I.hok a _ ea)
    obtain ⟨o, h1, h2, _⟩ := p
    exact PySem.W.kia_one PySem.W.kitx_tuple I.kIn ⟨o, h1, h2⟩ e (fun z => nomatch z) h
  | @dK a kvs ea =>
    cases (show u = Value.ref a from rx)
    obtain ⟨_, _, vs, _, p⟩ := (show ObjOk X.prog X.w H s.heap a (.dK kvs) from I.hok a _ ea)
    obtain ⟨o, es, ep, h1, h2, _⟩ := p
    exact PySem.W.kia_one PySem.W.kitx_dict I.kIn ⟨o, h1, h2.1⟩ e (fun z => nomatch z) h
  | @dT a kvs ea =>
    cases (show u = Value.ref a from rx)
    obtain ⟨_, _, xs, _, o, es, ep, h1, h2, _⟩ := (show ObjOk X.prog X.w H s.heap a (.dT kvs) from I.hok a _ ea)
    exact PySem.W.kia_one PySem.W.kitx_dict I.kIn ⟨o, h1, h2.1⟩ e (fun z => nomatch z) h
  | @ins a C dx fs ea cl ha hn htk hm =>
    cases (show u = Value.ref a from rx)
    obtain ⟨mA, O, _⟩ := ins_get I.hok ea
    obtain ⟨od, J, _⟩ := O.look
    exact PySem.W.kia_one (PySem.W.kitx_own (cl.get _) cl.hd ha hn htk hm) I.kIn J e (fun z => nomatch z) h
end
end L2

namespace L2
open PySem PySem.Spec PyProof.Rows

/-! ### room -/
structure Room (k : Nat) (A : Around) : Prop where
  hd : A.handled = none
  dp : A.depth + 3 * k + 5 < recursionLimit
  un : A.units + 16 * k + 200 < cLine
theorem Room.mono {j k : Nat} {A : Around} (r : Room k A) (h : j ≤ k) : Room j A := ⟨r.hd, by have := r.dp; omega, by have := r.un; omega⟩
theorem Room.deeper {k : Nat} {A : Around} (r : Room (k + 1) A) (env : Env) : Room k (A.deeper env) :=
  ⟨r.hd, by have := r.dp; show A.depth + 1 + 3 * k + 5 < _; omega, by have := r.un; show A.units + 3 + 16 * k + 200 < _; omega⟩
theorem make_depth {A : Around} {C : Addr} {us : List Value} {kw : List (Str × Value)} : (A.under (.builtin "type.__call__" ⟨.ref C :: us, kw⟩)).depth = A.depth + 1 := by
  first | rfl | simp [Around.under, Code.weight, Code.isCreation, Code.isGuard, Code.isCaller, Code.frames, Code.isFrame, guardIds]
theorem make_units {A : Around} {C : Addr} {us : List Value} {kw : List (Str × Value)} : (A.under (.builtin "type.__call__" ⟨.ref C :: us, kw⟩)).units = A.units + 1 := by
  first | rfl | simp [Around.under, Code.cUnits, Code.frames, Code.isFrame]
theorem Room.make {k : Nat} {A : Around} (r : Room (k + 1) A) (C : Addr) (us : List Value) (kw : List (Str × Value)) : Room k (A.under (.builtin "type.__call__" ⟨.ref C :: us, kw⟩)) :=
  ⟨r.hd, by have := r.dp; rw [make_depth]; omega, by have := r.un; rw [make_units]; omega⟩
theorem Room.depth {k : Nat} {A : Around} (r : Room k A) : A.depth < recursionLimit := by have := r.dp; omega
theorem Room.units {k : Nat} {A : Around} (r : Room k A) : A.units + 64 < cLine := by have := r.un; omega
/-! ### argument lists and displays -/
def tNil : TA := fun _ H Q => Q [] H
def tCons (ta : TE) (tr : TA) : TA := fun σ H Q => ta σ H fun x H1 => tr σ H1 fun xs H2 => Q (x :: xs) H2
section
variable {X : Cx} {e : Expr} {es : List Expr} {te : TE} {t : TA} {pos : Pos}
theorem pa_nil : PA X [] tNil := fun _ _ _ _ H Q I h => Calls.spliced_nil ⟨[], H, I, .nil, h⟩
theorem pa_cons (ha : PE X e te) (hr : PA X es t) (hs : starEach (e :: es) X.env = (false, eval e X.env) :: starEach es X.env := by rfl) : PA X (e :: es) (tCons te t) := by
  intro pos pins s σ H Q I h
  rw [hs]
  show wpAny _ _ (spliced ((false, eval e X.env) :: backTo pos (starEach es X.env))) _ _ s
  refine Calls.spliced_cons (thn (ha pins s σ H _ I h) fun u s1 ⟨x, H1, I1, r1, q1⟩ => ?_)
  exact thn (hr pos pins s1 σ H1 _ I1 q1) fun us s2 ⟨xs, H2, I2, r2, q2⟩ => ⟨x :: xs, H2, I2, .cons r1 r2, q2⟩

/-- a tuple, a list of written items -/
def tTup (t : TA) : TE := fun σ H Q => t σ H fun xs H1 => xs.length ≤ sizeLine ∧ ∀ p, H1 p = none → Q (.ref p) (upd H1 p (.tup xs))
def tLst (t : TA) : TE := fun σ H Q => t σ H fun xs H1 => xs.length ≤ sizeLine ∧ ∀ p, H1 p = none → Q (.ref p) (upd H1 p (.lst xs))
theorem pe_tup {x1} (h : PA X es t) : PE X (.Tuple es x1 pos) (tTup t) := by
  intro pins s σ H Q I hq
  refine wpAny_Tuple_spliced (thn (h pos pins s σ H _ I hq) fun us s1 ⟨xs, H1, I1, r, z, q⟩ => ⟨by rw [← r.length]; exact z, ?_⟩)
  have hf : H1 s1.heap.objs.size = none := I1.hok.fresh (Nat.le_refl _)
  refine ⟨.ref s1.heap.objs.size, upd H1 s1.heap.objs.size (.tup xs), I1.laid (t' := s1.toks) (fun b u e => Heap.get?_push_of_some _ e) (Nat.le_refl _) ?_, rfl, q _ hf⟩
  exact ⟨z, us, r, ⟨_, Heap.get?_push_size _ rfl, rfl, _, rfl⟩⟩
theorem pe_lst (h : PA X es t) : PE X (.List es pos) (tLst t) := by
  intro pins s σ H Q I hq
  refine wpAny_List_spliced (thn (h pos pins s σ H _ I hq) fun us s1 ⟨xs, H1, I1, r, z, q⟩ => ⟨by rw [← r.length]; exact z, ?_⟩)
  have hf : H1 s1.heap.objs.size = none := I1.hok.fresh (Nat.le_refl _)
  refine ⟨.ref s1.heap.objs.size, upd H1 s1.heap.objs.size (.lst xs), I1.laid (t' := s1.toks) (fun b u e => Heap.get?_push_of_some _ e) (Nat.le_refl _) ?_, rfl, q _ hf⟩
  exact ⟨z, us, 0, r, Heap.get?_push_size _ rfl⟩
end

/-! ### what a def promises -/
/-- a def's promise: the bound arguments in the parameters' order, the heap, the wanted end, the wanted exception -/
abbrev Sp := List V → Hp → VK → XK → Prop
/-- how an exception lies behind a call (file 08 gives it): the callers' frames, abstract heap and state ahead of the call, the wish, the exception, the state -/
abbrev CXT := List Env → Hp → Shared → XK → Value → Shared → Prop

/-- the state at a call -/
structure Env0 (P : Program) (w : World) (K : PySem.W.Frag) (mg : Str → Option Value) (base : Heap) (A : Around) (outer : List Env) (s : Shared) (H : Hp) : Prop where
  frames : A.frames = some outer
  mod : Mod K mg base
  bs : ∀ b o, base.get? b = some o → s.heap.get? b = some o ∧ H b = none
  bsz : base.objs.size ≤ s.heap.objs.size
  funs : s.heap.FunFrames base outer
  frf : ∀ b ∈ frs outer, H b = none
  hok : HOk P w H s.heap
  bare : AllBare s.gens
/-- a call's end -/
def CE (outer : List Env) (P : Program) (w : World) (H : Hp) (s : Shared) (Q : VK) (u : Value) (s' : Shared) : Prop :=
  ∃ v H', s'.os = s.os ∧ AllBare s'.gens ∧ Un (frs outer) [] H H' s.heap s'.heap ∧ HOk P w H' s'.heap ∧ RelV v u ∧ Q v H'
def CR (CX : CXT) (outer : List Env) (P : Program) (w : World) (H : Hp) (s : Shared) (Q : VK) (E : XK) (r : Result) (s' : Shared) : Prop :=
  match r with
  | .ok (.ret u) => CE outer P w H s Q u s'
  | .ok _ => False
  | .error e => CX outer H s E e s'
structure FnOk (P : Program) (w : World) (K : PySem.W.Frag) (mg : Str → Option Value) (base : Heap) (CX : CXT) (k : Nat) (f : Addr) (fd : FuncData) (ps : List Str) (sp : Sp) : Prop where
  len : ∀ vs H Q E, sp vs H Q E → vs.length = ps.length
  run : ∀ (A : Around) (outer : List Env) (s : Shared) (H : Hp) (args : Args) (us : List Value) (vs : List V) (Q : VK) (E : XK), Room k A → Env0 P w K mg base A outer s H → BindsTo s fd args (ps.zip us) → Vals vs us → sp vs H Q E →
    codeAny (model P w) A (.call (.ref f) args) (CR CX outer P w H s Q E) s
theorem Env0.make {P : Program} {w : World} {K : PySem.W.Frag} {mg : Str → Option Value} {base : Heap} {A : Around} {outer : List Env} {s : Shared} {H : Hp} (e : Env0 P w K mg base A outer s H) (C : Addr) (us : List Value) (kw : List (Str × Value)) :
    Env0 P w K mg base (A.under (.builtin "type.__call__" ⟨.ref C :: us, kw⟩)) outer s H := ⟨by first | exact e.frames | (simpa [Around.under, Code.envs, Code.isFrame, pushEnvs] using e.frames), e.mod, e.bs, e.bsz, e.funs, e.frf, e.hok, e.bare⟩
section
variable {X : Cx} {pins : List (Addr × Obj)} {σ : St} {H : Hp} {s s' : Shared}
/-- from a body: what a callee wants -/
theorem Inv.env0 (I : Inv X pins σ H s) : Env0 X.prog X.w X.K X.mg X.base X.A X.stack s H :=
  ⟨I.ok.frames, I.ok.mod, I.bs, Nat.le_trans I.ok.bsz I.sz, I.stack, I.stkFree, I.hok, I.bare⟩
/-- behind a call -/
theorem Inv.after {Q : VK} {u : Value} (I : Inv X pins σ H s) (h : CE X.stack X.prog X.w H s Q u s') : EP X pins σ Q u s' := by
  obtain ⟨v, H', os, bare, un, hok, r, q⟩ := h
  obtain ⟨hh, g, d, t, os'⟩ := s'
  obtain rfl : os' = s.os := os
  exact ⟨v, H', I.call (h' := hh) (g' := g) (d' := d) (t' := t) (ch := []) un hok bare (fun b z => absurd z (by simp)), r, q⟩
end

/-! ### calls -/
/-- f(..): the written arguments, then the defaults dvs; E: what is wanted of an exception -/
def tCall (sp : Sp) (dvs : List V) (E : XK) (t : TA) : TE := fun σ H Q => t σ H fun vs H1 => sp (vs ++ dvs) H1 Q E
/-- o.m(..) of an instance of the class at C -/
def tMeth (C : Addr) (m : Str) (sp : Sp) (dvs : List V) (E : XK) (ta : TE) (t : TA) : TE := fun σ H Q => ta σ H fun x H1 => ∃ a dx fs, x = .ref a ∧ H1 a = some (.ins C dx fs) ∧ fs.lookup m = none ∧
  t σ H1 fun vs H2 => sp (x :: (vs ++ dvs)) H2 Q E
/-- C(..): a new instance and its dict, then __init__ -/
def tMake (C : Addr) (sp : Sp) (dvs : List V) (E : XK) (t : TA) : TE := fun σ H Q => t σ H fun vs H1 => ∀ x dx, H1 x = none → H1 dx = none → dx ≠ x →
  sp (.ref x :: (vs ++ dvs)) (upd (upd H1 dx (.own x)) x (.ins C dx [])) (fun v H2 => v = .non ∧ Q (.ref x) H2) E

/-- how the parameters are bound: us the positional arguments, kw the keywords' values by name, ds the defaults that fill up -/
def Binds (K : PySem.W.Frag) (fd : FuncData) (ps : List Str) (ds : List Value) : Prop :=
  ∀ (s : Shared) (us : List Value), K.In s.heap → (us ++ ds).length = ps.length → BindsTo s fd ⟨us, []⟩ (ps.zip (us ++ ds))
/-- every parameter is given -/
theorem Binds.all {K : PySem.W.Frag} {fd : FuncData} {ps : List Str} (h : ∀ us : List Value, us.length = ps.length → bindArgs fd ⟨us, []⟩ = pure (ps.zip us)) : Binds K fd ps [] := fun s us _ hl => by
  rw [List.append_nil] at hl ⊢
  exact .of_eq (h us hl)

/-- an exception of a callee reaches what this body wants of exceptions -/
def Passes (CX : CXT) (X : Cx) (E : XK) : Prop := ∀ (pins : List (Addr × Obj)) (σ : St) (H : Hp) (s : Shared) (e : Value) (s' : Shared), Inv X pins σ H s → CX X.stack H s E e s' → X.xe e s'

section
variable {X : Cx} {CX : CXT} {k : Nat} {f C : Addr} {fd : FuncData} {ps : List Str} {sp : Sp} {dvs : List V} {ds : List Value} {E : XK} {x m : Str} {p pos apos : Pos} {e o : Expr} {es : List Expr} {ta : TE} {t : TA}

/-- the callee runs -/
theorem run_fn {pins : List (Addr × Obj)} {σ : St} {H : Hp} {s : Shared} {Q : VK} {us : List Value} {vs : List V} (F : FnOk X.prog X.w X.K X.mg X.base CX k f fd ps sp) (hr : Room k X.A) (hb : Binds X.K fd ps ds) (hd : Vals dvs ds) (hx : Passes CX X E)
    (I : Inv X pins σ H s) (r : Vals vs us) (h : sp (vs ++ dvs) H Q E) : wpAny (model X.prog X.w) X.A (call (.ref f) us) (EP X pins σ Q) X.xe s := by
  have r2 : Vals (vs ++ dvs) (us ++ ds) := r.append hd
  have hl : (us ++ ds).length = ps.length := by rw [← r2.length]; exact F.len _ _ _ _ h
  refine wpAny_call (codeAny_mono (F.run X.A X.stack s H ⟨us, []⟩ (us ++ ds) (vs ++ dvs) Q E hr I.env0 (hb s us I.kIn hl) r2 h) fun r s' hq => ?_)
  cases r with
  | error e => exact hx pins σ H s e s' I hq
  | ok fl =>
    cases fl with
    | ret u => exact I.after hq
    | next => exact False.elim hq
    | brk => exact False.elim hq
    | cont => exact False.elim hq

theorem pe_call (F : FnOk X.prog X.w X.K X.mg X.base CX k f fd ps sp) (hr : Room k X.A) (hg : Gl X x) (hm : X.mg x = some (.ref f)) (hk : PySem.W.keepIn X.K (.ref f) = true) (hb : Binds X.K fd ps ds) (hd : Vals dvs ds) (hx : Passes CX X E)
    (ha : PA X (e :: es) t) (hdb : (x == ("__debug__" : Str)) = false := by decide) (he : starEach (e :: es) X.env = (false, eval e X.env) :: starEach es X.env := by rfl) (hpl : (backTo pos (starEach es X.env)).any (·.1) = false := by rfl) :
    PE X (.Call (.Name x p) (e :: es) [] pos) (tCall sp dvs E t) := by
  intro pins s σ H Q I h
  refine wpAny_Call_Name_kw (ld_glob I hg hm ?_ hdb)
  refine PySem.W.callWith_K (h₀ := X.base) I.ok.mod.kin hk (thn (ha pos pins s σ H _ I h) fun us s1 ⟨vs, H1, I1, r, q⟩ => ⟨I1.kIn, ?_⟩) he hpl
  exact run_fn F hr hb hd hx I1 r q
/-- o.m(e, ..) -/
theorem pe_meth {pl : Sem Bool} (he : PE X o ta) (c : Cls X.K C) (hm : Meth X.K C m f) (F : FnOk X.prog X.w X.K X.mg X.base CX k f fd ps sp) (hr : Room k X.A) (hb : Binds X.K fd ps ds) (hd : Vals dvs ds) (hx : Passes CX X E) (ha : PA X (e :: es) t)
    (hst : starEach (e :: es) X.env = (false, eval e X.env) :: starEach es X.env := by rfl) (hpl : (backTo pos (starEach es X.env)).any (·.1) = false := by rfl)
    (ht : eval (.Call (.Attribute o m apos) (e :: es) [] pos) X.env = (do
      let ov ← eval o X.env
      standAt apos.atName
      let (f, first) ← holding [ov] (getMethod ov m pl)
      callWith pos f first (backTo pos (starEach (e :: es) X.env)) (backToKw pos (keywordEach [] X.env))) := by rfl) :
    PE X (.Call (.Attribute o m apos) (e :: es) [] pos) (tMeth C m sp dvs E ta t) := by
  intro pins s σ H Q I h
  refine PySem.W.methodCall_KW (pl := pl) (thn (he pins s σ H _ I h) fun u s1 ⟨x, H1, I1, rx, a, dx, fs, ex, ea, l, q⟩ => ?_) ht
  subst ex
  obtain rfl : u = Value.ref a := rx
  refine getmeth_ok I1 ea c hm l ?_
  refine PySem.W.callWith_K (first := [.ref a]) (h₀ := X.base) I.ok.mod.kin hm.kp (thn (ha pos pins s1 σ H1 _ I1 q) fun us s2 ⟨vs, H2, I2, r, q2⟩ => ⟨I2.kIn, ?_⟩) hst hpl
  exact run_fn (us := .ref a :: us) (vs := .ref a :: vs) F hr hb hd hx I2 (.cons rfl r) q2
/-- o.m() -/
theorem pe_meth0 {pl : Sem Bool} (he : PE X o ta) (c : Cls X.K C) (hm : Meth X.K C m f) (F : FnOk X.prog X.w X.K X.mg X.base CX k f fd ps sp) (hr : Room k X.A) (hb : Binds X.K fd ps ds) (hd : Vals dvs ds) (hx : Passes CX X E)
    (ht : eval (.Call (.Attribute o m apos) [] [] pos) X.env = (do
      let ov ← eval o X.env
      standAt apos.atName
      let (f, first) ← holding [ov] (getMethod ov m pl)
      callWith pos f first (backTo pos (starEach [] X.env)) (backToKw pos (keywordEach [] X.env))) := by rfl) :
    PE X (.Call (.Attribute o m apos) [] [] pos) (tMeth C m sp dvs E ta tNil) := by
  intro pins s σ H Q I h
  refine PySem.W.methodCall_KW (pl := pl) (thn (he pins s σ H _ I h) fun u s1 ⟨x, H1, I1, rx, a, dx, fs, ex, ea, l, q⟩ => ?_) ht
  subst ex
  obtain rfl : u = Value.ref a := rx
  refine getmeth_ok I1 ea c hm l ?_
  exact PySem.W.callWith_K0 (first := [.ref a]) I1.kIn hm.kp (run_fn (us := [.ref a]) (vs := [.ref a]) F hr hb hd hx I1 (.cons rfl .nil) q)

/-- what a class must have to be made -/
structure Mk (K : PySem.W.Frag) (C f : Addr) : Prop where
  makes : PySem.W.makesIn K C = true
  init : PySem.W.findIn K (.ref C) "__init__" = some (some (.ref f))
  fn : PySem.W.isFn K (.ref f) = true
  kp : PySem.W.keepIn K (.ref C) = true

theorem run_make {pins : List (Addr × Obj)} {σ : St} {H : Hp} {s : Shared} {Q : VK} {us : List Value} {vs : List V} (M : Mk X.K C f) (F : FnOk X.prog X.w X.K X.mg X.base CX k f fd ps sp) (hr : Room (k + 1) X.A) (hb : Binds X.K fd ps ds) (hd : Vals dvs ds)
    (hx : Passes CX X E) (I : Inv X pins σ H s) (r : Vals vs us)
    (h : ∀ x dx, H x = none → H dx = none → dx ≠ x → sp (.ref x :: (vs ++ dvs)) (upd (upd H dx (.own x)) x (.ins C dx [])) (fun v H2 => v = .non ∧ Q (.ref x) H2) E) :
    wpAny (model X.prog X.w) X.A (call (.ref C) us) (EP X pins σ Q) X.xe s := by
  have hq := h (s.heap.objs.size + 1) s.heap.objs.size (I.hok.fresh (Nat.le_succ _)) (I.hok.fresh (Nat.le_refl _)) (Nat.ne_of_lt (Nat.lt_succ_self _))
  have I2 := Inv.made (C := C) I
  have r2 : Vals (V.ref (s.heap.objs.size + 1) :: (vs ++ dvs)) (Value.ref (s.heap.objs.size + 1) :: (us ++ ds)) := .cons rfl (r.append hd)
  have hl : (Value.ref (s.heap.objs.size + 1) :: us ++ ds).length = ps.length := by
    have e := r2.length
    rw [F.len _ _ _ _ hq] at e
    exact e.symm
  refine wpAny_call (make_map (f := f) I.kIn M.makes M.init (beq_iff_eq.mp M.fn) (codeAny_mono (F.run _ X.stack _ _ ⟨Value.ref (s.heap.objs.size + 1) :: us, []⟩ (Value.ref (s.heap.objs.size + 1) :: (us ++ ds)) _ _ E (hr.make C us [])
    (I2.env0.make C us []) (hb _ (Value.ref (s.heap.objs.size + 1) :: us) I2.kIn hl) r2 hq) fun r s' hq' => ?_))
  cases r with
  | error e => exact hx pins σ _ _ e s' I2 hq'
  | ok fl =>
    cases fl with
    | ret u =>
      obtain ⟨v, H', I3, rv, ev, q3⟩ := I2.after hq'
      subst ev
      exact ⟨rv, ⟨V.ref (s.heap.objs.size + 1), H', I3, rfl, q3⟩⟩
    | next => exact False.elim hq'
    | brk => exact False.elim hq'
    | cont => exact False.elim hq'
theorem pe_make (M : Mk X.K C f) (F : FnOk X.prog X.w X.K X.mg X.base CX k f fd ps sp) (hr : Room (k + 1) X.A) (hg : Gl X x) (hm : X.mg x = some (.ref C)) (hb : Binds X.K fd ps ds) (hd : Vals dvs ds) (hx : Passes CX X E)
    (ha : PA X (e :: es) t) (hdb : (x == ("__debug__" : Str)) = false := by decide) (he : starEach (e :: es) X.env = (false, eval e X.env) :: starEach es X.env := by rfl) (hpl : (backTo pos (starEach es X.env)).any (·.1) = false := by rfl) :
    PE X (.Call (.Name x p) (e :: es) [] pos) (tMake C sp dvs E t) := by
  intro pins s σ H Q I h
  refine wpAny_Call_Name_kw (ld_glob I hg hm ?_ hdb)
  refine PySem.W.callWith_K (h₀ := X.base) I.ok.mod.kin M.kp (thn (ha pos pins s σ H _ I h) fun us s1 ⟨vs, H1, I1, r, q⟩ => ⟨I1.kIn, ?_⟩) he hpl
  exact run_make M F hr hb hd hx I1 r q
end

/-! ### keywords -/
section
variable {X : Cx} {CX : CXT} {k : Nat} {f C : Addr} {fd : FuncData} {ps ks : List Str} {sp : Sp} {E : XK} {x m : Str} {p pos apos kpos : Pos} {e o : Expr} {es : List Expr} {kws : List Keyword} {te ta : TE} {t tk : TA} {nm : Option Str}
/-- how a call with keywords binds: g puts the positional values us and the keywords' values ws (names ks) in the parameters' order, defaults among them -/
structure KBinds (K : PySem.W.Frag) (fd : FuncData) (ps ks : List Str) (g : List Value → List Value → List Value) (gV : List V → List V → List V) : Prop where
  to : ∀ (s : Shared) (us ws : List Value), K.In s.heap → (g us ws).length = ps.length → BindsTo s fd ⟨us, ks.zip ws⟩ (ps.zip (g us ws))
  rel : ∀ {vs : List V} {us : List Value} {zs : List V} {ws : List Value}, Vals vs us → Vals zs ws → Vals (gV vs zs) (g us ws)
variable {g : List Value → List Value → List Value} {gV : List V → List V → List V}
end

/-! ### a def's body keeps its promise -/
/-- names: the parameters first -/
structure FnScope (N P : List Str) (sc : Scope) : Prop where
  kind : sc.kind = .function
  co : sc.isCoroutine = false
  gen : sc.isGenerator = false
  nd : N.Nodup
  pre : N.take P.length = P
  par : ∀ x ∈ P, sc.names.lookup x = some .local ∨ sc.names.lookup x = some .cell
  nofree : ∀ y ∈ sc.names, y.2 ≠ .free

theorem bindL_out {kindOf : Str → Option NameKind} {x : Str} : ∀ {binds : List (Str × Value)} {m : Str → Option Value}, (∀ v, (x, v) ∉ binds) → bindL kindOf binds m x = m x
  | [], _, _ => rfl
  | (n, v) :: r, m, h => by
    unfold bindL
    rw [bindL_out fun w hw => h w (List.mem_cons_of_mem _ hw)]
    split
    · have : x ≠ n := by rintro rfl; exact h v List.mem_cons_self
      simp [this]
    · rfl
theorem bindC_out {kindOf : Str → Option NameKind} {x : Str} : ∀ {binds : List (Str × Value)} {m : Str → Option Value}, (∀ v, (x, v) ∉ binds) → bindC kindOf binds m x = m x
  | [], _, _ => rfl
  | (n, v) :: r, m, h => by
    unfold bindC
    rw [bindC_out fun w hw => h w (List.mem_cons_of_mem _ hw)]
    split
    · rfl
    · have : x ≠ n := by rintro rfl; exact h v List.mem_cons_self
      simp [this]
theorem bindL_get {kindOf : Str → Option NameKind} {x : Str} {v : Value} : ∀ {P : List Str} {vs : List Value} {i : Nat} {m : Str → Option Value}, P.Nodup → P[i]? = some x → vs[i]? = some v → kindOf x = some .local →
    bindL kindOf (P.zip vs) m x = some v
  | [], _, _, _, _, h, _, _ => by simp at h
  | _ :: _, [], _, _, _, _, h, _ => by simp at h
  | p :: P, w :: vs, 0, m, nd, h1, h2, hk => by
    simp at h1 h2; subst h1; subst h2
    show bindL kindOf ((p, w) :: P.zip vs) m p = _
    unfold bindL
    rw [bindL_out fun v hv => (List.nodup_cons.mp nd).1 (List.of_mem_zip hv).1, if_pos hk]
    simp
  | p :: P, w :: vs, i + 1, m, nd, h1, h2, hk => by
    show bindL kindOf ((p, w) :: P.zip vs) m x = _
    unfold bindL
    exact bindL_get (i := i) (List.nodup_cons.mp nd).2 (by simpa using h1) (by simpa using h2) hk
theorem bindC_get {kindOf : Str → Option NameKind} {x : Str} {v : Value} : ∀ {P : List Str} {vs : List Value} {i : Nat} {m : Str → Option Value}, P.Nodup → P[i]? = some x → vs[i]? = some v → kindOf x ≠ some .local →
    bindC kindOf (P.zip vs) m x = some v
  | [], _, _, _, _, h, _, _ => by simp at h
  | _ :: _, [], _, _, _, _, h, _ => by simp at h
  | p :: P, w :: vs, 0, m, nd, h1, h2, hk => by
    simp at h1 h2; subst h1; subst h2
    show bindC kindOf ((p, w) :: P.zip vs) m p = _
    unfold bindC
    rw [bindC_out fun v hv => (List.nodup_cons.mp nd).1 (List.of_mem_zip hv).1, if_neg hk]
    simp
  | p :: P, w :: vs, i + 1, m, nd, h1, h2, hk => by
    show bindC kindOf ((p, w) :: P.zip vs) m x = _
    unfold bindC
    exact bindC_get (i := i) (List.nodup_cons.mp nd).2 (by simpa using h1) (by simpa using h2) hk

/-- the names' values at the entry -/
def start (N : List Str) (vs : List V) : St := vs.map some ++ List.replicate (N.length - vs.length) none

/-- the context of a def's body, at its entry; an exception leaves the frame, then lies as CX says -/
def cxOf (CX : CXT) (P : Program) (w : World) (K : PySem.W.Frag) (mg : Str → Option Value) (base : Heap) (N : List Str) (qual : Str) (scope : Scope) (f : Addr) (cd : Value) (A : Around) (outer : List Env) (s : Shared) (H : Hp) (E : XK) : Cx where
  prog := P
  w := w
  K := K
  mg := mg
  base := base
  A := A.deeper (envOfC qual scope s.heap.objs.size f cd)
  N := N
  s₀ := s
  H₀ := H
  env := envOfC qual scope s.heap.objs.size f cd
  outer := outer
  stack := envOfC qual scope s.heap.objs.size f cd :: outer
  ex := []
  calm := true
  fn := fun _ => true
  pn := []
  xe := fun e s' => wpAny (model P w) (A.deeper (envOfC qual scope s.heap.objs.size f cd)) (leaving (envOfC qual scope s.heap.objs.size f cd) e) (fun _ s'' => CX outer H s E e s'') (fun e' s'' => CX outer H s E e' s'') s'

theorem cell_has {sc : Scope} {n : Nat} {x : Str} (h : sc.names.lookup x = some .cell) : ∃ c, (cellsFrom n sc.names []).lookup x = some c := by
  have q := PySem.W.cellsFrom_some sc.names n [] (.inl h)
  exact Option.isSome_iff_exists.mp q

theorem inv_start {CX : CXT} {P : Program} {w : World} {K : PySem.W.Frag} {mg : Str → Option Value} {base : Heap} {N ps : List Str} {qual : Str} {scope : Scope} {f : Addr} {cd : Value} {A : Around} {outer : List Env} {s s1 : Shared} {H : Hp} {E : XK} {us : List Value} {vs : List V}
    (S : FnScope N ps scope) (hd : A.handled = none) (e0 : Env0 P w K mg base A outer s H) (hl : vs.length = ps.length) (r : Vals vs us)
    (x : InCallC s s.heap.objs.size (bindL (envOfC qual scope s.heap.objs.size f cd).kindOf (ps.zip us) fun _ => none) (cellsFrom (s.heap.objs.size + 1) scope.names []) (bindC (envOfC qual scope s.heap.objs.size f cd).kindOf (ps.zip us) fun _ => none) s1) :
    Inv (cxOf CX P w K mg base N qual scope f cd A outer s H E) [] (start N vs) H s1 := by
  have hpl : ps.length ≤ N.length := by have := congrArg List.length S.pre; rw [List.length_take] at this; omega
  obtain ⟨h1, tk, rfl, hk⟩ := x.done
  have noA : ∀ b : Addr, b ∉ (cxOf CX P w K mg base N qual scope f cd A outer s H E).ex := fun b z => absurd (show b ∈ ([] : List Addr) from z) (by simp)
  refine ⟨⟨e0.mod, S.kind, rfl, rfl, Nat.le_refl _, fun y z c h1 h2 => ?_, fun y hy => ?_, fun y c _ h => ?_, fun _ => hd, Around.frames_deeper e0.frames, .inr ⟨rfl, rfl⟩, fun b z => absurd z (noA b), e0.bs, e0.bsz, fun b _ _ => noA b, fun b z => absurd z (noA b), e0.funs, e0.frf⟩,
    rfl, e0.bare, Un.kept hk, ⟨_, x.toInCall.ns, fun i y v h1 h2 h3 => ?_⟩, fun y c h => ⟨_, x.cell y c h⟩, e0.hok.fresh (Nat.le_refl _), fun y c h => ?_, fun p hp => absurd (show p ∈ ([] : List (Addr × Obj)) from hp) (by simp), e0.hok.kept hk, ?_⟩
  · exact name_of_addr x.apart (PySem.mem_of_lookup h1) (PySem.mem_of_lookup h2)
  · have hy : scope.names.lookup y = some .cell ∨ scope.names.lookup y = some .free := hy
    rcases hy with hy | hy
    · exact cell_has hy
    · exact absurd rfl (S.nofree _ (PySem.mem_of_lookup hy))
  · exact Nat.le_of_lt (x.above y c (PySem.mem_of_lookup h))
  · have hi : i < vs.length := by
      unfold start at h2
      by_cases hi : i < vs.length
      · exact hi
      · rw [List.getElem?_append_right (by simpa using hi)] at h2
        rw [List.getElem?_replicate] at h2
        split at h2 <;> cases h2
    have ha : vs[i]? = some v := by
      unfold start at h2
      rw [List.getElem?_append_left (by simpa using hi), List.getElem?_map] at h2
      cases e : vs[i]? with
      | none => rw [e] at h2; cases h2
      | some a => rw [e] at h2; cases h2; rfl
    obtain ⟨u, hu, rv⟩ := r.get ha
    have hp : ps[i]? = some y := by
      rw [← S.pre, List.getElem?_take_of_lt (by omega)]; exact h1
    have ndP : ps.Nodup := by rw [← S.pre]; exact S.nd.sublist (List.take_sublist _ _)
    refine ⟨u, rv, ?_⟩
    rcases S.par y (List.mem_of_getElem? hp) with k | k
    · exact .inl ⟨k, bindL_get ndP hp hu k⟩
    · obtain ⟨c, e⟩ := cell_has (n := s.heap.objs.size + 1) k
      refine .inr ⟨.inl k, c, e, ?_⟩
      have q := x.cell y c e
      rw [bindC_get ndP hp hu (by show scope.names.lookup y ≠ _; rw [k]; decide)] at q
      exact q
  · exact e0.hok.fresh (Nat.le_of_lt (x.above y c (PySem.mem_of_lookup h)))
  · unfold start
    show _ = N.length
    rw [List.length_append, List.length_map, List.length_replicate]
    omega

/-- THE RULE: a def (or a method) of the text, by its body. The body's reading t is chosen for each entry; it is run at the parameters' values -/
theorem fn_of {CX : CXT} {P : Program} {w : World} {K : PySem.W.Frag} {mg : Str → Option Value} {base : Heap} {k : Nat} {f : Addr} {name qual : Str} {params : Arguments} {body : List Stmt} {scope : Scope} {dV kV doc pm cdv ct oc : Value} {an od : Option Addr}
    {osl : Array (Option Value)} {N ps : List Str} {sp : Sp} (lk : K.lookup f = some ⟨oc, od, .func (PySem.W.fnOf name qual params body scope dV kV doc pm an cdv ct), osl⟩) (hcd : PySem.W.codeIn K cdv qual = true) (S : FnScope N ps scope)
    (len : ∀ vs H Q E, sp vs H Q E → vs.length = ps.length)
    (hbody : ∀ (A : Around) (outer : List Env) (s : Shared) (H : Hp) (vs : List V) (Q : VK) (E : XK), Room k (A.deeper (envOfC qual scope s.heap.objs.size f cdv)) → sp vs H Q E →
      ∃ t, PSs (cxOf CX P w K mg base N qual scope f cdv A outer s H E) body t ∧ t { nx := fun _ H' => Q .non H', rt := Q } (start N vs) H) :
    FnOk P w K mg base CX (k + 1) f (PySem.W.fnOf name qual params body scope dV kV doc pm an cdv ct) ps sp := by
  refine ⟨len, fun A outer s H args us vs Q E hr e0 hb r hsp => ?_⟩
  have hl := len _ _ _ _ hsp
  have KX : K.In s.heap := e0.mod.kin.keeps fun b o e => (e0.bs b o e).1
  have lim : s.heap.NoLimit := e0.mod.nolimit.keeps fun b o e => (e0.bs b o e).1
  have hkind : ∀ y ∈ ps.zip us, scope.names.lookup y.1 = some .local ∨ (scope.names.lookup y.1 = some .cell ∧ ((cellsFrom (s.heap.objs.size + 1) scope.names []).lookup y.1).isSome = true) := fun ⟨n, v⟩ hy => by
    rcases S.par n (List.of_mem_zip hy).1 with q | q
    · exact .inl q
    · exact .inr ⟨q, PySem.W.cellsFrom_some _ _ _ (.inl q)⟩
  refine codeAny_call_function hr.depth (KX _ _ lk) rfl S.co S.gen rfl (PySem.W.codeRec_of KX hcd) (hb _ _ _ _ ?_)
  refine wpAny_newFunctionEnv_cells S.kind hkind fun env he s1 x => ?_
  subst he
  refine ⟨lim.keeps x.toInCall.keep, codeAny_func ?_⟩
  obtain ⟨t, ht, hq⟩ := hbody A outer s H vs Q E (hr.deeper _) hsp
  have I : Inv (cxOf CX P w K mg base N qual scope f cdv A outer s H E) [] (start N vs) H s1 := inv_start S hr.hd e0 hl r x
  refine wpAny_mono (ht [] s1 (start N vs) H _ I hq) (fun fl s' hs => ?_) fun e s' hs => hs
  have fin : ∀ {σ' : St} {H' : Hp} {v : V} {u : Value}, Inv (cxOf CX P w K mg base N qual scope f cdv A outer s H E) [] σ' H' s' → RelV v u → Q v H' → CE outer P w H s Q u s' :=
    fun {σ' H' v u} J rv q => ⟨v, H', J.os, J.bare, J.base, J.hok, rv, q⟩
  cases fl with
  | ret u =>
    obtain ⟨v, σ', H', J, rv, q⟩ := hs
    exact fin J rv q
  | next =>
    obtain ⟨σ', H', J, q⟩ := hs
    exact fin (v := V.non) (u := Value.none) J rfl q
  | brk =>
    obtain ⟨_, _, _, q⟩ := hs
    exact False.elim q
  | cont =>
    obtain ⟨_, _, _, q⟩ := hs
    exact False.elim q
end L2

namespace L2
open PySem PySem.Spec PyProof.Rows
section
variable {X : Cx} {x : Str} {p pos : Pos} {e : Expr} {es : List Expr} {t : TA} {id T : String} {r : List V → Hp → VK → Prop}

def tCB (r : List V → Hp → VK → Prop) (t : TA) : TE := fun σ H Q => t σ H fun vs H1 => r vs H1 Q
/-- f(e, ..), f a built-in function -/
theorem pe_callB (hc : CallR X (.builtin id) r) (hg : Gl X x) (hm : X.mg x = none) (hv : bootBuiltins x = some (.builtin id)) (ha : PA X (e :: es) t) (hn : x ≠ "__name__" := by decide) (hdb : (x == ("__debug__" : Str)) = false := by decide)
    (he : starEach (e :: es) X.env = (false, eval e X.env) :: starEach es X.env := by rfl) (hpl : (backTo pos (starEach es X.env)).any (·.1) = false := by rfl) : PE X (.Call (.Name x p) (e :: es) [] pos) (tCB r t) := by
  intro pins s σ H Q I h
  refine wpAny_Call_Name_kw (ld_blt I hg hm hv ?_ hn hdb)
  exact PyProof.Rows.callWith_builtin1 (thn (ha pos pins s σ H _ I h) fun us s1 ⟨vs, H1, I1, r1, q1⟩ => hc pins s1 σ H1 vs us Q I1 r1 q1) he hpl
/-- T(e, ..), T a built-in type -/
theorem pe_callTy (hc : CallR X (.type T) r) (hg : Gl X x) (hm : X.mg x = none) (hv : bootBuiltins x = some (.type T)) (ha : PA X (e :: es) t) (hn : x ≠ "__name__" := by decide) (hdb : (x == ("__debug__" : Str)) = false := by decide)
    (he : starEach (e :: es) X.env = (false, eval e X.env) :: starEach es X.env := by rfl) (hpl : (backTo pos (starEach es X.env)).any (·.1) = false := by rfl) : PE X (.Call (.Name x p) (e :: es) [] pos) (tCB r t) := by
  intro pins s σ H Q I h
  refine wpAny_Call_Name_kw (ld_blt I hg hm hv ?_ hn hdb)
  exact PyProof.Rows.callWith_type1 (thn (ha pos pins s σ H _ I h) fun us s1 ⟨vs, H1, I1, r1, q1⟩ => hc pins s1 σ H1 vs us Q I1 r1 q1) he hpl
end
end L2

namespace HT
open PySem PyProof.Rows

section
open PySem.SeqAt
open PySem.AutoSeq1 (wpAny_loadPart')
open PySem.MeetsSeq PySem.MeetsSeq2 PySem.MeetsSeq3

end

section
variable {prog : Program} {w : World} {A : Around} {E : Value → Shared → Prop} {s : Shared}

/-! ### t[a:b], not the whole -/
/-- a slice's bound as a place among n (d where it is left out) -/
def sIx (n d : Nat) : Option Int → Nat
  | none => d
  | some v => if v < 0 then (v + (n : Int)).toNat else min v.toNat n
theorem sIx_nat (n d k : Nat) : sIx n d (some (k : Int)) = min k n := by
  show (if (k : Int) < 0 then ((k : Int) + (n : Int)).toNat else min (k : Int).toNat n) = min k n
  rw [if_neg (by omega), Int.toNat_natCast]
end
end HT

namespace L2
open PySem PySem.Spec PyProof.Rows

/-! ### the parts of a slice -/
abbrev TO := St → Hp → (Option Int → Hp → Prop) → Prop
/-- a slice's part (left out, or an int) -/
def PO (X : Cx) (e : Option Expr) (t : TO) : Prop :=
  ∀ (pins : List (Addr × Obj)) (s : Shared) (σ : St) (H : Hp) (Q : Option Int → Hp → Prop), Inv X pins σ H s → t σ H Q →
    wpAny (model X.prog X.w) X.A (evalPart e X.env) (fun u s' => ∃ o H', Inv X pins σ H' s' ∧ IsPart u o ∧ Q o H') X.xe s
def tNoPart : TO := fun _ H Q => Q none H
def tPart (t : TE) : TO := fun σ H Q => t σ H fun x H1 => ∃ i, x = .int i ∧ Q (some i) H1

theorem intsAre_of {ns : List Int} : ∀ {us : List Value}, Vals (ns.map V.int) us → IntsAre us ns := by
  induction ns with
  | nil => intro us r; rw [List.map_nil] at r; cases r; exact .nil
  | cons n ns ih =>
    intro us r
    rw [List.map_cons] at r
    cases r with
    | cons r1 r2 =>
      obtain ⟨t, e⟩ := r1
      subst e
      exact .cons n t (ih r2)

section
variable {X : Cx} {e : Expr} {te : TE} {lo hi : Option Expr} {tl th : TO} {pos p2 : Pos}

theorem po_none : PO X none tNoPart := by
  intro pins s σ H Q I h
  rw [evalPart_none]
  exact wpAny_pure ⟨none, H, I, .none, h⟩
theorem po_some (h : PE X e te) : PO X (some e) (tPart te) := by
  intro pins s σ H Q I hw
  rw [evalPart_some]
  refine thn (h pins s σ H _ I hw) fun u s1 ⟨x, H1, I1, r1, q1⟩ => ?_
  obtain ⟨i, rfl, q⟩ := q1
  obtain ⟨t, rfl⟩ := r1
  exact ⟨some i, H1, I1, .int i t, q⟩

/-- what a slice of a value is, by values: the slice object stands at sl -/
def SlR (X : Cx) (r : V → Option Int → Option Int → Hp → VK → Prop) : Prop :=
  ∀ (pins : List (Addr × Obj)) (s : Shared) (σ : St) (H : Hp) (x : V) (v vl vu : Value) (lo hi : Option Int) (sl : Addr) (Q : VK), Inv X pins σ H s → RelV x v → s.heap.IsSliceOf sl vl vu .none → IsPart vl lo → IsPart vu hi → r x lo hi H Q →
    ∃ T id, typeLookup (.type T) "__getitem__" = pure (some (.builtin id)) ∧ s.TypeIs v T ∧ wpAny (model X.prog X.w) X.A (getItem v (.ref sl)) (EP X pins σ Q) X.xe s
def tSl (r : V → Option Int → Option Int → Hp → VK → Prop) (te : TE) (tl th : TO) : TE := fun σ H Q => te σ H fun x H1 => tl σ H1 fun l H2 => th σ H2 fun u H3 => r x l u H3 Q
/-- a[lo:hi], any a -/
theorem pe_slice {r : V → Option Int → Option Int → Hp → VK → Prop} (hr : SlR X r) (he : PE X e te) (hl : PO X lo tl) (hu : PO X hi th) : PE X (.Subscript e (.Slice lo hi none p2) pos) (tSl r te tl th) := by
  intro pins s σ H Q I h
  refine Subscript_ (thn (he pins s σ H _ I h) fun v s1 ⟨x, H1, I1, r1, q1⟩ => ?_)
  refine wpAny_Slice (thn (hl pins s1 σ H1 _ I1 q1) fun vl s2 ⟨l, H2, I2, pl, q2⟩ => thn (hu pins s2 σ H2 _ I2 q2) fun vu s3 ⟨u, H3, I3, pu, q3⟩ => ?_)
  rw [evalPart_none]
  refine wpAny_pure ?_
  have I4 : Inv X pins σ H3 { s3 with heap := s3.heap.push { cls := .type "slice", data := .fields #[vl, vu, .none] } } := I3.kept (t' := s3.toks) fun b ob q => Heap.get?_push_of_some _ q
  obtain ⟨T, id, hT, ht, hg⟩ := hr pins { s3 with heap := s3.heap.push { cls := .type "slice", data := .fields #[vl, vu, .none] } } σ H3 x v vl vu l u s3.heap.objs.size Q I4 r1 (Heap.IsSliceOf.new ..) pl pu q3
  show wpAny (model X.prog X.w) X.A (subscriptTail e (.Slice lo hi none p2) v (.ref s3.heap.objs.size)) (EP X pins σ Q) X.xe { s3 with heap := s3.heap.push { cls := .type "slice", data := .fields #[vl, vu, .none] } }
  exact tail_any (ops := [.ref s3.heap.objs.size, v]) ht hT hg (by with_unfolding_all rfl)

/-- the items of xs[lo:hi] -/
def cutV (xs : List V) (lo hi : Option Int) : List V := (xs.drop (HT.sIx xs.length 0 lo)).take (HT.sIx xs.length xs.length hi - HT.sIx xs.length 0 lo)
theorem cutV_length (xs : List V) (lo hi : Option Int) : (cutV xs lo hi).length ≤ xs.length := by
  unfold cutV
  rw [List.length_take, List.length_drop]
  omega
/-! ### t < u, t + u -/
end
end L2

namespace L2
open PySem PySem.Spec PyProof.Rows

/-! ### places -/
/-- the place that an index of any sign means -/
def ixN (n : Nat) (i : Int) : Option Nat := if 0 ≤ i then (if i < n then some i.toNat else none) else if -(n : Int) ≤ i then some (i + n).toNat else none
def atI {α : Type} (xs : List α) (i : Int) : Option α := (ixN xs.length i).bind fun j => xs[j]?
theorem ixN_seq {n : Nat} {i : Int} {j : Nat} (h : ixN n i = some j) : seqIndex? i n = some j ∧ j < n ∧ -(n : Int) ≤ i ∧ i < n := by
  unfold ixN at h
  by_cases h0 : 0 ≤ i
  · rw [if_pos h0] at h
    by_cases h1 : i < n
    · rw [if_pos h1] at h
      have e : i.toNat = j := Option.some.inj h
      exact ⟨by rw [seqIndex_of h0 h1, e], by omega, by omega, h1⟩
    · rw [if_neg h1] at h; cases h
  · rw [if_neg h0] at h
    by_cases h1 : -(n : Int) ≤ i
    · rw [if_pos h1] at h
      have e : (i + n).toNat = j := Option.some.inj h
      exact ⟨by rw [seqIndex_neg (by omega) h1, e], by omega, h1, by omega⟩
    · rw [if_neg h1] at h; cases h
theorem atI_get {α : Type} {xs : List α} {i : Int} {v : α} (h : atI xs i = some v) : ∃ j, seqIndex? i xs.length = some j ∧ xs[j]? = some v ∧ j < xs.length ∧ -(xs.length : Int) ≤ i ∧ i < xs.length := by
  unfold atI at h
  cases e : ixN xs.length i with
  | none => rw [e] at h; cases h
  | some j =>
    rw [e] at h
    obtain ⟨h1, h2, h3, h4⟩ := ixN_seq e
    exact ⟨j, h1, h, h2, h3, h4⟩
/-! ### what may be subscripted -/
/-- what stands as an index of a plain subscript -/
def PlainIx (b : Expr) : Prop := ∀ o i, subscripted b false o i = operate [o, i] (getItem o i)
/-- a subscript by values -/
def IxR (X : Cx) (r : R2) : Prop :=
  ∀ (value slice : Expr) (pins : List (Addr × Obj)) (s : Shared) (σ : St) (H : Hp) (x y : V) (v u : Value) (Q : VK), Inv X pins σ H s → RelV x v → RelV y u → r x y H Q →
    subscripted slice false v u = operate [v, u] (getItem v u) → wpAny (model X.prog X.w) X.A (subscriptTail value slice v u) (EP X pins σ Q) X.xe s
/-- a call of a builtin's method by values: the receiver, the arguments -/
def MtR (X : Cx) (id : String) (r : V → List V → Hp → VK → Prop) : Prop :=
  ∀ (pins : List (Addr × Obj)) (s : Shared) (σ : St) (H : Hp) (x : V) (xs : List V) (v : Value) (us : List Value) (Q : VK), Inv X pins σ H s → RelV x v → Vals xs us → r x xs H Q →
    wpAny (model X.prog X.w) X.A (call (.builtin id) (v :: us)) (EP X pins σ Q) X.xe s
section
variable {X : Cx} {a b : Expr} {ta tb : TE} {pos : Pos}
theorem IxR.or {r r' : R2} (h : IxR X r) (h' : IxR X r') : IxR X (fun x y H Q => r x y H Q ∨ r' x y H Q) := by
  intro value slice pins s σ H x y v u Q I rx ry q hs
  rcases q with q | q
  · exact h value slice pins s σ H x y v u Q I rx ry q hs
  · exact h' value slice pins s σ H x y v u Q I rx ry q hs
/-- a[b] -/
theorem pe_ix {r : R2} (hr : IxR X r) (ha : PE X a ta) (hb : PE X b tb) (hs : PlainIx b) : PE X (.Subscript a b pos) (tOp r ta tb) := by
  intro pins s σ H Q I h
  exact Subscript_ (binT ha hb I h fun v u s2 x y H2 I2 rx ry q => hr a b pins s2 σ H2 x y v u Q I2 rx ry q (hs _ _))

def rIxL (K : PySem.W.Frag) : R2 := fun x y H Q => ∃ p xs i v, x = .ref p ∧ y = .int i ∧ SqL K H p xs ∧ atI xs i = some v ∧ Q v H
def rIxT (K : PySem.W.Frag) : R2 := fun x y H Q => ∃ p xs i v, x = .ref p ∧ y = .int i ∧ SqT K H p xs ∧ atI xs i = some v ∧ Q v H
theorem ix_list : IxR X (rIxL X.K) := by
  intro value slice pins s σ H x y v u Q I rx ry h hs
  obtain ⟨p, xs, i, z, rfl, rfl, hq, he, q⟩ := h
  cases rx
  obtain ⟨t, rfl⟩ := ry
  obtain ⟨its, r, pl, hz⟩ := I.list hq
  obtain ⟨j, h1, h2, h3, h4, h5⟩ := atI_get he
  obtain ⟨w, ew, rw'⟩ := r.get h2
  have hl := r.length
  have hn := line63
  have fin : EP X pins σ Q w s := ⟨z, H, I, rw', q⟩
  by_cases h0 : 0 ≤ i
  · have hj : i.toNat = j := by
      rw [seqIndex_of h0 h5] at h1
      exact Option.some.inj h1
    exact item_listR pl.isList h0 (by omega) (by rw [hj]; simpa using ew) fin hs
  · have hj : (i + (its.toArray.size : Int)).toNat = j := by
      rw [seqIndex_neg (by omega) h4] at h1
      rw [List.size_toArray, ← hl]
      exact Option.some.inj h1
    exact subscriptTail_builtinR (x := w) pl.isList.typeIs slot_list_getitem.lookup
      (wpAny_getItem_list_neg (Q := fun r s' => r = w ∧ EP X pins σ Q r s') pl.isList (by omega) (by rw [List.size_toArray] <;> omega) (by omega) (by rw [hj]; simpa using ew) ⟨rfl, fin⟩) hs
theorem ix_tup : IxR X (rIxT X.K) := by
  intro value slice pins s σ H x y v u Q I rx ry h hs
  obtain ⟨p, xs, i, z, rfl, rfl, hq, he, q⟩ := h
  cases rx
  obtain ⟨t, rfl⟩ := ry
  obtain ⟨its, r, pl, hz⟩ := I.tuple hq
  obtain ⟨j, h1, h2, h3, h4, h5⟩ := atI_get he
  obtain ⟨w, ew, rw'⟩ := r.get h2
  have hl := r.length
  have hn := line63
  have fin : EP X pins σ Q w s := ⟨z, H, I, rw', q⟩
  exact subscriptTail_builtinR (x := w) pl.typeIs slot_tuple_getitem.lookup
    (getItem_tuple (j := j) (Q := fun r s' => r = w ∧ EP X pins σ Q r s') pl (by omega) (by omega) (by rw [List.size_toArray, ← hl]; exact h1) (by simpa using ew) ⟨rfl, fin⟩) hs
/-! ### xs[i] = v, any sign -/
/-- the list's object behind a store -/
theorem mapSeq_set (its : List Value) (n j : Nat) (u : Value) : Obj.mapSeq (·.setIfInBounds j u) { cls := .type "list", data := .seq its.toArray n } = { cls := .type "list", data := .seq (its.set j u).toArray n } := by
  simp [Obj.mapSeq]
theorem Inv.lst {pins : List (Addr × Obj)} {σ : St} {H : Hp} {s : Shared} {p : Addr} {xs : List V} (I : Inv X pins σ H s) (h : H p = some (.lst xs)) :
    ∃ (its : List Value) (n : Nat), Vals xs its ∧ s.heap.get? p = some { cls := .type "list", data := .seq its.toArray n } ∧ xs.length ≤ sizeLine := by
  obtain ⟨z, its, n, r, e⟩ := I.hok p _ h
  exact ⟨its, n, r, e, z⟩
/-- the list at p is written by an update of its object -/
theorem Inv.lstUpd {pins : List (Addr × Obj)} {σ : St} {H : Hp} {s : Shared} {p : Addr} {xs ys : List V} {its its' : List Value} {n n' : Nat} {f : Obj → Obj} (I : Inv X pins σ H s) (h : H p = some (.lst xs))
    (ho : s.heap.get? p = some { cls := .type "list", data := .seq its.toArray n }) (hf : f { cls := .type "list", data := .seq its.toArray n } = { cls := .type "list", data := .seq its'.toArray n' }) (r : Vals ys its') (hz : ys.length ≤ sizeLine) (t : Nat) :
    Inv X pins σ (upd H p (.lst ys)) { s with heap := s.heap.update p f, toks := t } := by
  have e : (s.heap.update p f).get? p = some { cls := .type "list", data := .seq its'.toArray n' } := by
    rw [Heap.get?_update_self f ho (by rw [hf] <;> rfl), hf]
  refine I.write (x := p) (e := p) (by rw [h]; trivial) (.inl rfl) (fun b u hb q => (Heap.get?_update_other _ _ (Ne.symm hb)).trans q) ⟨_, e⟩ ?_
  exact ⟨hz, its', n', r, e⟩
def rSetL : V → V → V → Hp → (Hp → Prop) → Prop := fun o i v H Q => ∃ p xs k j, o = .ref p ∧ i = .int k ∧ H p = some (.lst xs) ∧ ixN xs.length k = some j ∧ Q (upd H p (.lst (xs.set j v)))
theorem set_list : PSet X rSetL := by
  intro pins s σ H o i v ov iv u Q I ro ri rv h
  obtain ⟨p, xs, k, j, rfl, rfl, hp, hj, q⟩ := h
  cases ro
  obtain ⟨t, rfl⟩ := ri
  obtain ⟨its, n, r, ho, hz⟩ := I.lst hp
  obtain ⟨h1, h2, h3, h4⟩ := ixN_seq hj
  have hl := r.length
  have hn := line63
  have I' : Inv X pins σ (upd H p (.lst (xs.set j v))) { s with heap := s.heap.update p (Obj.mapSeq (·.setIfInBounds j u)) } :=
    I.lstUpd hp ho (mapSeq_set its n j u) (r.set rv j) (by rw [List.length_set]; exact hz) s.toks
  by_cases h0 : 0 ≤ k
  · have hk : k.toNat = j := by
      rw [seqIndex_of h0 h4] at h1
      exact Option.some.inj h1
    exact PySem.W.ki_setAt ho h0 (by omega) (by rw [List.size_toArray, ← hl]; exact h4) (by rw [hk]; exact ⟨_, I', q⟩)
  · have hk : (k + (its.toArray.size : Int)).toNat = j := by
      rw [seqIndex_neg (by omega) h3] at h1
      rw [List.size_toArray, ← hl]
      exact Option.some.inj h1
    exact PySem.W.ki_setBack ho (by omega) (by rw [List.size_toArray, ← hl]; exact h3) (by omega) (by rw [hk]; exact ⟨_, I', q⟩)

/-! ### slices -/
theorem slice_bounds (lo hi : Option Int) (n : Nat) : (sliceBounds lo hi none n).1 = ((HT.sIx n 0 lo : Nat) : Int) ∧ (sliceBounds lo hi none n).2.1 = ((HT.sIx n n hi : Nat) : Int) ∧ (sliceBounds lo hi none n).2.2 = 1 := by
  refine ⟨?_, ?_, rfl⟩
  · cases lo with
    | none => simp [sliceBounds, HT.sIx]
    | some i =>
      simp only [sliceBounds, HT.sIx, Option.getD_none, show (1 : Int) > 0 by decide, if_true]
      by_cases h : i < 0
      · simp only [h, if_true] <;> omega
      · simp only [h, if_false] <;> omega
  · cases hi with
    | none => simp [sliceBounds, HT.sIx]
    | some i =>
      simp only [sliceBounds, HT.sIx, Option.getD_none, show (1 : Int) > 0 by decide, if_true]
      by_cases h : i < 0
      · simp only [h, if_true] <;> omega
      · simp only [h, if_false] <;> omega
theorem slicePick_cut (its : List Value) (lo hi : Option Int) : slicePick its.toArray lo hi none = ((its.drop (HT.sIx its.length 0 lo)).take (HT.sIx its.length its.length hi - HT.sIx its.length 0 lo)).toArray := by
  obtain ⟨h1, h2, h3⟩ := slice_bounds lo hi its.toArray.size
  unfold slicePick
  rw [h1, h2, h3]
  simp only [sliceRange_one, pick_run, List.size_toArray] <;> rfl
/-- xs[lo:hi] of a list: a new list -/
def rSlL (K : PySem.W.Frag) : V → Option Int → Option Int → Hp → VK → Prop := fun x lo hi H Q => ∃ a xs, x = .ref a ∧ SqL K H a xs ∧ ∀ p, H p = none → Q (.ref p) (upd H p (.lst (cutV xs lo hi)))
theorem sl_list : SlR X (rSlL X.K) := by
  intro pins s σ H x v vl vu lo hi sl Q I rx hs pl pu h
  obtain ⟨a, xs, rfl, hx, q⟩ := h
  cases rx
  obtain ⟨its, r, ht, hz⟩ := I.list hx
  have hlen := r.length
  refine ⟨"list", _, slot_list_getitem.lookup, ht.isList.typeIs, ?_⟩
  refine wpAny_getItem_list_slice ht.isList hs pl pu .none (by simp) ?_ (by rw [List.size_toArray] <;> omega)
  rw [slicePick_cut, ← hlen]
  refine ⟨.ref s.heap.objs.size, _, I.laid (t' := s.toks) (o := .lst (cutV xs lo hi)) (fun b ob q => Heap.get?_push_of_some _ q) (Nat.le_refl _) ?_, rfl, q _ (I.hok.fresh (Nat.le_refl _))⟩
  exact ⟨Nat.le_trans (cutV_length xs lo hi) hz, _, 0, (r.drop (HT.sIx xs.length 0 lo)).take (HT.sIx xs.length xs.length hi - HT.sIx xs.length 0 lo), Heap.get?_push_size _ rfl⟩

/-! ### in, not in: flat items -/
def flatV : V → Bool
  | .non => true
  | .bl _ => true
  | .int _ => true
  | .str _ => true
  | _ => false
/-- == of flat values -/
def eqV : V → V → Bool
  | .non, .non => true
  | .bl a, .bl b => a == b
  | .bl a, .int b => (if a then 1 else 0) == b
  | .int a, .bl b => a == (if b then 1 else 0)
  | .int a, .int b => a == b
  | .str a, .str b => a == b
  | _, _ => false
theorem eqAt_V {A : Around} {s : Shared} {y x : V} {u v : Value} (ry : RelV y u) (rx : RelV x v) (fy : flatV y = true) (fx : flatV x = true) : SeqAt.EqAt A s u v (eqV y x) := by
  cases y with
  | non =>
    cases ry
    cases x with
    | non => cases rx; exact SeqAt.EqAt.same _
    | bl b => cases rx; exact SeqAt.EqAt.none_bool b
    | int b => obtain ⟨t, rfl⟩ := rx; exact SeqAt.EqAt.none_int b t
    | str b => obtain ⟨t, rfl⟩ := rx; exact SeqAt.EqAt.none_str b t
    | _ => exact absurd (show false = true from fx) Bool.false_ne_true
  | bl a =>
    cases ry
    cases x with
    | non => cases rx; exact SeqAt.EqAt.bool_none a
    | bl b => cases rx; exact SeqAt.EqAt.bool_bool a b
    | int b => obtain ⟨t, rfl⟩ := rx; exact SeqAt.EqAt.bool_int a b t
    | str b => obtain ⟨t, rfl⟩ := rx; exact SeqAt.EqAt.bool_str a b t
    | _ => exact absurd (show false = true from fx) Bool.false_ne_true
  | int a =>
    obtain ⟨t', rfl⟩ := ry
    cases x with
    | non => cases rx; exact SeqAt.EqAt.int_none a t'
    | bl b => cases rx; exact SeqAt.EqAt.int_bool a t' b
    | int b => obtain ⟨t, rfl⟩ := rx; exact SeqAt.EqAt.int_int a t' b t
    | str b => obtain ⟨t, rfl⟩ := rx; exact SeqAt.EqAt.int_str a t' b t
    | _ => exact absurd (show false = true from fx) Bool.false_ne_true
  | str a =>
    obtain ⟨t', rfl⟩ := ry
    cases x with
    | non => cases rx; exact SeqAt.EqAt.str_none a t'
    | bl b => cases rx; exact SeqAt.EqAt.str_bool a t' b
    | int b => obtain ⟨t, rfl⟩ := rx; exact SeqAt.EqAt.str_int a t' b t
    | str b => obtain ⟨t, rfl⟩ := rx; exact SeqAt.EqAt.str_str a t' b t
    | _ => exact absurd (show false = true from fx) Bool.false_ne_true
  | _ => exact absurd (show false = true from fy) Bool.false_ne_true
/-- the items' answers, read off the values (a value's own answer does not lean on its token) -/
def eqU (x : V) (u : Value) : Bool := match u with
  | .none => eqV .non x
  | .bool b => eqV (.bl b) x
  | .int i _ => eqV (.int i) x
  | .str z _ => eqV (.str z) x
  | _ => false
theorem eqU_of {x y : V} {u : Value} (r : RelV y u) (f : flatV y = true) : eqU x u = eqV y x := by
  cases y with
  | non => cases r; rfl
  | bl b => cases r; rfl
  | int i => obtain ⟨t, rfl⟩ := r; rfl
  | str z => obtain ⟨t, rfl⟩ := r; rfl
  | _ => exact absurd (show false = true from f) Bool.false_ne_true
theorem any_eqU {x : V} : ∀ {xs : List V} {us : List Value}, Vals xs us → xs.all flatV = true → us.any (eqU x) = xs.any fun y => eqV y x
  | _, _, .nil, _ => rfl
  | y :: xs, u :: us, .cons r t, f => by
    rw [List.all_cons, Bool.and_eq_true] at f
    rw [List.any_cons, List.any_cons, eqU_of r f.1, any_eqU t f.2]
theorem mem_eqAt {A : Around} {s : Shared} {x : V} {v : Value} (rx : RelV x v) (fx : flatV x = true) : ∀ {xs : List V} {us : List Value}, Vals xs us → xs.all flatV = true → ∀ u ∈ us, SeqAt.EqAt A s u v (eqU x u)
  | _, _, .nil, _ => fun u hu => by cases hu
  | y :: xs, u :: us, .cons r t, f => fun u' hu => by
    rw [List.all_cons, Bool.and_eq_true] at f
    rcases List.mem_cons.mp hu with rfl | hu
    · rw [eqU_of r f.1]; exact eqAt_V r rx f.1 fx
    · exact mem_eqAt rx fx t f.2 u' hu
def inV (x : V) (xs : List V) : Bool := xs.any fun y => eqV y x
/-- x in a list or tuple of flat items -/
def rIn (K : PySem.W.Frag) (neg : Bool) : R2 := fun x y H Q => ∃ p xs, y = .ref p ∧ (SqL K H p xs ∨ SqT K H p xs) ∧ flatV x = true ∧ xs.all flatV = true ∧ Q (.bl (if neg then !inV x xs else inV x xs)) H
theorem op_in_seq : OpR X (compareOp .In) (rIn X.K false) := by
  intro pins s σ H x y v u Q I rx ry h
  obtain ⟨p, xs, rfl, hq, fx, fs, q⟩ := h
  cases ry
  rcases hq with hq | hq
  · obtain ⟨its, r, pl, hz⟩ := I.list hq
    refine SeqAt.in_listAt (eqU x) pl.isList (fun w hw => mem_eqAt rx fx r fs w (by simpa using hw)) ⟨.bl _, H, I, rfl, ?_⟩
    rw [show its.toArray.any (eqU x) = its.any (eqU x) by simp, any_eqU r fs]
    exact q
  · obtain ⟨its, r, pl, hz⟩ := I.tuple hq
    refine SeqAt.in_tupleAt (eqU x) pl (fun w hw => mem_eqAt rx fx r fs w (by simpa using hw)) ⟨.bl _, H, I, rfl, ?_⟩
    rw [show its.toArray.any (eqU x) = its.any (eqU x) by simp, any_eqU r fs]
    exact q
/-! ### len, list(x), tuple(x) of any list or tuple that is read -/
theorem call_list_of : CallR X (.type "list") (fun xs H Q => ∃ p ys, xs = [.ref p] ∧ (SqL X.K H p ys ∨ SqT X.K H p ys) ∧ ∀ l, H l = none → Q (.ref l) (upd H l (.lst ys))) := by
  intro pins s σ H xs us Q I r h
  obtain ⟨p, ys, rfl, hq, q⟩ := h
  obtain ⟨u, rfl, rx⟩ := vals1 r
  cases rx
  have fin : ∀ (its : List Value), Vals ys its → ys.length ≤ sizeLine → ∀ (h' : Heap) (c' : Nat), (∀ b o', s.heap.get? b = some o' → h'.get? b = some o') →
      h'.get? s.heap.objs.size = some { cls := .type "list", dict := none, data := .seq its.toArray c', slots := #[] } → EP X pins σ Q (.ref s.heap.objs.size) { s with heap := h' } := fun its r' hz h' c' kp e =>
    ⟨.ref s.heap.objs.size, _, I.laid (t' := s.toks) kp (Nat.le_refl _) (show ObjOk X.prog X.w _ h' _ (.lst ys) from ⟨hz, its, c', r', e⟩), rfl, q _ (I.hok.fresh (Nat.le_refl _))⟩
  rcases hq with hq | hq
  · obtain ⟨its, r', pl, hz⟩ := I.list hq
    have hlen := r'.length
    obtain ⟨o, ho, hc, n, hd⟩ := pl.isList
    exact call_list_seq p (.inl rfl) ho hc hd (fun h' c' kp e => fin its r' hz h' c' kp e) (by simp only [List.size_toArray] <;> omega)
  · obtain ⟨its, r', pl, hz⟩ := I.tuple hq
    have hlen := r'.length
    obtain ⟨o, ho, hc, n, hd⟩ := pl
    exact call_list_seq p (.inr rfl) ho hc hd (fun h' c' kp e => fin its r' hz h' c' kp e) (by simp only [List.size_toArray] <;> omega)
theorem call_tuple_of : CallR X (.type "tuple") (fun xs H Q => ∃ p ys, xs = [.ref p] ∧ ((SqL X.K H p ys ∧ ∀ l, H l = none → Q (.ref l) (upd H l (.tup ys))) ∨ (SqT X.K H p ys ∧ Q (.ref p) H))) := by
  intro pins s σ H xs us Q I r h
  obtain ⟨p, ys, rfl, h⟩ := h
  obtain ⟨u, rfl, rx⟩ := vals1 r
  cases rx
  rcases h with ⟨hq, q⟩ | ⟨hq, q⟩
  · obtain ⟨its, r', pl, hz⟩ := I.list hq
    have hlen := r'.length
    refine call_tuple_list pl.isList (fun h' kp => ?_) (by simp only [List.size_toArray] <;> omega)
    have I1 : Inv X pins σ H { s with heap := h' } := I.kept (t' := s.toks) kp
    have I2 : Inv X pins σ (upd H h'.objs.size (.tup ys)) { s with heap := h'.push { cls := .type "tuple", data := .seq its.toArray } } :=
      I1.laid (t' := s.toks) (fun b o e => Heap.get?_push_of_some _ e) (Nat.le_refl _) (show ObjOk X.prog X.w _ _ _ (.tup ys) from ⟨hz, its, r', IsTup.new _ _⟩)
    exact ⟨.ref h'.objs.size, _, I2, rfl, q _ (I1.hok.fresh (Nat.le_refl _))⟩
  · obtain ⟨its, r', pl, hz⟩ := I.tuple hq
    exact call_tuple_same pl ⟨.ref p, H, I, rfl, q⟩

/-! ### the call of a builtin's method: o.m(..) -/
/-- the value is of that builtin type -/
def tyV (K : PySem.W.Frag) (T : String) (x : V) (H : Hp) : Prop := match x with
  | .str _ => T = "str"
  | .int _ => T = "int"
  | .ref p => (T = "list" ∧ ∃ xs, SqL K H p xs) ∨ (T = "tuple" ∧ ∃ o, K.lookup p = some o ∧ o.cls = .type "tuple" ∧ o.dict = none) ∨
      (T = "dict" ∧ ((∃ kvs, H p = some (.dK kvs)) ∨ ∃ kvs, H p = some (.dT kvs))) ∨ (T = "set" ∧ ∃ S n, H p = some (.set S n))
  | _ => False
theorem tyV_is {pins : List (Addr × Obj)} {σ : St} {H : Hp} {s : Shared} {T : String} {x : V} {v : Value} (I : Inv X pins σ H s) (r : RelV x v) (ty : tyV X.K T x H) :
    s.TypeIs v T ∧ ∀ a, v = .ref a → ∃ ob, s.heap.get? a = some ob ∧ ob.dict = none := by
  cases x with
  | str z =>
    obtain ⟨t, rfl⟩ := r
    cases (show T = "str" from ty)
    exact ⟨typeIs_str s z t, fun _ e => nomatch e⟩
  | int i =>
    obtain ⟨t, rfl⟩ := r
    cases (show T = "int" from ty)
    exact ⟨typeIs_int s i t, fun _ e => nomatch e⟩
  | ref p =>
    cases r
    rcases ty with ⟨rfl, xs, hq⟩ | ⟨rfl, o, hk, hc, hd⟩ | ⟨rfl, hk⟩ | ⟨rfl, S, n, hk⟩
    · obtain ⟨its, _, pl, _⟩ := I.list hq
      refine ⟨pl.isList.typeIs, fun a e => ?_⟩
      cases e
      obtain ⟨o, n, e, c, hd, _⟩ := pl
      exact ⟨o, e, hd⟩
    · refine ⟨⟨o, I.kIn p o hk, hc⟩, fun a e => ?_⟩
      cases e
      exact ⟨o, I.kIn _ o hk, hd⟩
    · have z : ∃ o, s.heap.get? p = some o ∧ o.ExactDict := by
        rcases hk with ⟨kvs, hk⟩ | ⟨kvs, hk⟩
        · obtain ⟨_, _, _, _, o, _, _, e, ex, _⟩ := I.hok p _ hk
          exact ⟨o, e, ex⟩
        · obtain ⟨_, _, _, _, o, _, _, e, ex, _⟩ := I.hok p _ hk
          exact ⟨o, e, ex⟩
      obtain ⟨o, e, ex⟩ := z
      refine ⟨⟨o, e, ex.1⟩, fun a e2 => ?_⟩
      cases e2
      exact ⟨o, e, ex.2.1⟩
    · obtain ⟨o, _, _, _, e, ex, _⟩ := I.hok p _ hk
      refine ⟨⟨o, e, ex.1⟩, fun a e2 => ?_⟩
      cases e2
      exact ⟨o, e, ex.2.1⟩
  | _ => exact False.elim ty
def tBM0 (K : PySem.W.Frag) (T : String) (r : V → List V → Hp → VK → Prop) (to : TE) : TE := fun σ H Q => to σ H fun x H1 => tyV K T x H1 ∧ r x [] H1 Q
def tBM (K : PySem.W.Frag) (T : String) (r : V → List V → Hp → VK → Prop) (to : TE) (t : TA) : TE := fun σ H Q => to σ H fun x H1 => tyV K T x H1 ∧ t σ H1 fun xs H2 => r x xs H2 Q
variable {o e : Expr} {es : List Expr} {to : TE} {t : TA} {name : Str} {apos cpos : Pos} {T id : String} {r : V → List V → Hp → VK → Prop}
theorem pe_bm0 (pa : PlainAttrs T) (slot : Slot T name id) (hty : typeOf (.builtin id) = pure (.type "method_descriptor")) (hm : MtR X id r) (ho : PE X o to)
    (hbase : attributeBase o name X.env (eval o X.env) = eval o X.env := by rfl) (hline : (apos.endLine == cpos.line) = true := by rfl) : PE X (.Call (.Attribute o name apos) [] [] cpos) (tBM0 X.K T r to) := by
  intro pins s σ H Q I h
  refine wpAny_Call_method0_late hbase hline (thn (ho pins s σ H _ I h) fun v s1 ⟨x, H1, I1, r1, ty, q1⟩ => ?_)
  obtain ⟨h1, h2⟩ := tyV_is I1 r1 ty
  exact ⟨T, id, pa, slot, hty, h1, h2, Calls.callWith_builtin rfl (PySem.evalArgs_none (hm pins s1 σ H1 x [] v [] Q I1 r1 .nil q1))⟩
theorem pe_bm (pa : PlainAttrs T) (slot : Slot T name id) (hty : typeOf (.builtin id) = pure (.type "method_descriptor")) (hm : MtR X id r) (ho : PE X o to) (ha : PA X (e :: es) t)
    (hbase : attributeBase o name X.env (eval o X.env) = eval o X.env := by rfl)
    (hfew : ((backTo cpos (starEach (e :: es) X.env)).all (fun x => !x.1) && (backToKw cpos (keywordEach [] X.env)).all (fun x => x.1.isSome)
      && decide ((e :: es).length + ([] : List Keyword).length + (if ([] : List Keyword).isEmpty then 0 else 1) < 30)) = true := by rfl)
    (hline : (apos.endLine == cpos.line) = true := by rfl) (hs : starEach (e :: es) X.env = (false, eval e X.env) :: starEach es X.env := by rfl) (hplain : (backTo cpos (starEach es X.env)).any (·.1) = false := by rfl) :
    PE X (.Call (.Attribute o name apos) (e :: es) [] cpos) (tBM X.K T r to t) := by
  intro pins s σ H Q I h
  refine wpAny_Call_method_late hbase hfew hline rfl (thn (ho pins s σ H _ I h) fun v s1 ⟨x, H1, I1, r1, ty, q1⟩ => ?_)
  obtain ⟨h1, h2⟩ := tyV_is I1 r1 ty
  refine ⟨T, id, pa, slot, hty, h1, h2, ?_⟩
  have hA := ha cpos pins s1 σ H1 _ I1 q1
  rw [hs] at hA ⊢
  refine Calls.callWith_builtin (by show (false || (backTo cpos (starEach es X.env)).any (·.1)) = false; rw [hplain] <;> rfl) (Calls.evalArgs_plain ?_)
  exact thn hA fun us s2 ⟨vs, H2, I2, r2, q2⟩ => hm pins s2 σ H2 x vs v us Q I2 r1 r2 q2
/- xs.append(e), list.index on a module's tuple .. are MtR facts of 06m -/
end
end L2

namespace L2
open PySem PySem.Spec PyProof.Rows

def MtM (X : Cx) (id : String) (r : V → List V → Hp → VK → Prop) : Prop :=
  ∀ (pins : List (Addr × Obj)) (s : Shared) (σ : St) (H : Hp) (x : V) (xs : List V) (v : Value) (us : List Value) (Q : VK), Inv X pins σ H s → RelV x v → Vals xs us → r x xs H Q →
    wpAny (model X.prog X.w) X.A (call (.builtin id) (v :: us)) (EP X pins σ Q) X.xe s

/-! ### lists of values -/
theorem Vals.one : ∀ {x : V} {us : List Value}, Vals [x] us → ∃ u, us = [u] ∧ RelV x u
  | _, _, .cons r .nil => ⟨_, rfl, r⟩
theorem Vals.zero : ∀ {us : List Value}, Vals [] us → us = []
  | _, .nil => rfl
theorem Vals.dropLast {xs : List V} {us : List Value} (h : Vals xs us) : Vals xs.dropLast us.dropLast := by
  induction h with
  | nil => exact .nil
  | cons r t ih =>
    cases t with
    | nil => exact .nil
    | cons q t' => exact .cons r ih
theorem Vals.eraseIdx : ∀ {xs : List V} {us : List Value} (i : Nat), Vals xs us → Vals (xs.eraseIdx i) (us.eraseIdx i)
  | _, _, _, .nil => .nil
  | _, _, 0, .cons _ t => t
  | _, _, i + 1, .cons r t => .cons r (Vals.eraseIdx i t)
theorem Vals.rep {xs : List V} {us : List Value} (h : Vals xs us) : ∀ k : Nat, Vals (List.replicate k xs).flatten (List.replicate k us).flatten
  | 0 => .nil
  | k + 1 => by
    rw [List.replicate_succ, List.replicate_succ, List.flatten_cons, List.flatten_cons]
    exact Vals.append h (Vals.rep h k)
theorem erase_last {α : Type} (l : List α) : l.eraseIdx (l.length - 1) = l.dropLast := by
  induction l with
  | nil => rfl
  | cons a r ih =>
    cases r with
    | nil => rfl
    | cons b r =>
      have e : (a :: b :: r).length - 1 = ((b :: r).length - 1) + 1 := by
        have h1 : (a :: b :: r).length = r.length + 2 := rfl
        have h2 : (b :: r).length = r.length + 1 := rfl
        omega
      rw [e, List.eraseIdx_cons_succ, ih]
      all_goals rfl
theorem len_erase {α : Type} : ∀ (l : List α) (i : Nat), (l.eraseIdx i).length ≤ l.length
  | [], _ => Nat.le_refl _
  | _ :: _, 0 => Nat.le_succ _
  | _ :: r, i + 1 => Nat.succ_le_succ (len_erase r i)
theorem foldl_rep (its : List Value) : ∀ (k : Nat) (acc : List Value),
    List.foldl (fun x1 x2 => x1 ++ x2) acc.toArray (List.replicate k its.toArray) = (acc ++ (List.replicate k its).flatten).toArray
  | 0, acc => by simp
  | k + 1, acc => by
    have e : acc.toArray ++ its.toArray = (acc ++ its).toArray := by simp
    have e2 : (acc ++ its) ++ (List.replicate k its).flatten = acc ++ (List.replicate (k + 1) its).flatten := by
      rw [List.replicate_succ, List.flatten_cons, List.append_assoc]
    rw [← e2, ← foldl_rep its k (acc ++ its), ← e, List.replicate_succ, List.foldl_cons]

section
variable {X : Cx} {pins : List (Addr × Obj)} {σ : St} {H : Hp} {s : Shared} {l b : Addr} {xs ys zs : List V}

/-! ### the two steps: a tracked list is rewritten, a new list is laid -/
theorem Inv.lset {its its' : List Value} {n : Nat} {f : Array Value → Array Value} {t' : Nat} (I : Inv X pins σ H s) (hH : H l = some (.lst xs))
    (e : s.heap.get? l = some { cls := .type "list", data := .seq its.toArray n }) (hf : f its.toArray = its'.toArray) (hv : Vals ys its') (hz : ys.length ≤ sizeLine) :
    Inv X pins σ (upd H l (.lst ys)) { s with heap := s.heap.update l (Obj.mapSeq f), toks := t' } := by
  have q := PySem.IsL.update e f
  rw [hf] at q
  refine I.write (x := l) (e := l) (by rw [hH]; exact trivial) (.inl rfl) (fun b' u hb hu => (Heap.get?_update_other s.heap (Obj.mapSeq f) (Ne.symm hb)).trans hu) ⟨_, q⟩ ?_
  exact ⟨hz, its', _, hv, q⟩
theorem Inv.lnew {its : List Value} {t' : Nat} (I : Inv X pins σ H s) (hv : Vals ys its) (hz : ys.length ≤ sizeLine) :
    Inv X pins σ (upd H s.heap.objs.size (.lst ys)) { s with heap := s.heap.push { cls := .type "list", data := .seq its.toArray }, toks := t' } :=
  I.laid (fun _ _ q => Heap.get?_push_of_some _ q) (Nat.le_refl _) ⟨hz, its, 0, hv, Heap.get?_push_size _ rfl⟩
theorem Inv.fresh (I : Inv X pins σ H s) : H s.heap.objs.size = none := I.hok.fresh (Nat.le_refl _)
theorem Inv.lstM (I : Inv X pins σ H s) (hH : H l = some (.lst xs)) : xs.length ≤ sizeLine ∧ ∃ (its : List Value) (n : Nat), Vals xs its ∧ xs.length = its.length ∧ s.heap.get? l = some { cls := .type "list", data := .seq its.toArray n } := by
  obtain ⟨z, its, n, r, e⟩ := I.hok l _ hH
  exact ⟨z, its, n, r, r.length, e⟩

theorem notLongL {n : Nat} (h : n ≤ sizeLine) : Builtin.List.listTooLong n = false := by
  unfold Builtin.List.listTooLong
  exact decide_eq_false (by omega)
end

section
variable {X : Cx}

/-! ### methods -/
def rAppend : V → List V → Hp → VK → Prop := fun x vs H Q => ∃ l xs y, x = .ref l ∧ vs = [y] ∧ H l = some (.lst xs) ∧ xs.length < sizeLine ∧ Q .non (upd H l (.lst (xs ++ [y])))
theorem mt_append : MtM X "list.append" rAppend := by
  intro pins s σ H x vs v us Q I rx rv h
  obtain ⟨l, xs, y, rfl, rfl, hH, hz, q⟩ := h
  cases rx
  obtain ⟨u, rfl, ru⟩ := rv.one
  obtain ⟨z, its, n, r, hl, e⟩ := I.lstM hH
  refine call_meets F.slot_list_append ⟨_, e, rfl⟩ F.entry_list_append (F.args_list_append_2 _ _) (PySem.list_append l its.toArray n u (by rw [List.size_toArray]; omega)) ⟨e, ?_⟩
  refine ⟨.non, _, I.lset (its' := its ++ [u]) hH e (by simp) (r.append (.cons ru .nil)) ?_, rfl, q⟩
  rw [List.length_append, List.length_singleton]
  omega

def rExtend : V → List V → Hp → VK → Prop := fun x vs H Q => ∃ l b xs zs, x = .ref l ∧ vs = [.ref b] ∧ H l = some (.lst xs) ∧ H b = some (.lst zs) ∧ xs.length + zs.length ≤ sizeLine ∧ Q .non (upd H l (.lst (xs ++ zs)))
theorem mt_extend : MtM X "list.extend" rExtend := by
  intro pins s σ H x vs v us Q I rx rv h
  obtain ⟨l, b, xs, zs, rfl, rfl, hH, hB, hz, q⟩ := h
  cases rx
  obtain ⟨u, rfl, ru⟩ := rv.one
  cases ru
  obtain ⟨z, its, n, r, hl, e⟩ := I.lstM hH
  obtain ⟨z2, its2, n2, r2, hl2, e2⟩ := I.lstM hB
  have hsz : its.toArray.size + its2.toArray.size ≤ sizeLine := by rw [List.size_toArray, List.size_toArray]; omega
  have hlong : ¬ (!its.toArray.isEmpty && Builtin.List.listTooLong (its.toArray.size + its2.toArray.size)) = true := by
    rw [notLongL hsz, Bool.and_false]
    exact Bool.false_ne_true
  refine call_meets F.slot_list_extend ⟨_, e, rfl⟩ F.entry_list_extend (F.args_list_extend_2 _ _)
    (AutoSeq1.list_extend_list_list_0 l its.toArray n b its2.toArray n2 hlong (by rw [List.size_toArray]; omega) (by omega)) ⟨e, e2, ?_⟩
  refine ⟨.non, _, I.lset (its' := its ++ its2) hH e (by simp) (r.append r2) ?_, rfl, q⟩
  rw [List.length_append]
  omega

def rPop : V → List V → Hp → VK → Prop := fun x vs H Q => ∃ l xs y, x = .ref l ∧ vs = [] ∧ H l = some (.lst xs) ∧ xs[xs.length - 1]? = some y ∧ Q y (upd H l (.lst xs.dropLast))
theorem mt_pop : MtM X "list.pop" rPop := by
  intro pins s σ H x vs v us Q I rx rv h
  obtain ⟨l, xs, y, rfl, rfl, hH, hy, q⟩ := h
  cases rx
  have hus := rv.zero
  subst hus
  obtain ⟨z, its, n, r, hl, e⟩ := I.lstM hH
  obtain ⟨u, hu, ru⟩ := r.get hy
  have hy' : its.toArray[its.toArray.size - 1]? = some u := by
    show its.toArray[its.length - 1]? = some u
    rw [← Array.getElem?_toList, ← hl]
    exact hu
  refine call_meets F.slot_list_pop ⟨_, e, rfl⟩ F.entry_list_pop (F.args_list_pop_1 _) (MeetsSeq.list_pop_last l its.toArray n u hy' (by rw [List.size_toArray]; omega)) ⟨e, ?_⟩
  refine ⟨y, _, I.lset (its' := its.dropLast) hH e ?_ r.dropLast ?_, ru, q⟩
  · show its.toArray.eraseIdxIfInBounds (its.toArray.size - 1) = its.dropLast.toArray
    rw [List.size_toArray, List.eraseIdxIfInBounds_toArray, erase_last]
  · rw [List.length_dropLast]
    omega

def rPopAt : V → List V → Hp → VK → Prop := fun x vs H Q => ∃ l xs i k y, x = .ref l ∧ vs = [.int i] ∧ H l = some (.lst xs) ∧ -(2 ^ 63) ≤ i ∧ i < 2 ^ 63 ∧ seqIndex? i xs.length = some k ∧ xs[k]? = some y ∧ Q y (upd H l (.lst (xs.eraseIdx k)))
theorem mt_popAt : MtM X "list.pop" rPopAt := by
  intro pins s σ H x vs v us Q I rx rv h
  obtain ⟨l, xs, i, k, y, rfl, rfl, hH, h1, h2, hk, hy, q⟩ := h
  cases rx
  obtain ⟨u, rfl, ru⟩ := rv.one
  obtain ⟨t, rfl⟩ := ru
  obtain ⟨z, its, n, r, hl, e⟩ := I.lstM hH
  obtain ⟨w, hw, rw'⟩ := r.get hy
  refine call_meets F.slot_list_pop ⟨_, e, rfl⟩ F.entry_list_pop (F.args_list_pop_2 _ _)
    (MeetsSeq.list_pop_at l its.toArray n i t k w (fitsIndex_both h1 h2) (by rw [List.size_toArray, ← hl]; exact hk) (by rw [← Array.getElem?_toList]; exact hw) (by rw [List.size_toArray]; omega)) ⟨e, ?_⟩
  refine ⟨y, _, I.lset (its' := its.eraseIdx k) hH e ?_ (r.eraseIdx k) ?_, rw', q⟩
  · show its.toArray.eraseIdxIfInBounds k = (its.eraseIdx k).toArray
    rw [List.eraseIdxIfInBounds_toArray]
  · have := len_erase xs k
    omega

/-! ### list + list, list += list, list * int -/
def rCat : R2 := fun x y H Q => ∃ l b xs zs, x = .ref l ∧ y = .ref b ∧ H l = some (.lst xs) ∧ H b = some (.lst zs) ∧ xs.length + zs.length ≤ sizeLine ∧ ∀ p, H p = none → Q (.ref p) (upd H p (.lst (xs ++ zs)))
theorem op_cat : OpR X (binaryOp .Add) rCat := by
  intro pins s σ H x y v u Q I rx ry h
  obtain ⟨l, b, xs, zs, rfl, rfl, hH, hB, hz, q⟩ := h
  cases rx
  cases ry
  obtain ⟨z, its, n, r, hl, e⟩ := I.lstM hH
  obtain ⟨z2, its2, n2, r2, hl2, e2⟩ := I.lstM hB
  refine PySem.P.add_list e e2 ?_ (by rw [List.size_toArray, List.size_toArray]; omega)
  have ea : its.toArray ++ its2.toArray = (its ++ its2).toArray := by simp
  rw [ea]
  exact ⟨.ref _, _, I.lnew (t' := s.toks) (r.append r2) (by rw [List.length_append]; omega), rfl, q _ I.fresh⟩
/-- a list times an int (a negative one is nothing) -/
def rRep : R2 := fun x y H Q => ∃ l k xs, x = .ref l ∧ y = .int k ∧ H l = some (.lst xs) ∧ -(2 ^ 63) ≤ k ∧ k < 2 ^ 63 ∧ xs.length * k.toNat ≤ sizeLine ∧
  ∀ p, H p = none → Q (.ref p) (upd H p (.lst (List.replicate k.toNat xs).flatten))
theorem len_rep {α : Type} (xs : List α) (k : Nat) : (List.replicate k xs).flatten.length = k * xs.length := by
  induction k with
  | zero => simp
  | succ k ih => rw [List.replicate_succ, List.flatten_cons, List.length_append, ih, Nat.succ_mul, Nat.add_comm]
theorem op_rep : OpR X (binaryOp .Mult) rRep := by
  intro pins s σ H x y v u Q I rx ry h
  obtain ⟨l, k, xs, rfl, rfl, hH, h1, h2, hz, q⟩ := h
  cases rx
  obtain ⟨t, rfl⟩ := ry
  obtain ⟨z, its, n, r, hl, e⟩ := I.lstM hH
  have hlen : its.toArray.size * k.toNat ≤ sizeLine := by rw [List.size_toArray, ← hl]; exact hz
  have hcap : ¬ its.toArray.size * k.toNat > (2 ^ 63 - 1) / 8 := by
    have : (sizeLine : Nat) ≤ (2 ^ 63 - 1) / 8 := by decide
    omega
  have hfit : ¬ (!Builtin.List.listFitsIndex k) = true := by
    rw [fitsIndex_both h1 h2]
    exact Bool.false_ne_true
  have hlong : ¬ Builtin.List.listTooLong (its.toArray.size * k.toNat) = true := by
    rw [notLongL hlen]
    exact Bool.false_ne_true
  have hnew : List.foldl (fun x1 x2 => x1 ++ x2) #[] (List.replicate (if its.toArray.isEmpty = true then 0 else k.toNat) its.toArray) = (List.replicate k.toNat its).flatten.toArray := by
    have f0 : ∀ m : Nat, List.foldl (fun x1 x2 => x1 ++ x2) #[] (List.replicate m its.toArray) = (List.replicate m its).flatten.toArray := fun m => by
      have := foldl_rep its m []
      rw [List.nil_append] at this
      exact this
    rw [f0]
    cases its with
    | nil => simp
    | cons a r' => rw [if_neg (by simp)]
  refine wpAny_binaryOp_repeat_ref (T := "list") (U := "int") (by decide) ⟨_, e, rfl⟩ (fun s' => typeIs_int s' k t) noFill_list_mul F.fills_int_mul F.slot_int_rmul repeat_list F.slot_int_index.lookup
    (call_meets F.slot_int_rmul (typeIs_int s k t) F.entry_int_rmul (F.args_int_rmul_2 _ _) (int___rmul___int_list k t l its.toArray n)
      ⟨e, rfl, ⟨_, e, rfl⟩, call_meets F.slot_list_mul ⟨_, e, rfl⟩ F.entry_list_mul (F.args_list_mul_2 _ _) (AutoListH.list___mul___list_int_3 l its.toArray n k t hfit hcap hlong) ⟨e, ?_⟩⟩)
  rw [hnew]
  exact ⟨.ref _, _, I.lnew (t' := s.toks) (r.rep k.toNat) (by rw [len_rep, Nat.mul_comm]; exact hz), rfl, q _ I.fresh⟩

/-! ### del xs[i] -/
end

/-! ### xs[a:b] = ys -/
section
variable {prog : Program} {w : World} {A : Around} {E : Value → Shared → Prop} {s : Shared}
set_option maxRecDepth 100000 in
end

section
variable {X : Cx}
end
end L2

namespace L2
open PySem PySem.Spec PyProof.Rows

/-! ### lists of pairs as tables -/
section
variable {κ : Type} [DecidableEq κ]
end


/-! ### a tracked dict, its keys ints and texts or tuples of these -/
section
variable {P : Program} {w : World} {H : Hp} {h : Heap} {a : Addr}
end

section
variable {X : Cx} {pins : List (Addr × Obj)} {σ : St} {H : Hp} {s : Shared} {a : Addr} {y v : V} {u r : Value} {o : Option V} {A : Around} {E : Value → Shared → Prop}

end

section
variable {X : Cx} {pins : List (Addr × Obj)} {σ : St} {H : Hp} {s : Shared} {a : Addr} {kvs : List (Key × V)} {k : Key} {u : Value} {A : Around} {E : Value → Shared → Prop}
end


/-! ### readings and rules -/
section
variable {X : Cx} {o i e value : Expr} {pos pos' tpos : Pos} {td ty tv : TE}
end


/-! ### displays -/
section
variable {X : Cx} {pos : Pos}
end

/-! ### methods -/
/-- a method call o.m(e) of a built-in, with one argument: what must be seen of the text -/
structure M1 (X : Cx) (o : Expr) (m : Str) (apos : Pos) (e : Expr) (cpos : Pos) : Prop where
  base : attributeBase o m X.env (eval o X.env) = eval o X.env
  few : ((backTo cpos (starEach [e] X.env)).all (fun x => !x.1) && (backToKw cpos (keywordEach [] X.env)).all (fun x => x.1.isSome)
    && decide (([e] : List Expr).length + ([] : List Keyword).length + (if ([] : List Keyword).isEmpty then 0 else 1) < 30)) = true
  line : (apos.endLine == cpos.line) = true
  trees : backTo cpos (starEach [e] X.env) = [(false, eval e X.env)]
structure M2 (X : Cx) (o : Expr) (m : Str) (apos : Pos) (e f : Expr) (cpos : Pos) : Prop where
  base : attributeBase o m X.env (eval o X.env) = eval o X.env
  few : ((backTo cpos (starEach [e, f] X.env)).all (fun x => !x.1) && (backToKw cpos (keywordEach [] X.env)).all (fun x => x.1.isSome)
    && decide (([e, f] : List Expr).length + ([] : List Keyword).length + (if ([] : List Keyword).isEmpty then 0 else 1) < 30)) = true
  line : (apos.endLine == cpos.line) = true
  trees : backTo cpos (starEach [e, f] X.env) = [(false, eval e X.env), (false, eval f X.env)]

section
variable {X : Cx} {pins : List (Addr × Obj)} {σ : St} {H : Hp} {s : Shared} {a : Addr} {y d : V} {u r : Value} {o : Option V} {A : Around} {E : Value → Shared → Prop}
end

section
variable {X : Cx} {o e f : Expr} {apos cpos : Pos} {td ty tx : TE}
end

/-! ### dict(d): a copy -/
section
variable {X : Cx} {pins : List (Addr × Obj)} {σ : St} {H : Hp} {s : Shared} {a : Addr} {kvs : List (Key × V)} {A : Around} {E : Value → Shared → Prop}
end


section
variable {X : Cx} {pins : List (Addr × Obj)} {σ : St} {H : Hp} {s : Shared} {a : Addr} {y : V} {u : Value} {A : Around} {E : Value → Shared → Prop}
end
end L2

namespace Att
open PySem PySem.W PySem.Calls PyProof.Rows

/-! ### the script -/
theorem ints_of_wellAll {P : Params} {h : Heap} : ∀ (ns : List Int) (vs : List Value), WellAll P h vs (ns.map WData.int) → IntsAre vs ns := by
  intro ns
  induction ns with
  | nil =>
    intro vs w
    rw [List.map_nil] at w
    cases w
    exact .nil
  | cons n ns ih =>
    intro vs w
    rw [List.map_cons] at w
    cases w with
    | cons a b =>
      cases a
      exact .cons _ _ (ih _ b)

theorem script_of {l : OpenLaw} {n : Nat} (hn : l.most = some n) {P : Params} {h : Heap} {args : List WData} {vals : List Value}
    (hpre : l.row.toRowW.claim.pre args = true) (hwl : WellAll P h vals args) :
    ∃ a vs ns, vals = [Value.ref a] ∧ args = [WData.list (ns.map WData.int)] ∧ h.get? a = some { cls := .type "list", data := .seq vs.toArray } ∧ IntsAre vs ns ∧ ns.length ≤ n := by
  have hsh : WShape.hasAll [] args [.list .int] = true := (pre_splitW hpre).1
  have hc : l.pre.holds [] { args := args } = true := (pre_splitW hpre).2
  obtain ⟨d, r, rfl, h1, h2⟩ := hasAllW_cons hsh
  obtain rfl := hasAllW_nil h2
  obtain ⟨xs, rfl, h3⟩ := hasW_list h1
  obtain ⟨ns, rfl⟩ := items_int h3
  have hlen : ns.length ≤ n := by
    unfold OpenLaw.pre at hc
    have h4 : (WTm.not (.lt (.lit (.int (n : Int))) (.len (.arg 0)))).holds [] { args := [.list (ns.map .int)] } = true := by
      have h4 := (holds_andW hc).1
      rw [hn] at h4
      exact h4
    have h5 := condW_of h4 (w_not (w_lt w_lit (w_len_list (w_arg rfl))))
    rw [List.length_map] at h5
    refine Nat.le_of_not_lt fun q => ?_
    have q' : (n : Int) < ((ns.length : Nat) : Int) := by omega
    first
      | (rw [decide_eq_true q'] at h5; exact absurd h5 (by decide))
      | (simp at h5; omega)
  cases hwl with
  | cons w1 w2 =>
    cases w2
    cases w1 with
    | list ho hall => exact ⟨_, _, ns, rfl, rfl, ho, ints_of_wellAll ns _ hall, hlen⟩

theorem post_true (l : OpenLaw) (args : List WData) : l.row.toRowW.claim.post args (.bool true) args = true :=
  postW_of (r := l.row.toRowW) (X := (true == true))
    (show WShape.has [] (.bool true) .bool = true by first | rfl | decide | simp [WShape.has, WShape.arms, WShape.armsAll])
    (show (WTm.eq .res (.lit (.bool true))).value [] { args := args, res := some (.bool true), after := args } = some (.bool (true == true)) from w_eq_bool (w_res rfl) w_lit) rfl

/-! ### the attachment: holds_open's last premise (the goal 'hc' behind k_head) from a wpAny of the law's body -/
/-- the same from a codeAny of the CALL (for a layer whose function contracts speak of calls) -/
theorem attach_call {l : OpenLaw} {n : Nat} {q : Program} {loose : List Str} {XP : (Str → Option Value) → Heap → Prop} {YP : World → Heap → Prop} {d : DefRec}
    (hn : l.most = some n) (hdf : d.params.defaults = [])
    (call : ∀ (w : World) (s₀ s₁ : Shared) (mg mb : Str → Option Value) (fa : Addr) (o : Obj) (pm cd doc : Value) (a : Addr) (vs : List Value) (ns : List Int),
      Ground q loose [] XP w s₀ mg mb s₁.heap → YP w s₁.heap →
      s₁.heap.get? fa = some o → o.data = .func (docDef d.name d.params d.body d.scope pm cd doc) → s₁.heap.CodeRec cd d.name → mg d.name = some (.ref fa) →
      s₁.heap.get? a = some { cls := .type "list", data := .seq vs.toArray } → IntsAre vs ns → ns.length ≤ n → s₁.gens = #[] →
      codeAny (model l.prog w) callerA (.call (.ref fa) ⟨[.ref a], []⟩) (fun r s' => r = .ok (.ret (.bool true)) ∧ OldK s₁.heap s'.heap ∧ s'.os = s₁.os ∧ AllBare s'.gens) s₁) :
    WalkO q loose XP YP l.row.toRowW d [] (fun f vs => PySem.call f vs) := by
  intro w s₀ s₁ mg mb G Y fa o pm cd doc dV kV ho hd hcd hD hmg hg args vals as hpre hlay hrd hwl hlo
  obtain rfl : dV = .none := Dflts.none hD hdf
  obtain rfl : kV = .none := Dflts.noKw hD
  obtain ⟨a, vs, ns, rfl, rfl, hobj, hints, hlen⟩ := script_of hn hpre hwl
  refine enter_call (codeAny_mono (call w s₀ s₁ mg mb fa o pm cd doc a vs ns G Y ho (fd_plain hd) hcd hmg hobj hints hlen hg) fun r s' hq => ?_)
  obtain ⟨rfl, h2, h3, h4⟩ := hq
  exact ⟨.inl ⟨.bool true, .bool true, [], rfl, fun _ => rfl, .bool true, post_true l _, fun _ => ⟨List.Pairwise.nil, fun _ hm => (nomatch hm)⟩⟩, h2, h3, h4⟩

/-! ### rules over ANY heap (no ledger) from facts about the written part K: the library's own take a ledger (News) for what they write -/
section
variable {prog : Program} {w : World} {A : Around} {E : Value → Shared → Prop} {s : Shared} {K : Frag}

/-! the whole heap as the ledger: makes every rule that writes through a ledger a rule over any heap -/
def ledger (h : Heap) (L d : Addr) : List (Addr × Obj) := (List.range h.objs.size).filterMap fun a => if a = L ∨ a = d then none else (h.get? a).map fun o => (a, o)
end
end Att

namespace L2
open PySem PySem.Spec PyProof.Rows

theorem vals_ints : ∀ {vs : List Value} {ns : List Int}, IntsAre vs ns → Vals (ns.map V.int) vs
  | _, _, .nil => .nil
  | _, _, .cons n t h => .cons ⟨t, rfl⟩ (vals_ints h)

/-- nothing is tracked but the script, known to the object (or it is an object of the module) -/
def Only (H : Hp) : Prop := ∀ b, H b = none ∨ ∃ o xs, H b = some (.frz o (.lst xs))

/-- THE HEAD: the law's promise, at the heap behind the top. F, the promise of the law's def, may use that base is part of the heap (so K.In base, base.Ns mainGlobals mg stand in Mod) -/
theorem law_call {P : Program} {w : World} {K : PySem.W.Frag} {mg mb : Str → Option Value} {CX : CXT} {k : Nat} {fa a : Addr} {fd : FuncData} {x : Str} {sp : Sp} {s₁ : Shared} {vs : List Value} {ns : List Int}
    (KX : K.In s₁.heap) (hns : s₁.heap.Ns mainGlobals mg) (hb : s₁.heap.Ns builtinsNs mb) (hbb : ∀ x : Str, x ≠ "__name__" → mb x = bootBuiltins x) (hlim : s₁.heap.NoLimit) (hg : s₁.gens = #[])
    (ha : s₁.heap.get? a = some { cls := .type "list", data := .seq vs.toArray }) (hi : IntsAre vs ns) (hl : ns.length ≤ sizeLine) (hr : Room k callerA)
    (F : ∀ base : Heap, K.In base → base.Ns mainGlobals mg → FnOk P w K mg base CX k fa fd [x] sp) (hbind : ∀ (s : Shared) (u : Value), BindsTo s fd ⟨[u], []⟩ [(x, u)])
    (hsp : ∀ H : Hp, Only H → SqL K H a (ns.map V.int) → sp [.ref a] H (fun v _ => v = .bl true) fun _ _ _ => False)
    (hCX : ∀ H e s', CX [] H s₁ (fun _ _ _ => False) e s' → False) :
    codeAny (model P w) callerA (.call (.ref fa) ⟨[.ref a], []⟩) (fun r s' => r = .ok (.ret (.bool true)) ∧ OldK s₁.heap s'.heap ∧ s'.os = s₁.os ∧ AllBare s'.gens) s₁ := by
  have rv := vals_ints hi
  have lenV := hi.length
  -- from an abstract heap in which nothing but the script may be tracked
  have core : ∀ H : Hp, Only H → SqL K H a (ns.map V.int) → HOk P w H s₁.heap → (∀ b, H b ≠ none → b = a) → (H a ≠ none → K.lookup a = none) →
      codeAny (model P w) callerA (.call (.ref fa) ⟨[.ref a], []⟩) (fun r s' => r = .ok (.ret (.bool true)) ∧ OldK s₁.heap s'.heap ∧ s'.os = s₁.os ∧ AllBare s'.gens) s₁ := by
    intro H hO hS hok hA hK
    have base_of : ∀ {b : Addr} {o : Obj}, s₁.heap.get? b = some o → H b = none → (hidT s₁.heap H).get? b = some o := fun e n => hidT_get e n
    have noA : ∀ {b : Addr} {o : Obj} {es : Array DictEntry} {ep : Nat}, s₁.heap.get? b = some o → o.data = .dict es ep → H b = none := fun {b o es ep} e d => by
      cases q : H b with
      | none => rfl
      | some u =>
        have e' : b = a := hA b (by rw [q]; simp)
        subst e'
        rw [ha] at e; cases e
        have d' : Data.seq vs.toArray _ = Data.dict es ep := d
        cases d'
    have nsK : ∀ {b : Addr} {m : Str → Option Value}, s₁.heap.Ns b m → (hidT s₁.heap H).Ns b m := fun {b m} ⟨o, es, ep, e, d, r⟩ => ⟨o, es, ep, base_of e (noA e d), d, r⟩
    have hKb : K.In (hidT s₁.heap H) := fun b o e => base_of (KX b o e) (by
      cases q : H b with
      | none => rfl
      | some u =>
        have e' : b = a := hA b (by rw [q]; simp)
        subst e'
        rw [hK (by rw [q]; simp)] at e; cases e)
    have hM : Mod K mg (hidT s₁.heap H) := ⟨hKb, nsK hns, ⟨mb, nsK hb, hbb⟩, let ⟨mc, h1, h2⟩ := hlim; ⟨mc, nsK h1, h2⟩⟩
    have e0 : Env0 P w K mg (hidT s₁.heap H) callerA [] s₁ H := ⟨rfl, hM, fun b o e => of_hidT e, Nat.le_of_eq (hidT_size _ _), trivial, fun b hb => absurd (show b ∈ ([] : List Addr) from hb) (by simp), hok, .of_eq hg⟩
    refine codeAny_mono ((F _ hKb (nsK hns)).run callerA [] s₁ H ⟨[.ref a], []⟩ [.ref a] [.ref a] _ _ hr e0 (hbind s₁ (.ref a)) (.cons rfl .nil) (hsp H hO hS)) fun r s' h => ?_
    cases r with
    | error e => exact (hCX H e s' h).elim
    | ok fl =>
      cases fl with
      | next => exact False.elim h
      | brk => exact False.elim h
      | cont => exact False.elim h
      | ret u =>
        obtain ⟨v, H', os, bare, un, hok', r', q⟩ := h
        have q' : v = .bl true := q
        subst q'
        obtain rfl : u = Value.bool true := r'
        refine ⟨rfl, OldK.of_keep fun b o e => ?_, os, bare⟩
        cases q : H b with
        | none => exact un.keep b o e q (by intro z; exact absurd (show b ∈ ([] : List Addr) from z) (by simp)) (by simp)
        | some u =>
          rcases hO b with z | ⟨ob, xs, z⟩
          · rw [q] at z; cases z
          · have z2 := un.frzs b ob _ z
            obtain ⟨e1, _⟩ := hok b _ z
            obtain ⟨e2, _⟩ := hok' b _ z2
            rw [e] at e1; cases e1
            exact e2
  cases hk : K.lookup a with
  | some o =>
    -- the script is one of the module's own objects
    have e := KX a o hk
    rw [ha] at e
    cases e
    refine core (fun _ => none) (fun _ => .inl rfl) (.inr ⟨_, vs.toArray, _, hk, rfl, rfl, rfl, by rw [List.size_toArray, lenV]; exact hl, by simpa using rv⟩) (fun b u z => by have z' : (none : Option HO) = some u := z; cases z') (fun b z => absurd rfl z) fun z => absurd rfl z
  | none =>
    refine core (fun b => if b = a then some (.frz { cls := .type "list", data := .seq vs.toArray } (.lst (ns.map V.int))) else none) (fun b => ?_) (.inl (.inr ⟨{ cls := .type "list", data := .seq vs.toArray }, if_pos rfl⟩)) (fun b u z => ?_) (fun b z => ?_) fun _ => hk
    · by_cases hb : b = a
      · exact .inr ⟨_, _, if_pos hb⟩
      · exact .inl (if_neg hb)
    · by_cases hb : b = a
      · have z' := (if_pos hb).symm.trans z
        cases z'
        subst hb
        exact ⟨ha, by rw [List.length_map]; exact hl, vs, _, rv, ha⟩
      · have z' := (if_neg hb).symm.trans z
        cases z'
    · by_cases hb : b = a
      · exact hb
      · exact absurd (if_neg hb) z
end L2

namespace L2
open PySem PySem.Spec PyProof.Rows

abbrev KOf {K : PySem.W.Frag} {h : Heap} (_ : K.In h) : PySem.W.Frag := K

/-- the goal that k_head leaves (case hc), from the law's promise. F gives the function object fd (K's own) once, then the promise over every base -/
theorem walk_of {l : PySem.W.OpenLaw} {n k : Nat} {q : Program} {loose : List Str} {XP : (Str → Option Value) → Heap → Prop} {YP : World → Heap → Prop} {d : DefRec} {K : Params → PySem.W.Frag} {CX : World → CXT} {sp : World → Sp} {x : Str}
    (hn : l.most = some n) (hn2 : n ≤ sizeLine) (hdf : d.params.defaults = []) (hr : Room k callerA)
    (hY : ∀ (w : World) (h : Heap), YP w h → (K w.params).In h)
    (F : ∀ (w : World) (mg : Str → Option Value) (fa : Addr) (h : Heap), (K w.params).In h → h.Ns mainGlobals mg → mg d.name = some (.ref fa) →
      ∃ fd : FuncData, (∀ (s : Shared) (u : Value), BindsTo s fd ⟨[u], []⟩ [(x, u)]) ∧
        ∀ base : Heap, (K w.params).In base → base.Ns mainGlobals mg → FnOk l.prog w (K w.params) mg base (CX w) k fa fd [x] (sp w))
    (hsp : ∀ (w : World) (H : Hp) (a : Addr) (ns : List Int), ns.length ≤ n → Only H → SqL (K w.params) H a (ns.map V.int) → sp w [.ref a] H (fun v _ => v = .bl true) fun _ _ _ => False)
    (hCX : ∀ (w : World) (H : Hp) (s : Shared) (e : Value) (s' : Shared), CX w [] H s (fun _ _ _ => False) e s' → False) :
    PySem.W.WalkO q loose XP YP l.row.toRowW d [] (fun f vs => PySem.call f vs) := by
  refine Att.attach_call hn hdf fun w s₀ s₁ mg mb fa o pm cd doc a vs ns G Y ho hd hcd hmg hobj hints hlen hg => ?_
  have KX := hY w _ Y
  obtain ⟨fd, hb, hF⟩ := F w mg fa _ KX G.T.g hmg
  exact law_call KX G.T.g G.T.b G.T.builtins G.T.nolimit hg hobj hints (Nat.le_trans hlen hn2) hr hF hb (fun H hO hS => hsp w H a ns hlen hO hS) fun H e s' => hCX w H s₁ e s'
end L2

/- THE LAST THEOREM (shape; LID, My.* are yours):
   My.Adr: a structure of the addresses that your layer names (classes, functions); My.Txt K t: a structure (Prop) of the equations over K;
   My.txt_mk : {K} {implicit addresses ..} (e1 : nsIn K mainGlobals "law" = some (some (.ref f))) (e2 : K.lookup f = some ⟨oc, od, .func (fnOf "law" "law" params body scope dV kV doc pm an cdv ct), sl⟩) (e3 : codeIn K cdv "law" = true) .. : ∃ t, My.Txt K t

set_option maxRecDepth 100000 in
set_option maxHeartbeats 0 in
theorem PySem.Challenge.cw_LID_holds : PySem.Challenge.rw_LID.Holds := by
  w_on; o_law; k_head; (case hw => w_witness2)
  k_fill
  refine L2.walk_of (l := PySem.Challenge.rw_LID) (n := 63) (k := 40) (x := "script") (CX := fun w => ..) (sp := fun _ => My.sp_law) rfl (by decide) rfl ⟨rfl, by decide, by decide⟩ (fun w h Y => PySem.W.kIn_of Y) ?F ?S ?C
  case F =>
    intro w mg fa h KX G hmg
    have T : ∃ t, My.Txt (L2.KOf KX) t := by
      dsimp only [L2.KOf]                          -- K must stand as «<heap const> w.params» for k_is
      refine' My.txt_mk ?e1 ?e2 ?e3 ..
      (case e1 => PySem.W.k_is)                    -- in the order: a name -> its address -> its object -> its parts
      (case e2 => PySem.W.k_is)
      ..
    obtain ⟨t, T⟩ := T
    have e0 := hmg.symm.trans (PySem.W.mg_of KX G T.law)
    cases e0                                       -- fa is the law's own address
    exact ⟨_, fun s u => .of_eq rfl, fun base kb nb => My.law_fn T kb nb⟩     -- if «.of_eq rfl» comes too early: refine' ⟨_, ?b, fun base kb nb => My.law_fn T kb nb⟩; exact fun s u => .of_eq rfl
  case S => exact fun w H a ns hl hO hS => ..
  case C => exact ..
(the tactic k_is has no namespace: write k_is) -/

/-! SHORT WORDS over the layer: a def of the text, its body, what a loop and a test want. -/
namespace L2
open PySem PySem.Spec PyProof.Rows

/-! ### the text by places -/
/-- the j-th statement of a class's body -/
def inClass (s : Stmt) (j : Nat) : Stmt := match s with
  | .ClassDef _ _ _ body _ _ _ _ _ _ _ => body.getD j (.Pass ⟨0, 0, 0, 0⟩)
  | _ => .Pass ⟨0, 0, 0, 0⟩
def defArgs (s : Stmt) : Arguments := match s with
  | .FunctionDef _ a _ _ _ _ _ _ _ _ => a
  | _ => { posonlyargs := [], args := [], vararg := none, kwonlyargs := [], kw_defaults := [], kwarg := none, defaults := [] }
def defBody (s : Stmt) : List Stmt := match s with
  | .FunctionDef _ _ b _ _ _ _ _ _ _ => b
  | _ => []
def defScope (s : Stmt) : Scope := match s with
  | .FunctionDef _ _ _ _ _ _ sc _ _ _ => sc
  | _ => { kind := .function, names := [], isGenerator := false, isCoroutine := false }

/-! ### no exception leaves a def -/
abbrev CX0 : CXT := fun _ _ _ _ _ _ => False
abbrev E0 : XK := fun _ _ _ => False
theorem pass0 {X : Cx} : Passes CX0 X E0 := fun _ _ _ _ _ _ _ h => h.elim

/-! ### a def (or method) of the text as it stands behind the top -/
structure Fun (K : PySem.W.Frag) (x qual : Str) (st : Stmt) (f : Addr) (fd : FuncData) : Prop where
  ex : ∃ (oc : Value) (od : Option Addr) (kV doc pm : Value) (an : Option Addr) (cdv ct : Value) (osl : Array (Option Value)),
    fd = PySem.W.fnOf x qual (defArgs st) (defBody st) (defScope st) .none kV doc pm an cdv ct ∧ K.lookup f = some ⟨oc, od, .func fd, osl⟩ ∧ PySem.W.codeIn K cdv qual = true
  kp : PySem.W.keepIn K (.ref f) = true
section
variable {P : Program} {w : World} {K : PySem.W.Frag} {mg : Str → Option Value} {base : Heap}
/-- THE RULE for a def: its body as a term of rules, and the reading of that term -/
theorem Fun.ok {x qual : Str} {st : Stmt} {f : Addr} {fd : FuncData} {N ps : List Str} {k : Nat} {sp : Sp} (F : Fun K x qual st f fd) (S : FnScope N ps (defScope st)) (len : ∀ vs H Q E, sp vs H Q E → vs.length = ps.length)
    (hbody : ∀ (cdv : Value) (A : Around) (outer : List Env) (s : Shared) (H : Hp) (vs : List V) (Q : VK) (E : XK), Room k (A.deeper (envOfC qual (defScope st) s.heap.objs.size f cdv)) → sp vs H Q E →
      ∃ t, PSs (cxOf CX0 P w K mg base N qual (defScope st) f cdv A outer s H E).nox (defBody st) t ∧ t { nx := fun _ H' => Q .non H', rt := Q } (start N vs) H) : FnOk P w K mg base CX0 (k + 1) f fd ps sp := by
  obtain ⟨oc, od, kV, doc, pm, an, cdv, ct, osl, rfl, lk, hcd⟩ := F.ex
  refine fn_of lk hcd S len fun A outer s H vs Q E hr hsp => ?_
  obtain ⟨t, h, q⟩ := hbody cdv A outer s H vs Q E hr hsp
  exact ⟨t, h.nox, q⟩
/-- how its arguments bind (no defaults): h is «fun _ _ _ _ _ _ us hl => match us, hl with | [_, _], _ => rfl», one _ a parameter -/
theorem Fun.binds {x qual : Str} {st : Stmt} {f : Addr} {fd : FuncData} {ps : List Str} (F : Fun K x qual st f fd)
    (h : ∀ (kV doc pm : Value) (an : Option Addr) (cdv ct : Value) (us : List Value), us.length = ps.length → bindArgs (PySem.W.fnOf x qual (defArgs st) (defBody st) (defScope st) .none kV doc pm an cdv ct) ⟨us, []⟩ = pure (ps.zip us)) : Binds K fd ps [] := by
  obtain ⟨oc, od, kV, doc, pm, an, cdv, ct, osl, rfl, lk, hcd⟩ := F.ex
  exact .all (h kV doc pm an cdv ct)
theorem fun_mk {x qual : Str} {st : Stmt} {f : Addr} {oc : Value} {od an : Option Addr} {osl : Array (Option Value)} {kV doc pm cdv ct : Value} (l : K.lookup f = some ⟨oc, od, .func (PySem.W.fnOf x qual (defArgs st) (defBody st) (defScope st) .none kV doc pm an cdv ct), osl⟩)
    (c : PySem.W.codeIn K cdv qual = true) (k : PySem.W.keepIn K (.ref f) = true) : Fun K x qual st f (PySem.W.fnOf x qual (defArgs st) (defBody st) (defScope st) .none kV doc pm an cdv ct) := ⟨⟨oc, od, kV, doc, pm, an, cdv, ct, osl, rfl, l, c⟩, k⟩
end
/-! ### expressions in short: the name that stands in the i-th slot -/
section
variable {X : Cx}
theorem pv (i : Nat) {x : Str} {pos : Pos} (hN : X.N[i]? = some x := by rfl) (hv : Vis X.env.scope x := by first | exact Or.inl rfl | exact Or.inr (Or.inl rfl) | exact Or.inr (Or.inr rfl)) (hd : (x == ("__debug__" : Str)) = false := by decide)
    (hcd : (x == ("__classdict__" : Str)) = false := by decide) : PE X (.Name x pos) (tVar i) := pe_var hN hv hd hcd
end

/-! ### tests -/
theorem iteF {A B : Prop} (h : B) : if false = true then A else B := by
  rw [if_neg Bool.false_ne_true]
  exact h
theorem iteT {A B : Prop} (h : A) : if true = true then A else B := by
  rw [if_pos rfl]
  exact h
theorem iteNS {c A B : Prop} [Decidable c] (hc : c) (h : B) : if (!decide c) = true then A else B := by
  rw [decide_eq_true hc]
  exact iteF h

/-! ### heaps -/
/-- all that was tracked is as it was -/
def Same (H H' : Hp) : Prop := ∀ b o, H b = some o → H' b = some o
theorem Same.refl (H : Hp) : Same H H := fun _ _ h => h
theorem Same.trans {H H1 H2 : Hp} (a : Same H H1) (b : Same H1 H2) : Same H H2 := fun c o h => b c o (a c o h)
theorem Same.free {H H' : Hp} (e : Same H H') {l : Addr} (h : H' l = Option.none) : H l = Option.none := by
  cases q : H l with
  | none => rfl
  | some o =>
    rw [e l o q] at h
    cases h
theorem Same.seq {K : PySem.W.Frag} {H H' : Hp} {a : Addr} {xs : List V} (e : Same H H') (h : SqL K H a xs) : SqL K H' a xs := by
  rcases h with (h | ⟨o, h⟩) | h
  · exact .inl (.inl (e _ _ h))
  · exact .inl (.inr ⟨o, e _ _ h⟩)
  · exact .inr h

/-! ### a dict's pairs: keys that differ -/
section
variable {κ : Type} [DecidableEq κ]
end
end L2

end
section
set_option Elab.async false
set_option linter.all false
set_option maxRecDepth 100000
set_option maxHeartbeats 4000000
namespace L2
open PySem PySem.Spec PyProof.Rows

/-! ### comprehensions: the block -/
theorem closure_go (env : Env) : ∀ (names : List (Str × NameKind)) (acc : List (Str × Addr)),
    (∀ y ∈ names, y.2 = .free → ∃ c, env.cells.lookup y.1 = some c) →
    ∃ cl : List (Str × Addr), (forIn names acc fun (x : Str × NameKind) (r : List (Str × Addr)) => (match x with
        | (name, kind) => if (kind == NameKind.free) = true then do
            let a ← cellOf env name
            pure (ForInStep.yield ((name, a) :: r))
          else pure (ForInStep.yield r) : Sem (ForInStep (List (Str × Addr))))) = (pure cl : Sem (List (Str × Addr))) ∧
      (∀ x c, cl.lookup x = some c → acc.lookup x = some c ∨ env.cells.lookup x = some c) ∧
      (∀ x, (acc.lookup x).isSome = true ∨ (x, NameKind.free) ∈ names → (cl.lookup x).isSome = true)
  | [], acc, _ => ⟨acc, by simp, fun x c h => .inl h, fun x h => h.elim id fun z => nomatch z⟩
  | (n, k) :: r, acc, h => by
    by_cases hk : k = .free
    · subst hk
      obtain ⟨c, hc⟩ := h (n, .free) List.mem_cons_self rfl
      obtain ⟨cl, e, h1, h2⟩ := closure_go env r ((n, c) :: acc) fun y hy => h y (List.mem_cons_of_mem _ hy)
      refine ⟨cl, ?_, fun x c' z => ?_, fun x z => ?_⟩
      · rw [List.forIn_cons]
        have q : cellOf env n = pure c := by unfold cellOf; rw [hc]
        simp only [q, beq_self_eq_true, if_true, pure_bind]
        exact e
      · rcases h1 x c' z with z | z
        · rw [List.lookup_cons] at z
          by_cases hx : x = n
          · subst hx
            simp at z
            subst z
            exact .inr hc
          · have hb : (x == n) = false := by simpa using hx
            rw [hb] at z
            exact .inl z
        · exact .inr z
      · refine h2 x ?_
        rw [List.lookup_cons]
        by_cases hx : x = n
        · subst hx
          left
          simp
        · have hb : (x == n) = false := by simpa using hx
          rw [hb]
          rcases z with z | z
          · exact .inl z
          · rcases List.mem_cons.mp z with z | z
            · cases z
              exact absurd rfl hx
            · exact .inr z
    · obtain ⟨cl, e, h1, h2⟩ := closure_go env r acc fun y hy => h y (List.mem_cons_of_mem _ hy)
      refine ⟨cl, ?_, h1, fun x z => h2 x ?_⟩
      · rw [List.forIn_cons]
        have hb : (k == NameKind.free) = false := by simpa using hk
        simp only [hb, Bool.false_eq_true, if_false, pure_bind]
        exact e
      · rcases z with z | z
        · exact .inl z
        · rcases List.mem_cons.mp z with z | z
          · cases z
            exact absurd rfl hk
          · exact .inr z
theorem closure_of {scope : Scope} {env : Env} (h : ∀ y ∈ scope.names, y.2 = .free → ∃ c, env.cells.lookup y.1 = some c) :
    ∃ cl, closureFor scope env = pure cl ∧ (∀ x c, cl.lookup x = some c → env.cells.lookup x = some c) ∧ ∀ x, (x, NameKind.free) ∈ scope.names → ∃ c, cl.lookup x = some c := by
  obtain ⟨cl, e, h1, h2⟩ := closure_go env scope.names [] h
  refine ⟨cl, ?_, fun x c z => (h1 x c z).elim (fun q => by simp at q) id, fun x z => Option.isSome_iff_exists.mp (h2 x (.inr z))⟩
  unfold closureFor
  dsimp only
  rw [e]
  rfl

/-- a turn of a comprehension's loop, the step ahead of the store included -/
theorem compLoop_L {prog : Program} {w : World} {A : Around} {R : Result → Shared → Prop} {s : Shared} {elt target iter : Expr} {ifs : List Expr} {scope : Scope} {pos : Pos} {it acc : Value} {env : Env} (I : Nat → Shared → Prop)
    (turn : ∀ n s, I n s → wpAny (model prog w) A (pyNext it) (fun r s₁ => match r with
      | none => R (.ok .next) s₁
      | some v => wpAny (model prog w) A (letOwnedTupleGo target it v) (fun _ s₁' => wpAny (model prog w) A (assign target env v) (fun _ s₂ =>
          wpAny (model prog w) A (forIn ifs true fun c r => if r = true then do let ok ← isTrue c env (eval c env); pure (ForInStep.yield ok) else pure (ForInStep.yield r)) (fun ok s₃ =>
            if ok = true then wpAny (model prog w) A (eval elt env) (fun x s₄ =>
              wpAny (model prog w) A (call (.builtin "list.append") [acc, x]) (fun _ s₅ => ∃ m, m < n ∧ I m s₅) (fun _ _ => False) s₄) (fun _ _ => False) s₃
            else ∃ m, m < n ∧ I m s₃) (fun _ _ => False) s₂) (fun _ _ => False) s₁') (fun _ _ => False) s₁) (fun _ _ => False) s)
    (n : Nat) (h : I n s) :
    codeAny (model prog w) A (.compLoop (.ListComp elt [⟨target, iter, ifs, 0⟩] scope pos) 0 it acc env) R s := by
  refine codeAny_loop rfl I (fun n s hI => ?_) n h
  show wpAny _ A ((compTurn (.ListComp elt [⟨target, iter, ifs, 0⟩] scope pos) 0 it acc env).onRaise (fun x => do noteFrame x env; theTreesLotGoes x)) _ _ s
  refine wpAny_noted ?_
  rw [compTurn_list]
  refine wpAny_bind (wpAny_standAt (wpAny_bind (wpAny_mono (turn n s hI) (fun r s₁ h₁ => ?_) fun _ _ h' => h'.elim)))
  cases r with
  | none => exact wpAny_pure h₁
  | some v =>
    refine wpAny_bind (wpAny_mono h₁ (fun _ s₁' h₁' => ?_) fun _ _ h' => h'.elim)
    refine wpAny_bind (wpAny_mono h₁' (fun _ s₂ h₂ => wpAny_bind (wpAny_mono h₂ (fun ok s₃ h₃ => ?_) fun _ _ h' => h'.elim)) fun _ _ h' => h'.elim)
    cases ok with
    | false => exact wpAny_pure ⟨rfl, h₃⟩
    | true =>
      exact wpAny_bind (wpAny_bind (wpAny_mono h₃ (fun x s₄ h₄ => wpAny_bind (wpAny_mono h₄ (fun _ s₅ h₅ => wpAny_pure (wpAny_pure ⟨rfl, h₅⟩)) fun _ _ h' => h'.elim)) fun _ _ h' => h'.elim))

/-- the names of a block: its own, then the free ones, each at its place among the def's names -/
structure BkScope (N : List Str) (sc osc : Scope) (LN FN : List Str) (fr : List Nat) : Prop where
  kind : sc.kind = .function
  nocell : ∀ y ∈ sc.names, y.2 ≠ .cell
  names : ∀ x ∈ sc.names, x.2 = .local → sc.names.lookup x.1 = some .local
  free : ∀ y ∈ sc.names, y.2 = .free → osc.names.lookup y.1 = some .cell ∨ osc.names.lookup y.1 = some .free
  fnk : ∀ x ∈ FN, osc.names.lookup x = some .cell ∨ osc.names.lookup x = some .free
  fnf : ∀ x ∈ FN, sc.names.lookup x = some .free
  at' : FN.map some = fr.map fun j => N[j]?
theorem BkScope.place {N : List Str} {sc osc : Scope} {LN FN : List Str} {fr : List Nat} (S : BkScope N sc osc LN FN fr) {k : Nat} {x : Str} (e : FN[k]? = some x) : ∃ j : Nat, fr[k]? = some j ∧ N[j]? = some x := by
  have h := congrArg (fun l => l[k]?) S.at'
  simp only [List.getElem?_map, e, Option.map_some] at h
  cases q : fr[k]? with
  | none => rw [q] at h; cases h
  | some j =>
    rw [q] at h
    exact ⟨j, rfl, (Option.some.inj h).symm⟩
theorem BkScope.frl {N : List Str} {sc osc : Scope} {LN FN : List Str} {fr : List Nat} (S : BkScope N sc osc LN FN fr) : fr.length = FN.length := by
  have h := congrArg List.length S.at'
  simpa using h.symm

def bkStart (LN : List Str) (fr : List Nat) (σ : St) : St := List.replicate LN.length none ++ fr.map fun j => (σ[j]?).getD none
/-- the block's context, at the entry s (behind the iterator's making), its frame at C -/
def bkCx (X : Cx) (LN FN : List Str) (sc : Scope) (cl : List (Str × Addr)) (C : Addr) (fp : List Addr) (pins : List (Addr × Obj)) (s : Shared) (H : Hp) : Cx :=
  { X with N := LN ++ FN, s₀ := s, H₀ := H, env := compEnvC sc cl C X.env, outer := X.stack, ex := fp, fn := fun _ => false, pn := X.pn ++ pins, xe := fun _ _ => False }

theorem relabel_lookup {env : Env} : ∀ {names : List (Str × NameKind)} {x : Str} {k : NameKind},
    (names.map fun (n, k) => if (k == NameKind.free && env.scope.kind == .function && env.kindOf n == some .cell) then (n, NameKind.cell) else (n, k)).lookup x = some k →
    names.lookup x = some k ∨ (names.lookup x = some .free ∧ k = .cell)
  | [], _, _, h => by simp at h
  | (n, j) :: r, x, k, h => by
    have ih := @relabel_lookup env r x k
    have h : List.lookup x ((if (j == NameKind.free && env.scope.kind == .function && env.kindOf n == some .cell) = true then (n, NameKind.cell) else (n, j)) :: _) = some k := h
    rw [List.lookup_cons]
    by_cases hc : (j == NameKind.free && env.scope.kind == .function && env.kindOf n == some .cell) = true
    · rw [if_pos hc, List.lookup_cons] at h
      cases hx : x == n with
      | true =>
        rw [hx] at h
        simp only [Bool.and_eq_true, beq_iff_eq] at hc
        have hk : NameKind.cell = k := by simpa using h
        exact .inr ⟨by simp [hc.1.1], hk.symm⟩
      | false =>
        rw [hx] at h
        exact ih h
    · rw [if_neg hc, List.lookup_cons] at h
      cases hx : x == n with
      | true =>
        rw [hx] at h
        exact .inl h
      | false =>
        rw [hx] at h
        exact ih h

theorem bk_start {X : Cx} {pins : List (Addr × Obj)} {σ : St} {H : Hp} {s : Shared} {LN FN : List Str} {fr : List Nat} {sc : Scope} {cl : List (Str × Addr)} {C : Addr} {fp : List Addr} {h' : Heap} {tk : Nat} {m : Str → Option Value}
    (I : Inv X pins σ H s) (S : BkScope X.N sc X.env.scope LN FN fr) (hf : ∀ b ∈ fp, FpOk X pins H b) (hfs : ∀ b ∈ fp, ∃ o, s.heap.get? b = some o)
    (h1 : ∀ x c, cl.lookup x = some c → X.env.cells.lookup x = some c) (h2 : ∀ x, (x, NameKind.free) ∈ sc.names → ∃ c, cl.lookup x = some c)
    (hC : s.heap.objs.size ≤ C) (hk : ∀ b o, s.heap.get? b = some o → h'.get? b = some o) (hn : h'.Ns C m) :
    Inv (bkCx X LN FN sc cl C fp pins s H) [] (bkStart LN fr σ) H { s with heap := h', toks := tk } := by
  have hsub : ∀ b, b ∉ X.fs → b ≠ X.env.locals → b ∉ frs X.stack := fun b n1 n2 z => (List.mem_cons.mp (I.stkSub b z)).elim n2 n1
  have hlk : ∀ x k, (relabel sc X.env).names.lookup x = some k → (k = .cell ∨ k = .free) → sc.names.lookup x = some .free := fun x k e hk => by
    rcases relabel_lookup e with q | ⟨q, _⟩
    · rcases hk with rfl | rfl
      · exact absurd rfl (S.nocell _ (PySem.mem_of_lookup q))
      · exact q
    · exact q
  refine ⟨⟨I.ok.mod, ?_, I.ok.glob, I.ok.blt, hC, fun x y c e1 e2 => I.ok.inj x y c (h1 x c e1) (h1 y c e2), fun x hx => ?_, (fun x c z => absurd z (by intro z; cases z)), I.ok.hd, I.ok.frames, .inl rfl, fun b hb => ⟨?_, fun x c e z => ?_⟩, I.bs, Nat.le_trans I.ok.bsz I.sz, fun b o e hb => ?_, fun b hb => ?_, I.stack, I.stkFree⟩,
    rfl, I.bare, Un.kept hk, ⟨m, hn, fun i x v e1 e2 e3 => ?_⟩, fun x c e => ?_, ?_, fun x c e => I.freeC x c (h1 x c e), fun p hp => ?_, I.hok.kept hk, ?_⟩
  · exact S.kind
  · have hx : (relabel sc X.env).names.lookup x = some .cell ∨ (relabel sc X.env).names.lookup x = some .free := hx
    rcases hx with hx | hx
    · exact h2 x (PySem.mem_of_lookup (hlk x _ hx (.inl rfl)))
    · exact h2 x (PySem.mem_of_lookup (hlk x _ hx (.inr rfl)))
  · obtain ⟨o, e⟩ := hfs b hb
    exact Nat.ne_of_lt (Nat.lt_of_lt_of_le (Heap.lt_size e) hC)
  · exact (hf b hb).2.2.2.2.1 x c (h1 x c e) z
  · obtain ⟨_, _, _, h3, _⟩ := hf b hb
    rcases h3 with z | z
    · exact I.ok.noex b o e z
    · exact absurd (Nat.lt_of_lt_of_le (Heap.lt_size (I.ok.bs b o e).1) z) (Nat.lt_irrefl _)
  · obtain ⟨_, n1, n2, _⟩ := hf b hb
    exact hsub b n2 n1
  · -- the free names' values
    have hi : LN.length ≤ i := by
      refine Nat.le_of_not_lt fun hlt => ?_
      unfold bkStart at e2
      rw [List.getElem?_append_left (by simpa using hlt), List.getElem?_replicate] at e2
      split at e2 <;> cases e2
    have e1 : FN[i - LN.length]? = some x := by
      have e1 : (LN ++ FN)[i]? = some x := e1
      rwa [List.getElem?_append_right hi] at e1
    obtain ⟨j, ej, hj⟩ := S.place e1
    have e2 : (σ[j]?).getD none = some v := by
      unfold bkStart at e2
      rw [List.getElem?_append_right (by simpa using hi), List.length_replicate, List.getElem?_map, ej] at e2
      simpa using e2
    have e2 : σ[j]? = some (some v) := by
      cases q : σ[j]? with
      | none => rw [q] at e2; cases e2
      | some z =>
        rw [q] at e2
        exact congrArg some e2
    have hkx := S.fnk x (List.mem_of_getElem? e1)
    obtain ⟨m0, hm0, hl⟩ := I.loc
    have hv : Vis X.env.scope x := hkx.elim (fun z => .inr (.inl z)) fun z => .inr (.inr z)
    obtain ⟨u, r, l⟩ := hl j x v hj e2 hv
    refine ⟨u, r, ?_⟩
    rcases l with ⟨k1, _⟩ | ⟨_, c, ec, z⟩
    · have k1 : X.env.scope.names.lookup x = some .local := k1
      rcases hkx with q | q <;> rw [q] at k1 <;> cases k1
    · have e3 : Vis (relabel sc X.env) x := e3
      rcases e3 with q | q | q
      · -- a block's own name is none of the free ones, unless it shadows: then the kinds say local
        rcases relabel_lookup q with q' | ⟨_, q'⟩
        · rw [S.fnf x (List.mem_of_getElem? e1)] at q'
          cases q'
        · cases q'
      · obtain ⟨c', ec'⟩ := h2 x (PySem.mem_of_lookup (hlk x _ q (.inl rfl)))
        have := h1 x c' ec'
        rw [ec] at this; cases this
        exact .inr ⟨.inl q, c, ec', by obtain ⟨o, ho, hd⟩ := z; exact ⟨o, hk _ _ ho, hd⟩⟩
      · obtain ⟨c', ec'⟩ := h2 x (PySem.mem_of_lookup (hlk x _ q (.inr rfl)))
        have := h1 x c' ec'
        rw [ec] at this; cases this
        exact .inr ⟨.inr q, c, ec', by obtain ⟨o, ho, hd⟩ := z; exact ⟨o, hk _ _ ho, hd⟩⟩
  · obtain ⟨v, o, ho, hd⟩ := I.cell x c (h1 x c e)
    exact ⟨v, o, hk _ _ ho, hd⟩
  · exact I.hok.fresh hC
  · have hp : p ∈ (X.pn ++ pins) ++ [] := hp
    rw [List.append_nil] at hp
    obtain ⟨e, n, ne, nf, d⟩ := I.pin p hp
    exact ⟨hk _ _ e, n, Nat.ne_of_lt (Nat.lt_of_lt_of_le (Heap.lt_size e) hC), hsub _ nf ne, d⟩
  · unfold bkStart
    show _ = (LN ++ FN).length
    simp [S.frl]
end L2

end
section
set_option Elab.async false
set_option linter.all false
set_option maxRecDepth 100000
set_option maxHeartbeats 4000000
namespace L2
open PySem PySem.Spec PyProof.Rows

/-- the tests of a clause: none, or one -/
def PTs (X : Cx) (ifs : List Expr) (t : TT) : Prop :=
  ∀ (pins : List (Addr × Obj)) (s : Shared) (σ : St) (H : Hp) (Q : Bool → Hp → Prop), Inv X pins σ H s → t σ H Q →
    wpAny (model X.prog X.w) X.A (forIn ifs true fun c r => if r = true then do let ok ← isTrue c X.env (eval c X.env); pure (ForInStep.yield ok) else pure (ForInStep.yield r)) (TP X pins σ Q) X.xe s
def tTrue : TT := fun _ H Q => Q true H
theorem pts_nil {X : Cx} : PTs X [] tTrue := fun _ _ _ H _ I h => wpAny_tests_nil ⟨H, I, h⟩
theorem Un.track {fs ex : List Addr} {H H1 : Hp} {h h1 : Heap} {a : Addr} {o : HO} (u : Un fs ex H H1 h h1) (hp : h.objs.size ≤ a) (hn : H a = none) : Un fs ex H (upd H1 a o) h h1 where
  keep := u.keep
  slot := u.slot
  free := fun b ob q n hx => by
    rw [upd_ne (Nat.ne_of_lt (Nat.lt_of_lt_of_le (Heap.lt_size q) hp))]
    exact u.free b ob q n hx
  there := u.there
  tups := fun b xs q => by
    rw [upd_ne (fun z => by rw [z, hn] at q; cases q)]
    exact u.tups b xs q
  frzs := fun b ob x q => by
    rw [upd_ne (fun z => by rw [z, hn] at q; cases q)]
    exact u.frzs b ob x q
  tbls := fun b ps q => by
    rw [upd_ne (fun z => by rw [z, hn] at q; cases q)]
    exact u.tbls b ps q
theorem HOk.track {P : Program} {w : World} {H : Hp} {h : Heap} {a : Addr} {o : HO} (x : HOk P w H h) (hn : H a = none) (new : ObjOk P w (upd H a o) h a o) : HOk P w (upd H a o) h := fun b u e => by
  by_cases hb : b = a
  · subst hb
    rw [upd_same] at e
    cases e
    exact new
  · rw [upd_ne hb] at e
    refine (x b u e).stay (fun _ _ _ q => q) (fun c q => ?_) fun c xs q => ?_
    · rw [upd_ne (fun z => by rw [z, hn] at q; cases q)]
      exact q
    · rw [upd_ne (fun z => by rw [z, hn] at q; cases q)]
      exact q

section
variable {X : Cx} {tg elt iter : Expr} {ifs : List Expr} {sc : Scope} {pos : Pos} {LN FN : List Str} {fr : List Nat} {wi : TI} {g : TG} {tt : TT} {te : TE}

/-- what a comprehension wants: W by the turn, a measure, the items so far, the block's names, the heap -/
def CW (J : It) (g : TG) (tt : TT) (te : TE) (W : Nat → Nat → List V → St → Hp → Prop) (Q : VK) : Prop :=
  ∀ i m ys σ H, W i m ys σ H →
    (J.stop i H ∧ ys.length ≤ sizeLine ∧ ∀ p, H p = none → Q (.ref p) (upd H p (.lst ys))) ∨
    (J.go i H ∧ ∃ N : List V → St → Hp → Prop, (∀ ys' σ' H', N ys' σ' H' → ∃ m', m' < m ∧ W (i + 1) m' ys' σ' H') ∧
      ∀ x H2, J.yld i H x H2 → g x σ H2 fun σ2 H3 => tt σ2 H3 fun ok H4 => if ok = true then te σ2 H4 fun y H5 => ys.length < sizeLine ∧ N (ys ++ [y]) σ2 H5 else N ys σ2 H4)
def tComp (LN : List Str) (fr : List Nat) (wi : TI) (g : TG) (tt : TT) (te : TE) : TE := fun σ H Q => wi σ H fun J H1 =>
  ∃ W : Nat → Nat → List V → St → Hp → Prop, (∃ m, W 0 m [] (bkStart LN fr σ) H1) ∧ CW J g tt te W Q

theorem bk_run {pins : List (Addr × Obj)} {σ : St} {H2 : Hp} {s2 : Shared} {it : Addr} {fp : List Addr} {tn : Nat → Heap → Prop} {J : It} {cl : List (Str × Addr)} {W : Nat → Nat → List V → St → Hp → Prop} {Q : VK} {m0 : Nat}
    {R : Value → Addr → Result → Shared → Prop} {E : Value → Shared → Prop}
    (hc : X.calm = true) (S : BkScope X.N sc X.env.scope LN FN fr)
    (hg : ∀ cl C fp pins s H, PG (bkCx X LN FN sc cl C fp pins s H) tg g) (ht : ∀ cl C fp pins s H, PTs (bkCx X LN FN sc cl C fp pins s H) ifs tt) (he : ∀ cl C fp pins s H, PE (bkCx X LN FN sc cl C fp pins s H) elt te)
    (h1 : ∀ x c, cl.lookup x = some c → X.env.cells.lookup x = some c) (h2 : ∀ x, (x, NameKind.free) ∈ sc.names → ∃ c, cl.lookup x = some c)
    (I2 : Inv X pins σ H2 s2) (T : Turn X.prog X.w X.K tg J fp it tn) (st2 : tn 0 s2.heap) (f2 : ∀ b ∈ fp, FpOk X pins H2 b) (w0 : W 0 m0 [] (bkStart LN fr σ) H2) (turn : CW J g tt te W Q)
    (hR : ∀ D C s' H' ys m, s'.heap.Ns C m → Inv X pins σ (upd H' D (.lst ys)) s' → FpOk X pins (upd H' D (.lst ys)) C → Q (.ref D) (upd H' D (.lst ys)) → R (.ref D) C (.ok .next) s') :
    wpAny (model X.prog X.w) X.A (newList []) (fun acc s₃ => wpAny (model X.prog X.w) X.A (newFunctionEnv sc X.env.globals cl [] X.env.qual none .none (some X.env)) (fun cenv s₄ =>
      codeAny (model X.prog X.w) X.A (.compStart (.ListComp elt [⟨tg, iter, ifs, 0⟩] sc pos) 0 (.ref it) acc { cenv with scope := relabel sc X.env }) (R acc cenv.locals) s₄) E s₃) E s2 := by
  refine wpAny_newObj_type (wpAny_newFunctionEnv S.nocell (by intro y hy; simp at hy) (fun h₁ hns hsb => ?_) S.kind)
  dsimp only at hns hsb ⊢
  generalize hH2 : s2.heap.push { cls := .type "list", dict := none, data := .seq ([] : List Value).toArray } = G at hns hsb ⊢
  have hC : G.objs.size = s2.heap.objs.size + 1 := by rw [← hH2, Heap.size_push]
  have hDC : s2.heap.objs.size ≠ G.objs.size := by rw [hC]; exact Nat.ne_of_lt (Nat.lt_succ_self _)
  have hCle : s2.heap.objs.size ≤ G.objs.size := by rw [hC]; exact Nat.le_succ _
  have old : ∀ b o, s2.heap.get? b = some o → h₁.get? b = some o := fun b o e =>
    hsb.extBut b o (by rw [hC]; exact Nat.ne_of_lt (Nat.lt_succ_of_lt (Heap.lt_size e))) (Heap.get?_push_of_some _ (hH2 ▸ Heap.get?_push_of_some _ e))
  have hacc : h₁.PlainList s2.heap.objs.size #[] := ⟨_, hsb.extBut _ _ hDC (Heap.get?_push_of_some _ (hH2 ▸ Heap.get?_push_size _ rfl))⟩
  have hfs : ∀ b ∈ fp, ∃ o, s2.heap.get? b = some o := fun b hb => let ⟨o, e, _⟩ := T.obj 0 _ st2 b hb; ⟨o, e⟩
  have hflt : ∀ b ∈ fp, b < s2.heap.objs.size := fun b hb => let ⟨o, e⟩ := hfs b hb; Heap.lt_size e
  generalize hD : s2.heap.objs.size = D at *
  generalize hCC : G.objs.size = C at *
  have I0 := bk_start (LN := LN) (cl := cl) (C := C) (tk := s2.toks + ([] : List (Str × Value)).length) I2 S f2 hfs h1 h2 (by rw [hD]; exact hCle) old hns
  have fD : FpOk X pins H2 D := I2.fpOk (Nat.le_of_eq hD) (I2.hok.fresh (Nat.le_of_eq hD))
  -- what stays true of D and of the iterator's objects inside the block
  have stD : ∀ {pl : List (Addr × Obj)} {H' : Hp}, H' D = none → (∀ p ∈ pl, p.1 ≠ D) → FpOk (bkCx X LN FN sc cl C fp pins s2 H2) pl H' D := fun {pl H'} hn hp => by
    refine ⟨hn, hDC, fun z => ?_, .inr (Nat.le_of_eq hD), fun x c e => fD.2.2.2.2.1 x c (h1 x c e), fun p hp' => ?_⟩
    · exact (List.mem_cons.mp (I2.stkSub D z)).elim fD.2.1 fD.2.2.1
    · have hp' : p ∈ (X.pn ++ pins) ++ pl := hp'
      rcases List.mem_append.mp hp' with q | q
      · exact fD.2.2.2.2.2 p q
      · exact hp p q
  have stat : ∀ {pl : List (Addr × Obj)} {H' : Hp}, (∀ b ∈ fp, H' b = none) → (∀ p ∈ pl, p.1 = D) → ∀ b ∈ fp, FpOk (bkCx X LN FN sc cl C fp pins s2 H2) pl H' b := fun {pl H'} hn hp b hb => by
    obtain ⟨_, n1, n2, n3, n4, n5⟩ := f2 b hb
    refine ⟨hn b hb, Nat.ne_of_lt (Nat.lt_of_lt_of_le (hflt b hb) hCle), fun z => ?_, .inl hb, fun x c e => n4 x c (h1 x c e), fun p hp' => ?_⟩
    · exact (List.mem_cons.mp (I2.stkSub b z)).elim n1 n2
    · have hp' : p ∈ (X.pn ++ pins) ++ pl := hp'
      rcases List.mem_append.mp hp' with q | q
      · exact n5 p q
      · rw [hp p q]
        exact Nat.ne_of_gt (hflt b hb)
  have pinD : ∀ {s' : Shared}, ∀ p ∈ pinsAt [D] s'.heap, p.1 = D := fun p hp => by simpa using (of_pinsAt hp).1
  have key : ∀ s₄ : Shared, s₄ = { s2 with heap := h₁, toks := s2.toks + ([] : List (Str × Value)).length } →
      codeAny (model X.prog X.w) X.A (.compLoop (.ListComp elt [⟨tg, iter, ifs, 0⟩] sc pos) 0 (.ref it) (.ref D) (compEnvC sc cl C X.env)) (R (.ref D) C) s₄ := by
    rintro s₄ rfl
    refine compLoop_L (fun n s' => ∃ i ys σ' H' its, Inv (bkCx X LN FN sc cl C fp pins s2 H2) [] σ' H' s' ∧ tn i s'.heap ∧ (∀ b ∈ fp, H' b = none) ∧ W i n ys σ' H' ∧ Vals ys its ∧ s'.heap.PlainList D its.toArray ∧ H' D = none) ?_ m0
      ⟨0, [], _, H2, [], I0, T.keep _ _ _ st2 (fun b _ o e => old b o e), fun b hb => (f2 b hb).1, w0, .nil, hacc, fD.1⟩
    rintro n s3 ⟨i, ys, σ3, H3, its, I3, st3, fr3, w3, rv, pl, nD⟩
    have plo : ∃ o, s3.heap.get? D = some o ∧ ∀ v, o.data ≠ .cell v := by
      obtain ⟨k, e⟩ := pl
      exact ⟨_, e, fun v z => by cases z⟩
    have I3' : Inv (bkCx X LN FN sc cl C fp pins s2 H2) ([] ++ pinsAt [D] s3.heap) σ3 H3 s3 := I3.pinned (fp := [D]) (fun b hb => by
      obtain rfl : b = D := by simpa using hb
      exact stD nD (fun _ z => nomatch z)) (fun b hb => by
      obtain rfl : b = D := by simpa using hb
      exact plo)
    have I3' : Inv (bkCx X LN FN sc cl C fp pins s2 H2) (pinsAt [D] s3.heap) σ3 H3 s3 := I3'
    have keepD : ∀ {pl' : List (Addr × Obj)} {σ' : St} {H' : Hp} {s' : Shared}, Inv (bkCx X LN FN sc cl C fp pins s2 H2) (pinsAt [D] s3.heap ++ pl') σ' H' s' → s'.heap.PlainList D its.toArray ∧ H' D = none := fun {pl' σ' H' s'} J => by
      obtain ⟨k, e⟩ := pl
      have := J.pin (D, _) (List.mem_append_right _ (List.mem_append_left _ (mem_pinsAt (by simp) e)))
      exact ⟨⟨k, this.1⟩, this.2.1⟩
    have keepD0 : ∀ {σ' : St} {H' : Hp} {s' : Shared}, Inv (bkCx X LN FN sc cl C fp pins s2 H2) (pinsAt [D] s3.heap) σ' H' s' → s'.heap.PlainList D its.toArray ∧ H' D = none := fun {σ' H' s'} J => by
      refine keepD (pl' := []) (σ' := σ') ?_
      rw [List.append_nil]
      exact J
    rcases turn i n ys σ3 H3 w3 with ⟨stop, hlen, q⟩ | ⟨go, N, hN, step⟩
    · refine thn (T.done (bkCx X LN FN sc cl C fp pins s2 H2) rfl rfl rfl hc i (pinsAt [D] s3.heap) s3 σ3 H3 _ I3' (stat fr3 (fun p hp => pinD (s' := s3) p hp)) st3 stop) fun r s4 ⟨hr, I4⟩ => ?_
      subst hr
      obtain ⟨pl4, n4⟩ := keepD0 I4
      have u4 : Un (frs X.stack) fp H2 (upd H3 D (.lst ys)) s2.heap s4.heap := Un.track I4.base (Nat.le_of_eq hD) fD.1
      have nC : H3 C = none := I4.free
      have o4 : HOk X.prog X.w (upd H3 D (.lst ys)) s4.heap := HOk.track I4.hok n4 (by
        obtain ⟨k, e⟩ := pl4
        exact ⟨hlen, its, k, rv, e⟩)
      have J : Inv X pins σ (upd H3 D (.lst ys)) s4 := I2.call' (s' := s4) (ch := fp) I4.os u4 o4 I4.bare fun b hb => by
        obtain ⟨_, n1, n2, n3, n4, n5⟩ := f2 b hb
        exact ⟨n3, n1, n4, n5⟩
      obtain ⟨m, hm, _⟩ := I4.loc
      exact hR D C s4 H3 ys m hm J (I2.fpOk (by rw [hD]; exact hCle) (by rw [upd_ne (Ne.symm hDC)]; exact nC)) (q D n4)
    · refine thn (T.item (bkCx X LN FN sc cl C fp pins s2 H2) rfl rfl rfl hc i (pinsAt [D] s3.heap) s3 σ3 H3 _ I3' (stat fr3 (fun p hp => pinD (s' := s3) p hp)) st3 go) fun r s4 ⟨u, hr, h4⟩ => ?_
      subst hr
      refine thn h4 fun _ s5 ⟨x, H5, I5, r5, y5, st5, fr5⟩ => ?_
      have I5' := I5.pinned (stat fr5 (fun p hp => pinD (s' := s3) p hp)) (T.obj _ _ st5)
      refine thn (hg cl C fp pins s2 H2 _ s5 σ3 H5 x u _ I5' r5 (step x H5 y5)) fun _ s6 ⟨σ6, H6, I6, q6⟩ => ?_
      refine thn (ht cl C fp pins s2 H2 _ s6 σ6 H6 _ I6 q6) fun ok s7 ⟨H7, I7, q7⟩ => ?_
      have again : ∀ {s' : Shared} {H' : Hp}, Inv (bkCx X LN FN sc cl C fp pins s2 H2) (pinsAt [D] s3.heap ++ pinsAt fp s5.heap) σ6 H' s' → tn (i + 1) s'.heap ∧ ∀ b ∈ fp, H' b = none := fun {s' H'} J => by
        refine ⟨T.keep _ _ _ st5 fun b hb o e => (J.pin (b, o) (List.mem_append_right _ (List.mem_append_right _ (mem_pinsAt hb e)))).1, fun b hb => ?_⟩
        obtain ⟨o, e, d⟩ := T.obj _ _ st5 b hb
        exact (J.pin (b, o) (List.mem_append_right _ (List.mem_append_right _ (mem_pinsAt hb e)))).2.1
      have bare : ∀ {s' : Shared} {H' : Hp}, Inv (bkCx X LN FN sc cl C fp pins s2 H2) (pinsAt [D] s3.heap ++ pinsAt fp s5.heap) σ6 H' s' → Inv (bkCx X LN FN sc cl C fp pins s2 H2) [] σ6 H' s' := fun J => J.pins_of fun p hp => nomatch hp
      cases ok with
      | false =>
        rw [if_neg Bool.false_ne_true] at q7 ⊢
        obtain ⟨m', hm, w7⟩ := hN ys σ6 H7 q7
        obtain ⟨pl7, n7⟩ := keepD I7
        exact ⟨m', hm, i + 1, ys, σ6, H7, its, bare I7, (again I7).1, (again I7).2, w7, rv, pl7, n7⟩
      | true =>
        rw [if_pos rfl] at q7 ⊢
        refine thn (he cl C fp pins s2 H2 _ s7 σ6 H7 _ I7 q7) fun v s8 ⟨y, H8, I8, r8, hl8, q8⟩ => ?_
        obtain ⟨m', hm, w8⟩ := hN _ σ6 H8 q8
        obtain ⟨pl8, n8⟩ := keepD I8
        obtain ⟨t8, f8⟩ := again I8
        have hsz : its.toArray.size ≤ sizeLine := by
          have := rv.length
          rw [List.size_toArray, ← this]
          exact Nat.le_of_lt hl8
        refine wpAny_list_append_plain pl8 (fun h' pl' sb => ?_) hsz
        refine ⟨m', hm, i + 1, ys ++ [y], σ6, H8, its ++ [v], ?_, ?_, f8, w8, rv.append (.cons r8 .nil), ?_, n8⟩
        · obtain ⟨d0, d1, d2, d3, d4, d5⟩ := stD (pl := []) n8 (fun _ z => nomatch z)
          exact (bare I8).turned (t' := s8.toks) (fun b o hb e => (sb.2 b hb).trans e) d0 d1 d3 d4 d5
        · exact T.keep _ _ _ t8 fun b hb o e => (sb.2 b (Nat.ne_of_lt (hflt b hb))).trans e
        · simpa using pl'
  exact codeAny_compStart_list (key _ rfl) (T.self _ 0 _ _ _ (T.keep _ _ _ st2 fun b _ o e => old b o e) (key _ rfl))

/-- [elt for tg in iter if ..] -/
theorem pe_comp (hc : X.calm = true) (S : BkScope X.N sc X.env.scope LN FN fr) (hi : PI X tg iter wi)
    (hg : ∀ cl C fp pins s H, PG (bkCx X LN FN sc cl C fp pins s H) tg g) (ht : ∀ cl C fp pins s H, PTs (bkCx X LN FN sc cl C fp pins s H) ifs tt) (he : ∀ cl C fp pins s H, PE (bkCx X LN FN sc cl C fp pins s H) elt te)
    (hs : ∀ x, foldedSetIterable iter X.env x = pure x := by intro _; rfl) : PE X (.ListComp elt [⟨tg, iter, ifs, 0⟩] sc pos) (tComp LN fr wi g tt te) := by
  intro pins s σ H Q I h
  rw [eval_ListComp]
  obtain ⟨cl, ecl, h1, h2⟩ := closure_of (scope := sc) (env := X.env) fun y hy hk => I.ok.has y.1 (S.free y hy hk)
  refine wpAny_comprehension_free (use := none) rfl hs ecl S.kind S.names (thn (hi pins s σ H _ I h) fun v s1 q1 => thn q1 fun itv s2 q2 => ?_)
  obtain ⟨it, fp, tn, J, H2, e, I2, T, st2, f2, W, ⟨m0, w0⟩, turn⟩ := q2
  subst e
  refine bk_run (R := fun acc C => compPost (model X.prog X.w) X.A X.xe none (EP X pins σ Q) acc C) hc S hg ht he h1 h2 I2 T st2 f2 w0 turn fun D C s' H' ys m hn J fC q => ?_
  refine ⟨m, hn, fun h' sb => ⟨.ref D, _, J.turned (t' := s'.toks) (fun b o hb e => (sb.2 b hb).trans e) fC.1 fC.2.1 fC.2.2.2.1 fC.2.2.2.2.1 fC.2.2.2.2.2, rfl, q⟩⟩

/-- name = [elt for tg in iter if ..], the store ahead of the block's end -/
theorem ps_setc {i : Nat} {x : Str} {pos' pos2 : Pos} (hc : X.calm = true) (hN : X.N.Nodup) (hix : X.N[i]? = some x) (hx : X.env.scope.names.lookup x = some .local) (S : BkScope X.N sc X.env.scope LN FN fr) (hi : PI X tg iter wi)
    (hg : ∀ cl C fp pins s H, PG (bkCx X LN FN sc cl C fp pins s H) tg g) (ht : ∀ cl C fp pins s H, PTs (bkCx X LN FN sc cl C fp pins s H) ifs tt) (he : ∀ cl C fp pins s H, PE (bkCx X LN FN sc cl C fp pins s H) elt te)
    (hsw : swapsWith (.ListComp elt [⟨tg, iter, ifs, 0⟩] sc pos) (some (.Name x pos')) pos2.line X.env = pure true := by rfl)
    (hs : ∀ x, foldedSetIterable iter X.env x = pure x := by intro _; rfl) : PS X (.Assign [.Name x pos'] (.ListComp elt [⟨tg, iter, ifs, 0⟩] sc pos) pos2) (tAsg (tComp LN fr wi g tt te) (gName i)) := by
  intro pins s σ H D0 I h
  rw [exec_Assign_Name_used _ _ _ _ hsw]
  refine wpAny_bind (wpAny_standAt (wpAny_bind ?_))
  show wpAny _ X.A (do let _ ← comprehension (.ListComp elt [⟨tg, iter, ifs, 0⟩] sc pos) sc X.env _ (newList []) false (eval iter X.env) (some (assign (.Name x pos') X.env))) _ _ s
  obtain ⟨cl, ecl, h1, h2⟩ := closure_of (scope := sc) (env := X.env) fun y hy hk => I.ok.has y.1 (S.free y hy hk)
  refine wpAny_bind (wpAny_mono (wpAny_comprehension_free (use := some (assign (.Name x pos') X.env)) (Q := fun _ s' => SP X pins D0 .next s') rfl hs ecl S.kind S.names (thn (hi pins s σ H _ I h) fun v s1 q1 => thn q1 fun itv s2 q2 => ?_))
    (fun _ s' hq => wpAny_pure (wpAny_pure hq)) fun _ _ e => e)
  obtain ⟨it, fp, tn, J, H2, e, I2, T, st2, f2, W, ⟨m0, w0⟩, turn⟩ := q2
  subst e
  refine bk_run (R := fun acc C => compPost (model X.prog X.w) X.A X.xe (some (assign (.Name x pos') X.env)) (fun _ s' => SP X pins D0 .next s') acc C) hc S hg ht he h1 h2 I2 T st2 f2 w0 turn fun D C s' H' ys m hn J fC q => ?_
  show wpAny _ X.A (assign (.Name x pos') X.env (.ref D)) _ _ s'
  refine wpAny_assign_Name (store_ok2 J hN hix (.inl hx) (show RelV (.ref D) (.ref D) from rfl) (fun s'' J2 ⟨a, sb2, ha⟩ => ?_) (.inr hx))
  have nCa : C ≠ a := by
    rcases ha with z | z
    · rw [z]; exact fC.2.1
    · exact fun q => fC.2.2.2.2.1 x a z q.symm
  refine ⟨m, hn.sameBut sb2 nCa, fun h' sb => ⟨_, _, J2.turned (t' := s''.toks) (fun b o hb e => (sb.2 b hb).trans e) fC.1 fC.2.1 fC.2.2.2.1 fC.2.2.2.2.1 fC.2.2.2.2.2, q⟩⟩
end
end L2

end
section
set_option Elab.async false
set_option linter.all false
set_option maxRecDepth 100000
set_option maxHeartbeats 4000000
namespace L2
open PySem PySem.Spec PyProof.Rows

/-! ### data: what a value stands for, by tuples that never change -/
inductive D where
  | non | bl (b : Bool) | int (i : Int) | str (x : Str) | tup (ds : List D)
mutual
def Rep (H : Hp) : D → V → Prop
  | .non, v => v = .non
  | .bl b, v => v = .bl b
  | .int i, v => v = .int i
  | .str x, v => v = .str x
  | .tup ds, v => ∃ a xs, v = .ref a ∧ H a = some (.tup xs) ∧ Reps H ds xs
def Reps (H : Hp) : List D → List V → Prop
  | [], vs => vs = []
  | d :: ds, vs => ∃ v r, vs = v :: r ∧ Rep H d v ∧ Reps H ds r
end
/-- tuples stay -/
def TSame (H H' : Hp) : Prop := ∀ a xs, H a = some (.tup xs) → H' a = some (.tup xs)
theorem TSame.refl (H : Hp) : TSame H H := fun _ _ h => h
theorem TSame.trans {H H1 H2 : Hp} (a : TSame H H1) (b : TSame H1 H2) : TSame H H2 := fun c o h => b c o (a c o h)
theorem Same.ts {H H' : Hp} (h : Same H H') : TSame H H' := fun a xs e => h a _ e
theorem Same.new {H : Hp} {a : Addr} {o : HO} (h : H a = none) : Same H (upd H a o) := fun b u e => by rw [upd_ne (ne_of_none e h)]; exact e
/-- an object that is no tuple is written -/
theorem TSame.wr {H : Hp} {a : Addr} {o : HO} (h : ∀ xs, H a ≠ some (.tup xs)) : TSame H (upd H a o) := fun b xs e => by
  rw [upd_ne (fun z => by subst z; exact h xs e)]
  exact e
mutual
theorem Rep.mono {H H' : Hp} (t : TSame H H') : ∀ {d : D} {v : V}, Rep H d v → Rep H' d v
  | .non, _, h => by simpa [Rep] using h
  | .bl _, _, h => by simpa [Rep] using h
  | .int _, _, h => by simpa [Rep] using h
  | .str _, _, h => by simpa [Rep] using h
  | .tup ds, v, h => by
    rw [Rep] at h ⊢
    obtain ⟨a, xs, e, ha, r⟩ := h
    exact ⟨a, xs, e, t a xs ha, Reps.mono t r⟩
theorem Reps.mono {H H' : Hp} (t : TSame H H') : ∀ {ds : List D} {vs : List V}, Reps H ds vs → Reps H' ds vs
  | [], _, h => by simpa [Reps] using h
  | d :: ds, vs, h => by
    rw [Reps] at h ⊢
    obtain ⟨v, r, e, h1, h2⟩ := h
    exact ⟨v, r, e, Rep.mono t h1, Reps.mono t h2⟩
end
theorem rep_int {H : Hp} {i : Int} : Rep H (.int i) (.int i) := by rw [Rep]
theorem rep_tup {H : Hp} {a : Addr} {xs : List V} {ds : List D} (h : H a = some (.tup xs)) (r : Reps H ds xs) : Rep H (.tup ds) (.ref a) := by rw [Rep]; exact ⟨a, xs, rfl, h, r⟩
theorem reps_nil {H : Hp} : Reps H [] [] := by rw [Reps]
theorem reps_cons {H : Hp} {d : D} {ds : List D} {v : V} {vs : List V} (h : Rep H d v) (r : Reps H ds vs) : Reps H (d :: ds) (v :: vs) := by rw [Reps]; exact ⟨v, vs, rfl, h, r⟩
theorem rep_int_inv {H : Hp} {i : Int} {v : V} (h : Rep H (.int i) v) : v = .int i := by rwa [Rep] at h
theorem rep_tup_inv {H : Hp} {v : V} {ds : List D} (h : Rep H (.tup ds) v) : ∃ a xs, v = .ref a ∧ H a = some (.tup xs) ∧ Reps H ds xs := by rwa [Rep] at h
theorem reps_nil_inv {H : Hp} {vs : List V} (h : Reps H [] vs) : vs = [] := by rwa [Reps] at h
theorem reps_cons_inv {H : Hp} {d : D} {ds : List D} {vs : List V} (h : Reps H (d :: ds) vs) : ∃ v r, vs = v :: r ∧ Rep H d v ∧ Reps H ds r := by rwa [Reps] at h
theorem Reps.length {H : Hp} : ∀ {ds : List D} {vs : List V}, Reps H ds vs → ds.length = vs.length
  | [], vs, h => by rw [reps_nil_inv h]; rfl
  | d :: ds, vs, h => by
    obtain ⟨v, r, rfl, _, h2⟩ := reps_cons_inv h
    simp [Reps.length h2]
theorem Reps.get {H : Hp} : ∀ {ds : List D} {vs : List V} {i : Nat} {d : D}, Reps H ds vs → ds[i]? = some d → ∃ v, vs[i]? = some v ∧ Rep H d v
  | [], vs, i, d, h, e => by simp at e
  | d :: ds, vs, 0, d', h, e => by
    obtain ⟨v, r, rfl, h1, h2⟩ := reps_cons_inv h
    simp at e; subst e
    exact ⟨v, rfl, h1⟩
  | d :: ds, vs, i + 1, d', h, e => by
    obtain ⟨v, r, rfl, h1, h2⟩ := reps_cons_inv h
    obtain ⟨u, e1, e2⟩ := Reps.get (i := i) (d := d') h2 (by simpa using e)
    exact ⟨u, by simpa using e1, e2⟩
theorem Reps.get' {H : Hp} {ds : List D} {vs : List V} {i : Nat} {v : V} (h : Reps H ds vs) (e : vs[i]? = some v) : ∃ d, ds[i]? = some d ∧ Rep H d v := by
  have hl := h.length
  have hi : i < vs.length := (List.getElem?_eq_some_iff.mp e).1
  obtain ⟨u, e1, e2⟩ := h.get (i := i) (d := ds[i]'(by omega)) (List.getElem?_eq_getElem (by omega))
  rw [e] at e1; cases e1
  exact ⟨_, List.getElem?_eq_getElem (by omega), e2⟩
theorem Reps.append {H : Hp} : ∀ {ds es : List D} {vs ws : List V}, Reps H ds vs → Reps H es ws → Reps H (ds ++ es) (vs ++ ws)
  | [], es, vs, ws, h, r => by rw [reps_nil_inv h]; exact r
  | d :: ds, es, vs, ws, h, r => by
    obtain ⟨v, q, rfl, h1, h2⟩ := reps_cons_inv h
    exact reps_cons h1 (Reps.append h2 r)
mutual
def D.pl : D → Bool
  | .bl _ => false
  | .tup ds => D.pls ds
  | _ => true
def D.pls : List D → Bool
  | [] => true
  | d :: ds => d.pl && D.pls ds
end
mutual
def D.dep : D → Nat
  | .tup ds => D.deps ds + 1
  | _ => 0
def D.deps : List D → Nat
  | [] => 0
  | d :: ds => max d.dep (D.deps ds)
end
theorem D.pls_get : ∀ {ds : List D} {i : Nat} {d : D}, D.pls ds = true → ds[i]? = some d → d.pl = true
  | [], i, d, _, e => by simp at e
  | d :: ds, 0, d', h, e => by
    simp at e; subst e
    rw [D.pls, Bool.and_eq_true] at h
    exact h.1
  | d :: ds, i + 1, d', h, e => by
    rw [D.pls, Bool.and_eq_true] at h
    exact D.pls_get (i := i) h.2 (by simpa using e)
theorem D.deps_get : ∀ {ds : List D} {i : Nat} {d : D}, ds[i]? = some d → d.dep ≤ D.deps ds
  | [], i, d, e => by simp at e
  | d :: ds, 0, d', e => by
    simp at e; subst e
    rw [D.deps]; omega
  | d :: ds, i + 1, d', e => by
    have := D.deps_get (ds := ds) (i := i) (d := d') (by simpa using e)
    rw [D.deps]; omega
open Classical in
noncomputable def eqD (d e : D) : Bool := decide (d = e)
theorem eqD_true {d e : D} : eqD d e = true ↔ d = e := by unfold eqD; simp
theorem eqD_same {d : D} : eqD d d = true := eqD_true.mpr rfl
theorem eqD_false {d e : D} (h : d ≠ e) : eqD d e = false := by unfold eqD; simp [h]
theorem eqD_int {i j : Int} : eqD (.int i) (.int j) = (i == j) := by
  by_cases h : i = j
  · subst h; rw [eqD_same]; simp
  · rw [eqD_false (by intro z; cases z; exact h rfl)]; simp [h]
theorem eqD_str {i j : Str} : eqD (.str i) (.str j) = (i == j) := by
  by_cases h : i = j
  · subst h; rw [eqD_same]; simp
  · rw [eqD_false (by intro z; cases z; exact h rfl)]; simp [h]
def eqAtJ (ds es : List D) (f : D → D → Bool) (j : Nat) : Bool := match ds[j]?, es[j]? with | some a, some b => f a b | _, _ => false
theorem eqD_tup {ds es : List D} : ((List.range (min ds.length es.length)).all (eqAtJ ds es eqD) && ds.length == es.length) = eqD (.tup ds) (.tup es) := by
  by_cases h : ds = es
  · subst h
    rw [eqD_same]
    simp only [beq_self_eq_true, Bool.and_true, List.all_eq_true, List.mem_range]
    intro j hj
    have hj : j < ds.length := by omega
    unfold eqAtJ
    rw [List.getElem?_eq_getElem hj]
    exact eqD_same
  · rw [eqD_false (by intro z; cases z; exact h rfl)]
    by_cases hl : ds.length = es.length
    · rw [Bool.and_eq_false_iff]
      left
      rw [← Bool.not_eq_true]
      intro hall
      apply h
      refine List.ext_getElem? fun j => ?_
      by_cases hj : j < ds.length
      · have hj' : j < es.length := by omega
        have := List.all_eq_true.mp hall j (List.mem_range.mpr (by omega))
        unfold eqAtJ at this
        rw [List.getElem?_eq_getElem hj, List.getElem?_eq_getElem hj'] at this
        rw [List.getElem?_eq_getElem hj, List.getElem?_eq_getElem hj', eqD_true.mp this]
      · rw [List.getElem?_eq_none (by omega), List.getElem?_eq_none (by omega)]
    · rw [Bool.and_eq_false_iff]
      right
      simpa using hl
section
variable {X : Cx} {pins : List (Addr × Obj)} {σ : St} {H : Hp} {s : Shared}
theorem Inv.isTup (I : Inv X pins σ H s) {a : Addr} {xs : List V} (h : H a = some (.tup xs)) : ∃ its : List Value, Vals xs its ∧ s.heap.IsTuple a its.toArray := by
  obtain ⟨_, its, r, p⟩ := (show ObjOk X.prog X.w H s.heap a (.tup xs) from I.hok a _ h)
  exact ⟨its, r, p⟩
theorem eqAt_flat (I : Inv X pins σ H s) {d e : D} {x y : V} {u v : Value} {A : Around} (hd : d.dep = 0) (pd : d.pl = true) (pe : e.pl = true) (rd : Rep H d x) (re : Rep H e y) (ru : RelV x u) (rv : RelV y v) (hu : A.units < cLine) : SeqAt.EqAt A s u v (eqD d e) := by
  cases d with
  | tup ds => rw [D.dep] at hd; omega
  | bl b => simp [D.pl] at pd
  | non =>
    rw [Rep] at rd; subst rd; cases ru
    cases e with
    | bl b => simp [D.pl] at pe
    | non => rw [Rep] at re; subst re; cases rv; rw [eqD_same]; exact SeqAt.EqAt.same _
    | int b => rw [Rep] at re; subst re; obtain ⟨t, rfl⟩ := rv; rw [eqD_false (by intro z; cases z)]; exact SeqAt.EqAt.none_int b t
    | str b => rw [Rep] at re; subst re; obtain ⟨t, rfl⟩ := rv; rw [eqD_false (by intro z; cases z)]; exact SeqAt.EqAt.none_str b t
    | tup es =>
      rw [Rep] at re
      obtain ⟨a, xs, rfl, ha, _⟩ := re
      cases rv
      obtain ⟨its, _, ht⟩ := I.isTup ha
      rw [eqD_false (by intro z; cases z)]
      exact SeqAt.EqAt.none_tuple ht hu
  | int i =>
    rw [Rep] at rd; subst rd; obtain ⟨t, rfl⟩ := ru
    cases e with
    | bl b => simp [D.pl] at pe
    | non => rw [Rep] at re; subst re; cases rv; rw [eqD_false (by intro z; cases z)]; exact SeqAt.EqAt.int_none i t
    | int b => rw [Rep] at re; subst re; obtain ⟨t', rfl⟩ := rv; rw [eqD_int]; exact SeqAt.EqAt.int_int i t b t'
    | str b => rw [Rep] at re; subst re; obtain ⟨t', rfl⟩ := rv; rw [eqD_false (by intro z; cases z)]; exact SeqAt.EqAt.int_str i t b t'
    | tup es =>
      rw [Rep] at re
      obtain ⟨a, xs, rfl, ha, _⟩ := re
      cases rv
      obtain ⟨its, _, ht⟩ := I.isTup ha
      rw [eqD_false (by intro z; cases z)]
      exact SeqAt.EqAt.int_tuple i t ht hu
  | str i =>
    rw [Rep] at rd; subst rd; obtain ⟨t, rfl⟩ := ru
    cases e with
    | bl b => simp [D.pl] at pe
    | non => rw [Rep] at re; subst re; cases rv; rw [eqD_false (by intro z; cases z)]; exact SeqAt.EqAt.str_none i t
    | int b => rw [Rep] at re; subst re; obtain ⟨t', rfl⟩ := rv; rw [eqD_false (by intro z; cases z)]; exact SeqAt.EqAt.str_int i t b t'
    | str b => rw [Rep] at re; subst re; obtain ⟨t', rfl⟩ := rv; rw [eqD_str]; exact SeqAt.EqAt.str_str i t b t'
    | tup es =>
      rw [Rep] at re
      obtain ⟨a, xs, rfl, ha, _⟩ := re
      cases rv
      obtain ⟨its, _, ht⟩ := I.isTup ha
      rw [eqD_false (by intro z; cases z)]
      exact SeqAt.EqAt.str_tuple i t ht hu
mutual
theorem Rep.inj {H : Hp} : ∀ {d e : D} {v : V}, Rep H d v → Rep H e v → d = e
  | .non, .non, _, _, _ => rfl
  | .bl a, .bl b, v, h, h' => by simp only [Rep] at h h'; rw [h] at h'; cases h'; rfl
  | .int a, .int b, v, h, h' => by simp only [Rep] at h h'; rw [h] at h'; cases h'; rfl
  | .str a, .str b, v, h, h' => by simp only [Rep] at h h'; rw [h] at h'; cases h'; rfl
  | .tup ds, .tup es, v, h, h' => by
    rw [Rep] at h h'
    obtain ⟨a, xs, rfl, ha, r⟩ := h
    obtain ⟨b, ys, e, hb, r'⟩ := h'
    cases e
    rw [ha] at hb; cases hb
    rw [Reps.inj r r']
  | .non, .bl _, v, h, h' => by simp only [Rep] at h h'; rw [h] at h'; cases h'
  | .non, .int _, v, h, h' => by simp only [Rep] at h h'; rw [h] at h'; cases h'
  | .non, .str _, v, h, h' => by simp only [Rep] at h h'; rw [h] at h'; cases h'
  | .non, .tup _, v, h, h' => by simp only [Rep] at h h'; obtain ⟨_, _, e, _⟩ := h'; rw [h] at e; cases e
  | .bl _, .non, v, h, h' => by simp only [Rep] at h h'; rw [h] at h'; cases h'
  | .bl _, .int _, v, h, h' => by simp only [Rep] at h h'; rw [h] at h'; cases h'
  | .bl _, .str _, v, h, h' => by simp only [Rep] at h h'; rw [h] at h'; cases h'
  | .bl _, .tup _, v, h, h' => by simp only [Rep] at h h'; obtain ⟨_, _, e, _⟩ := h'; rw [h] at e; cases e
  | .int _, .non, v, h, h' => by simp only [Rep] at h h'; rw [h] at h'; cases h'
  | .int _, .bl _, v, h, h' => by simp only [Rep] at h h'; rw [h] at h'; cases h'
  | .int _, .str _, v, h, h' => by simp only [Rep] at h h'; rw [h] at h'; cases h'
  | .int _, .tup _, v, h, h' => by simp only [Rep] at h h'; obtain ⟨_, _, e, _⟩ := h'; rw [h] at e; cases e
  | .str _, .non, v, h, h' => by simp only [Rep] at h h'; rw [h] at h'; cases h'
  | .str _, .bl _, v, h, h' => by simp only [Rep] at h h'; rw [h] at h'; cases h'
  | .str _, .int _, v, h, h' => by simp only [Rep] at h h'; rw [h] at h'; cases h'
  | .str _, .tup _, v, h, h' => by simp only [Rep] at h h'; obtain ⟨_, _, e, _⟩ := h'; rw [h] at e; cases e
  | .tup _, .non, v, h, h' => by simp only [Rep] at h h'; obtain ⟨_, _, e, _⟩ := h; rw [h'] at e; cases e
  | .tup _, .bl _, v, h, h' => by simp only [Rep] at h h'; obtain ⟨_, _, e, _⟩ := h; rw [h'] at e; cases e
  | .tup _, .int _, v, h, h' => by simp only [Rep] at h h'; obtain ⟨_, _, e, _⟩ := h; rw [h'] at e; cases e
  | .tup _, .str _, v, h, h' => by simp only [Rep] at h h'; obtain ⟨_, _, e, _⟩ := h; rw [h'] at e; cases e
theorem Reps.inj {H : Hp} : ∀ {ds es : List D} {vs : List V}, Reps H ds vs → Reps H es vs → ds = es
  | [], [], _, _, _ => rfl
  | [], e :: es, vs, h, h' => by rw [reps_nil_inv h] at h'; obtain ⟨_, _, z, _⟩ := reps_cons_inv h'; cases z
  | d :: ds, [], vs, h, h' => by rw [reps_nil_inv h'] at h; obtain ⟨_, _, z, _⟩ := reps_cons_inv h; cases z
  | d :: ds, e :: es, vs, h, h' => by
    obtain ⟨v, r, rfl, h1, h2⟩ := reps_cons_inv h
    obtain ⟨v', r', z, h1', h2'⟩ := reps_cons_inv h'
    cases z
    rw [Rep.inj h1 h1', Reps.inj h2 h2']
end
theorem eqAt_D (I : Inv X pins σ H s) : ∀ (n : Nat) {d e : D} {x y : V} {u v : Value} {A : Around}, d.dep ≤ n → d.pl = true → e.pl = true → Rep H d x → Rep H e y → RelV x u → RelV y v → A.units + n < cLine → SeqAt.EqAt A s u v (eqD d e) := by
  intro n
  induction n with
  | zero =>
    intro d e x y u v A hn pd pe rd re ru rv hu
    exact eqAt_flat I (by omega) pd pe rd re ru rv (by omega)
  | succ n ih =>
    intro d e x y u v A hn pd pe rd re ru rv hu
    by_cases h0 : d.dep = 0
    · exact eqAt_flat I h0 pd pe rd re ru rv (by omega)
    · cases d with
      | non => simp [D.dep] at h0
      | bl _ => simp [D.dep] at h0
      | int _ => simp [D.dep] at h0
      | str _ => simp [D.dep] at h0
      | tup ds =>
        obtain ⟨a, xs, rfl, ha, r⟩ := rep_tup_inv rd
        cases ru
        obtain ⟨its, vx, ht⟩ := I.isTup ha
        cases e with
        | bl b => simp [D.pl] at pe
        | non => rw [Rep] at re; subst re; cases rv; rw [eqD_false (by intro z; cases z)]; exact SeqAt.EqAt.tuple_none ht (by omega)
        | int b => rw [Rep] at re; subst re; obtain ⟨t, rfl⟩ := rv; rw [eqD_false (by intro z; cases z)]; exact SeqAt.EqAt.tuple_int b t ht (by omega)
        | str b => rw [Rep] at re; subst re; obtain ⟨t, rfl⟩ := rv; rw [eqD_false (by intro z; cases z)]; exact SeqAt.EqAt.tuple_str b t ht (by omega)
        | tup es =>
          obtain ⟨b, ys, rfl, hb, r'⟩ := rep_tup_inv re
          cases rv
          by_cases hab : a = b
          · subst hab
            rw [Rep.inj rd re, eqD_same]
            exact SeqAt.EqAt.same _
          · obtain ⟨its', vy, ht'⟩ := I.isTup hb
            refine SeqAt.EqAt.of_refs hab ?_
            have l1 := vx.length
            have l2 := vy.length
            have l3 := r.length
            have l4 := r'.length
            have key := SeqAt.RcAt.tuples (A := A) (e := eqAtJ ds es eqD) ht ht' (by omega) fun j h1 h2 => ?_
            · rw [← eqD_tup, l3, l4, l1, l2]
              simpa using key
            · have h1' : j < its.length := by simpa using h1
              have h2' : j < its'.length := by simpa using h2
              have e1 : ds[j]? = some (ds[j]'(by omega)) := List.getElem?_eq_getElem _
              have e2 : es[j]? = some (es[j]'(by omega)) := List.getElem?_eq_getElem _
              obtain ⟨v1, q1, p1⟩ := r.get e1
              obtain ⟨v2, q2, p2⟩ := r'.get e2
              obtain ⟨u1, z1, w1⟩ := vx.get q1
              obtain ⟨u2, z2, w2⟩ := vy.get q2
              have y1 : its.toArray[j] = u1 := by
                have : its[j]? = some its[j] := List.getElem?_eq_getElem h1'
                rw [z1] at this
                simpa using (Option.some.inj this).symm
              have y2 : its'.toArray[j] = u2 := by
                have : its'[j]? = some its'[j] := List.getElem?_eq_getElem h2'
                rw [z2] at this
                simpa using (Option.some.inj this).symm
              rw [y1, y2]
              unfold eqAtJ
              rw [e1, e2]
              rw [D.dep] at hn
              have hdep := D.deps_get e1
              rw [D.pl] at pd pe
              exact ih (by omega) (D.pls_get pd e1) (D.pls_get pe e2) p1 p2 w1 w2 (by show A.units + 1 + n < cLine; omega)
end
end L2

end
section
set_option Elab.async false
set_option linter.all false
set_option maxRecDepth 100000
set_option maxHeartbeats 4000000
namespace L2
open PySem PySem.Spec PyProof.Rows
section
variable {X : Cx}
/-! ### == and != of tuples and lists, deep -/
def rEqD : R2 := fun x y H Q => ∃ ds es, Rep H (.tup ds) x ∧ Rep H (.tup es) y ∧ D.pls ds = true ∧ D.pls es = true ∧ D.deps ds ≤ 40 ∧ Q (.bl (eqD (.tup ds) (.tup es))) H
theorem items_at {X : Cx} {pins : List (Addr × Obj)} {σ : St} {H : Hp} {s : Shared} {A : Around} (I : Inv X pins σ H s) {ds es : List D} {xs ys : List V} {its its' : List Value} (vx : Vals xs its) (vy : Vals ys its') (r : Reps H ds xs) (r' : Reps H es ys) (pd : D.pls ds = true) (pe : D.pls es = true)
    (hd : D.deps ds ≤ 40) (hu : A.units + 40 < cLine) : ∀ j (h1 : j < its.toArray.size) (h2 : j < its'.toArray.size), SeqAt.EqAt A s its.toArray[j] its'.toArray[j] (eqAtJ ds es eqD j) := by
  intro j h1 h2
  have l1 := vx.length
  have l2 := vy.length
  have l3 := r.length
  have l4 := r'.length
  have h1' : j < its.length := by simpa using h1
  have h2' : j < its'.length := by simpa using h2
  have e1 : ds[j]? = some (ds[j]'(by omega)) := List.getElem?_eq_getElem _
  have e2 : es[j]? = some (es[j]'(by omega)) := List.getElem?_eq_getElem _
  obtain ⟨v1, q1, p1⟩ := r.get e1
  obtain ⟨v2, q2, p2⟩ := r'.get e2
  obtain ⟨u1, z1, w1⟩ := vx.get q1
  obtain ⟨u2, z2, w2⟩ := vy.get q2
  have y1 : its.toArray[j] = u1 := by
    have : its[j]? = some its[j] := List.getElem?_eq_getElem h1'
    rw [z1] at this
    simpa using (Option.some.inj this).symm
  have y2 : its'.toArray[j] = u2 := by
    have : its'[j]? = some its'[j] := List.getElem?_eq_getElem h2'
    rw [z2] at this
    simpa using (Option.some.inj this).symm
  rw [y1, y2]
  unfold eqAtJ
  rw [e1, e2]
  have hdep := D.deps_get e1
  exact eqAt_D I 40 (by omega) (D.pls_get pd e1) (D.pls_get pe e2) p1 p2 w1 w2 hu
theorem op_eqD (hu : X.A.units + 64 < cLine) : OpR X (compareOp .Eq) rEqD := by
  rintro pins s σ H x y v u Q I rx ry ⟨ds, es, h1, h2, pd, pe, hd, q⟩
  obtain ⟨a, xs, rfl, ha, r⟩ := rep_tup_inv h1
  obtain ⟨b, ys, rfl, hb, r'⟩ := rep_tup_inv h2
  cases rx; cases ry
  obtain ⟨its, vx, ht⟩ := I.isTup ha
  obtain ⟨its', vy, ht'⟩ := I.isTup hb
  refine SeqAt.eq_tupleAt (e := eqAtJ ds es eqD) ht ht' (by omega) (items_at (A := X.A.in1) I vx vy r r' pd pe hd (by show X.A.units + 1 + 40 < cLine; omega)) ?_
  refine fin_bl I q ?_
  rw [← eqD_tup, r.length, r'.length, vx.length, vy.length]
  simp
def rEqL (K : PySem.W.Frag) : R2 := fun x y H Q => ∃ a b xs ys ds es, x = .ref a ∧ y = .ref b ∧ SqL K H a xs ∧ SqL K H b ys ∧ Reps H ds xs ∧ Reps H es ys ∧ D.pls ds = true ∧ D.pls es = true ∧ D.deps ds ≤ 40 ∧ Q (.bl (eqD (.tup ds) (.tup es))) H
def rNeL (K : PySem.W.Frag) : R2 := fun x y H Q => ∃ a b xs ys ds es, x = .ref a ∧ y = .ref b ∧ SqL K H a xs ∧ SqL K H b ys ∧ Reps H ds xs ∧ Reps H es ys ∧ D.pls ds = true ∧ D.pls es = true ∧ D.deps ds ≤ 40 ∧ Q (.bl (!eqD (.tup ds) (.tup es))) H
theorem op_eqL (hu : X.A.units + 64 < cLine) : OpR X (compareOp .Eq) (rEqL X.K) := by
  rintro pins s σ H x y v u Q I rx ry ⟨a, b, xs, ys, ds, es, rfl, rfl, ha, hb, r, r', pd, pe, hd, q⟩
  cases rx; cases ry
  obtain ⟨its, vx, ht, _⟩ := I.list ha
  obtain ⟨its', vy, ht', _⟩ := I.list hb
  by_cases hl : its.length = its'.length
  · refine SeqAt.eq_listAt (e := eqAtJ ds es eqD) ht.isList ht'.isList (by simpa using hl) (by omega) (items_at (A := X.A.in1) I vx vy r r' pd pe hd (by show X.A.units + 1 + 40 < cLine; omega)) ?_
    refine fin_bl I q ?_
    rw [← eqD_tup, r.length, r'.length, vx.length, vy.length, hl]
    simp [hl]
  · refine SeqAt.eq_list_lengthsAt ht.isList ht'.isList (by simpa using hl) (by omega) (fin_bl I q ?_)
    refine eqD_false fun z => hl ?_
    cases z
    rw [← vx.length, ← vy.length, ← r.length, ← r'.length]
theorem op_neL (hu : X.A.units + 64 < cLine) : OpR X (compareOp .NotEq) (rNeL X.K) := by
  rintro pins s σ H x y v u Q I rx ry ⟨a, b, xs, ys, ds, es, rfl, rfl, ha, hb, r, r', pd, pe, hd, q⟩
  cases rx; cases ry
  obtain ⟨its, vx, ht, _⟩ := I.list ha
  obtain ⟨its', vy, ht', _⟩ := I.list hb
  by_cases hl : its.length = its'.length
  · refine SeqAt.RcNeAt.lists (e := eqAtJ ds es eqD) ht.isList ht'.isList (by simpa using hl) (by omega) (items_at (A := X.A.in1) I vx vy r r' pd pe hd (by show X.A.units + 1 + 40 < cLine; omega)) _ _ _ _ ?_
    refine fin_bl I q ?_
    rw [← eqD_tup, r.length, r'.length, vx.length, vy.length, hl]
    simp [hl]
  · refine SeqAt.RcNeAt.lists_lengths ht.isList ht'.isList (by simpa using hl) (by omega) _ _ _ _ (fin_bl I q ?_)
    rw [eqD_false fun z => hl ?_]
    · rfl
    · cases z
      rw [← vx.length, ← vy.length, ← r.length, ← r'.length]

/-! ### is, is not, of truths -/
/-! ### products and quotients of long numbers -/
def CBig (i j : Int) : Prop := i.natAbs < 2 ^ 8000 ∧ j.natAbs < 2 ^ 8000
theorem bits_big {i : Int} (h : i.natAbs < 2 ^ 8000) : Builtin.Int.intBits i ≤ 8000 := by
  unfold Builtin.Int.intBits
  by_cases h0 : i = 0
  · simp [h0]
  · have : (i == 0) = false := by simpa using h0
    rw [this]
    have := (Nat.log2_lt (show i.natAbs ≠ 0 by omega)).mpr h
    simp
    omega
theorem CBig.ok {i j : Int} (h : CBig i j) : IntMulOk i j := by
  unfold IntMulOk
  have h1 := bits_big h.1
  have h2 := bits_big h.2
  have hb : Builtin.Int.intTooBig (Builtin.Int.intBits i + Builtin.Int.intBits j) = false := by
    unfold Builtin.Int.intTooBig
    rw [decide_eq_false]
    have : (16000 : Int) ≤ bitsLine := by decide
    omega
  rw [hb]
  simp
theorem op_mulB : OpR X (binaryOp .Mult) (rI CBig fun i j => .int (i * j)) := opI fun _ _ _ _ _ _ _ hc q => mul_int q hc.ok
def CDivB (i j : Int) : Prop := 0 < j ∧ j.natAbs < 2 ^ 8000
theorem op_fdivB : OpR X (binaryOp .FloorDiv) (rI CDivB fun i j => .int (i / j)) := opI fun i j _ _ _ _ _ hc q => by
  have hj : j ≠ 0 := by have := hc.1; omega
  refine floordiv_int hj ?_ (.inl (PyProof.noPylong_of_log2 ?_))
  · rw [Int.fdiv_eq_ediv_of_nonneg _ (by have := hc.1; omega)]
    exact q
  · have := (Nat.log2_lt (show j.natAbs ≠ 0 by omega)).mpr hc.2
    omega

/-! ### sum of a list of ints -/
theorem call_sum (hc : X.calm = true) : CallR X (.builtin "sum") (fun xs H Q => ∃ (a : Addr) (ns : List Int), xs = [.ref a] ∧ SqL X.K H a (ns.map V.int) ∧ Q (.int ns.sum) H) := by
  intro pins s σ H xs us Q I r h
  obtain ⟨a, ns, rfl, ha, q⟩ := h
  obtain ⟨u, rfl, ru⟩ := vals1 r
  cases ru
  obtain ⟨its, vx, ht, _⟩ := I.list ha
  have hi := intsAre_of vx
  obtain ⟨ps, e⟩ := hi.allInts.items
  refine sum_intListG (xs := ps) (I.ok.hd hc) (by rw [← e]; exact ht.isList) fun h' tk t' hk => ⟨.int ns.sum, H, I.kept hk, ⟨t', ?_⟩, q⟩
  congr 1
  rw [preSum_eq, List.take_of_length_le (by simp)]
  have e2 := hi.numsOf
  have e3 : numsOf (intItems ps).toList = ns := by rw [← e]; exact e2
  rw [nums_intItems] at e3
  rw [← e3]

/-! ### isinstance of a built-in type -/
def isi (t T : String) : Bool := t == T || (t == "bool" && T == "int")
theorem kit_of {K : PySem.W.Frag} : ∀ {t T : String}, t ∈ ["int", "bool", "str", "tuple", "list", "dict", "NoneType"] → T ∈ ["int", "bool", "str", "tuple", "list", "dict"] → PySem.W.kitOne K (.type t) (.type T) = some (isi t T) := by
  intro t T ht hT
  simp only [List.mem_cons, List.mem_nil_iff, or_false] at ht hT
  rcases ht with rfl | rfl | rfl | rfl | rfl | rfl | rfl <;> rcases hT with rfl | rfl | rfl | rfl | rfl | rfl <;> with_unfolding_all rfl
/-- the type of a value by the abstract heap -/
def tyN (H : Hp) : V → Option String
  | .non => some "NoneType"
  | .bl _ => some "bool"
  | .int _ => some "int"
  | .str _ => some "str"
  | .ref a => match H a with
    | some (.lst _) => some "list"
    | some (.frz _ (.lst _)) => some "list"
    | some (.tup _) => some "tuple"
    | some (.dK _) => some "dict"
    | some (.dT _) => some "dict"
    | _ => none
  | _ => none
theorem tyN_of {K : PySem.W.Frag} {H : Hp} {x : V} {t : String} (h : tyN H x = some t) : TyOf K H x (.type t) ∧ t ∈ ["int", "bool", "str", "tuple", "list", "dict", "NoneType"] := by
  cases x with
  | non => cases h; exact ⟨.non, by simp⟩
  | bl b => cases h; exact ⟨.bl b, by simp⟩
  | int i => cases h; exact ⟨.int i, by simp⟩
  | str y => cases h; exact ⟨.str y, by simp⟩
  | ref a =>
    simp only [tyN] at h
    split at h
    · rename_i e; cases h; exact ⟨.lst e, by simp⟩
    · rename_i e; cases h; exact ⟨.frz e, by simp⟩
    · rename_i e; cases h; exact ⟨.tup e, by simp⟩
    · rename_i e; cases h; exact ⟨.dK e, by simp⟩
    · rename_i e; cases h; exact ⟨.dT e, by simp⟩
    · cases h
  | byt _ => cases h
  | flt _ => cases h
  | ty _ => cases h
def rIsi : List V → Hp → VK → Prop := fun xs H Q => ∃ x T t, xs = [x, .ty T] ∧ tyN H x = some t ∧ T ∈ ["int", "bool", "str", "tuple", "list", "dict"] ∧ Q (.bl (isi t T)) H
theorem call_isi : CallR X (.builtin "isinstance") rIsi := by
  intro pins s σ H xs us Q I r h
  obtain ⟨x, T, t, rfl, ht, hT, q⟩ := h
  cases r with
  | cons r1 r2 =>
    cases r2 with
    | cons r3 r4 =>
      cases r4
      cases r3
      obtain ⟨ty, hm⟩ := tyN_of (K := X.K) ht
      exact isinst_ok I r1 ty (kit_of hm hT) fun tk => ⟨.bl _, H, I.tok _, rfl, q⟩
end

/-! ### a def of the text, called by its name -/
structure Callee (P : Program) (w : World) (K : PySem.W.Frag) (mg : Str → Option Value) (base : Heap) (x : Str) (k : Nat) (ps : List Str) (sp : Sp) : Prop where
  ex : ∃ f fd, FnOk P w K mg base CX0 k f fd ps sp ∧ mg x = some (.ref f) ∧ PySem.W.keepIn K (.ref f) = true ∧ Binds K fd ps []
theorem pe_fn {X : Cx} {x : Str} {k : Nat} {ps : List Str} {sp : Sp} {p pos : Pos} {e : Expr} {es : List Expr} {t : TA} (C : Callee X.prog X.w X.K X.mg X.base x k ps sp) (hr : Room k X.A) (hg : Gl X x) (ha : PA X (e :: es) t) (hdb : (x == ("__debug__" : Str)) = false := by decide)
    (he : starEach (e :: es) X.env = (false, eval e X.env) :: starEach es X.env := by rfl) (hpl : (backTo pos (starEach es X.env)).any (·.1) = false := by rfl) :
    PE X (.Call (.Name x p) (e :: es) [] pos) (tCall sp [] E0 t) := by
  obtain ⟨f, fd, F, hm, hk, hb⟩ := C.ex
  exact pe_call F hr hg hm hk hb .nil pass0 ha hdb he hpl
/-! ### comprehensions: the forms one uses -/
section
variable {K : PySem.W.Frag} {a : Addr} {xs : List V} {g : TG} {tt : TT} {te : TE} {Q : VK} {σ : St} {H : Hp}
/-- one more turn -/
def CN (Pv : Nat → List V → St → Hp → Prop) (i : Nat) (ys' : List V) (σ' : St) (H' : Hp) : Prop := ys'.length ≤ i + 1 ∧ Pv (i + 1) ys' σ' H'
theorem cw_of {J : It} (n : Nat) (hz : n ≤ sizeLine) (Pv : Nat → List V → St → Hp → Prop) (h0 : Pv 0 [] σ H) (hgo : ∀ i ys σ H, i < n → Pv i ys σ H → J.go i H) (hstop : ∀ ys σ H, Pv n ys σ H → J.stop n H)
    (hs : ∀ i x ys σ H H2, i < n → ys.length ≤ i → ys.length < sizeLine → Pv i ys σ H → J.yld i H x H2 → g x σ H2 fun σ2 H3 => tt σ2 H3 fun ok H4 => if ok = true then te σ2 H4 fun y H5 => ys.length < sizeLine ∧ CN Pv i (ys ++ [y]) σ2 H5 else CN Pv i ys σ2 H4)
    (hd : ∀ ys σ H, ys.length ≤ n → Pv n ys σ H → ∀ p, H p = none → Q (.ref p) (upd H p (.lst ys))) :
    ∃ W : Nat → Nat → List V → St → Hp → Prop, (∃ m, W 0 m [] σ H) ∧ CW J g tt te W Q := by
  refine ⟨fun i m ys σ H => m = n - i ∧ i ≤ n ∧ ys.length ≤ i ∧ Pv i ys σ H, ⟨n, by simp, Nat.zero_le _, Nat.le_refl _, h0⟩, ?_⟩
  rintro i m ys σ H ⟨rfl, hi, hy, p⟩
  by_cases hlt : i < n
  · exact .inr ⟨hgo i ys σ H hlt p, CN Pv i, fun ys' σ' H' p' => ⟨n - (i + 1), by omega, rfl, hlt, p'.1, p'.2⟩, fun x H2 y => hs i x ys σ H H2 hlt hy (by omega) p y⟩
  · have e : i = n := by omega
    subst e
    exact .inl ⟨hstop ys σ H p, by omega, hd ys σ H hy p⟩
theorem cw_list (hz : xs.length ≤ sizeLine) (Pv : Nat → List V → St → Hp → Prop) (h0 : Pv 0 [] σ H) (hl : ∀ i ys σ H, i ≤ xs.length → Pv i ys σ H → SqL K H a xs)
    (hs : ∀ i x ys σ H, xs[i]? = some x → ys.length ≤ i → ys.length < sizeLine → Pv i ys σ H → g x σ H fun σ2 H3 => tt σ2 H3 fun ok H4 => if ok = true then te σ2 H4 fun y H5 => ys.length < sizeLine ∧ CN Pv i (ys ++ [y]) σ2 H5 else CN Pv i ys σ2 H4)
    (hd : ∀ ys σ H, ys.length ≤ xs.length → Pv xs.length ys σ H → ∀ p, H p = none → Q (.ref p) (upd H p (.lst ys))) :
    ∃ W : Nat → Nat → List V → St → Hp → Prop, (∃ m, W 0 m [] σ H) ∧ CW (Itl K a) g tt te W Q := by
  refine cw_of xs.length hz Pv h0 (fun i ys σ H hi p => ⟨xs, xs[i], hl i ys σ H (Nat.le_of_lt hi) p, by simp [hi]⟩) (fun ys σ H p => ⟨xs, hl _ ys σ H (Nat.le_refl _) p, Nat.le_refl _⟩) (fun i x ys σ H H2 hi h1 h2 p y => ?_) hd
  obtain ⟨rfl, y⟩ := y
  exact hs i x ys σ _ (y xs (hl i ys σ _ (Nat.le_of_lt hi) p)) h1 h2 p
theorem cw_tup (hz : xs.length ≤ sizeLine) (Pv : Nat → List V → St → Hp → Prop) (h0 : Pv 0 [] σ H) (hl : ∀ i ys σ H, i ≤ xs.length → Pv i ys σ H → SqT K H a xs)
    (hs : ∀ i x ys σ H, xs[i]? = some x → ys.length ≤ i → ys.length < sizeLine → Pv i ys σ H → g x σ H fun σ2 H3 => tt σ2 H3 fun ok H4 => if ok = true then te σ2 H4 fun y H5 => ys.length < sizeLine ∧ CN Pv i (ys ++ [y]) σ2 H5 else CN Pv i ys σ2 H4)
    (hd : ∀ ys σ H, ys.length ≤ xs.length → Pv xs.length ys σ H → ∀ p, H p = none → Q (.ref p) (upd H p (.lst ys))) :
    ∃ W : Nat → Nat → List V → St → Hp → Prop, (∃ m, W 0 m [] σ H) ∧ CW (Itt K a) g tt te W Q := by
  refine cw_of xs.length hz Pv h0 (fun i ys σ H hi p => ⟨xs, xs[i], hl i ys σ H (Nat.le_of_lt hi) p, by simp [hi]⟩) (fun ys σ H p => ⟨xs, hl _ ys σ H (Nat.le_refl _) p, Nat.le_refl _⟩) (fun i x ys σ H H2 hi h1 h2 p y => ?_) hd
  obtain ⟨rfl, y⟩ := y
  exact hs i x ys σ _ (y xs (hl i ys σ _ (Nat.le_of_lt hi) p)) h1 h2 p
theorem cw_range {lo : Int} {n : Nat} (hz : n ≤ sizeLine) (Pv : Nat → List V → St → Hp → Prop) (h0 : Pv 0 [] σ H)
    (hs : ∀ i ys σ H, i < n → ys.length ≤ i → ys.length < sizeLine → Pv i ys σ H → g (.int (lo + i)) σ H fun σ2 H3 => tt σ2 H3 fun ok H4 => if ok = true then te σ2 H4 fun y H5 => ys.length < sizeLine ∧ CN Pv i (ys ++ [y]) σ2 H5 else CN Pv i ys σ2 H4)
    (hd : ∀ ys σ H, ys.length ≤ n → Pv n ys σ H → ∀ p, H p = none → Q (.ref p) (upd H p (.lst ys))) :
    ∃ W : Nat → Nat → List V → St → Hp → Prop, (∃ m, W 0 m [] σ H) ∧ CW (Itr lo n) g tt te W Q := by
  refine cw_of n hz Pv h0 (fun i ys σ H hi p => hi) (fun ys σ H p => Nat.le_refl _) (fun i x ys σ H H2 hi h1 h2 p y => ?_) hd
  obtain ⟨rfl, rfl⟩ := y
  exact hs i ys σ _ hi h1 h2 p
end
end L2

end
section
set_option Elab.async false
set_option linter.all false
set_option maxRecDepth 100000
set_option maxHeartbeats 4000000
namespace L2
open PySem PySem.Spec PyProof.Rows
/-! ### readings, step by step (each is what its word says, written so that refine finds it) -/
section
variable {σ : St} {H : Hp} {Q : VK} {v x y : V} {ta tb tc te : TE} {t u : TS} {c d : TT} {D' : Ends} {r : R2} {g : TG} {i j : Int} {n : Nat} {K : PySem.W.Frag}
theorem rd_var (e : σ[n]? = some (some v)) (h : Q v H) : tVar n σ H Q := ⟨v, e, h⟩
theorem rd_c (h : Q v H) : tC v σ H Q := h
theorem rd_op (h : ta σ H fun x H1 => tb σ H1 fun y H2 => r x y H2 Q) : tOp r ta tb σ H Q := h
theorem rd_un {r : V → Hp → VK → Prop} (h : ta σ H fun x H1 => r x H1 Q) : tUn r ta σ H Q := h
theorem rd_seq (h : t { D' with nx := u D' } σ H) : tSeq t u D' σ H := h
theorem rd_asg (h : te σ H fun x H1 => g x σ H1 D'.nx) : tAsg te g D' σ H := h
theorem rd_gname {R : St → Hp → Prop} (h : R (σ.set n (some v)) H) : gName n v σ H R := h
theorem rd_ret (h : te σ H D'.rt) : tRet te D' σ H := h
theorem rd_drop (h : te σ H fun _ H1 => D'.nx σ H1) : tDrop te D' σ H := h
theorem rd_next (h : D'.nx σ H) : tNext D' σ H := h
theorem rd_if (h : c σ H fun b H1 => if b = true then t D' σ H1 else u D' σ H1) : tIfS c t u D' σ H := h
theorem rd_test {R : Bool → Hp → Prop} (h : ta σ H fun x H' => ∃ k, x = .bl k ∧ R k H') : tTest ta σ H R := h
theorem rd_tb {R : Bool → Hp → Prop} (h : ta σ H fun x H' => ∃ k, x = .bl k ∧ R k H') : tB ta σ H R := h
theorem rd_and {R : Bool → Hp → Prop} (h : c σ H fun b H1 => if b = true then d σ H1 R else R false H1) : tAnd c d σ H R := h
theorem rd_or {R : Bool → Hp → Prop} (h : c σ H fun b H1 => if b = true then R true H1 else d σ H1 R) : tOr c d σ H R := h
theorem rd_not {R : Bool → Hp → Prop} (h : c σ H fun b H1 => R (!b) H1) : tNot c σ H R := h
theorem rd_true {R : Bool → Hp → Prop} (h : R true H) : tTrue σ H R := h
theorem rd_andV (h : ta σ H fun x H1 => ∃ c, x = .bl c ∧ if c = true then tb σ H1 Q else Q (.bl false) H1) : tAndV ta tb σ H Q := h
theorem rd_notV (h : ta σ H fun x H1 => ∃ c, x = .bl c ∧ Q (.bl (!c)) H1) : tNotV ta σ H Q := h
theorem rd_ifE (h : c σ H fun b H1 => if b = true then ta σ H1 Q else tb σ H1 Q) : tIf c ta tb σ H Q := h
theorem rd_nil {R : List V → Hp → Prop} (h : R [] H) : tNil σ H R := h
theorem rd_cons {tr : TA} {R : List V → Hp → Prop} (h : ta σ H fun x H1 => tr σ H1 fun xs H2 => R (x :: xs) H2) : tCons ta tr σ H R := h
theorem rd_cb {rr : List V → Hp → VK → Prop} {ta : TA} (h : ta σ H fun vs H1 => rr vs H1 Q) : tCB rr ta σ H Q := h
theorem rd_call {sp : Sp} {E : XK} {ta : TA} (h : ta σ H fun vs H1 => sp (vs ++ []) H1 Q E) : tCall sp [] E ta σ H Q := h
theorem rd_I0 {f : Int → Int → V} (h : Q (f i j) H) : rI0 f (.int i) (.int j) H Q := ⟨i, j, rfl, rfl, h⟩
theorem rd_I {C : Int → Int → Prop} {f : Int → Int → V} (hc : C i j) (h : Q (f i j) H) : rI C f (.int i) (.int j) H Q := ⟨i, j, rfl, rfl, hc, h⟩
theorem rd_U {f : Int → V} (h : Q (f i) H) : rU f (.int i) H Q := ⟨i, rfl, h⟩
theorem rd_eqI (h : Q (.bl (decide (i = j))) H) : rEq (.int i) (.int j) H Q := ⟨rfl, by rw [dec_int, Bool.beq_eq_decide_eq]; exact h⟩
theorem rd_neI (h : Q (.bl (!decide (i = j))) H) : rNe (.int i) (.int j) H Q := ⟨rfl, by rw [dec_int, Bool.beq_eq_decide_eq]; exact h⟩
theorem rd_eqS {a b : Str} (h : Q (.bl (decide (a = b))) H) : rEq (.str a) (.str b) H Q := ⟨rfl, by rw [dec_str, Bool.beq_eq_decide_eq]; exact h⟩
theorem rd_bl {b : Bool} {R : Bool → Prop} (h : R b) : ∃ k, V.bl b = V.bl k ∧ R k := ⟨b, rfl, h⟩
theorem rd_tup {ta : TA} (h : ta σ H fun xs H1 => xs.length ≤ sizeLine ∧ ∀ p, H1 p = none → Q (.ref p) (upd H1 p (.tup xs))) : tTup ta σ H Q := h
theorem rd_lst {ta : TA} (h : ta σ H fun xs H1 => xs.length ≤ sizeLine ∧ ∀ p, H1 p = none → Q (.ref p) (upd H1 p (.lst xs))) : tLst ta σ H Q := h
theorem small_le {n : Nat} (h : n ≤ 1000) : n ≤ sizeLine := Nat.le_trans h (by decide)
/-- an item of a tuple, of a list -/
theorem rd_ixT {p : Addr} {xs : List V} (h : H p = some (.tup xs)) (e : atI xs i = some v) (q : Q v H) : rIxT K (.ref p) (.int i) H Q := ⟨p, xs, i, v, rfl, rfl, SqT.of h, e, q⟩
theorem rd_ixL {p : Addr} {xs : List V} (h : H p = some (.lst xs)) (e : atI xs i = some v) (q : Q v H) : rIxL K (.ref p) (.int i) H Q := ⟨p, xs, i, v, rfl, rfl, SqL.of h, e, q⟩
theorem rd_setL {p : Addr} {xs : List V} {k : Nat} {R : Hp → Prop} (h : H p = some (.lst xs)) (e : ixN xs.length i = some k) (q : R (upd H p (.lst (xs.set k v)))) : rSetL (.ref p) (.int i) v H R := ⟨p, xs, i, k, rfl, rfl, h, e, q⟩
theorem rd_gsub {to ti : TE} {ts : TSet} {R : St → Hp → Prop} (h : to σ H fun o H1 => ti σ H1 fun i H2 => ts o i v H2 fun H3 => R σ H3) : gSub to ti ts v σ H R := h
theorem rd_isi {x : V} {T t : String} (h : tyN H x = some t) (hT : T ∈ ["int", "bool", "str", "tuple", "list", "dict"]) (q : Q (.bl (isi t T)) H) : rIsi [x, .ty T] H Q := ⟨x, T, t, rfl, h, hT, q⟩
theorem tyN_tup {a : Addr} {xs : List V} (h : H a = some (.tup xs)) : tyN H (.ref a) = some "tuple" := by simp only [tyN, h]
theorem tyN_lst {a : Addr} {xs : List V} (h : H a = some (.lst xs)) : tyN H (.ref a) = some "list" := by simp only [tyN, h]
theorem rd_slice {rr : V → Option Int → Option Int → Hp → VK → Prop} {tl th : TO} (h : te σ H fun x H1 => tl σ H1 fun l H2 => th σ H2 fun u H3 => rr x l u H3 Q) : tSl rr te tl th σ H Q := h
theorem rd_nopart {R : Option Int → Hp → Prop} (h : R none H) : tNoPart σ H R := h
theorem rd_part {R : Option Int → Hp → Prop} (h : ta σ H fun x H1 => ∃ i, x = .int i ∧ R (some i) H1) : tPart ta σ H R := h
theorem rd_int {R : Int → Prop} (h : R i) : ∃ k, V.int i = V.int k ∧ R k := ⟨i, rfl, h⟩
theorem rd_bm {T : String} {rr : V → List V → Hp → VK → Prop} {ta' : TA} (h : ta σ H fun x H1 => tyV K T x H1 ∧ ta' σ H1 fun xs H2 => rr x xs H2 Q) : tBM K T rr ta ta' σ H Q := h
theorem rd_bm0 {T : String} {rr : V → List V → Hp → VK → Prop} (h : ta σ H fun x H1 => tyV K T x H1 ∧ rr x [] H1 Q) : tBM0 K T rr ta σ H Q := h
theorem rd_append {l : Addr} {xs : List V} (h : H l = some (.lst xs)) (hz : xs.length < sizeLine) (q : Q .non (upd H l (.lst (xs ++ [y])))) : rAppend (.ref l) [y] H Q := ⟨l, xs, y, rfl, rfl, h, hz, q⟩
theorem rd_comp {LN : List Str} {fr : List Nat} {wi : TI} (h : wi σ H fun J H1 => ∃ W : Nat → Nat → List V → St → Hp → Prop, (∃ m, W 0 m [] (bkStart LN fr σ) H1) ∧ CW J g c te W Q) : tComp LN fr wi g c te σ H Q := h
def itK (K : PySem.W.Frag) (R : It → Hp → Prop) (x : V) (H1 : Hp) : Prop := ∃ a, x = .ref a ∧ (∃ xs, SqT K H1 a xs) ∧ R (Itt K a) H1
def ilK (K : PySem.W.Frag) (R : It → Hp → Prop) (x : V) (H1 : Hp) : Prop := ∃ a, x = .ref a ∧ (∃ xs, SqL K H1 a xs) ∧ R (Itl K a) H1
def irK (R : It → Hp → Prop) (vs : List V) (H1 : Hp) : Prop := ∃ j : Int, vs = [.int j] ∧ -(2 ^ 62) ≤ j ∧ j < 2 ^ 62 ∧ R (Itr 0 j.toNat) H1
theorem rd_itup {R : It → Hp → Prop} {tl : TE} (h : tl σ H (itK K R)) : iTup K tl σ H R := h
theorem rd_ilist {R : It → Hp → Prop} {tl : TE} (h : tl σ H (ilK K R)) : iList K tl σ H R := h
theorem rd_irng {R : It → Hp → Prop} {ta' : TA} (h : ta' σ H (irK R)) : iRng1 ta' σ H R := h
theorem itK_rep {R : It → Hp → Prop} {x : V} {ds : List D} (h : Rep H (.tup ds) x) (q : ∀ a xs, x = .ref a → H a = some (.tup xs) → Reps H ds xs → R (Itt K a) H) : itK K R x H := by
  obtain ⟨a, xs, rfl, ha, r⟩ := rep_tup_inv h
  exact ⟨a, rfl, ⟨xs, SqT.of ha⟩, q a xs rfl ha r⟩
theorem ilK_of {R : It → Hp → Prop} {a : Addr} {xs : List V} (h : SqL K H a xs) (q : R (Itl K a) H) : ilK K R (.ref a) H := ⟨a, rfl, ⟨xs, h⟩, q⟩
theorem irK_of {R : It → Hp → Prop} {j : Int} (h1 : -(2 ^ 62) ≤ j) (h2 : j < 2 ^ 62) (q : R (Itr 0 j.toNat) H) : irK R [.int j] H := ⟨j, rfl, h1, h2, q⟩
theorem rd_gtup {tg : TGs} {a : Addr} {xs : List V} {R : St → Hp → Prop} (h : H a = some (.tup xs)) (hl : xs.length = n) (q : tg xs σ H R) : gTup K n tg (.ref a) σ H R := ⟨a, xs, rfl, SqT.of h, hl, q⟩
theorem rd_gcons {tg : TGs} {vs : List V} {R : St → Hp → Prop} (h : g v σ H fun σ' H' => tg vs σ' H' R) : gCons g tg (v :: vs) σ H R := ⟨v, vs, rfl, h⟩
theorem rd_gnil {R : St → Hp → Prop} (h : R σ H) : gNil [] σ H R := ⟨rfl, h⟩
theorem rd_for {wi : TI} (h : wi σ H fun J H1 => ∃ W : Nat → Nat → St → Hp → Prop, (∃ m, W 0 m σ H1) ∧ ∀ i m σ H, W i m σ H →
  (J.stop i H ∧ D'.nx σ H) ∨ (J.go i H ∧ ∃ N : St → Hp → Prop, (∀ σ' H', N σ' H' → ∃ m', m' < m ∧ W (i + 1) m' σ' H') ∧ ∀ x H', J.yld i H x H' → g x σ H' fun σ2 H2 => t { D' with nx := N, ct := N, bk := D'.nx } σ2 H2)) : tFor wi g t D' σ H := h
end
end L2

end
section
set_option Elab.async false
set_option linter.all false
set_option maxRecDepth 100000
set_option maxHeartbeats 4000000
namespace L2
open PySem PySem.Spec PyProof.Rows
theorem bt_abs : bootBuiltins "abs" = some (.builtin "abs") := by decide +kernel
theorem bt_len : bootBuiltins "len" = some (.builtin "len") := by decide +kernel
theorem bt_sum : bootBuiltins "sum" = some (.builtin "sum") := by decide +kernel
theorem bt_isinstance : bootBuiltins "isinstance" = some (.builtin "isinstance") := by decide +kernel
theorem bt_min : bootBuiltins "min" = some (.builtin "min") := by decide +kernel
theorem bt_int : bootBuiltins "int" = some (.type "int") := by decide +kernel
theorem bt_bool : bootBuiltins "bool" = some (.type "bool") := by decide +kernel
theorem bt_tuple : bootBuiltins "tuple" = some (.type "tuple") := by decide +kernel
theorem bt_list : bootBuiltins "list" = some (.type "list") := by decide +kernel
theorem bt_zip : bootBuiltins "zip" = some (.type "zip") := by decide +kernel
def bkOk (N : List Str) (sc osc : Scope) (FN : List Str) (fr : List Nat) : Bool :=
  decide (sc.kind = .function) && sc.names.all (fun y => decide (y.2 ≠ .cell)) && sc.names.all (fun y => decide (y.2 = .local → sc.names.lookup y.1 = some .local)) &&
  sc.names.all (fun y => decide (y.2 = .free → osc.names.lookup y.1 = some .cell ∨ osc.names.lookup y.1 = some .free)) &&
  FN.all (fun x => decide (osc.names.lookup x = some .cell ∨ osc.names.lookup x = some .free)) && FN.all (fun x => decide (sc.names.lookup x = some .free)) && decide (FN.map some = fr.map fun j => N[j]?)
theorem bk_of {N : List Str} {sc osc : Scope} {LN FN : List Str} {fr : List Nat} (h : bkOk N sc osc FN fr = true) : BkScope N sc osc LN FN fr := by
  unfold bkOk at h
  simp only [Bool.and_eq_true, List.all_eq_true, decide_eq_true_eq] at h
  obtain ⟨⟨⟨⟨⟨⟨h1, h2⟩, h3⟩, h4⟩, h5⟩, h6⟩, h7⟩ := h
  exact ⟨h1, h2, h3, h4, h5, h6, h7⟩
section
variable {X : Cx}
def rIxA (K : PySem.W.Frag) : R2 := fun x y H Q => rIxL K x y H Q ∨ rIxT K x y H Q
theorem ix_any : IxR X (rIxA X.K) := ix_list.or ix_tup
theorem rd_ixaT {K : PySem.W.Frag} {H : Hp} {p : Addr} {xs : List V} {i : Int} {v : V} {Q : VK} (h : H p = some (.tup xs)) (e : atI xs i = some v) (q : Q v H) : rIxA K (.ref p) (.int i) H Q := .inr (rd_ixT h e q)
theorem rd_ixaL {K : PySem.W.Frag} {H : Hp} {p : Addr} {xs : List V} {i : Int} {v : V} {Q : VK} (h : H p = some (.lst xs)) (e : atI xs i = some v) (q : Q v H) : rIxA K (.ref p) (.int i) H Q := .inl (rd_ixL h e q)
theorem atI_at {α : Type} {xs : List α} {i : Int} {n : Nat} {v : α} (hi : i = (n : Int)) (h : xs[n]? = some v) : atI xs i = some v := by
  subst hi
  have hl : n < xs.length := (List.getElem?_eq_some_iff.mp h).1
  unfold atI ixN
  rw [if_pos (by omega), if_pos (by omega)]
  simpa using h
theorem ixN_at {m : Nat} {i : Int} {n : Nat} (hi : i = (n : Int)) (h : n < m) : ixN m i = some n := by
  subst hi
  unfold ixN
  rw [if_pos (by omega), if_pos (by omega)]
  simp
/-- an item of what stands for a tuple -/
theorem rd_ixR {K : PySem.W.Frag} {H : Hp} {x : V} {ds : List D} {i : Int} {n : Nat} {d : D} {Q : VK} (h : Rep H (.tup ds) x) (hi : i = (n : Int)) (e : ds[n]? = some d) (q : ∀ v, Rep H d v → Q v H) : rIxA K x (.int i) H Q := by
  obtain ⟨a, xs, rfl, ha, r⟩ := rep_tup_inv h
  obtain ⟨v, ev, rv⟩ := r.get e
  exact rd_ixaT ha (atI_at hi ev) (q v rv)
theorem rd_ixI {K : PySem.W.Frag} {H : Hp} {x : V} {ds : List D} {i : Int} {n : Nat} {k : Int} {Q : VK} (h : Rep H (.tup ds) x) (hi : i = (n : Int)) (e : ds[n]? = some (.int k)) (q : Q (.int k) H) : rIxA K x (.int i) H Q :=
  rd_ixR h hi e fun v r => by rw [rep_int_inv r]; exact q
def rLen (K : PySem.W.Frag) : List V → Hp → VK → Prop := fun xs H Q => ∃ x n, xs = [x] ∧ LenV K x H n ∧ Q (.int n) H
theorem call_len' : CallR X (.builtin "len") (rLen X.K) := call_len
theorem rd_lenL' {K : PySem.W.Frag} {H : Hp} {p : Addr} {ys : List V} {Q : VK} (h : SqL K H p ys) (q : Q (.int ys.length) H) : rLen K [.ref p] H Q := ⟨_, _, rfl, .inl ⟨ys, h, rfl⟩, q⟩
def rAbs : List V → Hp → VK → Prop := fun xs H Q => ∃ i, xs = [.int i] ∧ Q (.int (if i < 0 then -i else i)) H
theorem call_abs' : CallR X (.builtin "abs") rAbs := call_abs
theorem rd_abs {H : Hp} {i : Int} {Q : VK} (q : Q (.int (if i < 0 then -i else i)) H) : rAbs [.int i] H Q := ⟨i, rfl, q⟩
def rMin : List V → Hp → VK → Prop := fun xs H Q => ∃ i j, xs = [.int i, .int j] ∧ Q (.int (if j < i then j else i)) H
theorem call_min' (hc : X.calm = true) : CallR X (.builtin "min") rMin := call_min2 hc
theorem rd_min {H : Hp} {i j : Int} {Q : VK} (q : Q (.int (if j < i then j else i)) H) : rMin [.int i, .int j] H Q := ⟨i, j, rfl, q⟩
def rSum (K : PySem.W.Frag) : List V → Hp → VK → Prop := fun xs H Q => ∃ (a : Addr) (ns : List Int), xs = [.ref a] ∧ SqL K H a (ns.map V.int) ∧ Q (.int ns.sum) H
theorem call_sum' (hc : X.calm = true) : CallR X (.builtin "sum") (rSum X.K) := call_sum hc
theorem rd_sum {K : PySem.W.Frag} {H : Hp} {a : Addr} {ns : List Int} {Q : VK} (h : SqL K H a (ns.map V.int)) (q : Q (.int ns.sum) H) : rSum K [.ref a] H Q := ⟨a, ns, rfl, h, q⟩
def rInt : List V → Hp → VK → Prop := fun xs H Q => (∃ i, xs = [.int i] ∧ Q (.int i) H) ∨ ∃ k, xs = [.bl k] ∧ Q (.int (if k then 1 else 0)) H
theorem call_int' : CallR X (.type "int") rInt := call_int1
theorem rd_intB {H : Hp} {k : Bool} {Q : VK} (q : Q (.int (if k then 1 else 0)) H) : rInt [.bl k] H Q := .inr ⟨k, rfl, q⟩
def rTupOf (K : PySem.W.Frag) : List V → Hp → VK → Prop := fun xs H Q => ∃ p ys, xs = [.ref p] ∧ ((SqL K H p ys ∧ ∀ l, H l = none → Q (.ref l) (upd H l (.tup ys))) ∨ (SqT K H p ys ∧ Q (.ref p) H))
theorem call_tup' : CallR X (.type "tuple") (rTupOf X.K) := call_tuple_of
theorem rd_tupL {K : PySem.W.Frag} {H : Hp} {p : Addr} {ys : List V} {Q : VK} (h : SqL K H p ys) (q : ∀ l, H l = none → Q (.ref l) (upd H l (.tup ys))) : rTupOf K [.ref p] H Q := ⟨p, ys, rfl, .inl ⟨h, q⟩⟩
def rLstOf (K : PySem.W.Frag) : List V → Hp → VK → Prop := fun xs H Q => ∃ p ys, xs = [.ref p] ∧ (SqL K H p ys ∨ SqT K H p ys) ∧ ∀ l, H l = none → Q (.ref l) (upd H l (.lst ys))
theorem call_lst' : CallR X (.type "list") (rLstOf X.K) := call_list_of
theorem rd_lstOf {K : PySem.W.Frag} {H : Hp} {p : Addr} {ys : List V} {Q : VK} (h : SqL K H p ys ∨ SqT K H p ys) (q : ∀ l, H l = none → Q (.ref l) (upd H l (.lst ys))) : rLstOf K [.ref p] H Q := ⟨p, ys, rfl, h, q⟩
theorem mk_le {n : Nat} (h : Nat.ble n 1000 = true) : n ≤ sizeLine := small_le (Nat.le_of_ble_eq_true h)
end
/-! ### the same, the written part named -/
section
variable {X : Cx} {K : PySem.W.Frag} {pos : Pos}
theorem k_ix (h : X.K = K) : IxR X (rIxA K) := h ▸ ix_any
theorem k_len (h : X.K = K) : CallR X (.builtin "len") (rLen K) := h ▸ call_len'
theorem k_sum (h : X.K = K) (hc : X.calm = true) : CallR X (.builtin "sum") (rSum K) := h ▸ call_sum' hc
theorem k_tupOf (h : X.K = K) : CallR X (.type "tuple") (rTupOf K) := h ▸ call_tup'
theorem k_lstOf (h : X.K = K) : CallR X (.type "list") (rLstOf K) := h ▸ call_lst'
theorem k_sl (h : X.K = K) : SlR X (rSlL K) := h ▸ sl_list
theorem k_neL (h : X.K = K) (hu : X.A.units + 64 < cLine) : OpR X (compareOp .NotEq) (rNeL K) := h ▸ op_neL hu
theorem k_in (h : X.K = K) : OpR X (compareOp .In) (rIn K false) := h ▸ op_in_seq
theorem k_pi_list {tg l : Expr} {tl : TE} (h : X.K = K) (hl : PE X l tl) : PI X tg l (iList K tl) := h ▸ pi_list hl
theorem k_pi_tup {tg l : Expr} {tl : TE} (h : X.K = K) (hl : PE X l tl) : PI X tg l (iTup K tl) := h ▸ pi_tup hl
theorem k_pg_tup {es : List Expr} {k : Nat} {t : TGs} {n : Nat} (h : X.K = K) (hc : X.calm = true) (hg : PGs X es t)
    (hn : (assignEach es X.env).length = n := by rfl) (hst : (assignEach es X.env).findIdx? (·.1) = none := by rfl) : PG X (.Tuple es k pos) (gTup K n t) := h ▸ pg_tup hc hg hn hst
variable {o e : Expr} {es : List Expr} {to : TE} {t : TA} {name : Str} {apos cpos : Pos} {T id : String} {r : V → List V → Hp → VK → Prop}
theorem k_bm (h : X.K = K) (pa : PlainAttrs T) (slot : Slot T name id) (hty : typeOf (.builtin id) = pure (.type "method_descriptor")) (hm : MtR X id r) (ho : PE X o to) (ha : PA X (e :: es) t)
    (hbase : attributeBase o name X.env (eval o X.env) = eval o X.env := by rfl)
    (hfew : ((backTo cpos (starEach (e :: es) X.env)).all (fun x => !x.1) && (backToKw cpos (keywordEach [] X.env)).all (fun x => x.1.isSome)
      && decide ((e :: es).length + ([] : List Keyword).length + (if ([] : List Keyword).isEmpty then 0 else 1) < 30)) = true := by rfl)
    (hline : (apos.endLine == cpos.line) = true := by rfl) (hs : starEach (e :: es) X.env = (false, eval e X.env) :: starEach es X.env := by rfl) (hplain : (backTo cpos (starEach es X.env)).any (·.1) = false := by rfl) :
    PE X (.Call (.Attribute o name apos) (e :: es) [] cpos) (tBM K T r to t) := h ▸ pe_bm pa slot hty hm ho ha hbase hfew hline hs hplain
theorem k_bm0 (h : X.K = K) (pa : PlainAttrs T) (slot : Slot T name id) (hty : typeOf (.builtin id) = pure (.type "method_descriptor")) (hm : MtR X id r) (ho : PE X o to)
    (hbase : attributeBase o name X.env (eval o X.env) = eval o X.env := by rfl) (hline : (apos.endLine == cpos.line) = true := by rfl) : PE X (.Call (.Attribute o name apos) [] [] cpos) (tBM0 K T r to) := h ▸ pe_bm0 pa slot hty hm ho hbase hline
end
end L2

end
section
set_option Elab.async false
set_option linter.all false
set_option maxRecDepth 100000
set_option maxHeartbeats 4000000
namespace L2
open PySem PySem.Spec PyProof.Rows
/-! ### defs of the text by their names, and promises by the number of arguments -/
structure TopFn (K : PySem.W.Frag) (mg : Str → Option Value) (x : Str) (st : Stmt) (ps : List Str) : Prop where
  ex : ∃ f fd, Fun K x x st f fd ∧ mg x = some (.ref f) ∧ Binds K fd ps []
section
variable {P : Program} {w : World} {K : PySem.W.Frag} {mg : Str → Option Value} {base : Heap} {x : Str} {st : Stmt} {ps N : List Str} {sp : Sp} {k : Nat}
theorem TopFn.callee (T : TopFn K mg x st ps) (h : ∀ f fd, Fun K x x st f fd → FnOk P w K mg base CX0 k f fd ps sp) : Callee P w K mg base x k ps sp := by
  obtain ⟨f, fd, F, hm, hb⟩ := T.ex
  exact ⟨f, fd, h f fd F, hm, F.kp, hb⟩
def sp1 (b : V → Hp → VK → Prop) : Sp := fun vs H Q _ => ∃ x, vs = [x] ∧ b x H Q
def sp2 (b : V → V → Hp → VK → Prop) : Sp := fun vs H Q _ => ∃ x y, vs = [x, y] ∧ b x y H Q
def sp3 (b : V → V → V → Hp → VK → Prop) : Sp := fun vs H Q _ => ∃ x y z, vs = [x, y, z] ∧ b x y z H Q
def sp4 (b : V → V → V → V → Hp → VK → Prop) : Sp := fun vs H Q _ => ∃ x y z u, vs = [x, y, z, u] ∧ b x y z u H Q
theorem use1 {b : V → Hp → VK → Prop} {x : V} {H : Hp} {Q : VK} {E : XK} (h : b x H Q) : sp1 b [x] H Q E := ⟨x, rfl, h⟩
theorem use2 {b : V → V → Hp → VK → Prop} {x y : V} {H : Hp} {Q : VK} {E : XK} (h : b x y H Q) : sp2 b [x, y] H Q E := ⟨x, y, rfl, h⟩
theorem use3 {b : V → V → V → Hp → VK → Prop} {x y z : V} {H : Hp} {Q : VK} {E : XK} (h : b x y z H Q) : sp3 b [x, y, z] H Q E := ⟨x, y, z, rfl, h⟩
theorem use4 {b : V → V → V → V → Hp → VK → Prop} {x y z u : V} {H : Hp} {Q : VK} {E : XK} (h : b x y z u H Q) : sp4 b [x, y, z, u] H Q E := ⟨x, y, z, u, rfl, h⟩
def GoalB (P : Program) (w : World) (K : PySem.W.Frag) (mg : Str → Option Value) (base : Heap) (N : List Str) (x : Str) (st : Stmt) (f : Addr) (cdv : Value) (A : Around) (outer : List Env) (s : Shared) (H : Hp) (vs : List V) (Q : VK) (E : XK) : Prop :=
  ∃ t, PSs (cxOf CX0 P w K mg base N x (defScope st) f cdv A outer s H E).nox (defBody st) t ∧ t { nx := fun _ H' => Q .non H', rt := Q } (start N vs) H
theorem TopFn.ok1 {a1 : Str} {b : V → Hp → VK → Prop} (T : TopFn K mg x st [a1]) (S : FnScope N [a1] (defScope st))
    (h : ∀ (f : Addr) (cdv : Value) (A : Around) (outer : List Env) (s : Shared) (H : Hp) (v1 : V) (Q : VK) (E : XK), Room k (A.deeper (envOfC x (defScope st) s.heap.objs.size f cdv)) → b v1 H Q → GoalB P w K mg base N x st f cdv A outer s H [v1] Q E) : Callee P w K mg base x (k + 1) [a1] (sp1 b) :=
  T.callee fun f fd F => F.ok S (fun vs H Q E ⟨_, e, _⟩ => by rw [e]; rfl) fun cdv A outer s H vs Q E hr hsp => by
    obtain ⟨v1, rfl, hb⟩ := hsp
    exact h f cdv A outer s H v1 Q E hr hb
theorem TopFn.ok2 {a1 a2 : Str} {b : V → V → Hp → VK → Prop} (T : TopFn K mg x st [a1, a2]) (S : FnScope N [a1, a2] (defScope st))
    (h : ∀ (f : Addr) (cdv : Value) (A : Around) (outer : List Env) (s : Shared) (H : Hp) (v1 v2 : V) (Q : VK) (E : XK), Room k (A.deeper (envOfC x (defScope st) s.heap.objs.size f cdv)) → b v1 v2 H Q → GoalB P w K mg base N x st f cdv A outer s H [v1, v2] Q E) : Callee P w K mg base x (k + 1) [a1, a2] (sp2 b) :=
  T.callee fun f fd F => F.ok S (fun vs H Q E ⟨_, _, e, _⟩ => by rw [e]; rfl) fun cdv A outer s H vs Q E hr hsp => by
    obtain ⟨v1, v2, rfl, hb⟩ := hsp
    exact h f cdv A outer s H v1 v2 Q E hr hb
theorem TopFn.ok3 {a1 a2 a3 : Str} {b : V → V → V → Hp → VK → Prop} (T : TopFn K mg x st [a1, a2, a3]) (S : FnScope N [a1, a2, a3] (defScope st))
    (h : ∀ (f : Addr) (cdv : Value) (A : Around) (outer : List Env) (s : Shared) (H : Hp) (v1 v2 v3 : V) (Q : VK) (E : XK), Room k (A.deeper (envOfC x (defScope st) s.heap.objs.size f cdv)) → b v1 v2 v3 H Q → GoalB P w K mg base N x st f cdv A outer s H [v1, v2, v3] Q E) : Callee P w K mg base x (k + 1) [a1, a2, a3] (sp3 b) :=
  T.callee fun f fd F => F.ok S (fun vs H Q E ⟨_, _, _, e, _⟩ => by rw [e]; rfl) fun cdv A outer s H vs Q E hr hsp => by
    obtain ⟨v1, v2, v3, rfl, hb⟩ := hsp
    exact h f cdv A outer s H v1 v2 v3 Q E hr hb
theorem TopFn.ok4 {a1 a2 a3 a4 : Str} {b : V → V → V → V → Hp → VK → Prop} (T : TopFn K mg x st [a1, a2, a3, a4]) (S : FnScope N [a1, a2, a3, a4] (defScope st))
    (h : ∀ (f : Addr) (cdv : Value) (A : Around) (outer : List Env) (s : Shared) (H : Hp) (v1 v2 v3 v4 : V) (Q : VK) (E : XK), Room k (A.deeper (envOfC x (defScope st) s.heap.objs.size f cdv)) → b v1 v2 v3 v4 H Q → GoalB P w K mg base N x st f cdv A outer s H [v1, v2, v3, v4] Q E) : Callee P w K mg base x (k + 1) [a1, a2, a3, a4] (sp4 b) :=
  T.callee fun f fd F => F.ok S (fun vs H Q E ⟨_, _, _, _, e, _⟩ => by rw [e]; rfl) fun cdv A outer s H vs Q E hr hsp => by
    obtain ⟨v1, v2, v3, v4, rfl, hb⟩ := hsp
    exact h f cdv A outer s H v1 v2 v3 v4 Q E hr hb
theorem go_body {f : Addr} {cdv : Value} {A : Around} {outer : List Env} {s : Shared} {H : Hp} {vs : List V} {Q : VK} {E : XK} {t : TS} (σ : St) (hσ : start N vs = σ) (h : PSs (cxOf CX0 P w K mg base N x (defScope st) f cdv A outer s H E).nox (defBody st) t)
    (q : t { nx := fun _ H' => Q .non H', rt := Q } σ H) : GoalB P w K mg base N x st f cdv A outer s H vs Q E := ⟨t, h, by rw [hσ]; exact q⟩
end
end L2
namespace L2
open PySem PySem.Spec PyProof.Rows
theorem ite_dn {c A B : Prop} [Decidable c] (h : ¬ c) (q : B) : if decide c = true then A else B := by rw [decide_eq_false h]; exact iteF q
theorem ite_dy {c A B : Prop} [Decidable c] (h : c) (q : A) : if decide c = true then A else B := by rw [decide_eq_true h]; exact iteT q
theorem ite_dd {c A B : Prop} [Decidable c] (h : c → A) (q : ¬ c → B) : if decide c = true then A else B := by
  by_cases e : c
  · exact ite_dy e (h e)
  · exact ite_dn e (q e)
/-- a form as data -/
def pairD (p : Int × Int) : D := .tup [.int p.1, .int p.2]
def formD (c : Int) (ps : List (Int × Int)) : D := .tup [.int c, .tup (ps.map pairD)]
def worthZ (c : Int) (ps : List (Int × Int)) (ws : List Int) : Int := c + (ps.map fun p => p.1 * ws.getD p.2.toNat 0).sum
theorem SqL.mono {K : PySem.W.Frag} {H H' : Hp} {a : Addr} {xs : List V} (s : Same H H') (h : SqL K H a xs) : SqL K H' a xs := s.seq h
end L2
namespace L2
theorem small_le' {n : Nat} (h : n ≤ 1000000) : n ≤ PySem.sizeLine := Nat.le_trans h (by rw [PySem.sizeLine_eq]; decide)
end L2
namespace L2
theorem iteNT {A B : Prop} (h : B) : if (!true) = true then A else B := iteF h
end L2
namespace L2
open PySem
theorem cutV_ints (ns : List Int) (lo hi : Option Int) : ∃ ms : List Int, cutV (ns.map V.int) lo hi = ms.map V.int ∧ ms.length ≤ ns.length := by
  refine ⟨(ns.drop (HT.sIx (ns.map V.int).length 0 lo)).take (HT.sIx (ns.map V.int).length (ns.map V.int).length hi - HT.sIx (ns.map V.int).length 0 lo), ?_, ?_⟩
  · unfold cutV
    rw [List.map_take, List.map_drop]
  · rw [List.length_take, List.length_drop]
    omega
theorem rd_slL {K : PySem.W.Frag} {H : Hp} {a : Addr} {xs : List V} {lo hi : Option Int} {Q : VK} (h : SqL K H a xs) (q : ∀ p, H p = none → Q (.ref p) (upd H p (.lst (cutV xs lo hi)))) : rSlL K (.ref a) lo hi H Q := ⟨a, xs, rfl, h, q⟩
theorem rd_cat {H : Hp} {l b : Addr} {xs zs : List V} {Q : VK} (h1 : H l = some (.lst xs)) (h2 : H b = some (.lst zs)) (hl : xs.length + zs.length ≤ sizeLine) (q : ∀ p, H p = none → Q (.ref p) (upd H p (.lst (xs ++ zs)))) : rCat (.ref l) (.ref b) H Q := ⟨l, b, xs, zs, rfl, rfl, h1, h2, hl, q⟩
theorem ints_get {ns : List Int} {i : Nat} {x : V} (h : (ns.map V.int)[i]? = some x) : ∃ z, x = .int z ∧ ns[i]? = some z := by
  rw [List.getElem?_map] at h
  obtain ⟨z, e, rfl⟩ := Option.map_eq_some_iff.mp h
  exact ⟨z, rfl, e⟩
theorem upd_old {H : Hp} {a b : Addr} {o u : HO} (h : H b = some u) (hn : H a = none) : upd H a o b = some u := by rw [upd_ne (ne_of_none h hn)]; exact h
def spLaw (K : PySem.W.Frag) : Sp := sp1 fun x H Q => ∃ (a : Addr) (ns : List Int), x = .ref a ∧ SqL K H a (ns.map V.int) ∧ ns.length ≤ 63 ∧ ∀ H', Q (.bl true) H'
theorem spLaw_of {K : PySem.W.Frag} {H : Hp} {a : Addr} {ns : List Int} {E : XK} (hl : ns.length ≤ 63) (hS : SqL K H a (ns.map V.int)) : spLaw K [.ref a] H (fun v _ => v = .bl true) E := ⟨_, rfl, a, ns, rfl, hS, hl, fun _ => rfl⟩
theorem Fun.law {P : Program} {w : World} {K : PySem.W.Frag} {mg : Str → Option Value} {base : Heap} {st : Stmt} {f : Addr} {fd : FuncData} {N : List Str} {k : Nat} (F : Fun K "law" "law" st f fd) (S : FnScope N ["script"] (defScope st))
    (h : ∀ (cdv : Value) (A : Around) (outer : List Env) (s : Shared) (H : Hp) (a : Addr) (ns : List Int) (Q : VK) (E : XK), Room k (A.deeper (PyProof.Rows.envOfC "law" (defScope st) s.heap.objs.size f cdv)) → SqL K H a (ns.map V.int) → ns.length ≤ 63 → (∀ H', Q (.bl true) H') →
      GoalB P w K mg base N "law" st f cdv A outer s H [.ref a] Q E) : FnOk P w K mg base CX0 (k + 1) f fd ["script"] (spLaw K) :=
  F.ok S (fun vs H Q E ⟨_, e, _⟩ => by rw [e]; rfl) fun cdv A outer s H vs Q E hr hsp => by
    obtain ⟨_, rfl, a, ns, rfl, h1, h2, h3⟩ := hsp
    exact h cdv A outer s H a ns Q E hr h1 h2 h3
end L2
namespace L2
theorem ten60 : (10 : Int) ^ (60 : Int).toNat = 1000000000000000000000000000000000000000000000000000000000000 := by decide +kernel
theorem cpow60 : CPow 10 60 := ⟨by decide, by decide, by decide⟩
theorem big_of {x : Int} (h : x.natAbs ≤ 10 ^ 70) : x.natAbs < 2 ^ 8000 := Nat.lt_of_le_of_lt h (by decide +kernel)
theorem cbig_of {x y : Int} (h : x.natAbs ≤ 10 ^ 70) (h2 : y.natAbs ≤ 10 ^ 70) : CBig x y := ⟨big_of h, big_of h2⟩
theorem cdivb_of {x y : Int} (h : 0 < y) (h2 : y.natAbs ≤ 10 ^ 70) : CDivB x y := ⟨h, big_of h2⟩
end L2

end
section
set_option Elab.async false
set_option linter.all false
set_option maxRecDepth 100000
set_option maxHeartbeats 4000000
namespace L2
open PySem
/-! ### the law's bag of numbers -/
def bagL (l : Addr) (i m st c : Int) : List V := [.ref l, .int i, .int m, .int st, .int c]
structure BagAt (H : Hp) (b l : Addr) : Prop where
  ex : ∃ (xs : List Int) (i : Nat) (m st c : Int), H b = some (.lst (bagL l i m st c)) ∧ H l = some (.lst (xs.map V.int)) ∧ i ≤ xs.length ∧ (0 ≤ m ∧ m ≤ 10 ^ 60) ∧ (0 ≤ st ∧ st < 2147483647) ∧ (∀ x ∈ xs, 0 ≤ x ∧ x ≤ 10 ^ 60) ∧ xs.length ≤ 63
/-- all but b stays -/
def BSame (b : Addr) (H H' : Hp) : Prop := ∀ a o, a ≠ b → H a = some o → H' a = some o
theorem BSame.refl (b : Addr) (H : Hp) : BSame b H H := fun _ _ _ h => h
theorem BSame.trans {b : Addr} {H H1 H2 : Hp} (x : BSame b H H1) (y : BSame b H1 H2) : BSame b H H2 := fun a o n h => y a o n (x a o n h)
theorem BSame.of {b : Addr} {H H' : Hp} (s : Same H H') : BSame b H H' := fun a o _ h => s a o h
theorem BSame.wr {b : Addr} {H : Hp} {o : HO} : BSame b H (upd H b o) := fun a u n h => by rw [upd_ne n]; exact h
theorem BagAt.lst {H : Hp} {b l : Addr} (B : BagAt H b l) : ∃ xs, H b = some (.lst xs) := let ⟨_, _, _, _, _, h, _⟩ := B.ex; ⟨_, h⟩
/-- tuples are none of the bag's -/
theorem BSame.ts {b l : Addr} {H H' : Hp} (x : BSame b H H') (B : BagAt H b l) : TSame H H' := fun a xs e => by
  obtain ⟨ys, hb⟩ := B.lst
  refine x a _ (fun z => ?_) e
  subst z
  rw [hb] at e
  cases e
theorem BagAt.mono {H H' : Hp} {b l : Addr} (B : BagAt H b l) (s : Same H H') : BagAt H' b l := by
  obtain ⟨xs, i, m, st, c, h1, h2, r⟩ := B.ex
  exact ⟨xs, i, m, st, c, s _ _ h1, s _ _ h2, r⟩
/-- another object is written -/
theorem BagAt.wr {H : Hp} {b l q : Addr} {o : HO} (B : BagAt H b l) (h1 : b ≠ q) (h2 : l ≠ q) : BagAt (upd H q o) b l := by
  obtain ⟨xs, i, m, st, c, e1, e2, r⟩ := B.ex
  exact ⟨xs, i, m, st, c, by rw [upd_ne h1]; exact e1, by rw [upd_ne h2]; exact e2, r⟩
theorem BagAt.ne {H : Hp} {b l q : Addr} (B : BagAt H b l) (h : H q = none) : b ≠ q ∧ l ≠ q := by
  obtain ⟨xs, i, m, st, c, e1, e2, r⟩ := B.ex
  exact ⟨ne_of_none e1 h, ne_of_none e2 h⟩
theorem BSame.wrNew {b q : Addr} {H H1 : Hp} {o : HO} (x : BSame b H H1) (h : H q = none) : BSame b H (upd H1 q o) := fun a u n e => by
  rw [upd_ne (ne_of_none e h)]
  exact x a u n e
theorem BSame.free {b q : Addr} {H H1 : Hp} (x : BSame b H H1) (n : q ≠ b) (h : H1 q = none) : H q = none := by
  cases e : H q with
  | none => rfl
  | some o =>
    rw [x q o n e] at h
    cases h
theorem BSame.to {b : Addr} {H H1 H2 : Hp} (x : BSame b H H1) (y : Same H1 H2) : BSame b H H2 := x.trans (BSame.of y)
theorem atI_mem {ms : List Int} {i : Int} (h0 : 0 ≤ i) (h1 : i < ms.length) : ∃ v ∈ ms, atI (ms.map V.int) i = some (.int v) := by
  have hi : i.toNat < ms.length := by omega
  refine ⟨ms[i.toNat], List.getElem_mem hi, atI_at (n := i.toNat) (by omega) ?_⟩
  rw [List.getElem?_map, List.getElem?_eq_getElem hi]
  rfl
/-- one draw: what it asks and what it gives -/
def drawB (x y : V) (H : Hp) (Q : VK) : Prop := ∃ b l n, x = .ref b ∧ y = .int n ∧ (0 < n ∧ n ≤ 10 ^ 65) ∧ BagAt H b l ∧ ∀ r H', 0 ≤ r → r < n → BagAt H' b l → BSame b H H' → Q (.int r) H'
def sp_draw : Sp := sp2 drawB
def sp_number : Sp := sp1 fun x H Q => ∃ b l, x = .ref b ∧ BagAt H b l ∧ ∀ r H', r.natAbs ≤ 10 ^ 60 → BagAt H' b l → BSame b H H' → Q (.int r) H'
def sp_bag (K : PySem.W.Frag) : Sp := sp1 fun x H Q => ∃ (a : Addr) (ns : List Int), x = .ref a ∧ SqL K H a (ns.map V.int) ∧ ns.length ≤ 63 ∧ ∀ b l H', H b = none → Same H H' → BagAt H' b l → Q (.ref b) H'
def sp_wholeI : Sp := sp1 fun x H Q => ∃ n, x = .int n ∧ Q (.bl true) H
/-- a form's pairs: no number 0, of at most sixty figures, the words rising from 0, below top -/
structure FormOk (top : Int) (c : Int) (ps : List (Int × Int)) : Prop where
  c : c.natAbs ≤ 10 ^ 60
  a : ∀ p ∈ ps, p.1 ≠ 0 ∧ p.1.natAbs ≤ 10 ^ 60
  w : ∀ p ∈ ps, 0 ≤ p.2 ∧ p.2 < top
  up : ps.Pairwise fun p q => p.2 < q.2
  len : ps.length ≤ 400
theorem reps_of_ints {H : Hp} : ∀ (ns : List Int), Reps H (ns.map D.int) (ns.map V.int)
  | [] => reps_nil
  | n :: ns => reps_cons rep_int (reps_of_ints ns)
theorem pls_ints : ∀ (ns : List Int), D.pls (ns.map D.int) = true
  | [] => rfl
  | n :: ns => by rw [List.map_cons, D.pls, pls_ints ns]; rfl
theorem deps_ints : ∀ (ns : List Int), D.deps (ns.map D.int) = 0
  | [] => rfl
  | n :: ns => by rw [List.map_cons, D.deps, deps_ints ns]; rfl
theorem big62 {z : Int} (h : z.natAbs ≤ 10 ^ 62) : z.natAbs < 2 ^ 8000 := big_of (Nat.le_trans h (by decide +kernel))
end L2

end
section
set_option Elab.async false
set_option linter.all false
set_option maxRecDepth 100000
set_option maxHeartbeats 4000000
namespace L3
open PySem PyProof.Rows
/-! ### timsort over any keys that are ordered by a number -/
class KOrd where
  kd : SortKind
  good : Keyed → Prop
  kv : Keyed → Int
abbrev oneType' [KOrd] : SortKind := KOrd.kd
def IntK [KOrd] (x : Keyed) : Prop := KOrd.good x
def kvl [KOrd] (x : Keyed) : Int := KOrd.kv x
def K [KOrd] (xs : Array Keyed) (i : Nat) : Int := match xs[i]? with
  | some q => kvl q
  | none => 0
class KLt [KOrd] (P : Program) (W : World) (A : Around) (E : Value → Shared → Prop) (z : Shared) : Prop where
  lt : ∀ {u : SortSt} {x y : Keyed} {Q : Option Bool → SortSt → Prop}, kindOf u = oneType' → IntK x → IntK y → Q (some (decide (kvl x < kvl y))) u → wpS (model P W) A E z (lt' x y) Q u
section
variable [KOrd]
end
/-! ### the search by doubling steps -/
section
variable [KOrd] {P : Program} {W : World} {A : Around} {E : Value → Shared → Prop} {z : Shared} [KLt P W A E z]
/-- what the search asks at place i -/
def bey (left : Bool) (kv : Int) (arr : Array Keyed) (base i : Nat) : Bool := if left then decide (K arr (base + i) < kv) else !decide (kv < K arr (base + i))
/-- where the search ends -/
structure GAt (left : Bool) (kv : Int) (arr : Array Keyed) (base n lo hi : Nat) : Prop where
  le : lo ≤ hi
  top : hi ≤ n
  yes : ∀ i, i < lo → bey left kv arr base i = true
  no : ∀ i, hi ≤ i → i < n → bey left kv arr base i = false
end
end L3

end
section
set_option Elab.async false
set_option linter.all false
set_option maxRecDepth 100000
set_option maxHeartbeats 4000000
namespace L3
open PySem PyProof.Rows
variable [KOrd]
/-! ### two rising lists laid together -/
def SortedL (xs : List Keyed) : Prop := xs.Pairwise fun p q => kvl p ≤ kvl q
structure Laid (a b r : List Keyed) : Prop where
  perm : r.Perm (a ++ b)
  up : SortedL r
structure Mrg (a b out : List Keyed) (ia ib : Nat) : Prop where
  perm : (out ++ a.drop ia ++ b.drop ib).Perm (a ++ b)
  up : SortedL out
  ha : ∀ x ∈ out, ∀ y ∈ a.drop ia, kvl x ≤ kvl y
  hb : ∀ x ∈ out, ∀ y ∈ b.drop ib, kvl x ≤ kvl y
section
variable {a b out : List Keyed} {ia ib : Nat}
end
section
variable {P : Program} {W : World} {A : Around} {E : Value → Shared → Prop} {z : Shared} [KLt P W A E z]
/-- what a merge leaves as it is -/
structure Fr (u v : SortSt) : Prop where
  kind : kindOf v = kindOf u
  arr : arrOf v = arrOf u
  pend : pendingOf v = pendingOf u
  failed : failedOf v = failedOf u
end

/-! ### arrays as lists -/
/-! ### the merge from the low end -/
structure MLo (a b out : Array Keyed) (ia ib : Nat) : Prop where
  m : Mrg a.toList b.toList out.toList ia ib
  ha : ia + 1 < a.size
  hb : ib < b.size
section
variable {a b out : Array Keyed} {ia ib : Nat}
end
section
variable {P : Program} {W : World} {A : Around} {E : Value → Shared → Prop} {z : Shared} [KLt P W A E z]
end
end L3

end
section
set_option Elab.async false
set_option linter.all false
set_option maxRecDepth 100000
set_option maxHeartbeats 4000000
namespace L3
open PySem PyProof.Rows
variable [KOrd]
/-! ### the merge from the high end -/
structure MrgH (a b out : List Keyed) (na nb : Nat) : Prop where
  perm : (a.take na ++ b.take nb ++ out.reverse).Perm (a ++ b)
  up : SortedL out.reverse
  ha : ∀ x ∈ a.take na, ∀ y ∈ out, kvl x ≤ kvl y
  hb : ∀ x ∈ b.take nb, ∀ y ∈ out, kvl x ≤ kvl y
section
variable {a b out : List Keyed} {na nb : Nat}
end
section
variable {a b out : Array Keyed} {na nb : Nat}
end
structure MHi (a b out : Array Keyed) (na nb : Nat) : Prop where
  m : MrgH a.toList b.toList out.toList na nb
  ha : 0 < na
  hb : 1 < nb
  la : na ≤ a.size
  lb : nb ≤ b.size
section
variable {P : Program} {W : World} {A : Around} {E : Value → Shared → Prop} {z : Shared} [KLt P W A E z]
end
end L3

end
section
set_option Elab.async false
set_option linter.all false
set_option maxRecDepth 100000
set_option maxHeartbeats 4000000
namespace L3
open PySem PyProof.Rows
variable [KOrd]
/-! ### runs laid together in the array -/
def SegS (xs : Array Keyed) (lo n : Nat) : Prop := ∀ i j, lo ≤ i → i ≤ j → j < lo + n → K xs i ≤ K xs j
section
variable {P : Program} {W : World} {A : Around} {E : Value → Shared → Prop} {z : Shared} [KLt P W A E z]
end
end L3

end
section
set_option Elab.async false
set_option linter.all false
set_option maxRecDepth 100000
set_option maxHeartbeats 4000000
namespace L3
open PySem PyProof.Rows
variable [KOrd]
/-! ### runs found and lengthened, wherever they begin -/
structure Bas (a₀ : Array Keyed) (p : Array (Nat × Nat × Nat)) (st : SortSt) : Prop where
  perm : (arrOf st).Perm a₀
  kind : kindOf st = oneType'
  failed : failedOf st = none
  pend : pendingOf st = p
section
variable {P : Program} {W : World} {A : Around} {E : Value → Shared → Prop} {z : Shared} [KLt P W A E z] {a₀ : Array Keyed} {p : Array (Nat × Nat × Nat)}
end
end L3

end
section
set_option Elab.async false
set_option linter.all false
set_option maxRecDepth 100000
set_option maxHeartbeats 4000000
namespace L3
open PySem PyProof.Rows
variable [KOrd]
section
variable {P : Program} {W : World} {A : Around} {E : Value → Shared → Prop} {z : Shared} [KLt P W A E z] {a₀ : Array Keyed} {p : Array (Nat × Nat × Nat)}
end
/-! ### the stack of runs -/
def Runs (xs : Array Keyed) : Nat → List (Nat × Nat × Nat) → Nat → Prop
  | lo, [], hi => lo = hi
  | lo, r :: rs, hi => r.1 = lo ∧ 0 < r.2.1 ∧ SegS xs lo r.2.1 ∧ Runs xs (lo + r.2.1) rs hi
end L3

end
section
set_option Elab.async false
set_option linter.all false
set_option maxRecDepth 100000
set_option maxHeartbeats 4000000
namespace L3
open PySem PyProof.Rows
variable [KOrd]
section
variable {u v : SortSt} {sa n : Nat}
end
structure Srt (a₀ : Array Keyed) (st : SortSt) (hi : Nat) : Prop where
  perm : (arrOf st).Perm a₀
  kind : kindOf st = oneType'
  failed : failedOf st = none
  runs : Runs (arrOf st) 0 (pendingOf st).toList hi
section
variable {P : Program} {W : World} {A : Around} {E : Value → Shared → Prop} {z : Shared} [KLt P W A E z] {a₀ : Array Keyed}
end
end L3

end
section
set_option Elab.async false
set_option linter.all false
set_option maxRecDepth 100000
set_option maxHeartbeats 4000000
namespace L2
open PySem PySem.Spec PyProof.Rows
/-! ### list.sort of ints, by what its runs do -/
section
variable {P : Program} {W : World} {A : Around} {E : Value → Shared → Prop} {z : Shared}
end
/-! ### sorted(d), d a dict whose keys are ints -/
end L2
namespace L2
open PySem
/-! ### the numbers by words: a dict of ints -/
end L2
namespace L2
open PySem
end L2
namespace L2
open PySem
end L2

end
section
set_option Elab.async false
set_option linter.all false
set_option maxRecDepth 100000
set_option maxHeartbeats 4000000
namespace L3
open PySem
/-! ### the places of a set's table rise -/
def Up (xs : Array Nat) : Prop := ∀ (i j x y : Nat), i < j → xs[i]? = some x → xs[j]? = some y → x < y
/-- a table as it is made by adding alone -/
structure Tab (t : SetTable) : Prop where
  up : Up t.place
  nod : t.dummies = #[]
/-! ### any order of a list -/
end L3

end
section
set_option Elab.async false
set_option linter.all false
set_option maxRecDepth 100000
set_option maxHeartbeats 4000000
namespace L3
open PySem PyProof.Rows
/-! ### a set of ints, its table known -/
structure SB (P : Program) (w : World) (h : Heap) (a : Addr) (S : Int → Bool) (led : Bool) (o : Obj) (es : Array (Int × Value)) (ep : Nat) (t : SetTable) : Prop where
  here : h.get? a = some o
  ex : o.ExactSet
  dat : o.data = .set es ep t
  el : ElemsOf (intKind P w) es.toList
  mem : ∀ k, S k = true ↔ ∃ e ∈ es.toList, (intKind P w).is k e.2 = true
  few : es.size < scanBound
  fit : t.fits es.size = true
  tab : Tab t
  led : t.led = led
section
variable {P : Program} {w : World} {A : Around} {E : Value → Shared → Prop} {s : Shared}
end
section
variable {P : Program} {w : World} {A : Around} {R : Result → Shared → Prop} {I : Addr} {fp wr : List Addr} {G : Array GenState → Array GenState → Prop} {n : Nat} {Pv : Nat → Value → Prop} {St : Nat → Shared → Prop}
end
section
variable {P : Program} {w : World} {A : Around} {E : Value → Shared → Prop} {s : Shared}
end
end L3

end
section
set_option Elab.async false
set_option linter.all false
set_option maxRecDepth 100000
set_option maxHeartbeats 4000000
namespace L3
open PySem
section
variable {M : Model} {A : Around} {E : Value → Shared → Prop} {s : Shared}
end
end L3

end
section
set_option Elab.async false
set_option linter.all false
set_option maxRecDepth 100000
set_option maxHeartbeats 4000000
namespace L3
open PySem
section
variable {P : Program} {w : World} {A : Around} {E : Value → Shared → Prop} {s : Shared} {it a : Addr} {S : Int → Bool} {led : Bool} {o : Obj} {es : Array (Int × Value)} {ep : Nat} {t : SetTable}
/-! ### what setNext tells -/
/-! ### walks over the set, in whatever order -/
end
end L3

end
section
set_option Elab.async false
set_option linter.all false
set_option maxRecDepth 100000
set_option maxHeartbeats 4000000
namespace L3
open PySem PyProof.Rows
section
variable {P : Program} {w : World} {A : Around} {E : Value → Shared → Prop} {s : Shared}
/-! ### the things of a list, each once -/
def dd (ns : List Int) : List Int := firstMet (fun i => ns.getD i 0) ns.length
end
end L3

end
section
set_option Elab.async false
set_option linter.all false
set_option maxRecDepth 100000
set_option maxHeartbeats 4000000
namespace L2
open PySem PySem.Spec PyProof.Rows
/-! ### is None -/
def rIsN : R2 := fun x y H Q => y = .non ∧ Q (.bl (decide (x = .non))) H
theorem op_isN' {X : Cx} : OpR X (compareOp .Is) rIsN := op_isN
theorem rd_isN {x : V} {H : Hp} {Q : VK} (q : Q (.bl (decide (x = .non))) H) : rIsN x .non H Q := ⟨rfl, q⟩
/-! ### parts of a list -/
theorem sIx_nat (n d k : Nat) : HT.sIx n d (some (k : Int)) = min k n := by
  simp only [HT.sIx]
  rw [if_neg (by omega)]
  simp
theorem cut_to {xs : List V} {k : Nat} (h : k ≤ xs.length) : cutV xs none (some (k : Int)) = xs.take k := by
  unfold cutV
  have e1 : HT.sIx xs.length 0 none = 0 := rfl
  have e2 : HT.sIx xs.length xs.length (some (k : Int)) = k := by
    rw [sIx_nat]
    omega
  rw [e1, e2]
  simp
theorem Reps.take {H : Hp} : ∀ {ds : List D} {vs : List V} (n : Nat), Reps H ds vs → Reps H (ds.take n) (vs.take n)
  | _, _, 0, _ => by simp; exact reps_nil
  | [], vs, n + 1, h => by rw [reps_nil_inv h]; simp; exact reps_nil
  | d :: ds, vs, n + 1, h => by
    obtain ⟨v, r, rfl, h1, h2⟩ := reps_cons_inv h
    exact reps_cons h1 (Reps.take n h2)
theorem Reps.drop {H : Hp} : ∀ {ds : List D} {vs : List V} (n : Nat), Reps H ds vs → Reps H (ds.drop n) (vs.drop n)
  | _, _, 0, h => h
  | [], vs, n + 1, h => by rw [reps_nil_inv h]; simp; exact reps_nil
  | d :: ds, vs, n + 1, h => by
    obtain ⟨v, r, rfl, h1, h2⟩ := reps_cons_inv h
    exact Reps.drop n h2
/-! ### xs[::-1] -/
section
variable {X : Cx}
end
/-! ### set(list of ints), sorted(set) -/
section
variable {X : Cx}
end
/-! ### lists that are rising -/
end L2

end
section
set_option Elab.async false
set_option linter.all false
set_option maxRecDepth 100000
set_option maxHeartbeats 4000000
namespace L2
open PySem PySem.Spec PyProof.Rows
/-! ### for over the signs of a text -/
section
variable {X : Cx} {tg : Expr}
end
end L2

end
section
set_option Elab.async false
set_option linter.all false
set_option maxRecDepth 100000
set_option maxHeartbeats 4000000
namespace L2
open PySem PySem.Spec PyProof.Rows
/-! ### list(d): the keys of a dict, in their order -/
end L2

end
section
set_option Elab.async false
set_option linter.all false
set_option maxRecDepth 100000
set_option maxHeartbeats 4000000
namespace L2
open PySem PySem.Spec PyProof.Rows
/-! ### rows of a program, as data -/
def lettersL : List (Str × Str) := [("put", "pi"), ("copy", "pp"), ("plus", "ppp"), ("less", "ppp"), ("times", "ppc"), ("take", "p"), ("tell", "p"), ("jump", "t"), ("zero", "pt"), ("below", "pt"), ("call", "pfq"), ("back", "p")]
/-- a part of a row by its letter -/
def PartI (boxes many ns : Int) (c : Str) (n : Int) : Prop := (c = "p" → 0 ≤ n ∧ n < boxes) ∧ (c = "t" → 0 ≤ n ∧ n < many) ∧ (c = "f" → 0 ≤ n ∧ n < ns) ∧ (c = "c" → -99 ≤ n ∧ n ≤ 99) ∧ n.natAbs ≤ 10 ^ 60
def PartG (sg : List (Int × Int)) (boxes many : Int) (ps : List D) (c : Str) (d : D) : Prop :=
  (c ≠ "q" ∧ ∃ n, d = .int n ∧ PartI boxes many sg.length c n) ∨
  (c = "q" ∧ ∃ (args : List Int) (f : Nat) (tk : Int × Int), ps[1]? = some (.int f) ∧ sg[f]? = some tk ∧ d = .tup (args.map D.int) ∧ (args.length : Int) = tk.1 ∧ ∀ q ∈ args, 0 ≤ q ∧ q < boxes)
structure RowG (sg : List (Int × Int)) (boxes many : Int) (w ls : Str) (ps : List D) : Prop where
  tab : (w, ls) ∈ lettersL
  len : ps.length = ls.cps.size
  parts : ∀ (i c : Nat), ls.cps[i]? = some c → ∃ d, ps[i]? = some d ∧ PartG sg boxes many ps ⟨#[c]⟩ d
def rowD (r : Str × List D) : D := .tup (.str r.1 :: r.2)
def RowOk (sg : List (Int × Int)) (boxes many : Int) (r : Str × List D) : Prop := ∃ ls, RowG sg boxes many r.1 ls r.2
structure RowsOk (sg : List (Int × Int)) (boxes many : Int) (rs : List (Str × List D)) : Prop where
  len : (rs.length : Int) = many
  all : ∀ r ∈ rs, RowOk sg boxes many r
  last : ∃ r, rs[rs.length - 1]? = some r ∧ (r.1 = "back" ∨ r.1 = "jump")
structure SgOk (sg : List (Int × Int)) : Prop where
  pos : 0 < sg.length
  few : sg.length ≤ 6
  first : ∃ bx, sg[0]? = some (0, bx)
  all : ∀ q ∈ sg, 0 ≤ q.1 ∧ q.1 ≤ 4 ∧ q.1 ≤ q.2 ∧ 1 ≤ q.2 ∧ q.2 ≤ 8
/-! ### a program in the heap: a list of tuples, each with a list of rows -/
abbrev PDef := Int × Int × List (Str × List D)
theorem rd_meet {c : TT} {t u t2 : TS} {D' : Ends} {σ : St} {H : Hp} (I : St → Hp → Prop) (hI : ∀ σ' H', I σ' H' → t2 D' σ' H') (h : ∀ N : St → Hp → Prop, (∀ σ' H', I σ' H' → N σ' H') → tIfS c t u { D' with nx := N } σ H) : tSeq (tIfS c t u) t2 D' σ H :=
  h (t2 D') hI
/-- as the law makes them -/
structure ProgOk (sg : List (Int × Int)) (ds : List PDef) : Prop where
  sgs : SgOk sg
  heads : ds.map (fun d => (d.1, d.2.1)) = sg
  rows : ∀ d ∈ ds, ∃ many, 1 ≤ many ∧ many ≤ 30 ∧ RowsOk sg d.2.1 many d.2.2
end L2

end
section
set_option Elab.async false
set_option linter.all false
set_option maxRecDepth 100000
set_option maxHeartbeats 4000000
namespace L2
open PySem PySem.Spec PyProof.Rows
/-! ### methods and classes of the text -/
structure MCal (P : Program) (w : World) (K : PySem.W.Frag) (mg : Str → Option Value) (base : Heap) (C : Addr) (m : Str) (k : Nat) (ps : List Str) (sp : Sp) : Prop where
  ex : ∃ f fd, FnOk P w K mg base CX0 k f fd ps sp ∧ Meth K C m f ∧ Binds K fd ps []
structure CCal (P : Program) (w : World) (K : PySem.W.Frag) (mg : Str → Option Value) (base : Heap) (C : Addr) (x : Str) (k : Nat) (ps : List Str) (sp : Sp) : Prop where
  ex : ∃ f fd, FnOk P w K mg base CX0 k f fd ps sp ∧ Mk K C f ∧ Binds K fd ps [] ∧ mg x = some (.ref C)
section
variable {X : Cx} {C : Addr} {x m : Str} {k : Nat} {ps : List Str} {sp : Sp} {o e : Expr} {es : List Expr} {ta : TE} {t : TA} {apos pos p : Pos}
theorem pe_m {pl : Sem Bool} (M : MCal X.prog X.w X.K X.mg X.base C m k ps sp) (c : Cls X.K C) (hr : Room k X.A) (ho : PE X o ta) (ha : PA X (e :: es) t)
    (hst : starEach (e :: es) X.env = (false, eval e X.env) :: starEach es X.env := by rfl) (hpl : (backTo pos (starEach es X.env)).any (·.1) = false := by rfl)
    (ht : eval (.Call (.Attribute o m apos) (e :: es) [] pos) X.env = (do
      let ov ← eval o X.env; standAt apos.atName
      let (f, first) ← holding [ov] (getMethod ov m pl)
      callWith pos f first (backTo pos (starEach (e :: es) X.env)) (backToKw pos (keywordEach [] X.env))) := by rfl) :
    PE X (.Call (.Attribute o m apos) (e :: es) [] pos) (tMeth C m sp [] E0 ta t) := by
  obtain ⟨f, fd, F, hm, hb⟩ := M.ex
  exact pe_meth (pl := pl) ho c hm F hr hb .nil pass0 ha hst hpl ht
theorem pe_m0 {pl : Sem Bool} (M : MCal X.prog X.w X.K X.mg X.base C m k ps sp) (c : Cls X.K C) (hr : Room k X.A) (ho : PE X o ta)
    (ht : eval (.Call (.Attribute o m apos) [] [] pos) X.env = (do
      let ov ← eval o X.env; standAt apos.atName
      let (f, first) ← holding [ov] (getMethod ov m pl)
      callWith pos f first (backTo pos (starEach [] X.env)) (backToKw pos (keywordEach [] X.env))) := by rfl) :
    PE X (.Call (.Attribute o m apos) [] [] pos) (tMeth C m sp [] E0 ta tNil) := by
  obtain ⟨f, fd, F, hm, hb⟩ := M.ex
  exact pe_meth0 (pl := pl) ho c hm F hr hb .nil pass0 ht
theorem pe_new (M : CCal X.prog X.w X.K X.mg X.base C x k ps sp) (hr : Room (k + 1) X.A) (hg : Gl X x) (ha : PA X (e :: es) t) (hdb : (x == ("__debug__" : Str)) = false := by decide)
    (he : starEach (e :: es) X.env = (false, eval e X.env) :: starEach es X.env := by rfl) (hpl : (backTo pos (starEach es X.env)).any (·.1) = false := by rfl) :
    PE X (.Call (.Name x p) (e :: es) [] pos) (tMake C sp [] E0 t) := by
  obtain ⟨f, fd, F, hM, hb, hm⟩ := M.ex
  exact pe_make hM F hr hg hm hb .nil pass0 ha hdb he hpl
theorem k_fld {K : PySem.W.Frag} {f : Str} (h : X.K = K) (he : PE X e ta) (hb : attributeBase e f X.env (eval e X.env) = eval e X.env) : PE X (.Attribute e f pos) (tFld K ta f) := h ▸ pe_fld he hb
theorem k_sfld {K : PySem.W.Frag} {f : Str} {value : Expr} {tv : TE} {pos' : Pos} (h : X.K = K) (ha : PE X o ta) (hv : PE X value tv) (hs : swapsWith value (some (.Attribute o f pos')) pos.line X.env = pure false) : PS X (.Assign [.Attribute o f pos'] value pos) (sFld K ta tv f) := h ▸ ps_fld ha hv hs
theorem pe_cint {n : Int} (hg : Gl X x) (h : ∃ t, X.mg x = some (.int n t)) (hd : (x == ("__debug__" : Str)) = false := by decide) : PE X (.Name x pos) (tC (.int n)) := by
  obtain ⟨t, h⟩ := h
  exact pe_glob hg h ⟨t, rfl⟩ hd
/-- a tuple of the text's own, by its name -/
def tCT (K : PySem.W.Frag) (xs : List V) : TE := fun _ H Q => ∀ a, (∀ H', SqT K H' a xs) → Q (.ref a) H
def IsCT (K : PySem.W.Frag) (mg : Str → Option Value) (x : Str) (xs : List V) : Prop := ∃ a, mg x = some (.ref a) ∧ ∃ (o : Obj) (its : Array Value) (n : Nat), K.lookup a = some o ∧ o.cls = .type "tuple" ∧ o.data = .seq its n ∧ its.size ≤ sizeLine ∧ Vals xs its.toList
theorem pe_ctup {K : PySem.W.Frag} {xs : List V} (hg : Gl X x) (h : IsCT K X.mg x xs) (hd : (x == ("__debug__" : Str)) = false := by decide) : PE X (.Name x pos) (tCT K xs) := by
  obtain ⟨a, h, r⟩ := h
  intro pins s σ H Q I q
  exact pe_glob (v := .ref a) hg h rfl hd pins s σ H Q I (q a fun H' => .inr r)
end
structure TopM (K : PySem.W.Frag) (C : Addr) (m qual : Str) (st : Stmt) (ps : List Str) : Prop where
  ex : ∃ f fd, Fun K m qual st f fd ∧ Meth K C m f ∧ Binds K fd ps []
structure TopI (K : PySem.W.Frag) (mg : Str → Option Value) (C : Addr) (x qual : Str) (st : Stmt) (ps : List Str) : Prop where
  ex : ∃ f fd, Fun K "__init__" qual st f fd ∧ Mk K C f ∧ Binds K fd ps [] ∧ mg x = some (.ref C)
section
variable {P : Program} {w : World} {K : PySem.W.Frag} {mg : Str → Option Value} {base : Heap} {x m qual : Str} {st : Stmt} {ps N : List Str} {sp : Sp} {k : Nat} {C : Addr}
theorem TopM.cal (T : TopM K C m qual st ps) (h : ∀ f fd, Fun K m qual st f fd → FnOk P w K mg base CX0 k f fd ps sp) : MCal P w K mg base C m k ps sp := by
  obtain ⟨f, fd, F, hm, hb⟩ := T.ex
  exact ⟨f, fd, h f fd F, hm, hb⟩
theorem TopM.ok1 {a1 : Str} {b : V → Hp → VK → Prop} (T : TopM K C m qual st [a1]) (S : FnScope N [a1] (defScope st))
    (h : ∀ (f : Addr) (cdv : Value) (A : Around) (outer : List Env) (s : Shared) (H : Hp) (v1 : V) (Q : VK) (E : XK), Room k (A.deeper (envOfC qual (defScope st) s.heap.objs.size f cdv)) → b v1 H Q → GoalB P w K mg base N qual st f cdv A outer s H [v1] Q E) : MCal P w K mg base C m (k + 1) [a1] (sp1 b) :=
  T.cal fun f fd F => F.ok S (fun vs H Q E ⟨_, e, _⟩ => by rw [e]; rfl) fun cdv A outer s H vs Q E hr hsp => by
    obtain ⟨v1, rfl, hb⟩ := hsp
    exact h f cdv A outer s H v1 Q E hr hb
theorem TopM.ok2 {a1 a2 : Str} {b : V → V → Hp → VK → Prop} (T : TopM K C m qual st [a1, a2]) (S : FnScope N [a1, a2] (defScope st))
    (h : ∀ (f : Addr) (cdv : Value) (A : Around) (outer : List Env) (s : Shared) (H : Hp) (v1 v2 : V) (Q : VK) (E : XK), Room k (A.deeper (envOfC qual (defScope st) s.heap.objs.size f cdv)) → b v1 v2 H Q → GoalB P w K mg base N qual st f cdv A outer s H [v1, v2] Q E) : MCal P w K mg base C m (k + 1) [a1, a2] (sp2 b) :=
  T.cal fun f fd F => F.ok S (fun vs H Q E ⟨_, _, e, _⟩ => by rw [e]; rfl) fun cdv A outer s H vs Q E hr hsp => by
    obtain ⟨v1, v2, rfl, hb⟩ := hsp
    exact h f cdv A outer s H v1 v2 Q E hr hb
theorem TopM.ok3 {a1 a2 a3 : Str} {b : V → V → V → Hp → VK → Prop} (T : TopM K C m qual st [a1, a2, a3]) (S : FnScope N [a1, a2, a3] (defScope st))
    (h : ∀ (f : Addr) (cdv : Value) (A : Around) (outer : List Env) (s : Shared) (H : Hp) (v1 v2 v3 : V) (Q : VK) (E : XK), Room k (A.deeper (envOfC qual (defScope st) s.heap.objs.size f cdv)) → b v1 v2 v3 H Q → GoalB P w K mg base N qual st f cdv A outer s H [v1, v2, v3] Q E) : MCal P w K mg base C m (k + 1) [a1, a2, a3] (sp3 b) :=
  T.cal fun f fd F => F.ok S (fun vs H Q E ⟨_, _, _, e, _⟩ => by rw [e]; rfl) fun cdv A outer s H vs Q E hr hsp => by
    obtain ⟨v1, v2, v3, rfl, hb⟩ := hsp
    exact h f cdv A outer s H v1 v2 v3 Q E hr hb
theorem TopI.ok3 {a1 a2 a3 : Str} {b : V → V → V → Hp → VK → Prop} (T : TopI K mg C x qual st [a1, a2, a3]) (S : FnScope N [a1, a2, a3] (defScope st))
    (h : ∀ (f : Addr) (cdv : Value) (A : Around) (outer : List Env) (s : Shared) (H : Hp) (v1 v2 v3 : V) (Q : VK) (E : XK), Room k (A.deeper (envOfC qual (defScope st) s.heap.objs.size f cdv)) → b v1 v2 v3 H Q → GoalB P w K mg base N qual st f cdv A outer s H [v1, v2, v3] Q E) : CCal P w K mg base C x (k + 1) [a1, a2, a3] (sp3 b) := by
  obtain ⟨f, fd, F, hm, hb, hx⟩ := T.ex
  refine ⟨f, fd, F.ok S (fun vs H Q E ⟨_, _, _, e, _⟩ => by rw [e]; rfl) (fun cdv A outer s H vs Q E hr hsp => ?_), hm, hb, hx⟩
  obtain ⟨v1, v2, v3, rfl, hb⟩ := hsp
  exact h f cdv A outer s H v1 v2 v3 Q E hr hb
end
/-! ### readings -/
section
variable {σ : St} {H : Hp} {Q : VK} {K : PySem.W.Frag} {ta tv : TE} {f m : Str} {C a dx : Addr} {fs : List (Str × V)} {v : V}
def fldK (K : PySem.W.Frag) (f : Str) (Q : VK) (x : V) (H1 : Hp) : Prop := ∃ a C dx fs v, x = .ref a ∧ H1 a = some (.ins C dx fs) ∧ Cls K C ∧ NoAttr K C f ∧ fs.lookup f = some v ∧ Q v H1
theorem rd_fld (h : ta σ H (fldK K f Q)) : tFld K ta f σ H Q := h
theorem fld_of (e : H a = some (.ins C dx fs)) (c : Cls K C) (n : NoAttr K C f) (l : fs.lookup f = some v) (q : Q v H) : fldK K f Q (.ref a) H := ⟨a, C, dx, fs, v, rfl, e, c, n, l, q⟩
def sfldK (K : PySem.W.Frag) (f : Str) (D : Ends) (σ : St) (y x : V) (H2 : Hp) : Prop := ∃ a C dx fs, x = .ref a ∧ H2 a = some (.ins C dx fs) ∧ Cls K C ∧ NoAttr K C f ∧ fs.length < 1000 ∧ D.nx σ (upd H2 a (.ins C dx (putF f y fs)))
theorem rd_sfld {D : Ends} (h : tv σ H fun y H1 => ta σ H1 fun x H2 => sfldK K f D σ y x H2) : sFld K ta tv f D σ H := h
theorem sfld_of {D : Ends} {y : V} (e : H a = some (.ins C dx fs)) (c : Cls K C) (n : NoAttr K C f) (l : fs.length < 1000) (q : D.nx σ (upd H a (.ins C dx (putF f y fs)))) : sfldK K f D σ y (.ref a) H := ⟨a, C, dx, fs, rfl, e, c, n, l, q⟩
def methK (C : Addr) (m : Str) (sp : Sp) (t : TA) (σ : St) (Q : VK) (x : V) (H1 : Hp) : Prop := ∃ a dx fs, x = .ref a ∧ H1 a = some (.ins C dx fs) ∧ fs.lookup m = none ∧ t σ H1 fun vs H2 => sp (x :: (vs ++ [])) H2 Q E0
theorem rd_meth {sp : Sp} {t : TA} (h : ta σ H (methK C m sp t σ Q)) : tMeth C m sp [] E0 ta t σ H Q := h
theorem meth_of {sp : Sp} {t : TA} (e : H a = some (.ins C dx fs)) (l : fs.lookup m = none) (q : t σ H fun vs H2 => sp (.ref a :: (vs ++ [])) H2 Q E0) : methK C m sp t σ Q (.ref a) H := ⟨a, dx, fs, rfl, e, l, q⟩
theorem rd_ct {xs : List V} (h : ∀ a, (∀ H', SqT K H' a xs) → Q (.ref a) H) : tCT K xs σ H Q := h
end
end L2

end
section
set_option Elab.async false
set_option linter.all false
set_option maxRecDepth 100000
set_option maxHeartbeats 4000000
namespace L2
open PySem
theorem rep_int0 (n : Nat) : (List.replicate n [V.int 0]).flatten = (List.replicate n (0 : Int)).map V.int := by
  induction n with
  | zero => rfl
  | succ n ih => rw [List.replicate_succ, List.flatten_cons, ih, List.replicate_succ, List.map_cons]; rfl
theorem rd_rep0 {H : Hp} {l : Addr} {k : Int} {Q : VK} (h : H l = some (.lst [.int 0])) (h2 : k ≤ 1000) (h1 : -1000 ≤ k) (q : ∀ p, H p = none → Q (.ref p) (upd H p (.lst ((List.replicate k.toNat (0 : Int)).map V.int)))) : rRep (.ref l) (.int k) H Q :=
  ⟨l, k, _, rfl, rfl, h, by omega, by omega, by rw [List.length_singleton, Nat.one_mul]; exact small_le (by omega), fun p hp => by rw [rep_int0]; exact q p hp⟩
/-! ### rows, programs and runs, as data -/
inductive Rw where
  | put (p n : Int) | copy (p q : Int) | plus (p q r : Int) | less (p q r : Int) | times (p q n : Int) | take (p : Int) | tell (p : Int) | jump (t : Int) | zero (p t : Int) | below (p t : Int) | call (p f : Int) (qs : List Int) | back (p : Int)
def Rw.row : Rw → Str × List D
  | .put p n => ("put", [.int p, .int n])
  | .copy p q => ("copy", [.int p, .int q])
  | .plus p q r => ("plus", [.int p, .int q, .int r])
  | .less p q r => ("less", [.int p, .int q, .int r])
  | .times p q n => ("times", [.int p, .int q, .int n])
  | .take p => ("take", [.int p])
  | .tell p => ("tell", [.int p])
  | .jump t => ("jump", [.int t])
  | .zero p t => ("zero", [.int p, .int t])
  | .below p t => ("below", [.int p, .int t])
  | .call p f qs => ("call", [.int p, .int f, .tup (qs.map D.int)])
  | .back p => ("back", [.int p])
structure Df where
  takes : Int
  boxes : Int
  rows : List Rw
def In0 (n m : Int) : Prop := 0 ≤ n ∧ n < m
/-- a row within its bounds -/
def Rw.Ok (P : List Df) (nb many : Int) : Rw → Prop
  | .put p n => In0 p nb ∧ n.natAbs ≤ 10 ^ 60
  | .copy p q => In0 p nb ∧ In0 q nb
  | .plus p q r => In0 p nb ∧ In0 q nb ∧ In0 r nb
  | .less p q r => In0 p nb ∧ In0 q nb ∧ In0 r nb
  | .times p q n => In0 p nb ∧ In0 q nb ∧ n.natAbs ≤ 99
  | .take p => In0 p nb
  | .tell p => In0 p nb
  | .jump t => In0 t many
  | .zero p t => In0 p nb ∧ In0 t many
  | .below p t => In0 p nb ∧ In0 t many
  | .call p f qs => In0 p nb ∧ (∃ d, 0 ≤ f ∧ P[f.toNat]? = some d ∧ (qs.length : Int) = d.takes) ∧ ∀ q ∈ qs, In0 q nb
  | .back p => In0 p nb
def Rw.last : Rw → Prop
  | .jump _ => True
  | .back _ => True
  | _ => False
structure DfOk (P : List Df) (d : Df) : Prop where
  b : 1 ≤ d.boxes ∧ d.boxes ≤ 1000
  t : 0 ≤ d.takes ∧ d.takes ≤ d.boxes
  n : d.rows.length ≤ 1000
  rows : ∀ r ∈ d.rows, r.Ok P d.boxes d.rows.length
  last : ∃ r, d.rows[d.rows.length - 1]? = some r ∧ r.last
def PgOk (P : List Df) : Prop := P ≠ [] ∧ P.length ≤ 1000 ∧ ∀ d ∈ P, DfOk P d
inductive En where
  | back (n : Int) | dry (f at' : Int) | deep (f at' : Int)
def En.d : Option En → D
  | none => .non
  | some (.back n) => .tup [.str "back", .int n]
  | some (.dry f a) => .tup [.str "dry", .int f, .int a]
  | some (.deep f a) => .tup [.str "deep", .int f, .int a]
abbrev Fr := Int × Int × List Int
structure HS where
  frames : List Fr
  left : List Int
  news : List Int
  gone : Int
  fin : Option En
def rowAt (P : List Df) (f at' : Int) : Option Rw := (P[f.toNat]?).bind fun d => d.rows[at'.toNat]?
def boxAt (bx : List Int) (p : Int) : Int := bx.getD p.toNat 0
def setAt (bx : List Int) (p v : Int) : List Int := bx.set p.toNat v
/-- what a row of its own frame puts into a box -/
def Rw.calc (bx : List Int) : Rw → Option (Int × Int)
  | .put p n => some (p, n)
  | .copy p q => some (p, boxAt bx q)
  | .plus p q r => some (p, boxAt bx q + boxAt bx r)
  | .less p q r => some (p, boxAt bx q - boxAt bx r)
  | .times p q n => some (p, boxAt bx q * n)
  | _ => none
def Rw.next (bx : List Int) (at' : Int) : Rw → Int
  | .jump t => t
  | .zero p t => if boxAt bx p = 0 then t else at' + 1
  | .below p t => if boxAt bx p < 0 then t else at' + 1
  | _ => at' + 1
def boxesOf (P : List Df) (f : Int) : Int := ((P[f.toNat]?).map (·.boxes)).getD 0
def newFr (P : List Df) (f : Int) (ns : List Int) : Fr := (f, 0, ns ++ List.replicate ((boxesOf P f).toNat - ns.length) 0)
/-- the end at a row, if it is one -/
def endAt (h : HS) (fr : Fr) : Rw → Option En
  | .back p => if h.frames.length = 1 then some (.back (boxAt fr.2.2 p)) else none
  | .take _ => if h.left = [] then some (.dry fr.1 fr.2.1) else none
  | .call _ _ _ => if 20 ≤ h.frames.length then some (.deep fr.1 fr.2.1) else none
  | _ => none
/-- boxes, numbers left and news behind a row of the own frame -/
def Rw.own3 (bx left news : List Int) : Rw → List Int × List Int × List Int
  | .tell p => (bx, left, news ++ [boxAt bx p])
  | .take p => (setAt bx p (left.headD 0), left.tail, news)
  | r => match r.calc bx with
    | some (p, v) => (setAt bx p v, left, news)
    | none => (bx, left, news)
/-- frames, numbers left and news behind a row; fs the frames that wait -/
def eff (P : List Df) (fs : List Fr) (fr : Fr) (left news : List Int) : Rw → List Fr × List Int × List Int
  | .back p => match fs.getLast? with
    | some w => match rowAt P w.1 w.2.1 with
      | some (.call p2 _ _) => (fs.dropLast ++ [(w.1, w.2.1 + 1, setAt w.2.2 p2 (boxAt fr.2.2 p))], left, news)
      | _ => (fs, left, news)
    | none => (fs, left, news)
  | .call _ g qs => (fs ++ [fr, newFr P g (qs.map (boxAt fr.2.2))], left, news)
  | r => (fs ++ [(fr.1, r.next fr.2.2 fr.2.1, (r.own3 fr.2.2 left news).1)], (r.own3 fr.2.2 left news).2.1, (r.own3 fr.2.2 left news).2.2)
def HS.go (P : List Df) (h : HS) : HS := match h.fin with
  | some _ => h
  | none => match h.frames.getLast? with
    | none => h
    | some fr => match rowAt P fr.1 fr.2.1 with
      | none => h
      | some r => match endAt h fr r with
        | some e => { h with fin := some e }
        | none => { h with frames := (eff P h.frames.dropLast fr h.left h.news r).1, left := (eff P h.frames.dropLast fr h.left h.news r).2.1, news := (eff P h.frames.dropLast fr h.left h.news r).2.2, gone := h.gone + 1 }
/-- a frame of the program -/
structure FrOk (P : List Df) (g : Int) (fr : Fr) : Prop where
  ex : ∃ d, 0 ≤ fr.1 ∧ P[fr.1.toNat]? = some d ∧ In0 fr.2.1 d.rows.length ∧ (fr.2.2.length : Int) = d.boxes
  small : ∀ x ∈ fr.2.2, x.natAbs ≤ 10 ^ 60 * 100 ^ g.toNat
structure HsOk (P : List Df) (h : HS) : Prop where
  ne : h.frames ≠ []
  few : h.frames.length ≤ 20
  fr : ∀ fr ∈ h.frames, FrOk P h.gone fr
  wait : ∀ i fr, h.frames[i]? = some fr → i + 1 < h.frames.length → ∃ p f qs, rowAt P fr.1 fr.2.1 = some (.call p f qs)
  left : ∀ x ∈ h.left, x.natAbs ≤ 10 ^ 60
  gone : 0 ≤ h.gone
  sz : h.left.length + h.news.length ≤ 100000 + h.gone.toNat
/-! ### where they stand in the heap -/
def rowsD (rs : List Rw) : List D := rs.map fun r => rowD r.row
def DfAt (own : List Addr) (H : Hp) (d : Df) (v : V) : Prop := ∃ t q ys, v = .ref t ∧ H t = some (.tup [.int d.takes, .int d.boxes, .ref q]) ∧ H q = some (.lst ys) ∧ q ∉ own ∧ Reps H (rowsD d.rows) ys
def PgAt (own : List Addr) (H : Hp) (P : List Df) (pp : Addr) : Prop := ∃ vs, H pp = some (.lst vs) ∧ pp ∉ own ∧ vs.length = P.length ∧ ∀ (i : Nat) (d : Df) (v : V), P[i]? = some d → vs[i]? = some v → DfAt own H d v
def OSame (own : List Addr) (H H' : Hp) : Prop := ∀ a o, a ∉ own → H a = some o → H' a = some o
/-- what the own addresses hold is no tuple -/
def NoTup (own : List Addr) (H : Hp) : Prop := ∀ a ∈ own, ∀ xs, H a ≠ some (.tup xs)
theorem OSame.refl (own : List Addr) (H : Hp) : OSame own H H := fun _ _ _ h => h
theorem OSame.of {own : List Addr} {H H' : Hp} (s : Same H H') : OSame own H H' := fun a o _ h => s a o h
theorem OSame.ts {own : List Addr} {H H' : Hp} (s : OSame own H H') (n : NoTup own H) : TSame H H' := fun a xs e => s a _ (fun z => n a z xs e) e
theorem OSame.trans {own own' : List Addr} {H H1 H2 : Hp} (a : OSame own H H1) (b : OSame own' H1 H2) (h : ∀ x ∈ own', x ∈ own ∨ H x = none) : OSame own H H2 := fun x o n e => b x o (fun z => by
  rcases h x z with q | q
  · exact n q
  · rw [q] at e; cases e) (a x o n e)
theorem OSame.wr {own : List Addr} {H : Hp} {a : Addr} {o : HO} (h : a ∈ own) : OSame own H (upd H a o) := fun b u n e => by
  rw [upd_ne (fun z : b = a => n (z ▸ h))]
  exact e
theorem DfAt.by {own own' : List Addr} {H H' : Hp} {d : Df} {v : V} (h : DfAt own H d v) (s : OSame own H H') (t : TSame H H') (m : ∀ x ∈ own', x ∈ own ∨ H x = none) : DfAt own' H' d v := by
  obtain ⟨a, q, ys, rfl, h1, h2, n, r⟩ := h
  refine ⟨a, q, ys, rfl, t _ _ h1, s _ _ n h2, fun z => ?_, r.mono t⟩
  rcases m q z with k | k
  · exact n k
  · rw [k] at h2; cases h2
theorem PgAt.by {own own' : List Addr} {H H' : Hp} {P : List Df} {pp : Addr} (h : PgAt own H P pp) (s : OSame own H H') (t : TSame H H') (m : ∀ x ∈ own', x ∈ own ∨ H x = none) : PgAt own' H' P pp := by
  obtain ⟨vs, h1, n, hl, k⟩ := h
  refine ⟨vs, s _ _ n h1, fun z => ?_, hl, fun i d v e1 e2 => (k i d v e1 e2).by s t m⟩
  rcases m pp z with q | q
  · exact n q
  · rw [q] at h1; cases h1
end L2

end
section
set_option Elab.async false
set_option linter.all false
set_option maxRecDepth 100000
set_option maxHeartbeats 4000000
namespace L2
open PySem
/-! ### the fields of a hand -/
theorem lk_eq {k : Str} {v : V} {l : List (Str × V)} : List.lookup k ((k, v) :: l) = some v := by simp [List.lookup]
theorem lk_ne {k k' : Str} {v : V} {l : List (Str × V)} (h : ¬ k = k') : List.lookup k ((k', v) :: l) = List.lookup k l := by
  have hb : (k == k') = false := by simpa using h
  simp only [List.lookup, hb]
theorem pf_eq {k : Str} {v x : V} {l : List (Str × V)} : putF k v ((k, x) :: l) = (k, v) :: l := by simp [putF]
theorem pf_ne {k k' : Str} {v x : V} {l : List (Str × V)} (h : ¬ k' = k) : putF k v ((k', x) :: l) = (k', x) :: putF k v l := by simp [putF, h]
theorem pf_nil {k : Str} {v : V} : putF k v [] = [(k, v)] := rfl
def hflds (a b c d e f : V) : List (Str × V) := [("program", a), ("frames", b), ("news", c), ("gone", d), ("left", e), ("end", f)]
section
variable {a b c d e f v : V}
theorem hf_program : (hflds a b c d e f).lookup ("program" : Str) = some a := by unfold hflds; rw [lk_eq]
theorem hf_frames : (hflds a b c d e f).lookup ("frames" : Str) = some b := by unfold hflds; rw [lk_ne (by decide +kernel : ¬ ("frames" : Str) = "program"), lk_eq]
theorem hp_frames : putF "frames" v (hflds a b c d e f) = hflds a v c d e f := by unfold hflds; rw [pf_ne (by decide +kernel : ¬ ("program" : Str) = "frames"), pf_eq]
theorem hf_news : (hflds a b c d e f).lookup ("news" : Str) = some c := by unfold hflds; rw [lk_ne (by decide +kernel : ¬ ("news" : Str) = "program"), lk_ne (by decide +kernel : ¬ ("news" : Str) = "frames"), lk_eq]
theorem hp_news : putF "news" v (hflds a b c d e f) = hflds a b v d e f := by unfold hflds; rw [pf_ne (by decide +kernel : ¬ ("program" : Str) = "news"), pf_ne (by decide +kernel : ¬ ("frames" : Str) = "news"), pf_eq]
theorem hf_gone : (hflds a b c d e f).lookup ("gone" : Str) = some d := by unfold hflds; rw [lk_ne (by decide +kernel : ¬ ("gone" : Str) = "program"), lk_ne (by decide +kernel : ¬ ("gone" : Str) = "frames"), lk_ne (by decide +kernel : ¬ ("gone" : Str) = "news"), lk_eq]
theorem hp_gone : putF "gone" v (hflds a b c d e f) = hflds a b c v e f := by unfold hflds; rw [pf_ne (by decide +kernel : ¬ ("program" : Str) = "gone"), pf_ne (by decide +kernel : ¬ ("frames" : Str) = "gone"), pf_ne (by decide +kernel : ¬ ("news" : Str) = "gone"), pf_eq]
theorem hf_left : (hflds a b c d e f).lookup ("left" : Str) = some e := by unfold hflds; rw [lk_ne (by decide +kernel : ¬ ("left" : Str) = "program"), lk_ne (by decide +kernel : ¬ ("left" : Str) = "frames"), lk_ne (by decide +kernel : ¬ ("left" : Str) = "news"), lk_ne (by decide +kernel : ¬ ("left" : Str) = "gone"), lk_eq]
theorem hp_left : putF "left" v (hflds a b c d e f) = hflds a b c d v f := by unfold hflds; rw [pf_ne (by decide +kernel : ¬ ("program" : Str) = "left"), pf_ne (by decide +kernel : ¬ ("frames" : Str) = "left"), pf_ne (by decide +kernel : ¬ ("news" : Str) = "left"), pf_ne (by decide +kernel : ¬ ("gone" : Str) = "left"), pf_eq]
theorem hf_end : (hflds a b c d e f).lookup ("end" : Str) = some f := by unfold hflds; rw [lk_ne (by decide +kernel : ¬ ("end" : Str) = "program"), lk_ne (by decide +kernel : ¬ ("end" : Str) = "frames"), lk_ne (by decide +kernel : ¬ ("end" : Str) = "news"), lk_ne (by decide +kernel : ¬ ("end" : Str) = "gone"), lk_ne (by decide +kernel : ¬ ("end" : Str) = "left"), lk_eq]
theorem hp_end : putF "end" v (hflds a b c d e f) = hflds a b c d e v := by unfold hflds; rw [pf_ne (by decide +kernel : ¬ ("program" : Str) = "end"), pf_ne (by decide +kernel : ¬ ("frames" : Str) = "end"), pf_ne (by decide +kernel : ¬ ("news" : Str) = "end"), pf_ne (by decide +kernel : ¬ ("gone" : Str) = "end"), pf_ne (by decide +kernel : ¬ ("left" : Str) = "end"), pf_eq]
theorem hm_go : (hflds a b c d e f).lookup ("go" : Str) = none := by unfold hflds; rw [lk_ne (by decide +kernel : ¬ ("go" : Str) = "program"), lk_ne (by decide +kernel : ¬ ("go" : Str) = "frames"), lk_ne (by decide +kernel : ¬ ("go" : Str) = "news"), lk_ne (by decide +kernel : ¬ ("go" : Str) = "gone"), lk_ne (by decide +kernel : ¬ ("go" : Str) = "left"), lk_ne (by decide +kernel : ¬ ("go" : Str) = "end")]; rfl
theorem hm_end_at : (hflds a b c d e f).lookup ("end_at" : Str) = none := by unfold hflds; rw [lk_ne (by decide +kernel : ¬ ("end_at" : Str) = "program"), lk_ne (by decide +kernel : ¬ ("end_at" : Str) = "frames"), lk_ne (by decide +kernel : ¬ ("end_at" : Str) = "news"), lk_ne (by decide +kernel : ¬ ("end_at" : Str) = "gone"), lk_ne (by decide +kernel : ¬ ("end_at" : Str) = "left"), lk_ne (by decide +kernel : ¬ ("end_at" : Str) = "end")]; rfl
theorem hm_do_row : (hflds a b c d e f).lookup ("do_row" : Str) = none := by unfold hflds; rw [lk_ne (by decide +kernel : ¬ ("do_row" : Str) = "program"), lk_ne (by decide +kernel : ¬ ("do_row" : Str) = "frames"), lk_ne (by decide +kernel : ¬ ("do_row" : Str) = "news"), lk_ne (by decide +kernel : ¬ ("do_row" : Str) = "gone"), lk_ne (by decide +kernel : ¬ ("do_row" : Str) = "left"), lk_ne (by decide +kernel : ¬ ("do_row" : Str) = "end")]; rfl
theorem hm_give_back : (hflds a b c d e f).lookup ("give_back" : Str) = none := by unfold hflds; rw [lk_ne (by decide +kernel : ¬ ("give_back" : Str) = "program"), lk_ne (by decide +kernel : ¬ ("give_back" : Str) = "frames"), lk_ne (by decide +kernel : ¬ ("give_back" : Str) = "news"), lk_ne (by decide +kernel : ¬ ("give_back" : Str) = "gone"), lk_ne (by decide +kernel : ¬ ("give_back" : Str) = "left"), lk_ne (by decide +kernel : ¬ ("give_back" : Str) = "end")]; rfl
theorem hm_do_own : (hflds a b c d e f).lookup ("do_own" : Str) = none := by unfold hflds; rw [lk_ne (by decide +kernel : ¬ ("do_own" : Str) = "program"), lk_ne (by decide +kernel : ¬ ("do_own" : Str) = "frames"), lk_ne (by decide +kernel : ¬ ("do_own" : Str) = "news"), lk_ne (by decide +kernel : ¬ ("do_own" : Str) = "gone"), lk_ne (by decide +kernel : ¬ ("do_own" : Str) = "left"), lk_ne (by decide +kernel : ¬ ("do_own" : Str) = "end")]; rfl
theorem hi_all : putF "end" f (putF "left" e (putF "gone" d (putF "news" c (putF "frames" b (putF "program" a []))))) = hflds a b c d e f := by
  unfold hflds
  rw [pf_nil]
  rw [pf_ne (by decide +kernel : ¬ ("program" : Str) = "frames"), pf_nil]
  rw [pf_ne (by decide +kernel : ¬ ("program" : Str) = "news"), pf_ne (by decide +kernel : ¬ ("frames" : Str) = "news"), pf_nil]
  rw [pf_ne (by decide +kernel : ¬ ("program" : Str) = "gone"), pf_ne (by decide +kernel : ¬ ("frames" : Str) = "gone"), pf_ne (by decide +kernel : ¬ ("news" : Str) = "gone"), pf_nil]
  rw [pf_ne (by decide +kernel : ¬ ("program" : Str) = "left"), pf_ne (by decide +kernel : ¬ ("frames" : Str) = "left"), pf_ne (by decide +kernel : ¬ ("news" : Str) = "left"), pf_ne (by decide +kernel : ¬ ("gone" : Str) = "left"), pf_nil]
  rw [pf_ne (by decide +kernel : ¬ ("program" : Str) = "end"), pf_ne (by decide +kernel : ¬ ("frames" : Str) = "end"), pf_ne (by decide +kernel : ¬ ("news" : Str) = "end"), pf_ne (by decide +kernel : ¬ ("gone" : Str) = "end"), pf_ne (by decide +kernel : ¬ ("left" : Str) = "end"), pf_nil]
end
/-! ### the objects of a hand -/
def AllAt (H : Hp) (l : List (Addr × HO)) : Prop := ∀ e ∈ l, H e.1 = some e.2
theorem AllAt.here {H : Hp} {l1 l2 : List (Addr × HO)} {a : Addr} {o : HO} (h : AllAt H (l1 ++ (a, o) :: l2)) : H a = some o := h (a, o) (List.mem_append_right _ List.mem_cons_self)
theorem AllAt.wr {H : Hp} {l1 l2 : List (Addr × HO)} {a : Addr} {o o' : HO} (h : AllAt H (l1 ++ (a, o) :: l2)) (nd : ((l1 ++ (a, o) :: l2).map (·.1)).Nodup) : AllAt (upd H a o') (l1 ++ (a, o') :: l2) := by
  rw [List.map_append, List.map_cons] at nd
  obtain ⟨n1, n2, n3⟩ := List.nodup_append.mp nd
  obtain ⟨n4, n5⟩ := List.nodup_cons.mp n2
  intro e he
  rcases List.mem_append.mp he with he | he
  · rw [upd_ne (n3 e.1 (List.mem_map_of_mem he) a List.mem_cons_self)]
    exact h e (List.mem_append_left _ he)
  · rcases List.mem_cons.mp he with rfl | he
    · exact upd_same
    · rw [upd_ne (fun z : e.1 = a => n4 (show a ∈ l2.map (·.1) from z ▸ List.mem_map_of_mem (f := (·.1)) he))]
      exact h e (List.mem_append_right _ (List.mem_cons_of_mem _ he))
theorem AllAt.by {H H' : Hp} {l : List (Addr × HO)} (h : AllAt H l) (s : ∀ a o, a ∈ l.map (·.1) → H a = some o → H' a = some o) : AllAt H' l := fun e he => s _ _ (List.mem_map_of_mem he) (h e he)
theorem AllAt.mono {H H' : Hp} {l : List (Addr × HO)} (h : AllAt H l) (s : Same H H') : AllAt H' l := h.by fun a o _ e => s a o e
abbrev FZ := (Addr × Addr) × Fr
def frObj (z : FZ) : List (Addr × HO) := [(z.1.1, .lst [.int z.2.1, .int z.2.2.1, .ref z.1.2]), (z.1.2, .lst (z.2.2.2.map V.int))]
def hObjs (C p dx pp pf pn pl : Addr) (fz : List FZ) (h : HS) (ve : V) : List (Addr × HO) :=
  [(p, .ins C dx (hflds (.ref pp) (.ref pf) (.ref pn) (.int h.gone) (.ref pl) ve)), (pf, .lst (fz.map fun z => V.ref z.1.1)), (pn, .lst (h.news.map V.int)), (pl, .lst (h.left.map V.int))] ++ fz.flatMap frObj
def ownA (p pf pn pl : Addr) (fz : List FZ) : List Addr := [p, pf, pn, pl] ++ fz.flatMap fun z => [z.1.1, z.1.2]
theorem own_objs {C p dx pp pf pn pl : Addr} {fz : List FZ} {h : HS} {ve : V} : (hObjs C p dx pp pf pn pl fz h ve).map (·.1) = ownA p pf pn pl fz := by
  unfold hObjs ownA
  rw [List.map_append, List.map_flatMap]
  rfl
structure HA (C p dx pp pf pn pl : Addr) (fz : List FZ) (H : Hp) (P : List Df) (h : HS) (ve : V) : Prop where
  all : AllAt H (hObjs C p dx pp pf pn pl fz h ve)
  nd : (ownA p pf pn pl fz).Nodup
  en : Rep H (En.d h.fin) ve
  pg : PgAt (ownA p pf pn pl fz) H P pp
  fr : fz.map (·.2) = h.frames
section
variable {C p dx pp pf pn pl : Addr} {fz : List FZ} {H : Hp} {P : List Df} {h : HS} {ve : V}
theorem HA.obj (a : HA C p dx pp pf pn pl fz H P h ve) : H p = some (.ins C dx (hflds (.ref pp) (.ref pf) (.ref pn) (.int h.gone) (.ref pl) ve)) := AllAt.here (l1 := []) a.all
theorem HA.fl (a : HA C p dx pp pf pn pl fz H P h ve) : H pf = some (.lst (fz.map fun z => V.ref z.1.1)) := AllAt.here (l1 := [_]) a.all
theorem HA.nl (a : HA C p dx pp pf pn pl fz H P h ve) : H pn = some (.lst (h.news.map V.int)) := AllAt.here (l1 := [_, _]) a.all
theorem HA.ll (a : HA C p dx pp pf pn pl fz H P h ve) : H pl = some (.lst (h.left.map V.int)) := AllAt.here (l1 := [_, _, _]) a.all
theorem HA.z1 (a : HA C p dx pp pf pn pl fz H P h ve) {z : FZ} (m : z ∈ fz) : H z.1.1 = some (.lst [.int z.2.1, .int z.2.2.1, .ref z.1.2]) := a.all (z.1.1, _) (List.mem_append_right _ (List.mem_flatMap.mpr ⟨z, m, List.mem_cons_self⟩))
theorem HA.z2 (a : HA C p dx pp pf pn pl fz H P h ve) {z : FZ} (m : z ∈ fz) : H z.1.2 = some (.lst (z.2.2.2.map V.int)) := a.all (z.1.2, _) (List.mem_append_right _ (List.mem_flatMap.mpr ⟨z, m, List.mem_cons_of_mem _ List.mem_cons_self⟩))
theorem HA.notup (a : HA C p dx pp pf pn pl fz H P h ve) : NoTup (ownA p pf pn pl fz) H := by
  intro b hb xs e
  unfold ownA at hb
  rcases List.mem_append.mp hb with hb | hb
  · simp only [List.mem_cons, List.not_mem_nil, or_false] at hb
    rcases hb with rfl | rfl | rfl | rfl
    · rw [a.obj] at e; cases e
    · rw [a.fl] at e; cases e
    · rw [a.nl] at e; cases e
    · rw [a.ll] at e; cases e
  · obtain ⟨z, hz, hb⟩ := List.mem_flatMap.mp hb
    simp only [List.mem_cons, List.not_mem_nil, or_false] at hb
    rcases hb with rfl | rfl
    · rw [a.z1 hz] at e; cases e
    · rw [a.z2 hz] at e; cases e
/-- what does not touch the hand's own -/
theorem HA.mono {H' : Hp} (a : HA C p dx pp pf pn pl fz H P h ve) (s : Same H H') : HA C p dx pp pf pn pl fz H' P h ve :=
  ⟨a.all.mono s, a.nd, a.en.mono s.ts, a.pg.by (OSame.of s) s.ts fun x hx => .inl hx, a.fr⟩
/-- one object of the hand is written -/
theorem HA.wrote {l1 l2 : List (Addr × HO)} {b : Addr} {o o' : HO} {fz' : List FZ} {h' : HS} {ve' : V} (a : HA C p dx pp pf pn pl fz H P h ve) (e1 : hObjs C p dx pp pf pn pl fz h ve = l1 ++ (b, o) :: l2) (e2 : hObjs C p dx pp pf pn pl fz' h' ve' = l1 ++ (b, o') :: l2)
    (en : Rep (upd H b o') (En.d h'.fin) ve') (fr : fz'.map (·.2) = h'.frames) : HA C p dx pp pf pn pl fz' (upd H b o') P h' ve' ∧ OSame (ownA p pf pn pl fz) H (upd H b o') := by
  have hnd : ((l1 ++ (b, o) :: l2).map (·.1)).Nodup := by rw [← e1, own_objs]; exact a.nd
  have hall := a.all
  rw [e1] at hall
  have ho : ownA p pf pn pl fz' = ownA p pf pn pl fz := by
    rw [← own_objs (C := C) (dx := dx) (pp := pp) (h := h') (ve := ve'), ← own_objs (C := C) (dx := dx) (pp := pp) (h := h) (ve := ve), e1, e2]
    simp
  have hb : b ∈ ownA p pf pn pl fz := by
    rw [← own_objs (C := C) (dx := dx) (pp := pp) (h := h) (ve := ve), e1]
    simp
  have os : OSame (ownA p pf pn pl fz) H (upd H b o') := OSame.wr hb
  refine ⟨⟨by rw [e2]; exact hall.wr hnd, by rw [ho]; exact a.nd, en, by rw [ho]; exact a.pg.by os (os.ts a.notup) fun x hx => .inl hx, fr⟩, os⟩
theorem HA.wrEn {b : Addr} {o' : HO} (a : HA C p dx pp pf pn pl fz H P h ve) (m : b ∈ ownA p pf pn pl fz) : Rep (upd H b o') (En.d h.fin) ve := a.en.mono (OSame.ts (OSame.wr m) a.notup)
end
end L2

end
section
set_option Elab.async false
set_option linter.all false
set_option maxRecDepth 100000
set_option maxHeartbeats 4000000
namespace L2
open PySem
theorem atI_neg1 {α : Type} {l : List α} {x : α} : atI (l ++ [x]) (-1) = some x := by
  unfold atI ixN
  rw [if_neg (by omega), if_pos (by simp; omega)]
  simp
  rw [show (-1 + ((l.length : Int) + 1)).toNat = l.length by omega]
  simp
theorem map_setAt {ns : List Int} {p v : Int} : (ns.map V.int).set p.toNat (.int v) = (setAt ns p v).map V.int := by
  unfold setAt
  rw [List.map_set]
section
variable {C p dx pp pf pn pl : Addr} {fz : List FZ} {z : FZ} {H : Hp} {P : List Df} {h : HS} {ve : V}
theorem objs_last : hObjs C p dx pp pf pn pl (fz ++ [z]) h ve = ([(p, HO.ins C dx (hflds (.ref pp) (.ref pf) (.ref pn) (.int h.gone) (.ref pl) ve)), (pf, HO.lst ((fz ++ [z]).map fun z => V.ref z.1.1)), (pn, HO.lst (h.news.map V.int)), (pl, HO.lst (h.left.map V.int))] ++ fz.flatMap frObj) ++ [(z.1.1, HO.lst [.int z.2.1, .int z.2.2.1, .ref z.1.2]), (z.1.2, HO.lst (z.2.2.2.map V.int))] := by
  simp [hObjs, frObj]
theorem own_last (m : z ∈ fz) : z.1.1 ∈ ownA p pf pn pl fz ∧ z.1.2 ∈ ownA p pf pn pl fz := by
  unfold ownA
  exact ⟨List.mem_append_right _ (List.mem_flatMap.mpr ⟨z, m, List.mem_cons_self⟩), List.mem_append_right _ (List.mem_flatMap.mpr ⟨z, m, List.mem_cons_of_mem _ List.mem_cons_self⟩)⟩
theorem HA.setBox (a : HA C p dx pp pf pn pl (fz ++ [z]) H P h ve) (bx : List Int) :
    HA C p dx pp pf pn pl (fz ++ [(z.1, (z.2.1, z.2.2.1, bx))]) (upd H z.1.2 (.lst (bx.map V.int))) P { h with frames := fz.map (·.2) ++ [(z.2.1, z.2.2.1, bx)] } ve ∧ OSame (ownA p pf pn pl (fz ++ [z])) H (upd H z.1.2 (.lst (bx.map V.int))) := by
  refine a.wrote (l1 := ([(p, HO.ins C dx (hflds (.ref pp) (.ref pf) (.ref pn) (.int h.gone) (.ref pl) ve)), (pf, HO.lst ((fz ++ [z]).map fun z => V.ref z.1.1)), (pn, HO.lst (h.news.map V.int)), (pl, HO.lst (h.left.map V.int))] ++ fz.flatMap frObj) ++ [(z.1.1, HO.lst [.int z.2.1, .int z.2.2.1, .ref z.1.2])]) (l2 := []) (o := .lst (z.2.2.2.map V.int)) ?_ ?_ (a.wrEn (own_last (by simp)).2) (by simp)
  · rw [objs_last]; simp
  · rw [objs_last]; simp
theorem HA.setRow (a : HA C p dx pp pf pn pl (fz ++ [z]) H P h ve) (n : Int) :
    HA C p dx pp pf pn pl (fz ++ [(z.1, (z.2.1, n, z.2.2.2))]) (upd H z.1.1 (.lst [.int z.2.1, .int n, .ref z.1.2])) P { h with frames := fz.map (·.2) ++ [(z.2.1, n, z.2.2.2)] } ve ∧ OSame (ownA p pf pn pl (fz ++ [z])) H (upd H z.1.1 (.lst [.int z.2.1, .int n, .ref z.1.2])) := by
  refine a.wrote (l1 := [(p, HO.ins C dx (hflds (.ref pp) (.ref pf) (.ref pn) (.int h.gone) (.ref pl) ve)), (pf, HO.lst ((fz ++ [z]).map fun z => V.ref z.1.1)), (pn, HO.lst (h.news.map V.int)), (pl, HO.lst (h.left.map V.int))] ++ fz.flatMap frObj) (l2 := [(z.1.2, HO.lst (z.2.2.2.map V.int))]) (o := .lst [.int z.2.1, .int z.2.2.1, .ref z.1.2]) ?_ ?_ (a.wrEn (own_last (by simp)).1) (by simp)
  · rw [objs_last]
  · rw [objs_last]; simp
theorem HA.setNews (a : HA C p dx pp pf pn pl fz H P h ve) (ns : List Int) : HA C p dx pp pf pn pl fz (upd H pn (.lst (ns.map V.int))) P { h with news := ns } ve ∧ OSame (ownA p pf pn pl fz) H (upd H pn (.lst (ns.map V.int))) :=
  a.wrote (l1 := [_, _]) rfl rfl (a.wrEn (by simp [ownA])) a.fr
theorem HA.setLeft (a : HA C p dx pp pf pn pl fz H P h ve) (ns : List Int) : HA C p dx pp pf pn pl fz (upd H pl (.lst (ns.map V.int))) P { h with left := ns } ve ∧ OSame (ownA p pf pn pl fz) H (upd H pl (.lst (ns.map V.int))) :=
  a.wrote (l1 := [_, _, _]) rfl rfl (a.wrEn (by simp [ownA])) a.fr
theorem HA.setGone (a : HA C p dx pp pf pn pl fz H P h ve) (n : Int) : HA C p dx pp pf pn pl fz (upd H p (.ins C dx (hflds (.ref pp) (.ref pf) (.ref pn) (.int n) (.ref pl) ve))) P { h with gone := n } ve ∧ OSame (ownA p pf pn pl fz) H (upd H p (.ins C dx (hflds (.ref pp) (.ref pf) (.ref pn) (.int n) (.ref pl) ve))) :=
  a.wrote (l1 := []) rfl rfl (a.wrEn (by simp [ownA])) a.fr
theorem HA.setEnd (a : HA C p dx pp pf pn pl fz H P h ve) {e : Option En} {v : V} (r : Rep H (En.d e) v) : HA C p dx pp pf pn pl fz (upd H p (.ins C dx (hflds (.ref pp) (.ref pf) (.ref pn) (.int h.gone) (.ref pl) v))) P { h with fin := e } v ∧ OSame (ownA p pf pn pl fz) H (upd H p (.ins C dx (hflds (.ref pp) (.ref pf) (.ref pn) (.int h.gone) (.ref pl) v))) :=
  a.wrote (l1 := []) rfl rfl (r.mono (OSame.ts (OSame.wr (by simp [ownA])) a.notup)) a.fr
theorem PgAt.both {o1 o2 o3 : List Addr} {H : Hp} {P : List Df} {pp : Addr} (a : PgAt o1 H P pp) (b : PgAt o2 H P pp) (m : ∀ x ∈ o3, x ∈ o1 ∨ x ∈ o2) : PgAt o3 H P pp := by
  obtain ⟨vs, h1, n1, hl, k1⟩ := a
  obtain ⟨vs', h1', n2, _, k2⟩ := b
  rw [h1] at h1'
  cases h1'
  refine ⟨vs, h1, fun z => (m _ z).elim n1 n2, hl, fun i d v e1 e2 => ?_⟩
  obtain ⟨t, q, ys, rfl, g1, g2, g3, g4⟩ := k1 i d v e1 e2
  obtain ⟨t', q', ys', e, g1', g2', g3', g4'⟩ := k2 i d _ e1 e2
  cases e
  rw [g1] at g1'
  cases g1'
  exact ⟨t, q, ys, rfl, g1, g2, fun z => (m _ z).elim g3 g3', g4⟩
theorem own_app {z : FZ} : ownA p pf pn pl (fz ++ [z]) = ownA p pf pn pl fz ++ [z.1.1, z.1.2] := by simp [ownA]
/-- a new frame behind -/
theorem HA.push (a : HA C p dx pp pf pn pl fz H P h ve) {fr bx : Addr} {f : Fr} (h1 : H fr = some (.lst [.int f.1, .int f.2.1, .ref bx])) (h2 : H bx = some (.lst (f.2.2.map V.int))) (n1 : fr ∉ ownA p pf pn pl fz) (n2 : bx ∉ ownA p pf pn pl fz) (n3 : fr ≠ bx) (m1 : PgAt [fr, bx] H P pp) :
    HA C p dx pp pf pn pl (fz ++ [((fr, bx), f)]) (upd H pf (.lst ((fz.map fun z => V.ref z.1.1) ++ [.ref fr]))) P { h with frames := h.frames ++ [f] } ve ∧ OSame (ownA p pf pn pl fz) H (upd H pf (.lst ((fz.map fun z => V.ref z.1.1) ++ [.ref fr]))) := by
  have hpf : pf ∈ ownA p pf pn pl fz := by simp [ownA]
  have os : OSame (ownA p pf pn pl fz) H (upd H pf (.lst ((fz.map fun z => V.ref z.1.1) ++ [.ref fr]))) := OSame.wr hpf
  have hnd : ((hObjs C p dx pp pf pn pl fz h ve).map (·.1)).Nodup := by rw [own_objs]; exact a.nd
  have hw := AllAt.wr (l1 := [_]) (o' := .lst ((fz.map fun z => V.ref z.1.1) ++ [.ref fr])) a.all hnd
  refine ⟨⟨?_, ?_, a.wrEn hpf, ?_, by simp [a.fr]⟩, os⟩
  · have e : hObjs C p dx pp pf pn pl (fz ++ [((fr, bx), f)]) { h with frames := h.frames ++ [f] } ve = ([(p, HO.ins C dx (hflds (.ref pp) (.ref pf) (.ref pn) (.int h.gone) (.ref pl) ve)), (pf, HO.lst ((fz.map fun z => V.ref z.1.1) ++ [.ref fr])), (pn, HO.lst (h.news.map V.int)), (pl, HO.lst (h.left.map V.int))] ++ fz.flatMap frObj) ++ frObj ((fr, bx), f) := by
      simp [hObjs]
    rw [e]
    intro x hx
    rcases List.mem_append.mp hx with hx | hx
    · exact hw x hx
    · simp only [frObj, List.mem_cons, List.not_mem_nil, or_false] at hx
      rcases hx with rfl | rfl
      · exact os _ _ n1 h1
      · exact os _ _ n2 h2
  · rw [own_app]
    refine List.nodup_append.mpr ⟨a.nd, by simp [n3], fun x hx y hy e => ?_⟩
    simp only [List.mem_cons, List.not_mem_nil, or_false] at hy
    subst e
    rcases hy with rfl | rfl
    · exact n1 hx
    · exact n2 hx
  · have nt : NoTup [fr, bx] H := fun x hx xs e => by
      simp only [List.mem_cons, List.not_mem_nil, or_false] at hx
      rcases hx with rfl | rfl
      · rw [h1] at e; cases e
      · rw [h2] at e; cases e
    have q1 : PgAt (ownA p pf pn pl fz) _ P pp := a.pg.by os (os.ts a.notup) fun x hx => .inl hx
    have q2 : PgAt [fr, bx] (upd H pf (.lst ((fz.map fun z => V.ref z.1.1) ++ [.ref fr]))) P pp := by
      obtain ⟨vs, g1, g2, gl, gk⟩ := PgAt.both (o3 := [fr, bx] ++ ownA p pf pn pl fz) m1 a.pg (fun x hx => List.mem_append.mp hx)
      have w := PgAt.by (own' := [fr, bx] ++ ownA p pf pn pl fz) (H' := upd H pf (.lst ((fz.map fun z => V.ref z.1.1) ++ [.ref fr]))) ⟨vs, g1, g2, gl, gk⟩ (fun x o n e => os x o (fun z => n (List.mem_append_right _ z)) e) (os.ts a.notup) fun x hx => .inl hx
      exact PgAt.both w w fun x hx => .inl (List.mem_append_left _ hx)
    exact PgAt.both q1 q2 fun x hx => by rw [own_app] at hx; exact List.mem_append.mp hx
/-- the last frame is taken off -/
theorem HA.pop (a : HA C p dx pp pf pn pl (fz ++ [z]) H P h ve) : HA C p dx pp pf pn pl fz (upd H pf (.lst (fz.map fun z => V.ref z.1.1))) P { h with frames := fz.map (·.2) } ve ∧ OSame (ownA p pf pn pl (fz ++ [z])) H (upd H pf (.lst (fz.map fun z => V.ref z.1.1))) := by
  have hpf : pf ∈ ownA p pf pn pl (fz ++ [z]) := by simp [ownA]
  have os : OSame (ownA p pf pn pl (fz ++ [z])) H (upd H pf (.lst (fz.map fun z => V.ref z.1.1))) := OSame.wr hpf
  have hnd : ((hObjs C p dx pp pf pn pl (fz ++ [z]) h ve).map (·.1)).Nodup := by rw [own_objs]; exact a.nd
  have hw := AllAt.wr (l1 := [_]) (o' := .lst (fz.map fun z => V.ref z.1.1)) a.all hnd
  refine ⟨⟨fun x hx => hw x ?_, ?_, a.wrEn hpf, a.pg.by os (os.ts a.notup) (fun x hx => .inl (by rw [own_app]; exact List.mem_append_left _ hx)), rfl⟩, os⟩
  · have e : ([(p, HO.ins C dx (hflds (.ref pp) (.ref pf) (.ref pn) (.int h.gone) (.ref pl) ve)), (pf, HO.lst (fz.map fun z => V.ref z.1.1)), (pn, HO.lst (h.news.map V.int)), (pl, HO.lst (h.left.map V.int))] ++ (fz ++ [z]).flatMap frObj) = hObjs C p dx pp pf pn pl fz { h with frames := fz.map (·.2) } ve ++ frObj z := by
      simp [hObjs]
    show x ∈ ([(p, HO.ins C dx (hflds (.ref pp) (.ref pf) (.ref pn) (.int h.gone) (.ref pl) ve)), (pf, HO.lst (fz.map fun z => V.ref z.1.1)), (pn, HO.lst (h.news.map V.int)), (pl, HO.lst (h.left.map V.int))] ++ (fz ++ [z]).flatMap frObj)
    rw [e]
    exact List.mem_append_left _ hx
  · have := a.nd
    rw [own_app] at this
    exact (List.nodup_append.mp this).1
end
end L2

end
section
set_option Elab.async false
set_option linter.all false
set_option maxRecDepth 100000
set_option maxHeartbeats 4000000
namespace L2
open PySem PySem.Spec PyProof.Rows
/-! ### for over zip of two lists -/
section
variable {X : Cx} {pins : List (Addr × Obj)} {σ : St} {H : Hp} {s : Shared} {h' : Heap}
/-- some untracked records of ours have turned -/
theorem Inv.turnedL {t' : Nat} {fp : List Addr} (I : Inv X pins σ H s) (k : ∀ b o, b ∉ fp → s.heap.get? b = some o → h'.get? b = some o) (hf : ∀ b ∈ fp, FpOk X pins H b) : Inv X pins σ H { s with heap := h', toks := t' } := by
  have nit : ∀ b u, H b = some u → b ∉ fp := fun b u e z => by rw [(hf b z).1] at e; cases e
  refine I.step (g' := s.gens) (d' := s.drawn) (ch := fp) (fun b hb => ?_) (fun b o _ _ hc e _ => k b o hc e) (fun b o _ _ hc e _ => ⟨o.slots, k b o hc e⟩) (fun _ _ _ _ n => n)
    (fun b o hc e => ⟨o, k b o hc e⟩) (fun _ _ e => e) (fun _ _ _ e => e) (fun b ps e => ⟨#[], by rw [e]; simp⟩) (fun m hm => ?_) (fun b u e => ?_) I.bare
  · obtain ⟨f0, f1, f2, f3, f4, f5⟩ := hf b hb
    exact ⟨f3, f1, f4, f5⟩
  · obtain ⟨o, es, ep, ho, r⟩ := hm
    exact ⟨o, es, ep, k _ o (fun z => (hf _ z).2.1 rfl) ho, r⟩
  · refine (I.hok b u e).stay (fun c v hc q => k c v ?_ q) (fun _ q => q) fun _ _ q => q
    rcases hc with z | z
    · rw [z]; exact nit b u e
    · exact nit c _ z
theorem get_push {h : Heap} {o u : Obj} {b : Addr} (ho : o.isFreed = false) (e : (h.push o).get? b = some u) : h.get? b = some u ∨ (b = h.objs.size ∧ u = o) := by
  have hb := Heap.lt_size e
  rw [Heap.size_push] at hb
  by_cases hbe : b = h.objs.size
  · subst hbe
    rw [Heap.get?_push_size h ho] at e
    exact .inr ⟨rfl, (Option.some.inj e).symm⟩
  · have hlt : b < h.objs.size := Nat.lt_of_le_of_ne (Nat.le_of_lt_succ hb) hbe
    left
    rw [← e]
    unfold Heap.get? Heap.push
    simp [Array.getElem?_push_lt, hlt, Array.getElem?_eq_getElem hlt]
end
def Itz (K : PySem.W.Frag) (l1 l2 : Addr) : It := ⟨fun i H => ∃ xs ys x y, SqL K H l1 xs ∧ SqL K H l2 ys ∧ xs[i]? = some x ∧ ys[i]? = some y,
  fun i H v H' => ∃ T x y, (∀ xs, SqL K H l1 xs → xs[i]? = some x) ∧ (∀ ys, SqL K H l2 ys → ys[i]? = some y) ∧ H T = none ∧ v = .ref T ∧ H' = upd H T (.tup [x, y]),
  fun i H => ∃ xs ys, SqL K H l1 xs ∧ SqL K H l2 ys ∧ (xs.length ≤ i ∨ ys.length ≤ i)⟩
theorem turn_zip {P : Program} {w : World} {K : PySem.W.Frag} {elts : List Expr} {x1} {pos : Pos} {z TI TO i1 i2 l1 l2 : Addr} (D : ZipApart z TI TO i1 i2 l1 l2) :
    Turn P w K (.Tuple elts x1 pos) (Itz K l1 l2) [z, TI, TO, i1, i2] z (fun i h => IsZip h z TI TO .none ∧ IsPair h TI (.ref i1) (.ref i2) ∧ (∃ a b, IsPair h TO a b) ∧ h.IsListIter i1 l1 i ∧ h.IsListIter i2 l2 i) where
  mem := by simp
  obj := fun i h st b hb => by
    obtain ⟨a1, a2, ⟨a, b', a3⟩, ⟨o1, e1, c1, d1⟩, ⟨o2, e2, c2, d2⟩⟩ := st
    simp only [List.mem_cons, List.not_mem_nil, or_false] at hb
    rcases hb with rfl | rfl | rfl | rfl | rfl
    · exact ⟨_, a1, fun v z => by cases z⟩
    · exact ⟨_, a2, fun v z => by cases z⟩
    · exact ⟨_, a3, fun v z => by cases z⟩
    · exact ⟨_, e1, fun v z => by rw [d1] at z; cases z⟩
    · exact ⟨_, e2, fun v z => by rw [d2] at z; cases z⟩
  keep := fun i h h' st k => by
    obtain ⟨a1, a2, ⟨a, b', a3⟩, a4, a5⟩ := st
    exact ⟨k z (by simp) _ a1, k TI (by simp) _ a2, ⟨a, b', k TO (by simp) _ a3⟩, a4.at fun o e => k i1 (by simp) o e, a5.at fun o e => k i2 (by simp) o e⟩
  item := by
    intro X hP hw hK hc i pins s σ H E I hf st hg
    subst hP hw hK
    obtain ⟨xs, ys, x, y, hq1, hq2, hx, hy⟩ := hg
    obtain ⟨its1, rv1, p1, hz1⟩ := I.list hq1
    obtain ⟨its2, rv2, p2, hz2⟩ := I.list hq2
    obtain ⟨u1, hu1, ru1⟩ := rv1.get hx
    obtain ⟨u2, hu2, ru2⟩ := rv2.get hy
    obtain ⟨a1, a2, ⟨a, b', a3⟩, a4, a5⟩ := st
    refine wpAny_pyNext_zip_item D a1 a2 a3 a4 a5 p1.isList p2.isList (x := u1) (y := u2) (by simpa using hu1) (by simpa using hu2) fun h' b1 b2 b3 b4 b5 b6 b7 => ?_
    refine ⟨_, rfl, wpAny_letOwnedTupleGo_zip (s := { s with heap := h' }) b1 fun h2 c1 c2 => ?_⟩
    have hT : H s.heap.objs.size = none := I.hok.fresh (Nat.le_refl _)
    have I1 : Inv X pins σ (upd H s.heap.objs.size (.tup [x, y])) { s with heap := s.heap.push { cls := .type "tuple", data := .seq #[u1, u2] }, toks := s.toks } :=
      I.laid (t' := s.toks) (fun b u e => Heap.get?_push_of_some _ e) (Nat.le_refl _) ⟨by show 2 ≤ sizeLine; decide, [u1, u2], .cons ru1 (.cons ru2 .nil), ⟨_, Heap.get?_push_size _ rfl, rfl, _, rfl⟩⟩
    have lt : ∀ {c o}, s.heap.get? c = some o → c ≠ s.heap.objs.size := fun e => Nat.ne_of_lt (Heap.lt_size e)
    have ne : ∀ b ∈ [z, TI, TO, i1, i2], b ≠ s.heap.objs.size := fun b hb => by
      obtain ⟨o1, e1, _⟩ := a4
      obtain ⟨o2, e2, _⟩ := a5
      simp only [List.mem_cons, List.not_mem_nil, or_false] at hb
      rcases hb with rfl | rfl | rfl | rfl | rfl
      · exact lt a1
      · exact lt a2
      · exact lt a3
      · exact lt e1
      · exact lt e2
    have f1 : ∀ b ∈ [z, TI, TO, i1, i2], upd H s.heap.objs.size (.tup [x, y]) b = none := fun b hb => by rw [upd_ne (ne b hb)]; exact (hf b hb).1
    have hTz : s.heap.objs.size ≠ z := (ne z (by simp)).symm
    have I2 := I1.turnedL (h' := h2) (t' := s.toks) (fp := [z, TI, TO, i1, i2]) (fun b o hb e => by
      simp only [List.mem_cons, List.not_mem_nil, or_false, not_or] at hb
      obtain ⟨n1, n2, n3, n4, n5⟩ := hb
      rcases get_push rfl e with e | ⟨rfl, rfl⟩
      · exact c2.extBut _ _ n1 (b7 b o n1 n3 n4 n5 e)
      · exact c2.extBut _ _ hTz b5) fun b hb => ⟨f1 b hb, (hf b hb).2⟩
    refine ⟨.ref s.heap.objs.size, _, I2, rfl, ⟨_, x, y, fun xs' h => by rw [I.list_inj h hq1]; exact hx, fun ys' h => by rw [I.list_inj h hq2]; exact hy, hT, rfl, rfl⟩, ?_, f1⟩
    exact ⟨c1, c2.extBut _ _ D.TIz (b7 _ _ D.TIz D.TITO D.TIi1 D.TIi2 a2), ⟨_, _, c2.extBut _ _ D.TOz b2⟩, b3.extBut c2.extBut D.i1z, b4.extBut c2.extBut D.i2z⟩
  done := by
    intro X hP hw hK hc i pins s σ H E I hf st hg
    subst hP hw hK
    obtain ⟨xs, ys, hq1, hq2, hend⟩ := hg
    obtain ⟨its1, rv1, p1, hz1⟩ := I.list hq1
    obtain ⟨its2, rv2, p2, hz2⟩ := I.list hq2
    have hl1 := rv1.length
    have hl2 := rv2.length
    obtain ⟨a1, a2, ⟨a, b', a3⟩, a4, a5⟩ := st
    refine wpAny_pyNext_zip_end (I.ok.hd hc) D a1 a2 a3 a4 a5 p1.isList p2.isList (by simp; omega) fun h' hk => ⟨rfl, I.turnedL (t' := s.toks) (fp := [z, TI, TO, i1, i2]) (fun b o hb e => ?_) hf⟩
    simp only [List.mem_cons, List.not_mem_nil, or_false, not_or] at hb
    exact hk b o hb.1 hb.2.2.1 hb.2.2.2.1 hb.2.2.2.2 e
  self := fun _ _ _ _ _ st h => wpAny_pyIter_zip st.1 h
theorem zip_apart (n l1 l2 : Nat) (h1 : l1 < n) (h2 : l2 < n) : ZipApart (n + 4) (n + 2) (n + 3) n (n + 1) l1 l2 := by
  constructor <;> exact fun z => by
    have z' := congrArg (fun x : Nat => x) z
    omega
section
variable {X : Cx} {tg : Expr}
def iZip (K : PySem.W.Frag) (ta : TA) : TI := fun σ H R => ta σ H fun vs H1 => ∃ l1 l2, vs = [.ref l1, .ref l2] ∧ (∃ xs, SqL K H1 l1 xs) ∧ (∃ ys, SqL K H1 l2 ys) ∧ R (Itz K l1 l2) H1
theorem pi_zip {a b : Expr} {ta : TA} {p pos pos' : Pos} {elts : List Expr} {x1} (hg : Gl X "zip") (hm : X.mg "zip" = none) (ha : PA X [a, b] ta) (hs : starEach [a, b] X.env = [(false, eval a X.env), (false, eval b X.env)] := by rfl) (hs2 : starEach [b] X.env = [(false, eval b X.env)] := by rfl) :
    PI X (.Tuple elts x1 pos') (.Call (.Name "zip" p) [a, b] [] pos) (iZip X.K ta) := by
  intro pins s σ H R I h
  refine Call_ (ld_blt I hg hm bt_zip (PyProof.Rows.callWith_type1 (thn (ha pos pins s σ H _ I h) fun us s1 ⟨vs, H1, I1, r1, q1⟩ => ?_) (by rw [hs, hs2]) (by rw [hs2]; rfl)))
  obtain ⟨l1, l2, e, ⟨xs, q1⟩, ⟨ys, q2⟩, q⟩ := q1
  subst e
  cases r1 with
  | cons r rr =>
    cases rr with
    | cons r' rr =>
      cases rr
      cases r
      cases r'
      obtain ⟨its1, rv1, p1, hz1⟩ := I1.list q1
      obtain ⟨its2, rv2, p2, hz2⟩ := I1.list q2
      have hl1 : l1 < s1.heap.objs.size := by obtain ⟨o, n, e, _⟩ := p1; exact Heap.lt_size e
      have hl2 : l2 < s1.heap.objs.size := by obtain ⟨o, n, e, _⟩ := p2; exact Heap.lt_size e
      refine call_zip_2 p1.isList p2.isList fun h' a1 a2 a3 a4 a5 a6 a7 => ?_
      have I2 : Inv X pins σ H1 { s1 with heap := h' } := I1.kept (t' := s1.toks) a7
      refine wpAny_pyIter_zip (s := { s1 with heap := h' }) a1 ?_
      refine ⟨s1.heap.objs.size + 4, [s1.heap.objs.size + 4, s1.heap.objs.size + 2, s1.heap.objs.size + 3, s1.heap.objs.size, s1.heap.objs.size + 1], _, _, H1, rfl, I2, turn_zip (l1 := l1) (l2 := l2) ?_, ⟨a1, a2, ⟨_, _, a3⟩, a4, a5⟩, fun b hb => ?_, q⟩
      · exact zip_apart _ l1 l2 hl1 hl2
      · have hb' : s1.heap.objs.size ≤ b := by
          simp only [List.mem_cons, List.not_mem_nil, or_false] at hb
          rcases hb with rfl | rfl | rfl | rfl | rfl
          · exact Nat.le_add_right _ _
          · exact Nat.le_add_right _ _
          · exact Nat.le_add_right _ _
          · exact Nat.le_refl _
          · exact Nat.le_add_right _ _
        exact I1.fpOk hb' (I1.hok.fresh hb')
end
theorem k_pi_zip {X : Cx} {K : PySem.W.Frag} {a b : Expr} {ta : TA} {p pos pos' : Pos} {elts : List Expr} {x1} (h : X.K = K) (hg : Gl X "zip") (hm : X.mg "zip" = none) (ha : PA X [a, b] ta) (hs : starEach [a, b] X.env = [(false, eval a X.env), (false, eval b X.env)] := by rfl) (hs2 : starEach [b] X.env = [(false, eval b X.env)] := by rfl) :
    PI X (.Tuple elts x1 pos') (.Call (.Name "zip" p) [a, b] [] pos) (iZip K ta) := h ▸ pi_zip hg hm ha hs hs2
def izK (K : PySem.W.Frag) (R : It → Hp → Prop) (vs : List V) (H1 : Hp) : Prop := ∃ l1 l2, vs = [.ref l1, .ref l2] ∧ (∃ xs, SqL K H1 l1 xs) ∧ (∃ ys, SqL K H1 l2 ys) ∧ R (Itz K l1 l2) H1
theorem rd_izip {K : PySem.W.Frag} {σ : St} {H : Hp} {R : It → Hp → Prop} {ta : TA} (h : ta σ H (izK K R)) : iZip K ta σ H R := h
theorem izK_of {K : PySem.W.Frag} {H : Hp} {R : It → Hp → Prop} {l1 l2 : Addr} {xs ys : List V} (h1 : SqL K H l1 xs) (h2 : SqL K H l2 ys) (q : R (Itz K l1 l2) H) : izK K R [.ref l1, .ref l2] H := ⟨l1, l2, rfl, ⟨xs, h1⟩, ⟨ys, h2⟩, q⟩
theorem for_zip {K : PySem.W.Frag} {l1 l2 : Addr} {xs ys : List V} {g : TG} {tb : TS} {D : Ends} {σ : St} {H : Hp} (hxy : xs.length = ys.length) (Pv : Nat → St → Hp → Prop) (h0 : Pv 0 σ H) (hl : ∀ i σ H, i ≤ xs.length → Pv i σ H → SqL K H l1 xs ∧ SqL K H l2 ys)
    (hs : ∀ i x y T σ H, xs[i]? = some x → ys[i]? = some y → H T = none → Pv i σ H → g (.ref T) σ (upd H T (.tup [x, y])) fun σ2 H2 => tb { D with nx := Pv (i + 1), ct := Pv (i + 1), bk := D.nx } σ2 H2) (hd : ∀ σ H, Pv xs.length σ H → D.nx σ H) :
    ∃ W : Nat → Nat → St → Hp → Prop, (∃ m, W 0 m σ H) ∧ ∀ i m σ H, W i m σ H →
      ((Itz K l1 l2).stop i H ∧ D.nx σ H) ∨ ((Itz K l1 l2).go i H ∧ ∃ N : St → Hp → Prop, (∀ σ' H', N σ' H' → ∃ m', m' < m ∧ W (i + 1) m' σ' H') ∧ ∀ x H', (Itz K l1 l2).yld i H x H' → g x σ H' fun σ2 H2 => tb { D with nx := N, ct := N, bk := D.nx } σ2 H2) := by
  refine ⟨fun i m σ H => m = xs.length - i ∧ i ≤ xs.length ∧ Pv i σ H, ⟨xs.length, by simp, Nat.zero_le _, h0⟩, ?_⟩
  rintro i m σ H ⟨rfl, hi, p⟩
  obtain ⟨q1, q2⟩ := hl i σ H hi p
  by_cases hlt : i < xs.length
  · refine .inr ⟨⟨xs, ys, xs[i], ys[i], q1, q2, by simp [hlt], by simp [hxy ▸ hlt]⟩, Pv (i + 1), fun σ' H' p' => ⟨xs.length - (i + 1), by omega, rfl, hlt, p'⟩, fun x H' y => ?_⟩
    obtain ⟨T, x, y, e1, e2, e3, rfl, rfl⟩ := y
    exact hs i x y T σ _ (e1 xs q1) (e2 ys q2) e3 p
  · have e : i = xs.length := by omega
    subst e
    exact .inl ⟨⟨xs, ys, q1, q2, .inl (Nat.le_refl _)⟩, hd σ H p⟩
end L2

end
section
set_option Elab.async false
set_option linter.all false
set_option maxRecDepth 100000
set_option maxHeartbeats 4000000
namespace L2
open PySem PySem.Spec PyProof.Rows
/-! ### == and != of two programs that are alike -/
section
variable {X : Cx} {pins : List (Addr × Obj)} {σ : St} {H : Hp} {s : Shared}
end
section
variable {X : Cx}
end
/-! ### two programs -/
end L2

end
section
set_option Elab.async false
set_option linter.all false
set_option maxRecDepth 100000
set_option maxHeartbeats 4000000
namespace L2
open PySem
/-! ### a hand that goes stays one -/
section
variable {P : List Df} {h : HS}
theorem FrOk.later {g g' : Int} {fr : Fr} (a : FrOk P g fr) (h : g ≤ g') : FrOk P g' fr :=
  ⟨a.ex, fun x hx => Nat.le_trans (a.small x hx) (Nat.mul_le_mul_left _ (Nat.pow_le_pow_right (by decide) (by omega)))⟩
theorem bnd_succ {g : Int} (g0 : 0 ≤ g) : 10 ^ 60 * 100 ^ (g + 1).toNat = 100 * (10 ^ 60 * 100 ^ g.toNat) := by
  rw [show (g + 1).toNat = g.toNat + 1 by omega, Nat.pow_succ]
  omega
theorem bnd_one {g : Int} : 10 ^ 60 ≤ 10 ^ 60 * 100 ^ g.toNat := Nat.le_mul_of_pos_right _ (Nat.pow_pos (by decide))
theorem box_small {bx : List Int} {B : Nat} (h : ∀ x ∈ bx, x.natAbs ≤ B) (p : Int) : (boxAt bx p).natAbs ≤ B := by
  unfold boxAt
  rw [List.getD_eq_getElem?_getD]
  cases e : bx[p.toNat]? with
  | none => simp
  | some v => exact h v (List.mem_of_getElem? e)
theorem set_small {bx : List Int} {B : Nat} {p v : Int} (h : ∀ x ∈ bx, x.natAbs ≤ B) (hv : v.natAbs ≤ B) : ∀ x ∈ setAt bx p v, x.natAbs ≤ B := fun x hx => by
  rcases List.mem_or_eq_of_mem_set hx with q | q
  · exact h x q
  · rw [q]; exact hv
theorem set_len {bx : List Int} {p v : Int} : (setAt bx p v).length = bx.length := by unfold setAt; simp
theorem goEq {fs : List Fr} {fr : Fr} {r : Rw} (e0 : h.fin = none) (e1 : h.frames = fs ++ [fr]) (e2 : rowAt P fr.1 fr.2.1 = some r) :
    h.go P = match endAt h fr r with
      | some e => { h with fin := some e }
      | none => { h with frames := (eff P fs fr h.left h.news r).1, left := (eff P fs fr h.left h.news r).2.1, news := (eff P fs fr h.left h.news r).2.2, gone := h.gone + 1 } := by
  unfold HS.go
  rw [e0, e1]
  simp only [List.getLast?_append, List.getLast?_singleton, Option.some_or, e2, List.dropLast_concat]
  all_goals (cases endAt h fr r <;> rfl)
/-- a row that goes on goes to a row -/
theorem next_in {d : Df} (D : DfOk P d) {at' : Int} {r : Rw} (a0 : 0 ≤ at') (er : d.rows[at'.toNat]? = some r) (nl : ¬ r.last) : In0 (at' + 1) d.rows.length := by
  have hlt := (List.getElem?_eq_some_iff.mp er).1
  refine ⟨by omega, ?_⟩
  obtain ⟨r', e', l'⟩ := D.last
  by_cases h : at'.toNat = d.rows.length - 1
  · rw [h] at er
    rw [er] at e'
    cases e'
    exact absurd l' nl
  · omega
/-- what holds of a row of its own frame -/
structure OwnR (d : Df) (bx left news : List Int) (B : Nat) (n : Int) (t : List Int × List Int × List Int) : Prop where
  nx : In0 n d.rows.length
  ln : t.1.length = bx.length
  sm : ∀ x ∈ t.1, x.natAbs ≤ 100 * B
  lf : ∀ x ∈ t.2.1, x ∈ left
  sz : t.2.1.length + t.2.2.length ≤ left.length + news.length + 1
theorem own_row {d : Df} (D : DfOk P d) {at' : Int} {r : Rw} {bx left news : List Int} {B : Nat} (a0 : 0 ≤ at') (er : d.rows[at'.toNat]? = some r) (hB : 10 ^ 60 ≤ B) (hb : ∀ x ∈ bx, x.natAbs ≤ B) (hl : ∀ x ∈ left, x.natAbs ≤ 10 ^ 60)
    (nb : ∀ p, r ≠ .back p) (nc : ∀ p f qs, r ≠ .call p f qs) : OwnR d bx left news B (r.next bx at') (r.own3 bx left news) := by
  have ok := D.rows r (List.mem_of_getElem? er)
  have hb2 : ∀ x ∈ bx, x.natAbs ≤ 100 * B := fun x hx => by have := hb x hx; omega
  have same : ∀ n, In0 n d.rows.length → OwnR d bx left news B n (bx, left, news) := fun n hn => ⟨hn, rfl, hb2, fun _ h => h, by simp⟩
  have set1 : ∀ n p v, In0 n d.rows.length → v.natAbs ≤ 100 * B → OwnR d bx left news B n (setAt bx p v, left, news) := fun n p v hn hv => ⟨hn, set_len, set_small hb2 hv, fun _ h => h, by simp⟩
  cases r with
  | put p n => exact set1 _ p n (next_in D a0 er id) (by have := ok.2; omega)
  | copy p q => exact set1 _ p _ (next_in D a0 er id) (by have := box_small hb q; omega)
  | plus p q r => exact set1 _ p _ (next_in D a0 er id) (by have := box_small hb q; have := box_small hb r; omega)
  | less p q r => exact set1 _ p _ (next_in D a0 er id) (by have := box_small hb q; have := box_small hb r; omega)
  | times p q n =>
    refine set1 _ p _ (next_in D a0 er id) ?_
    have h1 := box_small hb q
    have h2 := ok.2.2
    rw [Int.natAbs_mul]
    calc _ ≤ B * 99 := Nat.mul_le_mul h1 h2
      _ ≤ 100 * B := by omega
  | take p =>
    refine ⟨next_in D a0 er id, set_len, set_small hb2 ?_, fun x hx => List.mem_of_mem_tail hx, ?_⟩
    · cases left with
      | nil => simp
      | cons x l => have := hl x List.mem_cons_self; simp; omega
    · simp only [Rw.own3, List.length_tail]; omega
  | tell p => exact ⟨next_in D a0 er id, rfl, hb2, fun _ h => h, by simp [Rw.own3]; omega⟩
  | jump t => exact same _ ok
  | zero p t =>
    refine same _ ?_
    simp only [Rw.next]
    split
    · exact ok.2
    · exact next_in D a0 er id
  | below p t =>
    refine same _ ?_
    simp only [Rw.next]
    split
    · exact ok.2
    · exact next_in D a0 er id
  | call p f qs => exact absurd rfl (nc p f qs)
  | back p => exact absurd rfl (nb p)
theorem fr_new (PO : PgOk P) {g gn : Int} {d : Df} {ns : List Int} (g0 : 0 ≤ g) (ed : P[g.toNat]? = some d) (hn : (ns.length : Int) ≤ d.boxes) (hs : ∀ x ∈ ns, x.natAbs ≤ 10 ^ 60 * 100 ^ gn.toNat) : FrOk P gn (newFr P g ns) := by
  have D := PO.2.2 d (List.mem_of_getElem? ed)
  have hb : boxesOf P g = d.boxes := by unfold boxesOf; rw [ed]; rfl
  obtain ⟨r', e', _⟩ := D.last
  have hlt := (List.getElem?_eq_some_iff.mp e').1
  have b := D.b
  refine ⟨⟨d, g0, ed, ⟨Int.le_refl _, by show (0 : Int) < _; omega⟩, ?_⟩, fun x hx => ?_⟩
  · simp only [newFr, hb, List.length_append, List.length_replicate]
    omega
  · rcases List.mem_append.mp hx with h | h
    · exact hs x h
    · rw [List.eq_of_mem_replicate h]; simp
theorem HsOk.go (PO : PgOk P) (a : HsOk P h) : HsOk P (h.go P) := by
  cases hf : h.fin with
  | some e =>
    have e2 : h.go P = h := by unfold HS.go; rw [hf]
    rw [e2]; exact a
  | none =>
    obtain ⟨fs, fr, hfr⟩ : ∃ fs fr, h.frames = fs ++ [fr] := by
      rcases List.eq_nil_or_concat h.frames with e | ⟨l, x, e⟩
      · exact absurd e a.ne
      · exact ⟨l, x, by simpa using e⟩
    have FO := a.fr fr (by rw [hfr]; simp)
    obtain ⟨d, f0, ed, hat, hbx⟩ := FO.ex
    have D := PO.2.2 d (List.mem_of_getElem? ed)
    have hlt : fr.2.1.toNat < d.rows.length := by have := hat.1; have := hat.2; omega
    have er : d.rows[fr.2.1.toNat]? = some d.rows[fr.2.1.toNat] := List.getElem?_eq_getElem hlt
    generalize d.rows[fr.2.1.toNat] = r at er
    have hra : rowAt P fr.1 fr.2.1 = some r := by unfold rowAt; rw [ed]; exact er
    have ok := D.rows r (List.mem_of_getElem? er)
    rw [goEq hf hfr hra]
    cases he : endAt h fr r with
    | some e => exact show HsOk P { h with fin := some e } from ⟨a.ne, a.few, a.fr, a.wait, a.left, a.gone, a.sz⟩
    | none =>
      have few := a.few
      rw [hfr] at few
      have g0 := a.gone
      have gs : (h.gone + 1).toNat = h.gone.toNat + 1 := by omega
      have later : ∀ x ∈ fs, FrOk P (h.gone + 1) x := fun x hx => (a.fr x (by rw [hfr]; simp [hx])).later (by omega)
      have bs := bnd_succ g0
      have wt : ∀ (i : Nat) (x : Fr), fs[i]? = some x → ∃ p f qs, rowAt P x.1 x.2.1 = some (.call p f qs) := fun i x e => a.wait i x (by rw [hfr, List.getElem?_append_left (List.getElem?_eq_some_iff.mp e).1]; exact e) (by rw [hfr]; have := (List.getElem?_eq_some_iff.mp e).1; simp; omega)
      have wt2 : ∀ (y : Fr) i x, (fs ++ [y])[i]? = some x → i + 1 < (fs ++ [y]).length → ∃ p f qs, rowAt P x.1 x.2.1 = some (.call p f qs) := fun y i x e hi => by
        simp at hi
        rw [List.getElem?_append_left hi] at e
        exact wt i x e
      by_cases hc : ∃ p f qs, r = .call p f qs
      · obtain ⟨p, g, qs, rfl⟩ := hc
        obtain ⟨_, ⟨d2, q0, ed2, hq⟩, _⟩ := ok
        have D2 := PO.2.2 d2 (List.mem_of_getElem? ed2)
        have hn : ¬ 20 ≤ h.frames.length := fun z => by simp [endAt, z] at he
        rw [hfr] at hn
        refine ⟨by simp [eff], by simp [eff] at hn ⊢; omega, fun x hx => ?_, fun i x e hi => ?_, a.left, by show 0 ≤ h.gone + 1; omega, by have := a.sz; show _ ≤ 100000 + (h.gone + 1).toNat; simp only [eff]; omega⟩
        · simp only [eff, List.mem_append, List.mem_cons, List.not_mem_nil, or_false] at hx
          rcases hx with hx | rfl | rfl
          · exact later x hx
          · exact FO.later (by show h.gone ≤ h.gone + 1; omega)
          · refine fr_new PO q0 ed2 (by have := D2.t; simp; omega) fun x hx => ?_
            obtain ⟨q, _, rfl⟩ := List.mem_map.mp hx
            have := box_small FO.small q
            show _ ≤ 10 ^ 60 * 100 ^ (h.gone + 1).toNat
            rw [bs]
            omega
        · simp only [eff] at e hi
          have e' : ((fs ++ [fr]) ++ [newFr P g (qs.map (boxAt fr.2.2))])[i]? = some x := by simpa using e
          rw [List.getElem?_append_left (by simp at hi ⊢; omega)] at e'
          rcases Nat.lt_or_ge i fs.length with hlt | hge
          · rw [List.getElem?_append_left hlt] at e'
            exact wt i x e'
          · have : i = fs.length := by simp at hi; omega
            subst this
            rw [List.getElem?_concat_length] at e'
            cases e'
            exact ⟨p, g, qs, hra⟩
      · by_cases hb : ∃ p, r = .back p
        · obtain ⟨p, rfl⟩ := hb
          have hn : h.frames.length ≠ 1 := fun z => by simp [endAt, z] at he
          rw [hfr] at hn
          obtain ⟨fs', w, hw⟩ : ∃ fs' w, fs = fs' ++ [w] := by
            rcases List.eq_nil_or_concat fs with e | ⟨l, x, e⟩
            · subst e; simp at hn
            · exact ⟨l, x, by simpa using e⟩
          subst hw
          obtain ⟨p2, g, qs, hrw⟩ := wt fs'.length w (by simp)
          have FW := a.fr w (by rw [hfr]; simp)
          obtain ⟨dw, w0, ew, wat, wbx⟩ := FW.ex
          have erw : dw.rows[w.2.1.toNat]? = some (.call p2 g qs) := by
            unfold rowAt at hrw; rw [ew] at hrw; exact hrw
          have DW := PO.2.2 dw (List.mem_of_getElem? ew)
          have heff : eff P (fs' ++ [w]) fr h.left h.news (.back p) = (fs' ++ [(w.1, w.2.1 + 1, setAt w.2.2 p2 (boxAt fr.2.2 p))], h.left, h.news) := by
            simp only [eff, List.getLast?_append, List.getLast?_singleton, Option.some_or, hrw, List.dropLast_concat]
          rw [heff]
          dsimp only
          refine ⟨by simp, by simp at few ⊢; omega, fun x hx => ?_, fun i x e hi => ?_, a.left, by show 0 ≤ h.gone + 1; omega, by have := a.sz; show h.left.length + h.news.length ≤ 100000 + (h.gone + 1).toNat; omega⟩
          · rcases List.mem_append.mp hx with hx | hx
            · exact later x (by simp [hx])
            · rw [List.mem_singleton.mp hx]
              have h1 := FO.later (g' := h.gone + 1) (by omega)
              have h2 := FW.later (g' := h.gone + 1) (by omega)
              exact ⟨⟨dw, w0, ew, next_in DW wat.1 erw id, by show ((setAt w.2.2 p2 _).length : Int) = _; rw [set_len]; exact wbx⟩, set_small h2.small (box_small h1.small p)⟩
          · simp at hi
            rw [List.getElem?_append_left hi] at e
            exact wt i x (by rw [List.getElem?_append_left hi]; exact e)
        · have hO := own_row (left := h.left) (news := h.news) D hat.1 er bnd_one FO.small a.left (fun p z => hb ⟨p, z⟩) fun p f qs z => hc ⟨p, f, qs, z⟩
          have heff : eff P fs fr h.left h.news r = (fs ++ [(fr.1, r.next fr.2.2 fr.2.1, (r.own3 fr.2.2 h.left h.news).1)], (r.own3 fr.2.2 h.left h.news).2.1, (r.own3 fr.2.2 h.left h.news).2.2) := by
            cases r <;> first | rfl | exact absurd ⟨_, rfl⟩ hb | exact absurd ⟨_, _, _, rfl⟩ hc
          rw [heff]
          dsimp only
          refine ⟨by simp, by simpa using few, fun x hx => ?_, fun i x e hi => wt2 _ i x e hi, fun x hx => a.left x (hO.lf x hx), by show 0 ≤ h.gone + 1; omega, ?_⟩
          · rcases List.mem_append.mp hx with hx | hx
            · exact later x hx
            · rw [List.mem_singleton.mp hx]
              exact ⟨⟨d, f0, ed, hO.nx, by show (((r.own3 fr.2.2 h.left h.news).1).length : Int) = _; rw [hO.ln]; exact hbx⟩, fun y hy => by
                show _ ≤ 10 ^ 60 * 100 ^ (h.gone + 1).toNat
                rw [bs]; exact hO.sm y hy⟩
          · have h1 := hO.sz
            have h2 := a.sz
            show _ ≤ 100000 + (h.gone + 1).toNat
            dsimp only
            omega
end
end L2

end
section
set_option Elab.async false
set_option linter.all false
set_option maxRecDepth 100000
set_option maxHeartbeats 4000000
namespace L2
open PySem PySem.Spec PyProof.Rows
section
variable {X : Cx} {pos : Pos}
end
end L2

end
section
set_option Elab.async false
set_option linter.all false
set_option maxRecDepth 100000
set_option maxHeartbeats 4000000
namespace L2
open PySem PySem.Spec PyProof.Rows
section
variable {X : Cx} {pos : Pos} {es : List Expr} {te : TE} {t : TA}
theorem pa_consL {l : List Expr} (ha : PE X (.List l pos) te) (hr : PA X es t) : PA X (.List l pos :: es) (tCons te t) := pa_cons ha hr rfl
theorem pa_consT {l : List Expr} {k : Nat} (ha : PE X (.Tuple l k pos) te) (hr : PA X es t) : PA X (.Tuple l k pos :: es) (tCons te t) := pa_cons ha hr rfl
theorem pa_consB {a b : Expr} {op : Operator} (ha : PE X (.BinOp a op b pos) te) (hr : PA X es t) : PA X (.BinOp a op b pos :: es) (tCons te t) := pa_cons ha hr rfl
theorem pa_consC {f : Expr} {as : List Expr} {ks} (ha : PE X (.Call f as ks pos) te) (hr : PA X es t) : PA X (.Call f as ks pos :: es) (tCons te t) := pa_cons ha hr rfl
theorem pa_consM {e : Expr} {gs} {sc} (ha : PE X (.ListComp e gs sc pos) te) (hr : PA X es t) : PA X (.ListComp e gs sc pos :: es) (tCons te t) := pa_cons ha hr rfl
theorem pa_consS {a b : Expr} (ha : PE X (.Subscript a b pos) te) (hr : PA X es t) : PA X (.Subscript a b pos :: es) (tCons te t) := pa_cons ha hr rfl
theorem pa_consN {x : Str} (ha : PE X (.Name x pos) te) (hr : PA X es t) : PA X (.Name x pos :: es) (tCons te t) := pa_cons ha hr rfl
theorem pa_consK {c : Const} {k : Nat} (ha : PE X (.Constant c k pos) te) (hr : PA X es t) : PA X (.Constant c k pos :: es) (tCons te t) := pa_cons ha hr rfl
theorem pa_consA {a : Expr} {x : Str} (ha : PE X (.Attribute a x pos) te) (hr : PA X es t) : PA X (.Attribute a x pos :: es) (tCons te t) := pa_cons ha hr rfl
theorem pa_consQ {a : Expr} {os : List CmpOp} {cs : List Expr} (ha : PE X (.Compare a os cs pos) te) (hr : PA X es t) : PA X (.Compare a os cs pos :: es) (tCons te t) := pa_cons ha hr rfl
theorem ps_setL {l : List Expr} {p : Pos} {i : Nat} {x : Str} {pos' : Pos} (hN : X.N.Nodup) (hi : X.N[i]? = some x) (hx : Loc X.env.scope x) (he : PE X (.List l p) te) (hf : X.fn x = true ∨ X.env.scope.names.lookup x = some .local := by first | exact .inl rfl | exact .inr rfl | assumption) : PS X (.Assign [.Name x pos'] (.List l p) pos) (tAsg te (gName i)) := ps_set hN hi hx he rfl hf
theorem ps_setT {l : List Expr} {k : Nat} {p : Pos} {i : Nat} {x : Str} {pos' : Pos} (hN : X.N.Nodup) (hi : X.N[i]? = some x) (hx : Loc X.env.scope x) (he : PE X (.Tuple l k p) te) (hf : X.fn x = true ∨ X.env.scope.names.lookup x = some .local := by first | exact .inl rfl | exact .inr rfl | assumption) : PS X (.Assign [.Name x pos'] (.Tuple l k p) pos) (tAsg te (gName i)) := ps_set hN hi hx he rfl hf
theorem ps_setB {a b : Expr} {op : Operator} {p : Pos} {i : Nat} {x : Str} {pos' : Pos} (hN : X.N.Nodup) (hi : X.N[i]? = some x) (hx : Loc X.env.scope x) (he : PE X (.BinOp a op b p) te) (hf : X.fn x = true ∨ X.env.scope.names.lookup x = some .local := by first | exact .inl rfl | exact .inr rfl | assumption) : PS X (.Assign [.Name x pos'] (.BinOp a op b p) pos) (tAsg te (gName i)) := ps_set hN hi hx he rfl hf
theorem ps_setC {f : Expr} {as : List Expr} {ks} {p : Pos} {i : Nat} {x : Str} {pos' : Pos} (hN : X.N.Nodup) (hi : X.N[i]? = some x) (hx : Loc X.env.scope x) (he : PE X (.Call f as ks p) te) (hf : X.fn x = true ∨ X.env.scope.names.lookup x = some .local := by first | exact .inl rfl | exact .inr rfl | assumption) : PS X (.Assign [.Name x pos'] (.Call f as ks p) pos) (tAsg te (gName i)) := ps_set hN hi hx he rfl hf
theorem ps_setS {a b : Expr} {p : Pos} {i : Nat} {x : Str} {pos' : Pos} (hN : X.N.Nodup) (hi : X.N[i]? = some x) (hx : Loc X.env.scope x) (he : PE X (.Subscript a b p) te) (hf : X.fn x = true ∨ X.env.scope.names.lookup x = some .local := by first | exact .inl rfl | exact .inr rfl | assumption) : PS X (.Assign [.Name x pos'] (.Subscript a b p) pos) (tAsg te (gName i)) := ps_set hN hi hx he rfl hf
end
end L2

end
section
set_option Elab.async false
set_option linter.all false
set_option maxRecDepth 100000
set_option maxHeartbeats 4000000

namespace My
open PySem L2
def top (i : Nat) : Stmt := PySem.Challenge.pw_midlanes_k41_words_and_frames.main.body.getD i (.Pass ⟨0, 0, 0, 0⟩)
abbrev s_worth : Stmt := top 1
abbrev s_row_of : Stmt := top 4
abbrev s_goes_to_row : Stmt := top 5
abbrev s_new_frame : Stmt := top 9
abbrev s_reckoned : Stmt := top 10
abbrev s_row_behind : Stmt := top 11
abbrev s_words_in : Stmt := top 13
abbrev s_frames_of : Stmt := top 14
abbrev s__law_bag : Stmt := top 16
abbrev s__law_draw : Stmt := top 17
abbrev s__law_number : Stmt := top 18
abbrev s__law_row : Stmt := top 19
abbrev s__law_def : Stmt := top 20
abbrev s__law_program : Stmt := top 21
abbrev s__law_numbers : Stmt := top 22
abbrev s__law_whole : Stmt := top 23
abbrev s__law_words : Stmt := top 24
abbrev s__law_frames : Stmt := top 25
abbrev s__law_fields : Stmt := top 26
abbrev s__law_great : Stmt := top 27
abbrev s__law_form : Stmt := top 28
abbrev s__law_paper : Stmt := top 29
abbrev s__law_due : Stmt := top 30
abbrev s_law : Stmt := top 31
abbrev s_Hand___init__ : Stmt := inClass (top 8) 0
abbrev s_Hand_go : Stmt := inClass (top 8) 1
abbrev s_Hand_end_at : Stmt := inClass (top 8) 2
abbrev s_Hand_do_row : Stmt := inClass (top 8) 3
abbrev s_Hand_give_back : Stmt := inClass (top 8) 4
abbrev s_Hand_do_own : Stmt := inClass (top 8) 5

structure Blt (mg : Str → Option Value) : Prop where
  b_abs : mg "abs" = none
  b_bool : mg "bool" = none
  b_int : mg "int" = none
  b_isinstance : mg "isinstance" = none
  b_len : mg "len" = none
  b_list : mg "list" = none
  b_min : mg "min" = none
  b_range : mg "range" = none
  b_sum : mg "sum" = none
  b_tuple : mg "tuple" = none
  b_zip : mg "zip" = none
structure Glb (K : PySem.W.Frag) (mg : Str → Option Value) : Prop where
  c_MOST_FRAMES : ∃ t, mg "MOST_FRAMES" = some (.int 20 t)
  c_RECKONINGS : IsCT K mg "RECKONINGS" [V.str "put", V.str "copy", V.str "plus", V.str "less", V.str "times"]
structure CHand (K : PySem.W.Frag) (C : Addr) : Prop where
  cl : Cls K C
  n_program : NoAttr K C "program"
  n_frames : NoAttr K C "frames"
  n_news : NoAttr K C "news"
  n_gone : NoAttr K C "gone"
  n_left : NoAttr K C "left"
  n_end : NoAttr K C "end"

local macro_rules | `(tactic| walk_at "rd1") => `(tactic| (first | ((with_reducible refine' rd_var ?e ?_); (case e => exact rfl)) | with_reducible refine rd_c ?_ | with_reducible refine rd_op ?_ | with_reducible refine rd_un ?_ | with_reducible refine rd_seq ?_ | with_reducible refine rd_asg ?_ | with_reducible refine rd_gname ?_ | with_reducible refine rd_ret ?_ | with_reducible refine rd_drop ?_ | with_reducible refine rd_next ?_ | with_reducible refine rd_if ?_ | with_reducible refine rd_test ?_ | with_reducible refine rd_tb ?_ | with_reducible refine rd_and ?_ | with_reducible refine rd_or ?_ | with_reducible refine rd_not ?_ | with_reducible refine rd_true ?_ | with_reducible refine rd_andV ?_ | with_reducible refine rd_orV ?_ | with_reducible refine rd_notV ?_ | with_reducible refine rd_ifE ?_ | with_reducible refine rd_chain ?_ | with_reducible refine rd_nil ?_ | with_reducible refine rd_cons ?_ | with_reducible refine rd_cb ?_ | with_reducible refine rd_call ?_ | with_reducible refine rd_I0 ?_ | with_reducible refine rd_U ?_ | with_reducible refine rd_eqI ?_ | with_reducible refine rd_neI ?_ | with_reducible refine rd_eqS ?_ | with_reducible refine rd_neS ?_ | with_reducible refine rd_eqB ?_ | with_reducible refine rd_neB ?_ | with_reducible refine rd_bl ?_ | with_reducible refine rd_int ?_ | with_reducible refine rd_tup ?_ | with_reducible refine rd_lst ?_ | with_reducible refine rd_gsub ?_ | with_reducible refine rd_slice ?_ | with_reducible refine rd_nopart ?_ | with_reducible refine rd_part ?_ | with_reducible refine rd_bm ?_ | with_reducible refine rd_bm0 ?_ | with_reducible refine rd_comp ?_ | with_reducible refine rd_itup ?_ | with_reducible refine rd_ilist ?_ | with_reducible refine rd_irng ?_ | with_reducible refine rd_gcons ?_ | with_reducible refine rd_gnil ?_ | with_reducible refine rd_for ?_ | with_reducible refine rd_abs ?_ | with_reducible refine rd_max ?_ | with_reducible refine rd_min ?_ | with_reducible refine rd_intB ?_ | with_reducible refine rd_dput ?_ | with_reducible refine rd_dget2 ?_ | with_reducible refine rd_dget ?_ | with_reducible refine rd_fld ?_ | with_reducible refine rd_sfld ?_ | with_reducible refine rd_meth ?_ | with_reducible refine rd_make ?_ | with_reducible refine rd_isN ?_ | with_reducible refine rd_notN ?_ | with_reducible refine rd_izip ?_ | with_reducible refine iteNT ?_ | with_reducible refine iteNF ?_ | with_reducible refine iteF ?_ | with_reducible refine iteT ?_))
local macro_rules | `(tactic| walk_at "rd") => `(tactic| (repeat walk_at "rd1"))
local macro_rules | `(tactic| walk_at "mk") => `(tactic| refine ⟨mk_le rfl, ?_⟩)

section
variable {P : Program} {w : World} {K : PySem.W.Frag} {mg : Str → Option Value} {base : Heap}
section
theorem sc__law_draw : FnScope ["bag", "many", "found"] ["bag", "many"] (defScope s__law_draw) := ⟨rfl, rfl, rfl, by decide +kernel, rfl, by decide +kernel, by decide +kernel⟩
theorem c__law_draw (B : Blt mg) (T__law_draw : TopFn K mg "_law_draw" s__law_draw ["bag", "many"]) : Callee P w K mg base "_law_draw" 1 ["bag", "many"] sp_draw := by
  refine T__law_draw.ok2 sc__law_draw fun f cdv A outer s H v1 v2 Q E hr h => ?_
  have nd := sc__law_draw.nd
  obtain ⟨b, l, n, rfl, rfl, ⟨hn, hn2⟩, Bg, k⟩ := h
  obtain ⟨xs, i, m, st, c, hb, hl, hi, ⟨hm0, hm1⟩, ⟨hs0, hs1⟩, hxs, hlen⟩ := Bg.ex
  have nbl : l ≠ b := ne_of hl hb (by
    intro z
    injection z with z
    cases xs <;> simp [bagL] at z)
  have hl2 : ∀ o, upd H b o l = some (.lst (xs.map V.int)) := fun o => by rw [upd_ne nbl]; exact hl
  refine' go_body [some (.ref b), some (.int n), none] rfl ?hb ?hg
  case hb =>
   refine' pss_cons ?zb ?zc
   case zb =>
    refine' ps_if ?zd ?ze ?zf
    case zd =>
     refine' PW.pt ?zg
     case zg =>
      refine' pw_and ?zh ?zi
      case zh => exact (pt_cmpR op_eq (pe_ix (k_ix (K := K) rfl) (pv 0) pe_int (fun _ _ => rfl)) pe_int (nomark _))
      case zi =>
       refine' pw_and1 ?zj
       case zj =>
        refine' pt_cmpR ?zk ?zl ?zm ?zn
        case zk => exact op_lt
        case zl => exact (pe_ix (k_ix (K := K) rfl) (pv 0) pe_int (fun _ _ => rfl))
        case zm => exact (pe_callB (k_len (K := K) rfl) (by rfl) B.b_len bt_len (pa_consS (pe_ix (k_ix (K := K) rfl) (pv 0) pe_int (fun _ _ => rfl)) pa_nil))
        case zn => exact (nomark _)
    case ze =>
     refine' pss_cons ?zo ?zp
     case zo =>
      refine' ps_asg ?zq ?zr
      case zq =>
       refine' pe_ix ?zs ?zt ?zu ?zv
       case zs => exact (k_ix (K := K) rfl)
       case zt => exact (pe_ix (k_ix (K := K) rfl) (pv 0) pe_int (fun _ _ => rfl))
       case zu => exact (pe_ix (k_ix (K := K) rfl) (pv 0) pe_int (fun _ _ => rfl))
       case zv => exact (fun _ _ => rfl)
      case zr => exact (pg_sub (pv 0) pe_int set_list)
     case zp => exact (pss_one (ps_asg (pe_op op_add (pe_ix (k_ix (K := K) rfl) (pv 0) pe_int (fun _ _ => rfl)) pe_int) (pg_sub (pv 0) pe_int set_list)))
    case zf =>
     refine' pss_one ?zw
     case zw =>
      refine' ps_if ?zx ?zy ?zz
      case zx => exact (pt_cmpR op_eq (pe_ix (k_ix (K := K) rfl) (pv 0) pe_int (fun _ _ => rfl)) pe_int (nomark _))
      case zy =>
       refine' pss_cons ?zba ?zbb
       case zba => exact (ps_asg (pe_op op_add (pe_ix (k_ix (K := K) rfl) (pv 0) pe_int (fun _ _ => rfl)) pe_int) (pg_sub (pv 0) pe_int set_list))
       case zbb =>
        refine' pss_cons ?zbc ?zbd
        case zbc =>
         refine' ps_asg ?zbe ?zbf
         case zbe =>
          refine' pe_op ?zbg ?zbh ?zbi
          case zbg => exact op_mod
          case zbh =>
           refine' pe_op ?zbj ?zbk ?zbl
           case zbj => exact op_add
           case zbk =>
            refine' pe_op ?zbm ?zbn ?zbo
            case zbm => exact op_add
            case zbn =>
             refine' pe_op ?zbp ?zbq ?zbr
             case zbp => exact op_add
             case zbq => exact (pe_op op_pow (pe_ix (k_ix (K := K) rfl) (pv 0) pe_int (fun _ _ => rfl)) pe_int)
             case zbr => exact (pe_op op_mul pe_int (pe_ix (k_ix (K := K) rfl) (pv 0) pe_int (fun _ _ => rfl)))
            case zbo => exact (pe_op op_mul pe_int (pe_ix (k_ix (K := K) rfl) (pv 0) pe_int (fun _ _ => rfl)))
           case zbl => exact pe_int
          case zbi => exact pe_int
         case zbf => exact (pg_sub (pv 0) pe_int set_list)
        case zbd => exact (pss_one (ps_ret (pe_op op_mod (pe_op op_fdivB (pe_ix (k_ix (K := K) rfl) (pv 0) pe_int (fun _ _ => rfl)) pe_int) (pv 1))))
      case zz => exact pss_nil
   case zc =>
    refine' pss_cons ?zbs ?zbt
    case zbs => exact (ps_setB (i := 2) nd rfl (Or.inl rfl) (pe_op op_mod (pe_ix (k_ix (K := K) rfl) (pv 0) pe_int (fun _ _ => rfl)) (pv 1)))
    case zbt =>
     refine' pss_cons ?zbu ?zbv
     case zbu => exact (ps_asg (pe_op op_fdivB (pe_ix (k_ix (K := K) rfl) (pv 0) pe_int (fun _ _ => rfl)) (pv 1)) (pg_sub (pv 0) pe_int set_list))
     case zbv => exact (pss_one (ps_ret (pv 2)))
  have fin : ∀ (j : Nat) (m' : Int), j ≤ xs.length → 0 ≤ m' → m' ≤ 10 ^ 60 → ∀ H1, BSame b H H1 → H1 b = some (.lst (bagL l j m' st c)) → H1 l = some (.lst (xs.map V.int)) →
      Q (.int (m' % n)) (upd H1 b (.lst (bagL l j (m' / n) st c))) := by
    intro j m' hj h0 h1 H1 bs hb1 hl1
    have hd0 : 0 ≤ m' / n := Int.ediv_nonneg h0 (Int.le_of_lt hn)
    have hd1 : m' / n ≤ m' := Int.ediv_le_self _ h0
    refine k _ _ (Int.emod_nonneg _ (by omega)) (Int.emod_lt_of_pos _ hn) ⟨xs, j, m' / n, st, c, upd_same, by rw [upd_ne nbl]; exact hl1, hj, ⟨hd0, by omega⟩, ⟨hs0, hs1⟩, hxs, hlen⟩ (bs.trans BSame.wr)
  have tail : ∀ (j : Nat) (m' : Int) (σ2 : St), σ2 = [some (.ref b), some (.int n), none] → j ≤ xs.length → 0 ≤ m' → m' ≤ 10 ^ 60 → ∀ H1, BSame b H H1 → H1 b = some (.lst (bagL l j m' st c)) → H1 l = some (.lst (xs.map V.int)) →
      tSeq (tAsg (tOp (rI (fun _ j => 0 < j) fun i j => .int (i % j)) (tOp (rIxA K) (tVar 0) (tC (.int 2))) (tVar 1)) (gName 2))
        (tSeq (tAsg (tOp (rI CDivB fun i j => .int (i / j)) (tOp (rIxA K) (tVar 0) (tC (.int 2))) (tVar 1)) (gSub (tVar 0) (tC (.int 2)) rSetL)) (tRet (tVar 2))) { nx := fun _ H' => Q .non H', rt := Q } σ2 H1 := by
    intro j m' σ2 e hj h0 h1 H1 bs hb1 hl1
    subst e
    walk_at "rd"
    refine rd_ixaL (v := .int m') hb1 rfl ?_
    walk_at "rd"
    refine rd_I hn ?_
    walk_at "rd"
    refine rd_ixaL (v := .int m') hb1 rfl ?_
    walk_at "rd"
    refine rd_I (cdivb_of hn (by omega)) ?_
    walk_at "rd"
    refine rd_setL (k := 2) hb1 rfl ?_
    walk_at "rd"
    exact fin j m' hj h0 h1 H1 bs hb1 hl1
  walk_at "rd"
  refine rd_ixaL (v := .int m) hb rfl ?_
  walk_at "rd"
  refine ite_dd (fun hm => ?_) (fun hm => ?_)
  · walk_at "rd"
    refine rd_ixaL (v := .int i) hb rfl ?_
    walk_at "rd"
    refine rd_ixaL (v := .ref l) hb rfl ?_
    walk_at "rd"
    refine rd_lenL' (SqL.of hl) ?_
    walk_at "rd"
    rw [List.length_map]
    refine ite_dd (fun hi2 => ?_) (fun hi2 => ?_)
    · walk_at "rd"
      refine rd_ixaL (v := .ref l) hb rfl ?_
      walk_at "rd"
      refine rd_ixaL (v := .int i) hb rfl ?_
      walk_at "rd"
      have hil : i < xs.length := by omega
      have hxi := hxs _ (List.getElem_mem hil)
      refine rd_ixaL (v := .int xs[i]) hl (atI_at (n := i) rfl (by rw [List.getElem?_map, List.getElem?_eq_getElem hil]; rfl)) ?_
      walk_at "rd"
      refine rd_setL (k := 2) hb rfl ?_
      walk_at "rd"
      refine rd_ixaL (v := .int i) upd_same rfl ?_
      walk_at "rd"
      refine rd_setL (k := 1) upd_same rfl ?_
      exact tail (i + 1) xs[i] _ rfl (by omega) hxi.1 hxi.2 _ (BSame.wr.trans BSame.wr) upd_same (by rw [upd_ne nbl]; exact hl2 _)
    · walk_at "rd"
      refine rd_ixaL (v := .int m) hb rfl ?_
      walk_at "rd"
      refine ite_dy hm ?_
      walk_at "rd"
      refine rd_ixaL (v := .int c) hb rfl ?_
      walk_at "rd"
      refine rd_setL (k := 4) hb rfl ?_
      walk_at "rd"
      refine rd_ixaL (v := .int st) upd_same rfl ?_
      walk_at "rd"
      refine rd_I ⟨by decide, by decide, by omega⟩ ?_
      walk_at "rd"
      refine rd_ixaL (v := .int st) upd_same rfl ?_
      walk_at "rd"
      refine rd_I (.inl ⟨by decide, by decide⟩) ?_
      walk_at "rd"
      refine rd_ixaL (v := .int (c + 1)) upd_same rfl ?_
      walk_at "rd"
      refine rd_I (.inl ⟨by decide, by decide⟩) ?_
      walk_at "rd"
      refine rd_I (by decide) ?_
      walk_at "rd"
      refine rd_setL (k := 3) upd_same rfl ?_
      walk_at "rd"
      generalize hst : (st ^ (3 : Int).toNat + 48271 * st + 1013 * (c + 1) + 1) % 2147483647 = st'
      have h0 : 0 ≤ st' := by rw [← hst]; exact Int.emod_nonneg _ (by decide)
      have h1 : st' < 2147483647 := by rw [← hst]; exact Int.emod_lt_of_pos _ (by decide)
      refine rd_ixaL (v := .int st') upd_same rfl ?_
      walk_at "rd"
      refine rd_I (cdivb_of (by decide) (by decide +kernel)) ?_
      walk_at "rd"
      refine rd_I hn ?_
      refine k _ _ (Int.emod_nonneg _ (by omega)) (Int.emod_lt_of_pos _ hn) ⟨xs, i, m, st', c + 1, upd_same, by rw [upd_ne nbl]; exact hl2 _, hi, ⟨hm0, hm1⟩, ⟨h0, h1⟩, hxs, hlen⟩ (BSame.wr.trans BSame.wr)
  · walk_at "rd"
    refine rd_ixaL (v := .int m) hb rfl ?_
    walk_at "rd"
    refine ite_dn hm ?_
    exact tail i m _ rfl hi hm0 hm1 H (BSame.refl _ _) hb hl

end
section
theorem sc__law_number : FnScope ["bag"] ["bag"] (defScope s__law_number) := ⟨rfl, rfl, rfl, by decide +kernel, rfl, by decide +kernel, by decide +kernel⟩
theorem c__law_number (T__law_number : TopFn K mg "_law_number" s__law_number ["bag"]) (C_law_draw : Callee P w K mg base "_law_draw" 1 ["bag", "many"] sp_draw) : Callee P w K mg base "_law_number" 2 ["bag"] sp_number := by
  refine T__law_number.ok1 sc__law_number fun f cdv A outer s H v1 Q E hr h => ?_
  have nd := sc__law_number.nd
  obtain ⟨b, l, rfl, Bg, k⟩ := h
  refine' go_body [some (.ref b)] rfl ?hb ?hg
  case hb =>
   refine' pss_cons ?zbw ?zbx
   case zbw =>
    refine' ps_if ?zby ?zbz ?zca
    case zby => exact (pt_cmpR op_eq (pe_fn C_law_draw (hr.mono (by first | decide | omega)) (by rfl) (pa_consN (pv 0) (pa_consK pe_int pa_nil))) pe_int (nomark _))
    case zbz =>
     refine' pss_one ?zcb
     case zcb =>
      refine' ps_ret ?zcc
      case zcc =>
       refine' pe_op ?zcd ?zce ?zcf
       case zcd => exact op_mulB
       case zce =>
        refine' pe_op ?zcg ?zch ?zci
        case zcg => exact op_sub
        case zch => exact (pe_op op_mulB (pe_fn C_law_draw (hr.mono (by first | decide | omega)) (by rfl) (pa_consN (pv 0) (pa_consK pe_int pa_nil))) pe_int)
        case zci => exact pe_int
       case zcf => exact (pe_fn C_law_draw (hr.mono (by first | decide | omega)) (by rfl) (pa_consN (pv 0) (pa_consB (pe_op op_pow pe_int pe_int) pa_nil)))
    case zca => exact pss_nil
   case zbx => exact (pss_one (ps_ret (pe_op op_sub (pe_fn C_law_draw (hr.mono (by first | decide | omega)) (by rfl) (pa_consN (pv 0) (pa_consK pe_int pa_nil))) pe_int)))
  walk_at "rd"
  refine use2 ⟨b, l, 8, rfl, rfl, ⟨by decide, by decide⟩, Bg, fun r H1 h0 h1 B1 b1 => ?_⟩
  walk_at "rd"
  refine ite_dd (fun _ => ?_) (fun _ => ?_)
  · walk_at "rd"
    refine use2 ⟨b, l, 2, rfl, rfl, ⟨by decide, by decide⟩, B1, fun r2 H2 g0 g1 B2 b2 => ?_⟩
    walk_at "rd"
    refine rd_I (cbig_of (by omega) (by decide +kernel)) ?_
    walk_at "rd"
    refine rd_I cpow60 ?_
    walk_at "rd"
    refine use2 ⟨b, l, _, rfl, rfl, ⟨by decide +kernel, by decide +kernel⟩, B2, fun r3 H3 f0 f1 B3 b3 => ?_⟩
    rw [ten60] at f1
    refine rd_I (cbig_of (by omega) (by omega)) ?_
    refine k _ _ ?_ B3 ((b1.trans b2).trans b3)
    rw [Int.natAbs_mul]
    have e1 : (r2 * 2 - 1).natAbs ≤ 1 := by omega
    have e2 : r3.natAbs ≤ 10 ^ 60 := by omega
    calc (r2 * 2 - 1).natAbs * r3.natAbs ≤ 1 * 10 ^ 60 := Nat.mul_le_mul e1 e2
      _ = 10 ^ 60 := by rw [Nat.one_mul]
  · walk_at "rd"
    refine use2 ⟨b, l, 9, rfl, rfl, ⟨by decide, by decide⟩, B1, fun r2 H2 g0 g1 B2 b2 => ?_⟩
    walk_at "rd"
    exact k _ _ (by omega) B2 (b1.trans b2)

end
section
theorem sc__law_bag : FnScope ["script", "stir", "cell"] ["script"] (defScope s__law_bag) := ⟨rfl, rfl, rfl, by decide +kernel, rfl, by decide +kernel, by decide +kernel⟩
theorem c__law_bag (B : Blt mg) (T__law_bag : TopFn K mg "_law_bag" s__law_bag ["script"]) : Callee P w K mg base "_law_bag" 1 ["script"] (sp_bag K) := by
  refine T__law_bag.ok1 sc__law_bag fun f cdv A outer s H v1 Q E hr h => ?_
  have nd := sc__law_bag.nd
  obtain ⟨a, ns, rfl, hS, hlen, k⟩ := h
  refine' go_body [some (.ref a), none, none] rfl ?hb ?hg
  case hb =>
   refine' pss_cons ?zcj ?zck
   case zcj => exact (ps_set (i := 1) nd rfl (Or.inl rfl) pe_int)
   case zck =>
    refine' pss_cons ?zcl ?zcm
    case zcl =>
     refine' ps_for ?zcn ?zco ?zcp ?zcq ?zcr
     case zcn => exact PassesOwn.never
     case zco => exact rfl
     case zcp => exact (k_pi_list (K := K) rfl (pe_slice (k_sl (K := K) rfl) (pv 0) po_none (po_some pe_int)))
     case zcq => exact (pg_name (i := 2) nd rfl (Or.inl rfl))
     case zcr =>
      refine' pss_one ?zcs
      case zcs =>
       refine' ps_setB (i := 1) ?zct ?zcu ?zcv ?zcw
       case zct => exact nd
       case zcu => exact rfl
       case zcv => exact (Or.inl rfl)
       case zcw => exact (pe_op op_mod (pe_op op_add (pe_op op_add (pe_op op_mul (pv 1) pe_int) (pe_op op_mod (pv 2) pe_int)) pe_int) pe_int)
    case zcm =>
     refine' pss_one ?zcx
     case zcx =>
      refine' ps_ret ?zcy
      case zcy =>
       refine' pe_lst ?zcz
       case zcz =>
        refine' pa_consM ?zda ?zdb
        case zda =>
         refine' pe_comp (LN := ["cell"]) (FN := []) (fr := []) ?zdc ?zdd ?zde ?zdf ?zdg ?zdh
         case zdc => exact rfl
         case zdd => exact (bk_of (by rfl))
         case zde => exact (k_pi_list (K := K) rfl (pe_slice (k_sl (K := K) rfl) (pv 0) po_none (po_some pe_int)))
         case zdf =>
          intro cl C fp pins s H
          exact (pg_name (i := 0) (show ((["cell"] : List Str) ++ ([] : List Str)).Nodup by decide +kernel) rfl (Or.inl rfl))
         case zdg =>
          intro cl C fp pins s H
          exact pts_nil
         case zdh =>
          intro cl C fp pins s H
          exact (pe_op op_mod (pe_callB call_abs' (by rfl) B.b_abs bt_abs (pa_consN (pv 0) pa_nil)) (pe_op op_pow pe_int pe_int))
        case zdb => exact (pa_consK pe_int (pa_consK pe_int (pa_consN (pv 1) (pa_consK pe_int pa_nil))))
  walk_at "rd"
  refine rd_slL hS fun p hp => ?_
  obtain ⟨ms, em, hm⟩ := cutV_ints ns none (some 63)
  rw [em]
  refine ilK_of (SqL.of upd_same) ?_
  have s0 := Same.new (o := .lst (ms.map V.int)) hp
  generalize hH0 : upd H p (HO.lst (ms.map V.int)) = H0 at s0
  have hp0 : H0 p = some (.lst (ms.map V.int)) := by rw [← hH0]; exact upd_same
  refine for_list (xs := ms.map V.int) (fun i σ H1 => ∃ st c2, σ = [some (.ref a), some (.int st), c2] ∧ H1 = H0 ∧ 0 ≤ st ∧ st < 2147483647) ⟨11, none, rfl, rfl, by decide, by decide⟩ (fun i σ H1 _ ⟨_, _, _, e, _⟩ => by rw [e]; exact SqL.of hp0) ?_ ?_
  · rintro i x σ H1 hx ⟨st, c2, rfl, rfl, h0, h1⟩
    obtain ⟨z, rfl, _⟩ := ints_get hx
    walk_at "rd"
    refine rd_I (.inr ⟨by decide, by decide⟩) ?_
    walk_at "rd"
    refine rd_I (by decide) ?_
    walk_at "rd"
    refine rd_I (by decide) ?_
    walk_at "rd"
    exact ⟨_, _, rfl, rfl, Int.emod_nonneg _ (by decide), Int.emod_lt_of_pos _ (by decide)⟩
  · rintro σ H1 ⟨st, c2, rfl, rfl, h0, h1⟩
    walk_at "rd"
    refine rd_slL (s0.seq hS) fun p2 hp2 => ?_
    rw [em]
    refine ilK_of (SqL.of upd_same) ?_
    have s2 := Same.new (o := .lst (ms.map V.int)) hp2
    generalize hH2 : upd H1 p2 (HO.lst (ms.map V.int)) = H2 at s2
    have hp2' : H2 p2 = some (.lst (ms.map V.int)) := by rw [← hH2]; exact upd_same
    refine cw_list (xs := ms.map V.int) (small_le (by rw [List.length_map]; omega)) (fun i ys σ H3 => (∃ x1, σ = [x1]) ∧ H3 = H2 ∧ ∃ zs : List Int, ys = zs.map V.int ∧ ∀ z ∈ zs, 0 ≤ z ∧ z ≤ 10 ^ 60) ⟨⟨none, rfl⟩, rfl, [], rfl, fun _ h => by cases h⟩ (fun i ys σ H3 _ ⟨_, e, _⟩ => by rw [e]; exact SqL.of hp2') ?_ ?_
    · rintro i x ys σ H3 hx hle hlt ⟨⟨x1, rfl⟩, rfl, zs, rfl, hz⟩
      obtain ⟨z, rfl, _⟩ := ints_get hx
      walk_at "rd"
      refine rd_I cpow60 ?_
      refine rd_I (by decide +kernel) ?_
      rw [ten60]
      refine ⟨hlt, by simpa using hle, ⟨_, rfl⟩, rfl, zs ++ [_], by rw [List.map_append]; rfl, fun u hu => ?_⟩
      rcases List.mem_append.mp hu with hu | hu
      · exact hz u hu
      · obtain rfl := List.mem_singleton.mp hu
        omega
    · rintro ys σ H3 hyl ⟨⟨x1, rfl⟩, rfl, zs, rfl, hz⟩ l hl
      walk_at "rd"
      walk_at "mk"; intro bb hbb
      have sA := Same.new (o := .lst (zs.map V.int)) hl
      have sB := Same.new (o := .lst [V.ref l, V.int 0, V.int 0, V.int st, V.int 0]) hbb
      have sall := ((s0.trans s2).trans sA).trans sB
      rw [List.length_map, List.length_map] at hyl
      exact k bb l _ (((s0.trans s2).trans sA).free hbb) sall ⟨zs, 0, 0, st, 0, upd_same, upd_old upd_same hbb, Nat.zero_le _, ⟨by decide, by decide⟩, ⟨h0, h1⟩, hz, by omega⟩

end
section
theorem sc__law_whole : FnScope ["found"] ["found"] (defScope s__law_whole) := ⟨rfl, rfl, rfl, by decide +kernel, rfl, by decide +kernel, by decide +kernel⟩
theorem c__law_whole (B : Blt mg) (T__law_whole : TopFn K mg "_law_whole" s__law_whole ["found"]) : Callee P w K mg base "_law_whole" 1 ["found"] sp_wholeI := by
  refine T__law_whole.ok1 sc__law_whole fun f cdv A outer s H v1 Q E hr h => ?_
  have nd := sc__law_whole.nd
  obtain ⟨n, rfl, k⟩ := h
  refine' go_body [some (.int n)] rfl ?hb ?hg
  case hb =>
   refine' pss_one ?zdi
   case zdi =>
    refine' ps_ret ?zdj
    case zdj =>
     refine' pe_and ?zdk ?zdl
     case zdk => exact (pe_callB call_isi (by rfl) B.b_isinstance bt_isinstance (pa_consN (pv 0) (pa_consN (pe_bltn (v := .ty "int") (by rfl) B.b_int bt_int rfl) pa_nil)))
     case zdl =>
      refine' pe_one ?zdm
      case zdm =>
       refine' pe_not ?zdn
       case zdn =>
        refine' pe_callB ?zdo ?zdp ?zdq ?zdr ?zds
        case zdo => exact call_isi
        case zdp => exact (by rfl)
        case zdq => exact B.b_isinstance
        case zdr => exact bt_isinstance
        case zds => exact (pa_consN (pv 0) (pa_consN (pe_bltn (v := .ty "bool") (by rfl) B.b_bool bt_bool rfl) pa_nil))
  walk_at "rd"
  refine rd_isi rfl (by simp) (rd_bl (iteT ?_))
  walk_at "rd"
  refine rd_isi rfl (by simp) (rd_bl ?_)
  exact k

end
section
def sp_row_of : Sp := sp2 fun x y H Q => ∃ own P pp fr f at' bx d r, x = .ref pp ∧ y = .ref fr ∧ PgAt own H P pp ∧ H fr = some (.lst [.int f, .int at', .ref bx]) ∧ 0 ≤ f ∧ P[f.toNat]? = some d ∧ 0 ≤ at' ∧ d.rows[at'.toNat]? = some r ∧ ∀ v, Rep H (rowD (Rw.row r)) v → Q v H
theorem sc_row_of : FnScope ["program", "frame"] ["program", "frame"] (defScope s_row_of) := ⟨rfl, rfl, rfl, by decide +kernel, rfl, by decide +kernel, by decide +kernel⟩
theorem c_row_of (T_row_of : TopFn K mg "row_of" s_row_of ["program", "frame"]) : Callee P w K mg base "row_of" 1 ["program", "frame"] sp_row_of := by
  refine T_row_of.ok2 sc_row_of fun f cdv A outer s H v1 v2 Q E hr h => ?_
  have nd := sc_row_of.nd
  obtain ⟨own, Pg, pp, fr, fi, at', bx, d, r, rfl, rfl, ⟨vs, hv, _, hl, hd⟩, hf, f0, ed, a0, er, k⟩ := h
  refine' go_body [some (.ref pp), some (.ref fr)] rfl ?hb ?hg
  case hb =>
   refine' pss_one ?zdt
   case zdt =>
    refine' ps_ret ?zdu
    case zdu =>
     refine' pe_ix ?zdv ?zdw ?zdx ?zdy
     case zdv => exact (k_ix (K := K) rfl)
     case zdw =>
      refine' pe_ix ?zdz ?zea ?zeb ?zec
      case zdz => exact (k_ix (K := K) rfl)
      case zea => exact (pe_ix (k_ix (K := K) rfl) (pv 0) (pe_ix (k_ix (K := K) rfl) (pv 1) pe_int (fun _ _ => rfl)) (fun _ _ => rfl))
      case zeb => exact pe_int
      case zec => exact (fun _ _ => rfl)
     case zdx => exact (pe_ix (k_ix (K := K) rfl) (pv 1) pe_int (fun _ _ => rfl))
     case zdy => exact (fun _ _ => rfl)
  walk_at "rd"
  refine rd_ixaL (v := .int fi) hf rfl ?_
  have hlt : fi.toNat < vs.length := by rw [hl]; exact (List.getElem?_eq_some_iff.mp ed).1
  obtain ⟨t, q, ys, e1, h1, h2, _, rr⟩ := hd _ _ _ ed (List.getElem?_eq_getElem hlt)
  refine rd_ixaL hv (atI_at (n := fi.toNat) (by omega) (List.getElem?_eq_getElem hlt)) ?_
  rw [e1]
  walk_at "rd"
  refine rd_ixaT (v := .ref q) h1 rfl ?_
  walk_at "rd"
  refine rd_ixaL (v := .int at') hf rfl ?_
  obtain ⟨u, eu, ru⟩ := rr.get (i := at'.toNat) (d := rowD r.row) (by unfold rowsD; rw [List.getElem?_map, er]; rfl)
  refine rd_ixaL h2 (atI_at (n := at'.toNat) (by omega) eu) ?_
  exact k u ru
theorem rep_row0 {H : Hp} {r : Str × List D} {v : V} {Q : VK} (h : Rep H (rowD r) v) (q : Q (.str r.1) H) : rIxA K v (.int 0) H Q := rd_ixR (n := 0) h rfl rfl fun u ru => by rw [Rep] at ru; rw [ru]; exact q
theorem rep_rowI {H : Hp} {r : Str × List D} {v : V} {Q : VK} {i : Int} {n : Nat} {z : Int} (h : Rep H (rowD r) v) (hi : i = ((n + 1 : Nat) : Int)) (e : r.2[n]? = some (.int z)) (q : Q (.int z) H) : rIxA K v (.int i) H Q := rd_ixI (n := n + 1) h hi (by simpa [rowD] using e) q
def sp_goes : Sp := sp2 fun x y H Q => ∃ r n, Rep H (rowD r) x ∧ y = .int n ∧ Q (.bl (if r.1 = "zero" then decide (n = 0) else decide (n < 0))) H
theorem sc_goes_to_row : FnScope ["row", "number"] ["row", "number"] (defScope s_goes_to_row) := ⟨rfl, rfl, rfl, by decide +kernel, rfl, by decide +kernel, by decide +kernel⟩
theorem c_goes_to_row (T_goes_to_row : TopFn K mg "goes_to_row" s_goes_to_row ["row", "number"]) : Callee P w K mg base "goes_to_row" 1 ["row", "number"] sp_goes := by
  refine T_goes_to_row.ok2 sc_goes_to_row fun f cdv A outer s H v1 v2 Q E hr h => ?_
  have nd := sc_goes_to_row.nd
  obtain ⟨r, n, rv, rfl, k⟩ := h
  refine' go_body [some v1, some (.int n)] rfl ?hb ?hg
  case hb =>
   refine' pss_one ?zed
   case zed =>
    refine' ps_ret ?zee
    case zee =>
     refine' pe_ifExp ?zef ?zeg ?zeh
     case zef => exact (pt_cmpR op_eq (pe_ix (k_ix (K := K) rfl) (pv 0) pe_int (fun _ _ => rfl)) pe_str (nomark _))
     case zeg => exact (pe_cmpR op_eq (pv 1) pe_int (nomark _))
     case zeh => exact (pe_cmpR op_lt (pv 1) pe_int (nomark _))
  walk_at "rd"
  refine rep_row0 rv ?_
  walk_at "rd"
  refine ite_dd (fun e => ?_) (fun e => ?_)
  · rw [if_pos e] at k
    walk_at "rd"
    exact k
  · rw [if_neg e] at k
    walk_at "rd"
    exact k
def sp_newfr (K : PySem.W.Frag) : Sp := sp3 fun x y z H Q => ∃ own P pp f q ns d, x = .ref pp ∧ y = .int f ∧ z = .ref q ∧ PgAt own H P pp ∧ 0 ≤ f ∧ P[f.toNat]? = some d ∧ (0 ≤ d.boxes ∧ d.boxes ≤ 1000) ∧ H q = some (.lst ((ns : List Int).map V.int)) ∧ (ns.length : Int) ≤ d.boxes ∧
  ∀ fr bx H', H fr = none → H bx = none → fr ≠ bx → Same H H' → H' fr = some (.lst [.int f, .int 0, .ref bx]) → H' bx = some (.lst ((ns ++ List.replicate (d.boxes.toNat - ns.length) 0).map V.int)) → Q (.ref fr) H'
theorem sc_new_frame : FnScope ["program", "f", "numbers"] ["program", "f", "numbers"] (defScope s_new_frame) := ⟨rfl, rfl, rfl, by decide +kernel, rfl, by decide +kernel, by decide +kernel⟩
theorem c_new_frame (B : Blt mg) (T_new_frame : TopFn K mg "new_frame" s_new_frame ["program", "f", "numbers"]) : Callee P w K mg base "new_frame" 1 ["program", "f", "numbers"] (sp_newfr K) := by
  refine T_new_frame.ok3 sc_new_frame fun f cdv A outer s H v1 v2 v3 Q E hr h => ?_
  have nd := sc_new_frame.nd
  obtain ⟨own, Pg, pp, fi, q, ns, d, rfl, rfl, rfl, ⟨vs, hv, _, hl, hd⟩, f0, ed, ⟨b0, b1⟩, hq, hns, k⟩ := h
  refine' go_body [some (.ref pp), some (.int fi), some (.ref q)] rfl ?hb ?hg
  case hb =>
   refine' pss_one ?zei
   case zei =>
    refine' ps_ret ?zej
    case zej =>
     refine' pe_lst ?zek
     case zek =>
      refine' pa_consN ?zel ?zem
      case zel => exact (pv 1)
      case zem =>
       refine' pa_consK ?zen ?zeo
       case zen => exact pe_int
       case zeo =>
        refine' pa_consB ?zep ?zeq
        case zep =>
         refine' pe_op ?zer ?zes ?zet
         case zer => exact op_cat
         case zes => exact (pv 2)
         case zet =>
          refine' pe_op ?zeu ?zev ?zew
          case zeu => exact op_rep
          case zev => exact (pe_lst (pa_consK pe_int pa_nil))
          case zew =>
           refine' pe_op ?zex ?zey ?zez
           case zex => exact op_sub
           case zey => exact (pe_ix (k_ix (K := K) rfl) (pe_ix (k_ix (K := K) rfl) (pv 0) (pv 1) (fun _ _ => rfl)) pe_int (fun _ _ => rfl))
           case zez => exact (pe_callB (k_len (K := K) rfl) (by rfl) B.b_len bt_len (pa_consN (pv 2) pa_nil))
        case zeq => exact pa_nil
  walk_at "rd"
  walk_at "mk"; intro p1 hp1
  have s1 := Same.new (o := .lst ([(0 : Int)].map V.int)) hp1
  have hlt : fi.toNat < vs.length := by rw [hl]; exact (List.getElem?_eq_some_iff.mp ed).1
  obtain ⟨t, q2, ys, e1, h1, h2, _, rr⟩ := hd _ _ _ ed (List.getElem?_eq_getElem hlt)
  walk_at "rd"
  refine rd_ixaL (s1 _ _ hv) (atI_at (n := fi.toNat) (by omega) (List.getElem?_eq_getElem hlt)) ?_
  rw [e1]
  walk_at "rd"
  refine rd_ixaT (v := .int d.boxes) (s1 _ _ h1) rfl ?_
  walk_at "rd"
  refine rd_lenL' (SqL.of (s1 _ _ hq)) ?_
  rw [List.length_map]
  walk_at "rd"
  refine rd_rep0 upd_same (by omega) (by omega) fun p2 hp2 => ?_
  have s2 := Same.new (o := .lst ((List.replicate (d.boxes - (ns.length : Int)).toNat (0 : Int)).map V.int)) hp2
  walk_at "rd"
  refine rd_cat ((s1.trans s2) _ _ hq) upd_same (small_le' (by simp; omega)) fun p3 hp3 => ?_
  have s3 := Same.new (o := .lst (ns.map V.int ++ (List.replicate (d.boxes - (ns.length : Int)).toNat (0 : Int)).map V.int)) hp3
  walk_at "mk"; intro p4 hp4
  have s4 := Same.new (o := .lst [V.int fi, V.int 0, V.ref p3]) hp4
  have s12 := s1.trans s2
  have s123 := s12.trans s3
  refine k p4 p3 _ (s123.free hp4) (s12.free hp3) (fun z => ?_) (s123.trans s4) upd_same ?_
  · rw [z, upd_same] at hp4
    cases hp4
  · rw [s4 _ _ upd_same, List.map_append, show (d.boxes - (ns.length : Int)).toNat = d.boxes.toNat - ns.length by omega]

end
section
theorem box_get {ns : List Int} {q : Int} (h : In0 q ns.length) : atI (ns.map V.int) q = some (.int (boxAt ns q)) := by
  obtain ⟨h0, h1⟩ := h
  have hq : q.toNat < ns.length := by omega
  refine atI_at (n := q.toNat) (by omega) ?_
  rw [List.getElem?_map, List.getElem?_eq_getElem hq]
  simp [boxAt, hq]
theorem box_mem {ns : List Int} {q : Int} (h : In0 q ns.length) : boxAt ns q ∈ ns := by
  obtain ⟨h0, h1⟩ := h
  have hq : q.toNat < ns.length := by omega
  have : boxAt ns q = ns[q.toNat] := by simp [boxAt, hq]
  rw [this]
  exact List.getElem_mem hq
/-- numbers that may be multiplied -/
def MulOk (ns : List Int) : Prop := ∀ x ∈ ns, x.natAbs < 2 ^ 8000
theorem big99 {n : Int} (h : n.natAbs ≤ 99) : n.natAbs < 2 ^ 8000 := big_of (Nat.le_trans h (by decide +kernel))
def sp_reck : Sp := sp2 fun x y H Q => ∃ P many r bx ns p z, Rep H (rowD (Rw.row r)) x ∧ y = .ref bx ∧ H bx = some (.lst ((ns : List Int).map V.int)) ∧ Rw.Ok P ns.length many r ∧ MulOk ns ∧ r.calc ns = some (p, z) ∧ Q (.int z) H
theorem sc_reckoned : FnScope ["row", "boxes"] ["row", "boxes"] (defScope s_reckoned) := ⟨rfl, rfl, rfl, by decide +kernel, rfl, by decide +kernel, by decide +kernel⟩
theorem c_reckoned (T_reckoned : TopFn K mg "reckoned" s_reckoned ["row", "boxes"]) : Callee P w K mg base "reckoned" 1 ["row", "boxes"] sp_reck := by
  refine T_reckoned.ok2 sc_reckoned fun f cdv A outer s H v1 v2 Q E hr h => ?_
  have nd := sc_reckoned.nd
  obtain ⟨Pg, many, r, bx, ns, p, z, rv, rfl, hb, ok, mu, hc, k⟩ := h
  refine' go_body [some v1, some (.ref bx)] rfl ?hb ?hg
  case hb =>
   refine' pss_cons ?zfa ?zfb
   case zfa =>
    refine' ps_if ?zfc ?zfd ?zfe
    case zfc => exact (pt_cmpR op_eq (pe_ix (k_ix (K := K) rfl) (pv 0) pe_int (fun _ _ => rfl)) pe_str (nomark _))
    case zfd => exact (pss_one (ps_ret (pe_ix (k_ix (K := K) rfl) (pv 0) pe_int (fun _ _ => rfl))))
    case zfe => exact pss_nil
   case zfb =>
    refine' pss_cons ?zff ?zfg
    case zff =>
     refine' ps_if ?zfh ?zfi ?zfj
     case zfh => exact (pt_cmpR op_eq (pe_ix (k_ix (K := K) rfl) (pv 0) pe_int (fun _ _ => rfl)) pe_str (nomark _))
     case zfi => exact (pss_one (ps_ret (pe_ix (k_ix (K := K) rfl) (pv 1) (pe_ix (k_ix (K := K) rfl) (pv 0) pe_int (fun _ _ => rfl)) (fun _ _ => rfl))))
     case zfj => exact pss_nil
    case zfg =>
     refine' pss_cons ?zfk ?zfl
     case zfk =>
      refine' ps_if ?zfm ?zfn ?zfo
      case zfm => exact (pt_cmpR op_eq (pe_ix (k_ix (K := K) rfl) (pv 0) pe_int (fun _ _ => rfl)) pe_str (nomark _))
      case zfn =>
       refine' pss_one ?zfp
       case zfp =>
        refine' ps_ret ?zfq
        case zfq =>
         refine' pe_op ?zfr ?zfs ?zft
         case zfr => exact op_add
         case zfs => exact (pe_ix (k_ix (K := K) rfl) (pv 1) (pe_ix (k_ix (K := K) rfl) (pv 0) pe_int (fun _ _ => rfl)) (fun _ _ => rfl))
         case zft => exact (pe_ix (k_ix (K := K) rfl) (pv 1) (pe_ix (k_ix (K := K) rfl) (pv 0) pe_int (fun _ _ => rfl)) (fun _ _ => rfl))
      case zfo => exact pss_nil
     case zfl =>
      refine' pss_cons ?zfu ?zfv
      case zfu =>
       refine' ps_if ?zfw ?zfx ?zfy
       case zfw => exact (pt_cmpR op_eq (pe_ix (k_ix (K := K) rfl) (pv 0) pe_int (fun _ _ => rfl)) pe_str (nomark _))
       case zfx =>
        refine' pss_one ?zfz
        case zfz =>
         refine' ps_ret ?zga
         case zga =>
          refine' pe_op ?zgb ?zgc ?zgd
          case zgb => exact op_sub
          case zgc => exact (pe_ix (k_ix (K := K) rfl) (pv 1) (pe_ix (k_ix (K := K) rfl) (pv 0) pe_int (fun _ _ => rfl)) (fun _ _ => rfl))
          case zgd => exact (pe_ix (k_ix (K := K) rfl) (pv 1) (pe_ix (k_ix (K := K) rfl) (pv 0) pe_int (fun _ _ => rfl)) (fun _ _ => rfl))
       case zfy => exact pss_nil
      case zfv =>
       refine' pss_one ?zge
       case zge =>
        refine' ps_ret ?zgf
        case zgf =>
         refine' pe_op ?zgg ?zgh ?zgi
         case zgg => exact op_mulB
         case zgh => exact (pe_ix (k_ix (K := K) rfl) (pv 1) (pe_ix (k_ix (K := K) rfl) (pv 0) pe_int (fun _ _ => rfl)) (fun _ _ => rfl))
         case zgi => exact (pe_ix (k_ix (K := K) rfl) (pv 0) pe_int (fun _ _ => rfl))
  cases r with
  | put p' n =>
    cases hc
    walk_at "rd"
    refine rep_row0 rv (rd_c (rd_eqS (rd_bl (ite_dy rfl ?_))))
    walk_at "rd"
    exact rep_rowI (n := 1) rv rfl rfl k
  | copy p' q =>
    cases hc
    walk_at "rd"
    refine rep_row0 rv (rd_c (rd_eqS (rd_bl (ite_dn (by simp only [Rw.row]; decide) ?_))))
    walk_at "rd"
    refine rep_row0 rv (rd_c (rd_eqS (rd_bl (ite_dy rfl ?_))))
    walk_at "rd"
    exact rep_rowI (n := 1) rv rfl rfl (rd_ixaL hb (box_get ok.2) k)
  | plus p' q r =>
    cases hc
    walk_at "rd"
    refine rep_row0 rv (rd_c (rd_eqS (rd_bl (ite_dn (by simp only [Rw.row]; decide) ?_))))
    walk_at "rd"
    refine rep_row0 rv (rd_c (rd_eqS (rd_bl (ite_dn (by simp only [Rw.row]; decide) ?_))))
    walk_at "rd"
    refine rep_row0 rv (rd_c (rd_eqS (rd_bl (ite_dy rfl ?_))))
    walk_at "rd"
    refine rep_rowI (n := 1) rv rfl rfl (rd_ixaL hb (box_get ok.2.1) ?_)
    walk_at "rd"
    refine rep_rowI (n := 2) rv rfl rfl (rd_ixaL hb (box_get ok.2.2) ?_)
    walk_at "rd"
    exact k
  | less p' q r =>
    cases hc
    walk_at "rd"
    refine rep_row0 rv (rd_c (rd_eqS (rd_bl (ite_dn (by simp only [Rw.row]; decide) ?_))))
    walk_at "rd"
    refine rep_row0 rv (rd_c (rd_eqS (rd_bl (ite_dn (by simp only [Rw.row]; decide) ?_))))
    walk_at "rd"
    refine rep_row0 rv (rd_c (rd_eqS (rd_bl (ite_dn (by simp only [Rw.row]; decide) ?_))))
    walk_at "rd"
    refine rep_row0 rv (rd_c (rd_eqS (rd_bl (ite_dy rfl ?_))))
    walk_at "rd"
    refine rep_rowI (n := 1) rv rfl rfl (rd_ixaL hb (box_get ok.2.1) ?_)
    walk_at "rd"
    refine rep_rowI (n := 2) rv rfl rfl (rd_ixaL hb (box_get ok.2.2) ?_)
    walk_at "rd"
    exact k
  | times p' q n =>
    cases hc
    walk_at "rd"
    refine rep_row0 rv (rd_c (rd_eqS (rd_bl (ite_dn (by simp only [Rw.row]; decide) ?_))))
    walk_at "rd"
    refine rep_row0 rv (rd_c (rd_eqS (rd_bl (ite_dn (by simp only [Rw.row]; decide) ?_))))
    walk_at "rd"
    refine rep_row0 rv (rd_c (rd_eqS (rd_bl (ite_dn (by simp only [Rw.row]; decide) ?_))))
    walk_at "rd"
    refine rep_row0 rv (rd_c (rd_eqS (rd_bl (ite_dn (by simp only [Rw.row]; decide) ?_))))
    walk_at "rd"
    refine rep_rowI (n := 1) rv rfl rfl (rd_ixaL hb (box_get ok.2.1) ?_)
    walk_at "rd"
    refine rep_rowI (n := 2) rv rfl rfl ?_
    exact rd_I ⟨mu _ (box_mem ok.2.1), big99 ok.2.2⟩ k
  | _ => cases hc
def sp_behind : Sp := sp3 fun x y z H Q => ∃ P many r bx ns at', Rep H (rowD (Rw.row r)) x ∧ y = .int at' ∧ z = .ref bx ∧ H bx = some (.lst ((ns : List Int).map V.int)) ∧ Rw.Ok P ns.length many r ∧ ∀ H', Same H H' → Q (.int (r.next ns at')) H'
theorem in_two {x : Str} : inV (.str x) [V.str "zero", V.str "below"] = decide (x = "zero" ∨ x = "below") := by
  simp only [inV, eqV, List.any_cons, List.any_nil, Bool.or_false]
  rw [Bool.eq_iff_iff]
  simp
  constructor
  · rintro (z | z)
    · exact .inl z.symm
    · exact .inr z.symm
  · rintro (z | z)
    · exact .inl z.symm
    · exact .inr z.symm
theorem sc_row_behind : FnScope ["row", "at", "boxes"] ["row", "at", "boxes"] (defScope s_row_behind) := ⟨rfl, rfl, rfl, by decide +kernel, rfl, by decide +kernel, by decide +kernel⟩
theorem c_row_behind (T_row_behind : TopFn K mg "row_behind" s_row_behind ["row", "at", "boxes"]) (Cgoes_to_row : Callee P w K mg base "goes_to_row" 1 ["row", "number"] sp_goes) : Callee P w K mg base "row_behind" 2 ["row", "at", "boxes"] sp_behind := by
  refine T_row_behind.ok3 sc_row_behind fun f cdv A outer s H v1 v2 v3 Q E hr h => ?_
  have nd := sc_row_behind.nd
  obtain ⟨Pg, many, r, bx, ns, at', rv, rfl, rfl, hb, ok, k⟩ := h
  refine' go_body [some v1, some (.int at'), some (.ref bx)] rfl ?hb ?hg
  case hb =>
   refine' pss_cons ?zgj ?zgk
   case zgj =>
    refine' ps_if ?zgl ?zgm ?zgn
    case zgl => exact (pt_cmpR op_eq (pe_ix (k_ix (K := K) rfl) (pv 0) pe_int (fun _ _ => rfl)) pe_str (nomark _))
    case zgm => exact (pss_one (ps_ret (pe_ix (k_ix (K := K) rfl) (pv 0) pe_int (fun _ _ => rfl))))
    case zgn => exact pss_nil
   case zgk =>
    refine' pss_cons ?zgo ?zgp
    case zgo =>
     refine' ps_if ?zgq ?zgr ?zgs
     case zgq =>
      refine' PW.pt ?zgt
      case zgt =>
       refine' pw_and ?zgu ?zgv
       case zgu =>
        refine' pt_cmpR ?zgw ?zgx ?zgy ?zgz
        case zgw => exact (k_in (K := K) rfl)
        case zgx => exact (pe_ix (k_ix (K := K) rfl) (pv 0) pe_int (fun _ _ => rfl))
        case zgy => exact (pe_tup (pa_consK pe_str (pa_consK pe_str pa_nil)))
        case zgz => exact (by with_unfolding_all rfl)
       case zgv =>
        refine' pw_and1 ?zha
        case zha =>
         refine' pt_val ?zhb
         case zhb =>
          refine' pe_fn ?zhc ?zhd ?zhe ?zhf
          case zhc => exact Cgoes_to_row
          case zhd => exact (hr.mono (by first | decide | omega))
          case zhe => exact (by rfl)
          case zhf => exact (pa_consN (pv 0) (pa_consS (pe_ix (k_ix (K := K) rfl) (pv 2) (pe_ix (k_ix (K := K) rfl) (pv 0) pe_int (fun _ _ => rfl)) (fun _ _ => rfl)) pa_nil))
     case zgr => exact (pss_one (ps_ret (pe_ix (k_ix (K := K) rfl) (pv 0) pe_int (fun _ _ => rfl))))
     case zgs => exact pss_nil
    case zgp => exact (pss_one (ps_ret (pe_op op_add (pv 1) pe_int)))
  by_cases hj : r.row.1 = "jump"
  · cases r with
    | jump t =>
      walk_at "rd"
      refine rep_row0 rv (rd_c (rd_eqS (rd_bl (ite_dy rfl ?_))))
      walk_at "rd"
      exact rep_rowI (n := 0) rv rfl rfl (k H (Same.refl _))
    | _ => exact absurd hj (by simp only [Rw.row]; decide)
  · walk_at "rd"
    refine rep_row0 rv (rd_c (rd_eqS (rd_bl (ite_dn hj ?_))))
    walk_at "rd"
    refine rep_row0 rv ?_
    walk_at "rd"
    walk_at "mk"; intro p0 hp0
    have s0 := Same.new (o := .tup [V.str "zero", V.str "below"]) hp0
    refine ⟨p0, _, rfl, .inr (SqT.of upd_same), rfl, rfl, ?_⟩
    rw [if_neg Bool.false_ne_true, in_two]
    walk_at "rd"
    by_cases hz : r.row.1 = "zero" ∨ r.row.1 = "below"
    · refine ite_dy hz ?_
      cases r with
      | zero p t =>
        walk_at "rd"
        refine rep_rowI (n := 0) (rv.mono s0.ts) rfl rfl (rd_ixaL (s0 _ _ hb) (box_get ok.1) ?_)
        walk_at "rd"
        refine use2 ⟨_, _, rv.mono s0.ts, rfl, ?_⟩
        rw [if_pos (show (Rw.row (.zero p t)).1 = "zero" from rfl)]
        walk_at "rd"
        refine ite_dd (fun e => ?_) (fun e => ?_)
        · walk_at "rd"
          have q := k _ s0
          rw [show Rw.next ns at' (.zero p t) = t from if_pos e] at q
          exact rep_rowI (n := 1) (rv.mono s0.ts) rfl rfl q
        · walk_at "rd"
          have q := k _ s0
          rw [show Rw.next ns at' (.zero p t) = at' + 1 from if_neg e] at q
          exact q
      | below p t =>
        walk_at "rd"
        refine rep_rowI (n := 0) (rv.mono s0.ts) rfl rfl (rd_ixaL (s0 _ _ hb) (box_get ok.1) ?_)
        walk_at "rd"
        refine use2 ⟨_, _, rv.mono s0.ts, rfl, ?_⟩
        rw [if_neg (show ¬ (Rw.row (.below p t)).1 = "zero" by simp only [Rw.row]; decide)]
        walk_at "rd"
        refine ite_dd (fun e => ?_) (fun e => ?_)
        · walk_at "rd"
          have q := k _ s0
          rw [show Rw.next ns at' (.below p t) = t from if_pos e] at q
          exact rep_rowI (n := 1) (rv.mono s0.ts) rfl rfl q
        · walk_at "rd"
          have q := k _ s0
          rw [show Rw.next ns at' (.below p t) = at' + 1 from if_neg e] at q
          exact q
      | _ => exact absurd hz (by simp only [Rw.row]; decide)
    · refine ite_dn hz ?_
      walk_at "rd"
      have hn : r.next ns at' = at' + 1 := by
        cases r with
        | jump t => exact absurd rfl hj
        | zero p t => exact absurd (.inl rfl) hz
        | below p t => exact absurd (.inr rfl) hz
        | _ => rfl
      rw [hn] at k
      exact k _ s0

end
section
variable {C : Addr}
theorem fz_last {fz : List FZ} {z : FZ} : atI ((fz ++ [z]).map fun z => V.ref z.1.1) (-1) = some (.ref z.1.1) := by
  rw [List.map_append]
  exact atI_neg1
theorem rep_non {H : Hp} : Rep H .non .non := by rw [Rep]
def sp_end_at (C : Addr) : Sp := sp2 fun x y H Q => ∃ p dx pp pf pn pl fz z P h ve r many, x = .ref p ∧ HA C p dx pp pf pn pl (fz ++ [z]) H P h ve ∧ Rep H (rowD (Rw.row r)) y ∧ Rw.Ok P z.2.2.2.length many r ∧ ∀ v H', Same H H' → Rep H' (En.d (endAt h z.2 r)) v → Q v H'
theorem sc_Hand_end_at : FnScope ["self", "row", "frame"] ["self", "row"] (defScope s_Hand_end_at) := ⟨rfl, rfl, rfl, by decide +kernel, rfl, by decide +kernel, by decide +kernel⟩
theorem c_Hand_end_at (B : Blt mg) (G : Glb K mg) (HHand : CHand K C) (T_Hand_end_at : TopM K C "end_at" "Hand.end_at" s_Hand_end_at ["self", "row"]) : MCal P w K mg base C "end_at" 1 ["self", "row"] (sp_end_at C) := by
  refine T_Hand_end_at.ok2 sc_Hand_end_at fun f cdv A outer s H v1 v2 Q E hr hh => ?_
  have nd := sc_Hand_end_at.nd
  obtain ⟨p, dx, pp, pf, pn, pl, fz, z, Pg, h, ve, r, many, rfl, a, rv, ok, k⟩ := hh
  refine' go_body [some (.ref p), some v2, none] rfl ?hb ?hg
  case hb =>
   refine' pss_cons ?zhg ?zhh
   case zhg => exact (ps_setS (i := 2) nd rfl (Or.inl rfl) (pe_ix (k_ix (K := K) rfl) (k_fld (K := K) rfl (pv 0) rfl) (pe_un un_neg pe_int) (fun _ _ => rfl)))
   case zhh =>
    refine' pss_cons ?zhi ?zhj
    case zhi =>
     refine' ps_if ?zhk ?zhl ?zhm
     case zhk =>
      refine' PW.pt ?zhn
      case zhn =>
       refine' pw_and ?zho ?zhp
       case zho => exact (pt_cmpR op_eq (pe_ix (k_ix (K := K) rfl) (pv 1) pe_int (fun _ _ => rfl)) pe_str (nomark _))
       case zhp => exact (pw_and1 (pt_cmpR op_eq (pe_callB (k_len (K := K) rfl) (by rfl) B.b_len bt_len (pa_consA (k_fld (K := K) rfl (pv 0) rfl) pa_nil)) pe_int (nomark _)))
     case zhl =>
      refine' pss_one ?zhq
      case zhq =>
       refine' ps_ret ?zhr
       case zhr =>
        refine' pe_tup ?zhs
        case zhs =>
         refine' pa_consK ?zht ?zhu
         case zht => exact pe_str
         case zhu =>
          refine' pa_consS ?zhv ?zhw
          case zhv =>
           refine' pe_ix ?zhx ?zhy ?zhz ?zia
           case zhx => exact (k_ix (K := K) rfl)
           case zhy => exact (pe_ix (k_ix (K := K) rfl) (pv 2) pe_int (fun _ _ => rfl))
           case zhz => exact (pe_ix (k_ix (K := K) rfl) (pv 1) pe_int (fun _ _ => rfl))
           case zia => exact (fun _ _ => rfl)
          case zhw => exact pa_nil
     case zhm => exact pss_nil
    case zhj =>
     refine' pss_cons ?zib ?zic
     case zib =>
      refine' ps_if ?zid ?zie ?zif
      case zid =>
       refine' PW.pt ?zig
       case zig =>
        refine' pw_and ?zih ?zii
        case zih => exact (pt_cmpR op_eq (pe_ix (k_ix (K := K) rfl) (pv 1) pe_int (fun _ _ => rfl)) pe_str (nomark _))
        case zii => exact (pw_and1 (pt_cmpR op_eq (pe_callB (k_len (K := K) rfl) (by rfl) B.b_len bt_len (pa_consA (k_fld (K := K) rfl (pv 0) rfl) pa_nil)) pe_int (nomark _)))
      case zie =>
       refine' pss_one ?zij
       case zij =>
        refine' ps_ret ?zik
        case zik =>
         refine' pe_tup ?zil
         case zil =>
          refine' pa_consK ?zim ?zin
          case zim => exact pe_str
          case zin => exact (pa_consS (pe_ix (k_ix (K := K) rfl) (pv 2) pe_int (fun _ _ => rfl)) (pa_consS (pe_ix (k_ix (K := K) rfl) (pv 2) pe_int (fun _ _ => rfl)) pa_nil))
      case zif => exact pss_nil
     case zic =>
      refine' pss_cons ?zio ?zip
      case zio =>
       refine' ps_if ?ziq ?zir ?zis
       case ziq =>
        refine' PW.pt ?zit
        case zit =>
         refine' pw_and ?ziu ?ziv
         case ziu => exact (pt_cmpR op_eq (pe_ix (k_ix (K := K) rfl) (pv 1) pe_int (fun _ _ => rfl)) pe_str (nomark _))
         case ziv =>
          refine' pw_and1 ?ziw
          case ziw =>
           refine' pt_cmpR ?zix ?ziy ?ziz ?zja
           case zix => exact op_ge
           case ziy => exact (pe_callB (k_len (K := K) rfl) (by rfl) B.b_len bt_len (pa_consA (k_fld (K := K) rfl (pv 0) rfl) pa_nil))
           case ziz => exact (pe_cint (by rfl) G.c_MOST_FRAMES)
           case zja => exact (nomark _)
       case zir =>
        refine' pss_one ?zjb
        case zjb =>
         refine' ps_ret ?zjc
         case zjc =>
          refine' pe_tup ?zjd
          case zjd =>
           refine' pa_consK ?zje ?zjf
           case zje => exact pe_str
           case zjf => exact (pa_consS (pe_ix (k_ix (K := K) rfl) (pv 2) pe_int (fun _ _ => rfl)) (pa_consS (pe_ix (k_ix (K := K) rfl) (pv 2) pe_int (fun _ _ => rfl)) pa_nil))
       case zis => exact pss_nil
      case zip => exact (pss_one (ps_ret pe_non))
  have hfl : h.frames.length = fz.length + 1 := by rw [← a.fr]; simp
  have z1 := a.z1 (z := z) (by simp)
  have z2 := a.z2 (z := z) (by simp)
  walk_at "rd"
  refine fld_of a.obj HHand.cl HHand.n_frames hf_frames ?_
  walk_at "rd"
  refine rd_ixaL a.fl fz_last ?_
  walk_at "rd"
  refine rep_row0 rv ?_
  walk_at "rd"
  -- the last test, and what is told behind all
  by_cases hb : r.row.1 = "back"
  · refine ite_dy hb ?_
    walk_at "rd"
    refine fld_of a.obj HHand.cl HHand.n_frames hf_frames ?_
    walk_at "rd"
    refine rd_lenL' (SqL.of a.fl) ?_
    rw [List.length_map]
    walk_at "rd"
    cases r with
    | back q =>
      refine ite_dd (fun e => ?_) (fun e => ?_)
      · walk_at "rd"
        refine rd_ixaL (v := .ref z.1.2) z1 rfl ?_
        walk_at "rd"
        refine rep_rowI (n := 0) rv rfl rfl ?_
        refine rd_ixaL z2 (box_get ok) ?_
        walk_at "rd"
        walk_at "mk"; intro t ht
        have he : endAt h z.2 (.back q) = some (.back (boxAt z.2.2.2 q)) := if_pos (by rw [hfl]; simp at e; omega)
        refine k _ _ (Same.new ht) ?_
        rw [he]
        exact rep_tup upd_same (reps_cons (by rw [Rep]) (reps_cons rep_int reps_nil))
      · have he : endAt h z.2 (.back q) = none := if_neg (by rw [hfl]; simp at e; omega)
        rw [he] at k
        walk_at "rd"
        refine rep_row0 rv ?_
        walk_at "rd"
        refine ite_dn (by simp only [Rw.row]; decide) ?_
        walk_at "rd"
        refine rep_row0 rv ?_
        walk_at "rd"
        refine ite_dn (by simp only [Rw.row]; decide) ?_
        walk_at "rd"
        exact k _ _ (Same.refl _) rep_non
    | _ => exact absurd hb (by simp only [Rw.row]; decide)
  · refine ite_dn hb ?_
    walk_at "rd"
    refine rep_row0 rv ?_
    walk_at "rd"
    by_cases ht : r.row.1 = "take"
    · refine ite_dy ht ?_
      walk_at "rd"
      refine fld_of a.obj HHand.cl HHand.n_left hf_left ?_
      walk_at "rd"
      refine rd_lenL' (SqL.of a.ll) ?_
      rw [List.length_map]
      walk_at "rd"
      cases r with
      | take q =>
        refine ite_dd (fun e => ?_) (fun e => ?_)
        · walk_at "rd"
          refine rd_ixaL (v := .int z.2.1) z1 rfl ?_
          walk_at "rd"
          refine rd_ixaL (v := .int z.2.2.1) z1 rfl ?_
          walk_at "rd"
          walk_at "mk"; intro t ht
          have he : endAt h z.2 (.take q) = some (.dry z.2.1 z.2.2.1) := if_pos (List.eq_nil_of_length_eq_zero (by omega))
          refine k _ _ (Same.new ht) ?_
          rw [he]
          exact rep_tup upd_same (reps_cons (by rw [Rep]) (reps_cons rep_int (reps_cons rep_int reps_nil)))
        · have he : endAt h z.2 (.take q) = none := if_neg (fun e' => e (by rw [e']; rfl))
          rw [he] at k
          walk_at "rd"
          refine rep_row0 rv ?_
          walk_at "rd"
          refine ite_dn (by simp only [Rw.row]; decide) ?_
          walk_at "rd"
          exact k _ _ (Same.refl _) rep_non
      | _ => exact absurd ht (by simp only [Rw.row]; decide)
    · refine ite_dn ht ?_
      walk_at "rd"
      refine rep_row0 rv ?_
      walk_at "rd"
      by_cases hc : r.row.1 = "call"
      · refine ite_dy hc ?_
        walk_at "rd"
        refine fld_of a.obj HHand.cl HHand.n_frames hf_frames ?_
        walk_at "rd"
        refine rd_lenL' (SqL.of a.fl) ?_
        rw [List.length_map]
        walk_at "rd"
        cases r with
        | call q g qs =>
          refine ite_dd (fun e => ?_) (fun e => ?_)
          · walk_at "rd"
            refine rd_ixaL (v := .int z.2.1) z1 rfl ?_
            walk_at "rd"
            refine rd_ixaL (v := .int z.2.2.1) z1 rfl ?_
            walk_at "rd"
            walk_at "mk"; intro t ht
            have he : endAt h z.2 (.call q g qs) = some (.deep z.2.1 z.2.2.1) := if_pos (by rw [hfl]; simp at e; omega)
            refine k _ _ (Same.new ht) ?_
            rw [he]
            exact rep_tup upd_same (reps_cons (by rw [Rep]) (reps_cons rep_int (reps_cons rep_int reps_nil)))
          · have he : endAt h z.2 (.call q g qs) = none := if_neg (by rw [hfl]; simp at e; omega)
            rw [he] at k
            walk_at "rd"
            exact k _ _ (Same.refl _) rep_non
        | _ => exact absurd hc (by simp only [Rw.row]; decide)
      · refine ite_dn hc ?_
        have he : endAt h z.2 r = none := by
          cases r with
          | back q => exact absurd rfl hb
          | take q => exact absurd rfl ht
          | call q g qs => exact absurd rfl hc
          | _ => rfl
        rw [he] at k
        walk_at "rd"
        exact k _ _ (Same.refl _) rep_non

end
section
variable {C : Addr}
theorem HA.fresh {p dx pp pf pn pl : Addr} {fz : List FZ} {H : Hp} {Pg : List Df} {h : HS} {ve : V} (a : HA C p dx pp pf pn pl fz H Pg h ve) {b : Addr} (e : H b = none) : b ∉ ownA p pf pn pl fz := fun m => by
  rw [← own_objs (C := C) (dx := dx) (pp := pp) (h := h) (ve := ve)] at m
  obtain ⟨x, hx, rfl⟩ := List.mem_map.mp m
  rw [a.all x hx] at e
  cases e
def sp_do_own (C : Addr) : Sp := sp3 fun x y u H Q => ∃ p dx pp pf pn pl fz z P h ve r many, x = .ref p ∧ HA C p dx pp pf pn pl (fz ++ [z]) H P h ve ∧ Rep H (rowD (Rw.row r)) y ∧ u = .ref z.1.2 ∧ Rw.Ok P z.2.2.2.length many r ∧ MulOk z.2.2.2 ∧ (∀ q, r = .take q → h.left ≠ []) ∧ h.news.length ≤ 200000 ∧
  ∀ H', HA C p dx pp pf pn pl (fz ++ [(z.1, (z.2.1, z.2.2.1, (r.own3 z.2.2.2 h.left h.news).1))]) H' P { h with frames := fz.map (·.2) ++ [(z.2.1, z.2.2.1, (r.own3 z.2.2.2 h.left h.news).1)], left := (r.own3 z.2.2.2 h.left h.news).2.1, news := (r.own3 z.2.2.2 h.left h.news).2.2 } ve → OSame (ownA p pf pn pl (fz ++ [z])) H H' → Q .non H'
theorem sc_Hand_do_own : FnScope ["self", "row", "boxes"] ["self", "row", "boxes"] (defScope s_Hand_do_own) := ⟨rfl, rfl, rfl, by decide +kernel, rfl, by decide +kernel, by decide +kernel⟩
theorem c_Hand_do_own (B : Blt mg) (G : Glb K mg) (HHand : CHand K C) (T_Hand_do_own : TopM K C "do_own" "Hand.do_own" s_Hand_do_own ["self", "row", "boxes"]) (Creckoned : Callee P w K mg base "reckoned" 1 ["row", "boxes"] sp_reck) : MCal P w K mg base C "do_own" 2 ["self", "row", "boxes"] (sp_do_own C) := by
  refine T_Hand_do_own.ok3 sc_Hand_do_own fun f cdv A outer s H v1 v2 v3 Q E hr hh => ?_
  have nd := sc_Hand_do_own.nd
  obtain ⟨p, dx, pp, pf, pn, pl, fz, z, Pg, h, ve, r, many, rfl, a, rv, rfl, ok, mu, tk, few, k⟩ := hh
  refine' go_body [some (.ref p), some v2, some (.ref z.1.2)] rfl ?hb ?hg
  case hb =>
   refine' pss_one ?zjg
   case zjg =>
    refine' ps_if ?zjh ?zji ?zjj
    case zjh => exact (pt_cmpR op_eq (pe_ix (k_ix (K := K) rfl) (pv 1) pe_int (fun _ _ => rfl)) pe_str (nomark _))
    case zji =>
     refine' pss_one ?zjk
     case zjk =>
      refine' ps_expr ?zjl
      case zjl =>
       refine' k_bm (K := K) ?zjm ?zjn ?zjo ?zjp ?zjq ?zjr ?zjs
       case zjm => exact rfl
       case zjn => exact PySem.F.plainAttrs_list
       case zjo => exact PySem.F.slot_list_append
       case zjp => exact PySem.F.type_list_append
       case zjq => exact mt_append
       case zjr => exact (k_fld (K := K) rfl (pv 0) rfl)
       case zjs => exact (pa_consS (pe_ix (k_ix (K := K) rfl) (pv 2) (pe_ix (k_ix (K := K) rfl) (pv 1) pe_int (fun _ _ => rfl)) (fun _ _ => rfl)) pa_nil)
    case zjj =>
     refine' pss_one ?zjt
     case zjt =>
      refine' ps_if ?zju ?zjv ?zjw
      case zju => exact (pt_cmpR op_eq (pe_ix (k_ix (K := K) rfl) (pv 1) pe_int (fun _ _ => rfl)) pe_str (nomark _))
      case zjv =>
       refine' pss_one ?zjx
       case zjx =>
        refine' ps_asg ?zjy ?zjz
        case zjy =>
         refine' k_bm (K := K) ?zka ?zkb ?zkc ?zkd ?zke ?zkf ?zkg
         case zka => exact rfl
         case zkb => exact PySem.F.plainAttrs_list
         case zkc => exact PySem.F.slot_list_pop
         case zkd => exact PySem.F.type_list_pop
         case zke => exact mt_popAt
         case zkf => exact (k_fld (K := K) rfl (pv 0) rfl)
         case zkg => exact (pa_consK pe_int pa_nil)
        case zjz => exact (pg_sub (pv 2) (pe_ix (k_ix (K := K) rfl) (pv 1) pe_int (fun _ _ => rfl)) set_list)
      case zjw =>
       refine' pss_one ?zkh
       case zkh =>
        refine' ps_if ?zki ?zkj ?zkk
        case zki =>
         refine' pt_cmpR ?zkl ?zkm ?zkn ?zko
         case zkl => exact (k_in (K := K) rfl)
         case zkm => exact (pe_ix (k_ix (K := K) rfl) (pv 1) pe_int (fun _ _ => rfl))
         case zkn => exact (pe_ctup (K := K) (by rfl) G.c_RECKONINGS)
         case zko => exact (by with_unfolding_all rfl)
        case zkj =>
         refine' pss_one ?zkp
         case zkp =>
          refine' ps_asg ?zkq ?zkr
          case zkq => exact (pe_fn Creckoned (hr.mono (by first | decide | omega)) (by rfl) (pa_consN (pv 1) (pa_consN (pv 2) pa_nil)))
          case zkr => exact (pg_sub (pv 2) (pe_ix (k_ix (K := K) rfl) (pv 1) pe_int (fun _ _ => rfl)) set_list)
        case zkk => exact pss_nil
  have z2 := a.z2 (z := z) (by simp)
  have hz : h = { h with frames := fz.map (·.2) ++ [(z.2.1, z.2.2.1, z.2.2.2)], left := h.left, news := h.news } := by
    have := a.fr
    rw [List.map_append] at this
    cases h
    simp at this ⊢
    exact this.symm
  walk_at "rd"
  refine rep_row0 rv ?_
  walk_at "rd"
  -- nothing is done
  have nix : r.own3 z.2.2.2 h.left h.news = (z.2.2.2, h.left, h.news) → Q .non H := fun e => by
    rw [e] at k
    refine k H ?_ (OSame.refl _ _)
    have a' := a
    rw [hz] at a'
    exact a'
  by_cases hb : r.row.1 = "tell"
  · refine ite_dy hb ?_
    cases r with
    | tell q =>
      walk_at "rd"
      refine fld_of a.obj HHand.cl HHand.n_news hf_news ⟨.inl ⟨rfl, _, SqL.of a.nl⟩, ?_⟩
      walk_at "rd"
      refine rep_rowI (n := 0) rv rfl rfl ?_
      refine rd_ixaL z2 (box_get ok) ?_
      walk_at "rd"
      refine rd_append a.nl (Nat.lt_of_le_of_lt (show (h.news.map V.int).length ≤ 200000 by rw [List.length_map]; exact few) (by rw [sizeLine_eq]; decide)) ?_
      have e : h.news.map V.int ++ [V.int (boxAt z.2.2.2 q)] = (h.news ++ [boxAt z.2.2.2 q]).map V.int := by simp
      rw [e]
      obtain ⟨a1, o1⟩ := a.setNews (h.news ++ [boxAt z.2.2.2 q])
      walk_at "rd"
      refine k _ ?_ o1
      rw [hz] at a1
      exact a1
    | _ => exact absurd hb (by simp only [Rw.row]; decide)
  · refine ite_dn hb ?_
    walk_at "rd"
    refine rep_row0 rv ?_
    walk_at "rd"
    by_cases ht : r.row.1 = "take"
    · refine ite_dy ht ?_
      cases r with
      | take q =>
        obtain ⟨n, rest, hl⟩ : ∃ n rest, h.left = n :: rest := by
          cases e : h.left with
          | nil => exact absurd e (tk q rfl)
          | cons n rest => exact ⟨n, rest, rfl⟩
        walk_at "rd"
        refine fld_of a.obj HHand.cl HHand.n_left hf_left ⟨.inl ⟨rfl, _, SqL.of a.ll⟩, ?_⟩
        walk_at "rd"
        refine ⟨pl, _, 0, 0, .int n, rfl, rfl, a.ll, by decide, by decide, ?_, by rw [hl]; rfl, ?_⟩
        · rw [hl]; simp [seqIndex?]
        have e : (h.left.map V.int).eraseIdx 0 = rest.map V.int := by rw [hl]; rfl
        rw [e]
        obtain ⟨a1, o1⟩ := a.setLeft rest
        have rv1 := rv.mono (o1.ts a.notup)
        walk_at "rd"
        refine rep_rowI (n := 0) rv1 rfl rfl ?_
        have z2' := a1.z2 (z := z) (by simp)
        have hq : q.toNat < z.2.2.2.length := by have := ok.1; have := ok.2; omega
        refine rd_setL (k := q.toNat) z2' (ixN_at (by have := ok.1; omega) (by rw [List.length_map]; exact hq)) ?_
        rw [map_setAt]
        obtain ⟨a2, o2⟩ := a1.setBox (setAt z.2.2.2 q n)
        refine k _ ?_ (o1.trans o2 fun x hx => .inl hx)
        have e3 : Rw.own3 z.2.2.2 h.left h.news (.take q) = (setAt z.2.2.2 q n, rest, h.news) := by simp [Rw.own3, hl]
        rw [e3]
        exact a2
      | _ => exact absurd ht (by simp only [Rw.row]; decide)
    · refine ite_dn ht ?_
      walk_at "rd"
      refine rep_row0 rv ?_
      refine rd_ct fun ac hct => ?_
      refine ⟨ac, _, rfl, .inr (hct H), rfl, rfl, ?_⟩
      rw [if_neg Bool.false_ne_true]
      have calc_way : ∀ q v, r.calc z.2.2.2 = some (q, v) → In0 q z.2.2.2.length → r.row.2[0]? = some (.int q) → r.own3 z.2.2.2 h.left h.news = (setAt z.2.2.2 q v, h.left, h.news) → inV (.str r.row.1) [V.str "put", V.str "copy", V.str "plus", V.str "less", V.str "times"] = true →
          ∃ k', V.bl (inV (.str r.row.1) [V.str "put", V.str "copy", V.str "plus", V.str "less", V.str "times"]) = V.bl k' ∧ if k' = true then tAsg (tCall sp_reck [] E0 (tCons (tVar 1) (tCons (tVar 2) tNil))) (gSub (tVar 2) (tOp (rIxA K) (tVar 1) (tC (.int 1))) rSetL) { nx := fun _ H' => Q .non H', rt := Q } [some (.ref p), some v2, some (.ref z.1.2)] H else Q .non H := by
        intro q v hc hq hr0 ho hin
        rw [hin]
        refine ⟨true, rfl, iteT ?_⟩
        walk_at "rd"
        refine use2 ⟨Pg, many, r, z.1.2, z.2.2.2, q, v, rv, rfl, z2, ok, mu, hc, ?_⟩
        walk_at "rd"
        refine rep_rowI (n := 0) rv rfl hr0 ?_
        have hq' : q.toNat < z.2.2.2.length := by have := hq.1; have := hq.2; omega
        refine rd_setL (k := q.toNat) z2 (ixN_at (by have := hq.1; omega) (by rw [List.length_map]; exact hq')) ?_
        rw [map_setAt]
        obtain ⟨a2, o2⟩ := a.setBox (setAt z.2.2.2 q v)
        refine k _ ?_ o2
        rw [ho]
        exact a2
      have no_way : r.own3 z.2.2.2 h.left h.news = (z.2.2.2, h.left, h.news) → inV (.str r.row.1) [V.str "put", V.str "copy", V.str "plus", V.str "less", V.str "times"] = false →
          ∃ k', V.bl (inV (.str r.row.1) [V.str "put", V.str "copy", V.str "plus", V.str "less", V.str "times"]) = V.bl k' ∧ if k' = true then tAsg (tCall sp_reck [] E0 (tCons (tVar 1) (tCons (tVar 2) tNil))) (gSub (tVar 2) (tOp (rIxA K) (tVar 1) (tC (.int 1))) rSetL) { nx := fun _ H' => Q .non H', rt := Q } [some (.ref p), some v2, some (.ref z.1.2)] H else Q .non H := by
        intro ho hin
        rw [hin]
        exact ⟨false, rfl, iteF (nix ho)⟩
      cases r with
      | put q n => exact calc_way q n rfl ok.1 rfl rfl (by simp only [Rw.row]; decide)
      | copy q q1 => exact calc_way q _ rfl ok.1 rfl rfl (by simp only [Rw.row]; decide)
      | plus q q1 q2 => exact calc_way q _ rfl ok.1 rfl rfl (by simp only [Rw.row]; decide)
      | less q q1 q2 => exact calc_way q _ rfl ok.1 rfl rfl (by simp only [Rw.row]; decide)
      | times q q1 n => exact calc_way q _ rfl ok.1 rfl rfl (by simp only [Rw.row]; decide)
      | take q => exact absurd rfl ht
      | tell q => exact absurd rfl hb
      | jump t => exact no_way rfl (by simp only [Rw.row]; decide)
      | zero q t => exact no_way rfl (by simp only [Rw.row]; decide)
      | below q t => exact no_way rfl (by simp only [Rw.row]; decide)
      | call q g qs => exact no_way rfl (by simp only [Rw.row]; decide)
      | back q => exact no_way rfl (by simp only [Rw.row]; decide)

end
end
end My

end
section
set_option Elab.async false
set_option linter.all false
set_option maxRecDepth 100000
set_option maxHeartbeats 4000000

namespace My
open PySem L2
local macro_rules | `(tactic| walk_at "rd1") => `(tactic| (first | ((with_reducible refine' rd_var ?e ?_); (case e => exact rfl)) | with_reducible refine rd_c ?_ | with_reducible refine rd_op ?_ | with_reducible refine rd_un ?_ | with_reducible refine rd_seq ?_ | with_reducible refine rd_asg ?_ | with_reducible refine rd_gname ?_ | with_reducible refine rd_ret ?_ | with_reducible refine rd_drop ?_ | with_reducible refine rd_next ?_ | with_reducible refine rd_if ?_ | with_reducible refine rd_test ?_ | with_reducible refine rd_tb ?_ | with_reducible refine rd_and ?_ | with_reducible refine rd_or ?_ | with_reducible refine rd_not ?_ | with_reducible refine rd_true ?_ | with_reducible refine rd_andV ?_ | with_reducible refine rd_orV ?_ | with_reducible refine rd_notV ?_ | with_reducible refine rd_ifE ?_ | with_reducible refine rd_chain ?_ | with_reducible refine rd_nil ?_ | with_reducible refine rd_cons ?_ | with_reducible refine rd_cb ?_ | with_reducible refine rd_call ?_ | with_reducible refine rd_I0 ?_ | with_reducible refine rd_U ?_ | with_reducible refine rd_eqI ?_ | with_reducible refine rd_neI ?_ | with_reducible refine rd_eqS ?_ | with_reducible refine rd_neS ?_ | with_reducible refine rd_eqB ?_ | with_reducible refine rd_neB ?_ | with_reducible refine rd_bl ?_ | with_reducible refine rd_int ?_ | with_reducible refine rd_tup ?_ | with_reducible refine rd_lst ?_ | with_reducible refine rd_gsub ?_ | with_reducible refine rd_slice ?_ | with_reducible refine rd_nopart ?_ | with_reducible refine rd_part ?_ | with_reducible refine rd_bm ?_ | with_reducible refine rd_bm0 ?_ | with_reducible refine rd_comp ?_ | with_reducible refine rd_itup ?_ | with_reducible refine rd_ilist ?_ | with_reducible refine rd_irng ?_ | with_reducible refine rd_gcons ?_ | with_reducible refine rd_gnil ?_ | with_reducible refine rd_for ?_ | with_reducible refine rd_abs ?_ | with_reducible refine rd_max ?_ | with_reducible refine rd_min ?_ | with_reducible refine rd_intB ?_ | with_reducible refine rd_dput ?_ | with_reducible refine rd_dget2 ?_ | with_reducible refine rd_dget ?_ | with_reducible refine rd_fld ?_ | with_reducible refine rd_sfld ?_ | with_reducible refine rd_meth ?_ | with_reducible refine rd_make ?_ | with_reducible refine rd_isN ?_ | with_reducible refine rd_notN ?_ | with_reducible refine rd_izip ?_ | with_reducible refine iteNT ?_ | with_reducible refine iteNF ?_ | with_reducible refine iteF ?_ | with_reducible refine iteT ?_))
local macro_rules | `(tactic| walk_at "rd") => `(tactic| (repeat walk_at "rd1"))
local macro_rules | `(tactic| walk_at "mk") => `(tactic| refine ⟨mk_le rfl, ?_⟩)

section
variable {P : Program} {w : World} {K : PySem.W.Frag} {mg : Str → Option Value} {base : Heap}
section
variable {C : Addr}
def sp_give (C : Addr) : Sp := sp2 fun x y H Q => ∃ p dx pp pf pn pl fz z P h ve n d p2 g qs, x = .ref p ∧ HA C p dx pp pf pn pl (fz ++ [z]) H P h ve ∧ y = .int n ∧ 0 ≤ z.2.1 ∧ P[z.2.1.toNat]? = some d ∧ 0 ≤ z.2.2.1 ∧ d.rows[z.2.2.1.toNat]? = some (.call p2 g qs) ∧ In0 p2 z.2.2.2.length ∧
  ∀ H', HA C p dx pp pf pn pl (fz ++ [(z.1, (z.2.1, z.2.2.1 + 1, setAt z.2.2.2 p2 n))]) H' P { h with frames := fz.map (·.2) ++ [(z.2.1, z.2.2.1 + 1, setAt z.2.2.2 p2 n)] } ve → OSame (ownA p pf pn pl (fz ++ [z])) H H' → Q .non H'
theorem sc_Hand_give_back : FnScope ["self", "number", "frame", "call"] ["self", "number"] (defScope s_Hand_give_back) := ⟨rfl, rfl, rfl, by decide +kernel, rfl, by decide +kernel, by decide +kernel⟩
theorem c_Hand_give_back (HHand : CHand K C) (T_Hand_give_back : TopM K C "give_back" "Hand.give_back" s_Hand_give_back ["self", "number"]) (Crow_of : Callee P w K mg base "row_of" 1 ["program", "frame"] sp_row_of) : MCal P w K mg base C "give_back" 2 ["self", "number"] (sp_give C) := by
  refine T_Hand_give_back.ok2 sc_Hand_give_back fun f cdv A outer s H v1 v2 Q E hr hh => ?_
  have nd := sc_Hand_give_back.nd
  obtain ⟨p, dx, pp, pf, pn, pl, fz, z, Pg, h, ve, n, d, p2, g, qs, rfl, a, rfl, f0, ed, a0, er, hp2, k⟩ := hh
  refine' go_body [some (.ref p), some (.int n), none, none] rfl ?hb ?hg
  case hb =>
   refine' pss_cons ?zb ?zc
   case zb => exact (ps_setS (i := 2) nd rfl (Or.inl rfl) (pe_ix (k_ix (K := K) rfl) (k_fld (K := K) rfl (pv 0) rfl) (pe_un un_neg pe_int) (fun _ _ => rfl)))
   case zc =>
    refine' pss_cons ?zd ?ze
    case zd =>
     refine' ps_setC (i := 3) ?zf ?zg ?zh ?zi
     case zf => exact nd
     case zg => exact rfl
     case zh => exact (Or.inl rfl)
     case zi => exact (pe_fn Crow_of (hr.mono (by first | decide | omega)) (by rfl) (pa_consA (k_fld (K := K) rfl (pv 0) rfl) (pa_consN (pv 2) pa_nil)))
    case ze =>
     refine' pss_cons ?zj ?zk
     case zj =>
      refine' ps_asg ?zl ?zm
      case zl => exact (pv 1)
      case zm => exact (pg_sub (pe_ix (k_ix (K := K) rfl) (pv 2) pe_int (fun _ _ => rfl)) (pe_ix (k_ix (K := K) rfl) (pv 3) pe_int (fun _ _ => rfl)) set_list)
     case zk => exact (pss_one (ps_asg (pe_op op_add (pe_ix (k_ix (K := K) rfl) (pv 2) pe_int (fun _ _ => rfl)) pe_int) (pg_sub (pv 2) pe_int set_list)))
  have z1 := a.z1 (z := z) (by simp)
  have z2 := a.z2 (z := z) (by simp)
  walk_at "rd"
  refine fld_of a.obj HHand.cl HHand.n_frames hf_frames ?_
  walk_at "rd"
  refine rd_ixaL a.fl fz_last ?_
  walk_at "rd"
  refine fld_of a.obj HHand.cl HHand.n_program hf_program ?_
  walk_at "rd"
  refine use2 ⟨_, Pg, pp, z.1.1, z.2.1, z.2.2.1, z.1.2, d, .call p2 g qs, rfl, rfl, a.pg, z1, f0, ed, a0, er, fun v rv => ?_⟩
  walk_at "rd"
  refine rd_ixaL (v := .ref z.1.2) z1 rfl ?_
  walk_at "rd"
  refine rep_rowI (n := 0) rv rfl rfl ?_
  have hq : p2.toNat < z.2.2.2.length := by have := hp2.1; have := hp2.2; omega
  refine rd_setL (k := p2.toNat) z2 (ixN_at (by have := hp2.1; omega) (by rw [List.length_map]; exact hq)) ?_
  rw [map_setAt]
  obtain ⟨a1, o1⟩ := a.setBox (setAt z.2.2.2 p2 n)
  have w1 := a1.z1 (z := (z.1, (z.2.1, z.2.2.1, setAt z.2.2.2 p2 n))) (by simp)
  walk_at "rd"
  refine rd_ixaL (v := .int z.2.2.1) w1 rfl ?_
  walk_at "rd"
  refine rd_setL (k := 1) w1 rfl ?_
  obtain ⟨a2, o2⟩ := a1.setRow (z.2.2.1 + 1)
  walk_at "rd"
  refine k _ ?_ (o1.trans o2 fun x hx => .inl ?_)
  · have e : ({ h with frames := fz.map (·.2) ++ [(z.2.1, z.2.2.1 + 1, setAt z.2.2.2 p2 n)] } : HS) = { ({ h with frames := fz.map (·.2) ++ [(z.2.1, z.2.2.1, setAt z.2.2.2 p2 n)] } : HS) with frames := fz.map (·.2) ++ [(z.2.1, z.2.2.1 + 1, setAt z.2.2.2 p2 n)] } := rfl
    rw [e]
    exact a2
  · rw [own_app] at hx ⊢
    exact hx
theorem next_own {r : Rw} {bx l n : List Int} {at' : Int} : r.next (r.own3 bx l n).1 at' = r.next bx at' := by cases r <;> rfl
theorem own_len {r : Rw} {bx l n : List Int} : (r.own3 bx l n).1.length = bx.length := by cases r <;> simp [Rw.own3, Rw.calc, setAt]
theorem ne_pf {p pf pn pl : Addr} {fz : List FZ} (h : (ownA p pf pn pl fz).Nodup) {z : FZ} (m : z ∈ fz) : z.1.2 ≠ pf ∧ z.1.1 ≠ pf := by
  unfold ownA at h
  obtain ⟨_, _, n3⟩ := List.nodup_append.mp h
  exact ⟨fun e => n3 pf (by simp) z.1.2 (List.mem_flatMap.mpr ⟨z, m, by simp⟩) e.symm, fun e => n3 pf (by simp) z.1.1 (List.mem_flatMap.mpr ⟨z, m, by simp⟩) e.symm⟩
/-- what is told of frames, numbers left and news -/
def withT (h : HS) (t : List Fr × List Int × List Int) : HS := { h with frames := t.1, left := t.2.1, news := t.2.2 }
def sp_do_row (C : Addr) : Sp := sp2 fun x y H Q => ∃ p dx pp pf pn pl fz z P h ve d r, x = .ref p ∧ HA C p dx pp pf pn pl (fz ++ [z]) H P h ve ∧ Rep H (rowD (Rw.row r)) y ∧ PgOk P ∧ 0 ≤ z.2.1 ∧ P[z.2.1.toNat]? = some d ∧ d.rows[z.2.2.1.toNat]? = some r ∧ (z.2.2.2.length : Int) = d.boxes ∧ MulOk z.2.2.2 ∧ endAt h z.2 r = none ∧ h.news.length ≤ 200000 ∧ fz.length ≤ 20 ∧
  (∀ fz0 w, fz = fz0 ++ [w] → ∃ d2 p2 g qs, 0 ≤ w.2.1 ∧ P[w.2.1.toNat]? = some d2 ∧ 0 ≤ w.2.2.1 ∧ d2.rows[w.2.2.1.toNat]? = some (.call p2 g qs) ∧ In0 p2 w.2.2.2.length) ∧
  ∀ fz' H', HA C p dx pp pf pn pl fz' H' P (withT h (eff P (fz.map (·.2)) z.2 h.left h.news r)) ve → OSame (ownA p pf pn pl (fz ++ [z])) H H' → (∀ x ∈ ownA p pf pn pl fz', x ∈ ownA p pf pn pl (fz ++ [z]) ∨ H x = none) → Q .non H'
theorem sc_Hand_do_row : FnScope ["self", "row", "frame", "boxes"] ["self", "row"] (defScope s_Hand_do_row) := ⟨rfl, rfl, rfl, by decide +kernel, rfl, by decide +kernel, by decide +kernel⟩
theorem c_Hand_do_row (B : Blt mg) (HHand : CHand K C) (T_Hand_do_row : TopM K C "do_row" "Hand.do_row" s_Hand_do_row ["self", "row"]) (Cnew_frame : Callee P w K mg base "new_frame" 1 ["program", "f", "numbers"] (sp_newfr K)) (Crow_behind : Callee P w K mg base "row_behind" 2 ["row", "at", "boxes"] sp_behind)
    (MHand_give_back : MCal P w K mg base C "give_back" 2 ["self", "number"] (sp_give C)) (MHand_do_own : MCal P w K mg base C "do_own" 2 ["self", "row", "boxes"] (sp_do_own C)) : MCal P w K mg base C "do_row" 3 ["self", "row"] (sp_do_row C) := by
  refine T_Hand_do_row.ok2 sc_Hand_do_row fun f cdv A outer s H v1 v2 Q E hr hh => ?_
  have nd := sc_Hand_do_row.nd
  obtain ⟨p, dx, pp, pf, pn, pl, fz, z, Pg, h, ve, d, r, rfl, a, rv, PO, f0, ed, er, hbx, mu, hend, few, hfz, hw, k⟩ := hh
  have DO := PO.2.2 d (List.mem_of_getElem? ed)
  have ok : r.Ok Pg z.2.2.2.length d.rows.length := by rw [hbx]; exact DO.rows r (List.mem_of_getElem? er)
  refine' go_body [some (.ref p), some v2, none, none] rfl ?hb ?hg
  case hb =>
   refine' pss_cons ?zn ?zo
   case zn => exact (ps_setS (i := 2) nd rfl (Or.inl rfl) (pe_ix (k_ix (K := K) rfl) (k_fld (K := K) rfl (pv 0) rfl) (pe_un un_neg pe_int) (fun _ _ => rfl)))
   case zo =>
    refine' pss_cons ?zp ?zq
    case zp => exact (ps_setS (i := 3) nd rfl (Or.inr rfl) (pe_ix (k_ix (K := K) rfl) (pv 2) pe_int (fun _ _ => rfl)))
    case zq =>
     refine' pss_one ?zr
     case zr =>
      refine' ps_if ?zs ?zt ?zu
      case zs => exact (pt_cmpR op_eq (pe_ix (k_ix (K := K) rfl) (pv 1) pe_int (fun _ _ => rfl)) pe_str (nomark _))
      case zt =>
       refine' pss_one ?zv
       case zv =>
        refine' ps_expr ?zw
        case zw =>
         refine' k_bm (K := K) ?zx ?zy ?zz ?zba ?zbb ?zbc ?zbd
         case zx => exact rfl
         case zy => exact PySem.F.plainAttrs_list
         case zz => exact PySem.F.slot_list_append
         case zba => exact PySem.F.type_list_append
         case zbb => exact mt_append
         case zbc => exact (k_fld (K := K) rfl (pv 0) rfl)
         case zbd =>
          refine' pa_consC ?zbe ?zbf
          case zbe =>
           refine' pe_fn ?zbg ?zbh ?zbi ?zbj
           case zbg => exact Cnew_frame
           case zbh => exact (hr.mono (by first | decide | omega))
           case zbi => exact (by rfl)
           case zbj =>
            refine' pa_consA ?zbk ?zbl
            case zbk => exact (k_fld (K := K) rfl (pv 0) rfl)
            case zbl =>
             refine' pa_consS ?zbm ?zbn
             case zbm => exact (pe_ix (k_ix (K := K) rfl) (pv 1) pe_int (fun _ _ => rfl))
             case zbn =>
              refine' pa_consM ?zbo ?zbp
              case zbo =>
               refine' pe_comp (LN := ["q"]) (FN := ["boxes"]) (fr := [3]) ?zbq ?zbr ?zbs ?zbt ?zbu ?zbv
               case zbq => exact rfl
               case zbr => exact (bk_of (by rfl))
               case zbs => exact (k_pi_tup (K := K) rfl (pe_ix (k_ix (K := K) rfl) (pv 1) pe_int (fun _ _ => rfl)))
               case zbt =>
                intro cl C fp pins s H
                exact (pg_name (i := 0) (show ((["q"] : List Str) ++ (["boxes"] : List Str)).Nodup by decide +kernel) rfl (Or.inl rfl))
               case zbu =>
                intro cl C fp pins s H
                exact pts_nil
               case zbv =>
                intro cl C fp pins s H
                exact (pe_ix (k_ix (K := K) rfl) (pv 1) (pv 0) (fun _ _ => rfl))
              case zbp => exact pa_nil
          case zbf => exact pa_nil
      case zu =>
       refine' pss_one ?zbw
       case zbw =>
        refine' ps_if ?zbx ?zby ?zbz
        case zbx => exact (pt_cmpR op_eq (pe_ix (k_ix (K := K) rfl) (pv 1) pe_int (fun _ _ => rfl)) pe_str (nomark _))
        case zby =>
         refine' pss_cons ?zca ?zcb
         case zca => exact (ps_expr (k_bm0 (K := K) rfl PySem.F.plainAttrs_list PySem.F.slot_list_pop PySem.F.type_list_pop mt_pop (k_fld (K := K) rfl (pv 0) rfl)))
         case zcb =>
          refine' pss_one ?zcc
          case zcc =>
           refine' ps_expr ?zcd
           case zcd =>
            refine' pe_m ?zce ?zcf ?zcg ?zch ?zci
            case zce => exact MHand_give_back
            case zcf => exact HHand.cl
            case zcg => exact (hr.mono (by first | decide | omega))
            case zch => exact (pv 0)
            case zci => exact (pa_consS (pe_ix (k_ix (K := K) rfl) (pv 3) (pe_ix (k_ix (K := K) rfl) (pv 1) pe_int (fun _ _ => rfl)) (fun _ _ => rfl)) pa_nil)
        case zbz =>
         refine' pss_cons ?zcj ?zck
         case zcj => exact (ps_expr (pe_m MHand_do_own HHand.cl (hr.mono (by first | decide | omega)) (pv 0) (pa_consN (pv 1) (pa_consN (pv 3) pa_nil))))
         case zck =>
          refine' pss_one ?zcl
          case zcl =>
           refine' ps_asg ?zcm ?zcn
           case zcm =>
            refine' pe_fn ?zco ?zcp ?zcq ?zcr
            case zco => exact Crow_behind
            case zcp => exact (hr.mono (by first | decide | omega))
            case zcq => exact (by rfl)
            case zcr => exact (pa_consN (pv 1) (pa_consS (pe_ix (k_ix (K := K) rfl) (pv 2) pe_int (fun _ _ => rfl)) (pa_consN (pv 3) pa_nil)))
           case zcn => exact (pg_sub (pv 2) pe_int set_list)
  have z1 := a.z1 (z := z) (by simp)
  have z2 := a.z2 (z := z) (by simp)
  have hfr : h.frames = fz.map (·.2) ++ [z.2] := by rw [← a.fr]; simp
  walk_at "rd"
  refine fld_of a.obj HHand.cl HHand.n_frames hf_frames ?_
  walk_at "rd"
  refine rd_ixaL a.fl fz_last ?_
  walk_at "rd"
  refine rd_ixaL (v := .ref z.1.2) z1 rfl ?_
  walk_at "rd"
  refine rep_row0 rv ?_
  walk_at "rd"
  by_cases hc : r.row.1 = "call"
  · refine ite_dy hc ?_
    cases r with
    | call q g qs =>
      obtain ⟨hq, ⟨d2, g0, ed2, hl2⟩, hqs⟩ := ok
      have D2 := PO.2.2 d2 (List.mem_of_getElem? ed2)
      walk_at "rd"
      refine fld_of a.obj HHand.cl HHand.n_frames hf_frames ⟨.inl ⟨rfl, _, SqL.of a.fl⟩, ?_⟩
      walk_at "rd"
      refine fld_of a.obj HHand.cl HHand.n_program hf_program ?_
      walk_at "rd"
      refine rep_rowI (n := 1) rv rfl rfl ?_
      walk_at "rd"
      refine rd_ixR (n := 3) rv rfl rfl fun vq rq => ?_
      refine itK_rep rq fun aq xs eq ha rx => ?_
      have hlen := rx.length
      rw [List.length_map] at hlen
      have hq1000 : qs.length ≤ 1000 := by have := D2.t; have := D2.b; omega
      refine cw_tup (xs := xs) (small_le (by omega)) (fun i ys σ H1 => H1 = H ∧ (∃ x1, σ = [x1, some (.ref z.1.2)]) ∧ ys = ((qs.take i).map (boxAt z.2.2.2)).map V.int) ⟨rfl, ⟨none, rfl⟩, rfl⟩ (fun i ys σ H1 _ ⟨e, _⟩ => by rw [e]; exact SqT.of ha) ?_ ?_
      · rintro i x ys σ H1 hx hle hlt ⟨rfl, ⟨x1, rfl⟩, rfl⟩
        obtain ⟨dd', ed', rd'⟩ := rx.get' hx
        rw [List.getElem?_map] at ed'
        obtain ⟨qi, eqi, rfl⟩ := Option.map_eq_some_iff.mp ed'
        obtain rfl := rep_int_inv rd'
        walk_at "rd"
        refine rd_ixaL z2 (box_get (hqs qi (List.mem_of_getElem? eqi))) ?_
        refine ⟨hlt, by simpa using hle, rfl, ⟨_, rfl⟩, ?_⟩
        rw [List.take_add_one, eqi]
        simp
      · rintro ys σ H1 hyl ⟨hH, ⟨x1, rfl⟩, rfl⟩ pa hpa
        have hH := hH.symm
        subst hH
        rw [← hlen, List.take_length]
        have s1 := Same.new (o := .lst ((qs.map (boxAt z.2.2.2)).map V.int)) hpa
        have ha1 : upd H pa (.lst ((qs.map (boxAt z.2.2.2)).map V.int)) pa = some (.lst ((qs.map (boxAt z.2.2.2)).map V.int)) := upd_same
        generalize upd H pa (HO.lst ((qs.map (boxAt z.2.2.2)).map V.int)) = H1 at s1 ha1
        have a1 := a.mono s1
        walk_at "rd"
        refine use3 ⟨_, Pg, pp, g, pa, qs.map (boxAt z.2.2.2), d2, rfl, rfl, rfl, a1.pg, g0, ed2, ⟨by have := D2.b; omega, D2.b.2⟩, ha1, by have := D2.t; simp; omega, fun fr bx H2 hfr0 hbx0 nfb s2 h2f h2b => ?_⟩
        have a2 := a1.mono s2
        walk_at "rd"
        refine rd_append a2.fl (Nat.lt_of_le_of_lt (show ((fz ++ [z]).map fun z => V.ref z.1.1).length ≤ 1000 by simp; omega) (by decide)) ?_
        have hnf : newFr Pg g (qs.map (boxAt z.2.2.2)) = (g, 0, qs.map (boxAt z.2.2.2) ++ List.replicate (d2.boxes.toNat - (qs.map (boxAt z.2.2.2)).length) 0) := by
          unfold newFr boxesOf
          rw [ed2]
          rfl
        have m1 : PgAt [fr, bx] H2 Pg pp := a1.pg.by (OSame.of s2) s2.ts fun x hx => by
          simp only [List.mem_cons, List.not_mem_nil, or_false] at hx
          rcases hx with rfl | rfl
          · exact .inr hfr0
          · exact .inr hbx0
        have n1 : fr ∉ ownA p pf pn pl (fz ++ [z]) := HA.fresh a1 hfr0
        have n2 : bx ∉ ownA p pf pn pl (fz ++ [z]) := HA.fresh a1 hbx0
        obtain ⟨a3, o3⟩ := a2.push (f := newFr Pg g (qs.map (boxAt z.2.2.2))) (by rw [hnf]; exact h2f) (by rw [hnf]; exact h2b) n1 n2 nfb m1
        walk_at "rd"
        refine k (fz ++ [z] ++ [((fr, bx), newFr Pg g (qs.map (boxAt z.2.2.2)))]) _ ?_ ((OSame.of (s1.trans s2)).trans o3 fun x hx => .inl hx) fun x hx => ?_
        · have e : withT h (eff Pg (fz.map (·.2)) z.2 h.left h.news (.call q g qs)) = { h with frames := h.frames ++ [newFr Pg g (qs.map (boxAt z.2.2.2))] } := by
            simp [withT, eff, hfr]
          rw [e]
          exact a3
        · rw [own_app] at hx
          rcases List.mem_append.mp hx with hx | hx
          · exact .inl hx
          · simp only [List.mem_cons, List.not_mem_nil, or_false] at hx
            rcases hx with rfl | rfl
            · exact .inr (s1.free hfr0)
            · exact .inr (s1.free hbx0)
    | _ => exact absurd hc (by simp only [Rw.row]; decide)
  · refine ite_dn hc ?_
    walk_at "rd"
    refine rep_row0 rv ?_
    walk_at "rd"
    by_cases hb : r.row.1 = "back"
    · refine ite_dy hb ?_
      cases r with
      | back q =>
        have hne : h.frames.length ≠ 1 := fun e => by
          have : endAt h z.2 (.back q) = some (.back (boxAt z.2.2.2 q)) := if_pos e
          rw [this] at hend
          cases hend
        obtain ⟨fz0, wz, hfz0⟩ : ∃ fz0 w, fz = fz0 ++ [w] := by
          rcases List.eq_nil_or_concat fz with e | ⟨l, x, e⟩
          · rw [e] at hfr
            rw [hfr] at hne
            simp at hne
          · exact ⟨l, x, by simpa using e⟩
        subst hfz0
        obtain ⟨d2, p2, g, qs, w0, ew, w1, erw, hp2⟩ := hw fz0 wz rfl
        walk_at "rd"
        refine fld_of a.obj HHand.cl HHand.n_frames hf_frames ⟨.inl ⟨rfl, _, SqL.of a.fl⟩, ?_⟩
        refine ⟨pf, _, .ref z.1.1, rfl, rfl, a.fl, by simp, ?_⟩
        have edl : ((fz0 ++ [wz] ++ [z]).map fun z => V.ref z.1.1).dropLast = (fz0 ++ [wz]).map fun z => V.ref z.1.1 := by simp
        rw [edl]
        obtain ⟨a1, o1⟩ := a.pop
        have z2' : upd H pf (.lst ((fz0 ++ [wz]).map fun z => V.ref z.1.1)) z.1.2 = some (.lst (z.2.2.2.map V.int)) := by
          rw [upd_ne (ne_pf a.nd (z := z) (by simp)).1]
          exact z2
        have rv1 := rv.mono (o1.ts a.notup)
        walk_at "rd"
        refine meth_of a1.obj hm_give_back ?_
        walk_at "rd"
        refine rep_rowI (n := 0) rv1 rfl rfl ?_
        refine rd_ixaL z2' (box_get ok) ?_
        walk_at "rd"
        refine use2 ⟨p, dx, pp, pf, pn, pl, fz0, wz, Pg, _, ve, boxAt z.2.2.2 q, d2, p2, g, qs, rfl, a1, rfl, w0, ew, w1, erw, hp2, fun H2 a2 o2 => ?_⟩
        walk_at "rd"
        refine k (fz0 ++ [(wz.1, (wz.2.1, wz.2.2.1 + 1, setAt wz.2.2.2 p2 (boxAt z.2.2.2 q)))]) H2 ?_ (o1.trans o2 fun x hx => .inl (by rw [own_app]; exact List.mem_append_left _ hx)) fun x hx => .inl ?_
        · have hra : rowAt Pg wz.2.1 wz.2.2.1 = some (.call p2 g qs) := by unfold rowAt; rw [ew]; exact erw
          have e : withT h (eff Pg ((fz0 ++ [wz]).map (·.2)) z.2 h.left h.news (.back q)) = { ({ h with frames := (fz0 ++ [wz]).map (·.2) } : HS) with frames := fz0.map (·.2) ++ [(wz.2.1, wz.2.2.1 + 1, setAt wz.2.2.2 p2 (boxAt z.2.2.2 q))] } := by
            simp [withT, eff, hra]
          rw [e]
          exact a2
        · rw [own_app] at hx ⊢
          refine List.mem_append_left _ ?_
          rw [own_app]
          exact hx
      | _ => exact absurd hb (by simp only [Rw.row]; decide)
    · refine ite_dn hb ?_
      walk_at "rd"
      refine meth_of a.obj hm_do_own ?_
      walk_at "rd"
      refine use3 ⟨p, dx, pp, pf, pn, pl, fz, z, Pg, h, ve, r, d.rows.length, rfl, a, rv, rfl, ok, mu, fun q e => ?_, few, fun H1 a1 o1 => ?_⟩
      · subst e
        intro e
        have : endAt h z.2 (.take q) = some (.dry z.2.1 z.2.2.1) := if_pos e
        rw [this] at hend
        cases hend
      have rv1 := rv.mono (o1.ts a.notup)
      have w1 := a1.z1 (z := (z.1, (z.2.1, z.2.2.1, (r.own3 z.2.2.2 h.left h.news).1))) (by simp)
      have w2 := a1.z2 (z := (z.1, (z.2.1, z.2.2.1, (r.own3 z.2.2.2 h.left h.news).1))) (by simp)
      walk_at "rd"
      refine rd_ixaL (v := .int z.2.2.1) w1 rfl ?_
      walk_at "rd"
      refine use3 ⟨Pg, d.rows.length, r, z.1.2, (r.own3 z.2.2.2 h.left h.news).1, z.2.2.1, rv1, rfl, rfl, w2, by rw [own_len]; exact ok, fun H2 s2 => ?_⟩
      rw [next_own]
      have a2 := a1.mono s2
      walk_at "rd"
      refine rd_setL (k := 1) (s2 _ _ w1) rfl ?_
      obtain ⟨a3, o3⟩ := a2.setRow (r.next z.2.2.2 z.2.2.1)
      walk_at "rd"
      refine k (fz ++ [(z.1, (z.2.1, r.next z.2.2.2 z.2.2.1, (r.own3 z.2.2.2 h.left h.news).1))]) _ ?_ ((o1.trans (OSame.of (own := ownA p pf pn pl (fz ++ [z])) s2) fun x hx => .inl hx).trans o3 fun x hx => .inl ?_) fun x hx => .inl ?_
      · have e : withT h (eff Pg (fz.map (·.2)) z.2 h.left h.news r) = { h with frames := fz.map (·.2) ++ [(z.2.1, r.next z.2.2.2 z.2.2.1, (r.own3 z.2.2.2 h.left h.news).1)], left := (r.own3 z.2.2.2 h.left h.news).2.1, news := (r.own3 z.2.2.2 h.left h.news).2.2 } := by
          cases r with
          | call q g qs => exact absurd rfl hc
          | back q => exact absurd rfl hb
          | _ => rfl
        rw [e]
        exact a3
      · rw [own_app] at hx ⊢
        exact hx
      · rw [own_app] at hx ⊢
        exact hx

end
section
variable {C : Addr}
theorem go_eq {Pg : List Df} {h : HS} {fs : List Fr} {fr : Fr} {r : Rw} (e0 : h.fin = none) (e1 : h.frames = fs ++ [fr]) (e2 : rowAt Pg fr.1 fr.2.1 = some r) :
    h.go Pg = match endAt h fr r with
      | some e => { h with fin := some e }
      | none => withT { h with gone := h.gone + 1 } (eff Pg fs fr h.left h.news r) := by
  unfold HS.go
  rw [e0, e1]
  simp only [List.getLast?_append, List.getLast?_singleton, Option.some_or, e2, List.dropLast_concat]
  cases endAt h fr r <;> rfl
theorem en_ref {H : Hp} {e : En} {v : V} (h : Rep H (En.d (some e)) v) : ¬ v = .non := fun z => by
  subst z
  cases e <;> (obtain ⟨_, _, e', _⟩ := rep_tup_inv h; cases e')
theorem en_non {H : Hp} {v : V} (h : Rep H (En.d none) v) : v = .non := by
  simp only [En.d] at h
  rwa [Rep] at h
theorem mul_ok {Pg : List Df} {g : Int} {fr : Fr} (h : FrOk Pg g fr) (hg : g ≤ 900) : MulOk fr.2.2 := fun x hx => by
  have h1 := h.small x hx
  have h2 : (100 : Nat) ^ g.toNat ≤ 100 ^ 900 := Nat.pow_le_pow_right (by decide) (by omega)
  have h3 : 10 ^ 60 * 100 ^ g.toNat ≤ 10 ^ 60 * 100 ^ 900 := Nat.mul_le_mul_left _ h2
  have h4 : (10 ^ 60 * 100 ^ 900 : Nat) < 2 ^ 8000 := by decide +kernel
  omega
def sp_go (C : Addr) : Sp := sp1 fun x H Q => ∃ p dx pp pf pn pl fz P h ve, x = .ref p ∧ HA C p dx pp pf pn pl fz H P h ve ∧ PgOk P ∧ HsOk P h ∧ h.gone ≤ 900 ∧
  ∀ fz' ve' H', HA C p dx pp pf pn pl fz' H' P (h.go P) ve' → OSame (ownA p pf pn pl fz) H H' → (∀ x ∈ ownA p pf pn pl fz', x ∈ ownA p pf pn pl fz ∨ H x = none) → Q .non H'
theorem sc_Hand_go : FnScope ["self", "row"] ["self"] (defScope s_Hand_go) := ⟨rfl, rfl, rfl, by decide +kernel, rfl, by decide +kernel, by decide +kernel⟩
theorem c_Hand_go (HHand : CHand K C) (T_Hand_go : TopM K C "go" "Hand.go" s_Hand_go ["self"]) (Crow_of : Callee P w K mg base "row_of" 1 ["program", "frame"] sp_row_of) (MHand_end_at : MCal P w K mg base C "end_at" 1 ["self", "row"] (sp_end_at C)) (MHand_do_row : MCal P w K mg base C "do_row" 3 ["self", "row"] (sp_do_row C)) : MCal P w K mg base C "go" 4 ["self"] (sp_go C) := by
  refine T_Hand_go.ok1 sc_Hand_go fun f cdv A outer s H v1 Q E hr hh => ?_
  have nd := sc_Hand_go.nd
  obtain ⟨p, dx, pp, pf, pn, pl, fz, Pg, h, ve, rfl, a, PO, HO, hg, k⟩ := hh
  refine' go_body [some (.ref p), none] rfl ?hb ?hg
  case hb =>
   refine' pss_one ?zcs
   case zcs =>
    refine' ps_if ?zct ?zcu ?zcv
    case zct => exact (pt_cmpR op_isN' (k_fld (K := K) rfl (pv 0) rfl) pe_non (nomark _))
    case zcu =>
     refine' pss_cons ?zcw ?zcx
     case zcw =>
      refine' ps_setC (i := 1) ?zcy ?zcz ?zda ?zdb
      case zcy => exact nd
      case zcz => exact rfl
      case zda => exact (Or.inl rfl)
      case zdb =>
       refine' pe_fn ?zdc ?zdd ?zde ?zdf
       case zdc => exact Crow_of
       case zdd => exact (hr.mono (by first | decide | omega))
       case zde => exact (by rfl)
       case zdf =>
        refine' pa_consA ?zdg ?zdh
        case zdg => exact (k_fld (K := K) rfl (pv 0) rfl)
        case zdh => exact (pa_consS (pe_ix (k_ix (K := K) rfl) (k_fld (K := K) rfl (pv 0) rfl) (pe_un un_neg pe_int) (fun _ _ => rfl)) pa_nil)
     case zcx =>
      refine' pss_cons ?zdi ?zdj
      case zdi => exact (k_sfld (K := K) rfl (pv 0) (pe_m MHand_end_at HHand.cl (hr.mono (by first | decide | omega)) (pv 0) (pa_consN (pv 1) pa_nil)) rfl)
      case zdj =>
       refine' pss_one ?zdk
       case zdk =>
        refine' ps_if ?zdl ?zdm ?zdn
        case zdl => exact (pt_cmpR op_isN' (k_fld (K := K) rfl (pv 0) rfl) pe_non (nomark _))
        case zdm =>
         refine' pss_cons ?zdo ?zdp
         case zdo => exact (k_sfld (K := K) rfl (pv 0) (pe_op op_add (k_fld (K := K) rfl (pv 0) rfl) pe_int) rfl)
         case zdp => exact (pss_one (ps_expr (pe_m MHand_do_row HHand.cl (hr.mono (by first | decide | omega)) (pv 0) (pa_consN (pv 1) pa_nil))))
        case zdn => exact pss_nil
    case zcv => exact pss_nil
  walk_at "rd"
  refine fld_of a.obj HHand.cl HHand.n_end hf_end ?_
  walk_at "rd"
  cases hf : h.fin with
  | some e =>
    have en := a.en
    rw [hf] at en
    refine ite_dn (en_ref en) ?_
    walk_at "rd"
    have e2 : h.go Pg = h := by unfold HS.go; rw [hf]
    exact k fz ve H (by rw [e2]; exact a) (OSame.refl _ _) fun x hx => .inl hx
  | none =>
    have en := a.en
    rw [hf] at en
    obtain rfl := en_non en
    refine ite_dy rfl ?_
    obtain ⟨fz0, z, hz⟩ : ∃ fz0 z, fz = fz0 ++ [z] := by
      rcases List.eq_nil_or_concat fz with e | ⟨l, x, e⟩
      · have := a.fr
        rw [e] at this
        exact absurd this.symm HO.ne
      · exact ⟨l, x, by simpa using e⟩
    subst hz
    have hfr : h.frames = fz0.map (·.2) ++ [z.2] := by rw [← a.fr]; simp
    have z1 := a.z1 (z := z) (by simp)
    have FO := HO.fr z.2 (by rw [hfr]; simp)
    obtain ⟨d, f0, ed, hat, hbx⟩ := FO.ex
    have hlt : z.2.2.1.toNat < d.rows.length := by have := hat.1; have := hat.2; omega
    have er : d.rows[z.2.2.1.toNat]? = some d.rows[z.2.2.1.toNat] := List.getElem?_eq_getElem hlt
    generalize hr0 : d.rows[z.2.2.1.toNat] = r at er
    have DO := PO.2.2 d (List.mem_of_getElem? ed)
    have ok : r.Ok Pg z.2.2.2.length d.rows.length := by rw [hbx]; exact DO.rows r (List.mem_of_getElem? er)
    have hra : rowAt Pg z.2.1 z.2.2.1 = some r := by unfold rowAt; rw [ed]; exact er
    have hgo := go_eq hf hfr hra
    walk_at "rd"
    refine fld_of a.obj HHand.cl HHand.n_program hf_program ?_
    walk_at "rd"
    refine fld_of a.obj HHand.cl HHand.n_frames hf_frames ?_
    walk_at "rd"
    refine rd_ixaL a.fl fz_last ?_
    walk_at "rd"
    refine use2 ⟨_, Pg, pp, z.1.1, z.2.1, z.2.2.1, z.1.2, d, r, rfl, rfl, a.pg, z1, f0, ed, hat.1, er, fun v rv => ?_⟩
    walk_at "rd"
    refine meth_of a.obj hm_end_at ?_
    walk_at "rd"
    refine use2 ⟨p, dx, pp, pf, pn, pl, fz0, z, Pg, h, .non, r, d.rows.length, rfl, a, rv, ok, fun v' H1 s1 re => ?_⟩
    have a1 := a.mono s1
    walk_at "rd"
    refine sfld_of a1.obj HHand.cl HHand.n_end (by show 6 < 1000; decide) ?_
    rw [hp_end]
    obtain ⟨a2, o2⟩ := a1.setEnd re
    have o12 : OSame (ownA p pf pn pl (fz0 ++ [z])) H _ := (OSame.of (own := ownA p pf pn pl (fz0 ++ [z])) s1).trans o2 fun x hx => .inl hx
    have rv2 := rv.mono (o12.ts a.notup)
    walk_at "rd"
    refine fld_of a2.obj HHand.cl HHand.n_end hf_end ?_
    walk_at "rd"
    cases he : endAt h z.2 r with
    | some e =>
      rw [he] at re a2 hgo
      refine ite_dn (en_ref re) ?_
      walk_at "rd"
      exact k _ v' _ (by rw [hgo]; exact a2) o12 fun x hx => .inl hx
    | none =>
      rw [he] at re a2 hgo
      obtain rfl := en_non re
      refine ite_dy rfl ?_
      walk_at "rd"
      refine fld_of a2.obj HHand.cl HHand.n_gone hf_gone ?_
      walk_at "rd"
      refine sfld_of a2.obj HHand.cl HHand.n_gone (by show 6 < 1000; decide) ?_
      rw [hp_gone]
      obtain ⟨a3, o3⟩ := a2.setGone (h.gone + 1)
      have o13 := o12.trans o3 fun x hx => .inl hx
      have rv3 := rv.mono (o13.ts a.notup)
      walk_at "rd"
      refine meth_of a3.obj hm_do_row ?_
      walk_at "rd"
      have hnews : h.news.length ≤ 200000 := by have := HO.sz; omega
      have hlen20 : fz0.length ≤ 20 := by have := HO.few; rw [hfr] at this; simp at this; omega
      refine use2 ⟨p, dx, pp, pf, pn, pl, fz0, z, Pg, _, .non, d, r, rfl, a3, rv3, PO, f0, ed, er, hbx, mul_ok FO hg, ?_, hnews, hlen20, fun fz1 wz e1 => ?_, fun fz' H4 a4 o4 m4 => ?_⟩
      · have : endAt { ({ h with fin := none } : HS) with gone := h.gone + 1 } z.2 r = endAt h z.2 r := by cases r <;> rfl
        exact this.trans he
      · subst e1
        have hw := HO.wait fz1.length wz.2 (by rw [hfr]; simp) (by rw [hfr]; simp)
        obtain ⟨p2, g, qs, hw⟩ := hw
        have FW := HO.fr wz.2 (by rw [hfr]; simp)
        obtain ⟨d2, w0, ew, wat, wbx⟩ := FW.ex
        have hwlt : wz.2.2.1.toNat < d2.rows.length := by have := wat.1; have := wat.2; omega
        have erw : d2.rows[wz.2.2.1.toNat]? = some (.call p2 g qs) := by
          unfold rowAt at hw
          rw [ew] at hw
          exact hw
        have D2 := PO.2.2 d2 (List.mem_of_getElem? ew)
        have okw := D2.rows _ (List.mem_of_getElem? erw)
        exact ⟨d2, p2, g, qs, w0, ew, wat.1, erw, by rw [wbx]; exact okw.1⟩
      · walk_at "rd"
        refine k fz' .non H4 ?_ (o13.trans o4 fun x hx => .inl hx) fun x hx => ?_
        · rw [hgo]
          have : ({ h with fin := none } : HS) = h := by cases h; simp at hf; subst hf; rfl
          rw [this] at a4
          exact a4
        · rcases m4 x hx with q | q
          · exact .inl q
          · by_cases hx2 : x ∈ ownA p pf pn pl (fz0 ++ [z])
            · exact .inl hx2
            · right
              cases hHx : H x with
              | none => rfl
              | some ox =>
                rw [o13 x ox hx2 hHx] at q
                cases q

end
section
variable {C : Addr}
/-- a def of the program, its list of rows not known to H0 -/
def FDf (H0 H : Hp) (d : Df) (v : V) : Prop := ∃ t q ys, v = .ref t ∧ H t = some (.tup [.int d.takes, .int d.boxes, .ref q]) ∧ H q = some (.lst ys) ∧ H0 q = none ∧ Reps H (rowsD d.rows) ys
theorem FDf.mono {H0 H H' : Hp} {d : Df} {v : V} (h : FDf H0 H d v) (s : Same H H') : FDf H0 H' d v := by
  obtain ⟨t, q, ys, e, h1, h2, h3, r⟩ := h
  exact ⟨t, q, ys, e, s _ _ h1, s _ _ h2, h3, r.mono s.ts⟩
def FPg (H0 H : Hp) (P : List Df) (pp : Addr) : Prop := ∃ vs, H pp = some (.lst vs) ∧ H0 pp = none ∧ vs.length = P.length ∧ ∀ (i : Nat) (d : Df) (v : V), P[i]? = some d → vs[i]? = some v → FDf H0 H d v
theorem FPg.by {H0 H H' : Hp} {P : List Df} {pp p : Addr} (h : FPg H0 H P pp) (hp : H0 p ≠ none) (np : ∀ xs, H p ≠ some (.tup xs)) (s : OSame [p] H H') : FPg H0 H' P pp := by
  obtain ⟨vs, h1, h2, h3, h4⟩ := h
  have ne : ∀ q, H0 q = none → q ∉ [p] := fun q hq m => by
    simp only [List.mem_singleton] at m
    subst m
    exact hp hq
  have ts : TSame H H' := s.ts fun a ha => by
    simp only [List.mem_singleton] at ha
    subst ha
    exact np
  refine ⟨vs, s _ _ (ne _ h2) h1, h2, h3, fun i d v e1 e2 => ?_⟩
  obtain ⟨t, q, ys, e, k1, k2, k3, r⟩ := h4 i d v e1 e2
  exact ⟨t, q, ys, e, ts _ _ k1, s _ _ (ne _ k3) k2, k3, r.mono ts⟩
theorem FPg.at {H0 H : Hp} {P : List Df} {pp : Addr} (h : FPg H0 H P pp) {own : List Addr} (n : ∀ x ∈ own, H0 x ≠ none) : PgAt own H P pp := by
  obtain ⟨vs, h1, h2, h3, h4⟩ := h
  refine ⟨vs, h1, fun m => n _ m h2, h3, fun i d v e1 e2 => ?_⟩
  obtain ⟨t, q, ys, e, k1, k2, k3, r⟩ := h4 i d v e1 e2
  exact ⟨t, q, ys, e, k1, k2, fun m => n _ m k3, r⟩
theorem FPg.at2 {H0 H : Hp} {P : List Df} {pp : Addr} (h : FPg H0 H P pp) {own : List Addr} (n : ∀ x ∈ own, H0 x ≠ none ∨ H x = none) : PgAt own H P pp := by
  obtain ⟨vs, h1, h2, h3, h4⟩ := h
  have ne : ∀ q o, H0 q = none → H q = some o → q ∉ own := fun q o e1 e2 m => by
    rcases n q m with z | z
    · exact z e1
    · rw [z] at e2; cases e2
  refine ⟨vs, h1, ne _ _ h2 h1, h3, fun i d v e1 e2 => ?_⟩
  obtain ⟨t, q, ys, e, k1, k2, k3, r⟩ := h4 i d v e1 e2
  exact ⟨t, q, ys, e, k1, k2, ne _ _ k3 k2, r⟩
/-- a hand being made: what has changed since H is p's own fields and what is new -/
structure Ld (C p dx : Addr) (H Hk : Hp) (l : List (Addr × HO)) (fs : List (Str × V)) : Prop where
  os : OSame [p] H Hk
  all : AllAt Hk l
  nd : (p :: l.map (·.1)).Nodup
  fresh : ∀ x ∈ l.map (·.1), H x = none
  me : Hk p = some (.ins C dx fs)
section
variable {C p dx a : Addr} {H Hk Hk' : Hp} {l : List (Addr × HO)} {fs fs' : List (Str × V)} {o : HO}
theorem Ld.free (L : Ld C p dx H Hk l fs) (h : Hk a = none) : H a = none := by
  cases e : H a with
  | none => rfl
  | some u =>
    by_cases ha : a = p
    · subst ha; rw [L.me] at h; cases h
    · rw [L.os a u (by simpa using ha) e] at h; cases h
theorem Ld.same (L : Ld C p dx H Hk l fs) (s : Same Hk Hk') : Ld C p dx H Hk' l fs :=
  ⟨fun a u n e => s _ _ (L.os a u n e), L.all.mono s, L.nd, L.fresh, s _ _ L.me⟩
theorem Ld.add (L : Ld C p dx H Hk l fs) (s : Same Hk Hk') (h : Hk a = none) (h' : Hk' a = some o) : Ld C p dx H Hk' ((a, o) :: l) fs := by
  have L' := L.same s
  refine ⟨L'.os, fun e he => ?_, ?_, fun x hx => ?_, L'.me⟩
  · rcases List.mem_cons.mp he with rfl | he
    · exact h'
    · exact L'.all e he
  · have n1 : a ≠ p := fun z => by rw [z, L.me] at h; cases h
    have n2 : a ∉ l.map (·.1) := fun m => by
      obtain ⟨e, he, rfl⟩ := List.mem_map.mp m
      rw [L.all e he] at h; cases h
    have n3 := List.nodup_cons.mp L.nd
    refine List.nodup_cons.mpr ⟨fun m => ?_, List.nodup_cons.mpr ⟨n2, n3.2⟩⟩
    rcases List.mem_cons.mp m with z | z
    · exact n1 z.symm
    · exact n3.1 z
  · rcases List.mem_cons.mp hx with rfl | hx
    · exact L.free h
    · exact L.fresh x hx
theorem Ld.new (L : Ld C p dx H Hk l fs) (h : Hk a = none) : Ld C p dx H (upd Hk a o) ((a, o) :: l) fs := L.add (Same.new h) h upd_same
theorem Ld.add2 {b : Addr} {ob : HO} (L : Ld C p dx H Hk l fs) (s : Same Hk Hk') (ha : Hk a = none) (hb : Hk b = none) (n : a ≠ b) (ha' : Hk' a = some o) (hb' : Hk' b = some ob) : Ld C p dx H Hk' ((a, o) :: (b, ob) :: l) fs := by
  refine (L.new (o := ob) hb).add (a := a) (fun x u e => ?_) (by rw [upd_ne n]; exact ha) ha'
  by_cases hx : x = b
  · subst hx; rw [upd_same] at e; cases e; exact hb'
  · rw [upd_ne hx] at e; exact s _ _ e
theorem Ld.put (L : Ld C p dx H Hk l fs) : Ld C p dx H (upd Hk p (.ins C dx fs')) l fs' := by
  refine ⟨fun a u n e => ?_, fun e he => ?_, L.nd, L.fresh, upd_same⟩
  · rw [upd_ne (fun z : a = p => n (by simp [z]))]
    exact L.os a u n e
  · have : e.1 ≠ p := fun z => (List.nodup_cons.mp L.nd).1 (z ▸ List.mem_map_of_mem he)
    rw [upd_ne this]
    exact L.all e he
theorem Ld.ts (L : Ld C p dx H Hk l fs) (h : H p = some (.ins C dx fs')) : TSame H Hk := L.os.ts fun a ha xs e => by
  simp only [List.mem_singleton] at ha
  subst ha
  rw [h] at e; cases e
end
theorem plen {k : Str} {v : V} : ∀ {l : List (Str × V)} {n : Nat}, l.length ≤ n → (putF k v l).length ≤ n + 1
  | [], n, _ => by rw [pf_nil]; simp
  | (k', x) :: l, n, h => by
    by_cases e : k' = k
    · subst e; rw [pf_eq]; simp at h ⊢; omega
    · rw [pf_ne e]
      have := plen (k := k) (v := v) (l := l) (n := n - 1) (by simp at h; omega)
      simp at h ⊢; omega
def hand0 (P : List Df) (ns : List Int) : HS := ⟨[newFr P 0 []], ns, [], 0, none⟩
def sp_init (C : Addr) : Sp := sp3 fun x y z H Q => ∃ p dx P pp q ns, x = .ref p ∧ y = .ref pp ∧ z = .ref q ∧ H p = some (.ins C dx []) ∧ PgAt [] H P pp ∧ PgOk P ∧ H q = some (.lst ((ns : List Int).map V.int)) ∧ ns.length ≤ 100000 ∧
  ∀ pp' pf pn pl fz H', HA C p dx pp' pf pn pl fz H' P (hand0 P ns) .non → OSame [p] H H' → (∀ x ∈ ownA p pf pn pl fz, x = p ∨ H x = none) → (∀ own, (∀ x ∈ own, x ∈ ownA p pf pn pl fz ∨ H x ≠ none) → PgAt own H' P pp') → Q .non H'
theorem sc_Hand___init__ : FnScope ["self", "program", "inputs"] ["self", "program", "inputs"] (defScope s_Hand___init__) := ⟨rfl, rfl, rfl, by decide +kernel, rfl, by decide +kernel, by decide +kernel⟩
theorem c_Hand___init__ (B : Blt mg) (HHand : CHand K C) (T_Hand___init__ : TopI K mg C "Hand" "Hand.__init__" s_Hand___init__ ["self", "program", "inputs"]) (Cnew_frame : Callee P w K mg base "new_frame" 1 ["program", "f", "numbers"] (sp_newfr K)) : CCal P w K mg base C "Hand" 2 ["self", "program", "inputs"] (sp_init C) := by
  refine T_Hand___init__.ok3 sc_Hand___init__ fun f cdv A outer s H v1 v2 v3 Q E hr hh => ?_
  have nd := sc_Hand___init__.nd
  obtain ⟨p, dx, Pg, pp, q, ns, rfl, rfl, rfl, hp, pg, PO, hq, hns, k⟩ := hh
  refine' go_body [some (.ref p), some (.ref pp), some (.ref q)] rfl ?hb ?hg
  case hb =>
   refine' pss_cons ?zdq ?zdr
   case zdq =>
    refine' k_sfld (K := K) ?zds ?zdt ?zdu ?zdv
    case zds => exact rfl
    case zdt => exact (pv 0)
    case zdu =>
     refine' pe_comp (LN := ["one"]) (FN := []) (fr := []) ?zdw ?zdx ?zdy ?zdz ?zea ?zeb
     case zdw => exact rfl
     case zdx => exact (bk_of (by rfl))
     case zdy => exact (k_pi_list (K := K) rfl (pv 1))
     case zdz =>
      intro cl C fp pins s H
      exact (pg_name (i := 0) (show ((["one"] : List Str) ++ ([] : List Str)).Nodup by decide +kernel) rfl (Or.inl rfl))
     case zea =>
      intro cl C fp pins s H
      exact pts_nil
     case zeb =>
      intro cl C fp pins s H
      refine' pe_tup ?zec
      case zec =>
       refine' pa_consS ?zed ?zee
       case zed => exact (pe_ix (k_ix (K := K) rfl) (pv 0) pe_int (fun _ _ => rfl))
       case zee =>
        refine' pa_consS ?zef ?zeg
        case zef => exact (pe_ix (k_ix (K := K) rfl) (pv 0) pe_int (fun _ _ => rfl))
        case zeg =>
         refine' pa_consC ?zeh ?zei
         case zeh => exact (pe_callTy (k_lstOf (K := K) rfl) (by rfl) B.b_list bt_list (pa_consS (pe_ix (k_ix (K := K) rfl) (pv 0) pe_int (fun _ _ => rfl)) pa_nil))
         case zei => exact pa_nil
    case zdv => exact rfl
   case zdr =>
    refine' pss_cons ?zej ?zek
    case zej =>
     refine' k_sfld (K := K) ?zel ?zem ?zen ?zeo
     case zel => exact rfl
     case zem => exact (pv 0)
     case zen =>
      refine' pe_lst ?zep
      case zep =>
       refine' pa_consC ?zeq ?zer
       case zeq => exact (pe_fn Cnew_frame (hr.mono (by first | decide | omega)) (by rfl) (pa_consN (pv 1) (pa_consK pe_int (pa_consL (pe_lst pa_nil) pa_nil))))
       case zer => exact pa_nil
     case zeo => exact rfl
    case zek =>
     refine' pss_cons ?zes ?zet
     case zes => exact (k_sfld (K := K) rfl (pv 0) (pe_lst pa_nil) rfl)
     case zet =>
      refine' pss_cons ?zeu ?zev
      case zeu => exact (k_sfld (K := K) rfl (pv 0) pe_int rfl)
      case zev =>
       refine' pss_cons ?zew ?zex
       case zew => exact (k_sfld (K := K) rfl (pv 0) (pe_callTy (k_lstOf (K := K) rfl) (by rfl) B.b_list bt_list (pa_consN (pv 2) pa_nil)) rfl)
       case zex => exact (pss_one (k_sfld (K := K) rfl (pv 0) pe_non rfl))
  obtain ⟨vs, hv, _, hl, hd⟩ := pg
  walk_at "rd"
  have hvl : vs.length ≤ 1000 := by rw [hl]; exact PO.2.1
  refine ilK_of (SqL.of hv) ?_
  refine cw_list (xs := vs) (small_le (by omega)) (fun i ys σ Hy => (∃ x1, σ = [x1]) ∧ Same H Hy ∧ ys.length = i ∧ ∀ (j : Nat) (d : Df) (v : V), Pg[j]? = some d → ys[j]? = some v → FDf H Hy d v) ⟨⟨none, rfl⟩, Same.refl _, rfl, fun _ _ _ _ e => by simp at e⟩ (fun i ys σ Hy _ ⟨_, sy, _⟩ => SqL.of (sy _ _ hv)) ?_ ?_
  · rintro i x ys σ Hy hx hle hlt ⟨⟨x1, rfl⟩, sy, hyl, hall⟩
    have hi : i < vs.length := (List.getElem?_eq_some_iff.mp hx).1
    have ed : Pg[i]? = some Pg[i] := List.getElem?_eq_getElem (by omega)
    obtain ⟨t, q2, zs, rfl, h1, h2, _, rr⟩ := hd _ _ _ ed hx
    generalize Pg[i] = d at ed h1 rr
    walk_at "rd"
    refine rd_ixaT (v := .int d.takes) (sy _ _ h1) rfl ?_
    walk_at "rd"
    refine rd_ixaT (v := .int d.boxes) (sy _ _ h1) rfl ?_
    walk_at "rd"
    refine rd_ixaT (v := .ref q2) (sy _ _ h1) rfl ?_
    walk_at "rd"
    refine rd_lstOf (.inl (SqL.of (sy _ _ h2))) fun l hl2 => ?_
    have s1 := Same.new (o := .lst zs) hl2
    walk_at "mk"; intro p3 hp3
    have s2 := Same.new (o := .tup [.int d.takes, .int d.boxes, .ref l]) hp3
    have s12 := s1.trans s2
    refine ⟨hlt, by simp; omega, ⟨_, rfl⟩, sy.trans s12, by simp [hyl], fun j d' v e1 e2 => ?_⟩
    rcases Nat.lt_trichotomy j i with hj | hj | hj
    · rw [List.getElem?_append_left (by omega)] at e2
      exact (hall j d' v e1 e2).mono s12
    · subst hj
      rw [ed] at e1
      cases e1
      rw [List.getElem?_append_right (by omega), hyl, Nat.sub_self] at e2
      cases e2
      exact ⟨p3, l, zs, rfl, upd_same, s2 _ _ upd_same, sy.free hl2, rr.mono (sy.trans s12).ts⟩
    · rw [List.getElem?_append_right (by omega)] at e2
      have : j - ys.length ≠ 0 := by omega
      obtain ⟨m, hm⟩ := Nat.exists_eq_succ_of_ne_zero this
      rw [hm] at e2
      simp at e2
  · rintro ys σ Hy _ ⟨⟨x1, rfl⟩, sy, hyl, hall⟩ pa hpa
    have s1 := sy.trans (Same.new (o := .lst ys) hpa)
    have fp : FPg H (upd Hy pa (.lst ys)) Pg pa := ⟨ys, upd_same, sy.free hpa, by omega, fun i d v e1 e2 => (hall i d v e1 e2).mono (Same.new hpa)⟩
    generalize upd Hy pa (.lst ys) = H1 at s1 fp
    have hp0 : H p ≠ none := by rw [hp]; simp
    have hp1 := s1 _ _ hp
    have pg1 : PgAt [p] H1 Pg pp := by
      refine ⟨vs, s1 _ _ hv, fun m => ?_, hl, fun i d v e1 e2 => ?_⟩
      · simp only [List.mem_singleton] at m
        subst m; rw [hp] at hv; cases hv
      · obtain ⟨t, q2, zs, e, h1, h2, _, rr⟩ := hd i d v e1 e2
        refine ⟨t, q2, zs, e, s1 _ _ h1, s1 _ _ h2, fun m => ?_, rr.mono s1.ts⟩
        simp only [List.mem_singleton] at m
        subst m; rw [hp] at h2; cases h2
    have L1 : Ld C p dx H1 H1 [] [] := ⟨OSame.refl _ _, fun _ h => (by cases h), by simp, fun _ h => (by cases h), hp1⟩
    walk_at "rd"
    refine sfld_of hp1 HHand.cl HHand.n_program (by show 0 < 1000; decide) ?_
    have L2 := L1.put (fs' := putF "program" (V.ref pa) [])
    generalize upd H1 p (HO.ins C dx (putF "program" (V.ref pa) [])) = H2 at L2
    walk_at "rd"
    walk_at "mk"; intro p1 hp1'
    have L3 := L2.new (o := .lst []) hp1'
    have e3 : upd H2 p1 (.lst []) p1 = some (.lst (([] : List Int).map V.int)) := upd_same
    generalize upd H2 p1 (HO.lst []) = H3 at L3 e3
    walk_at "rd"
    obtain ⟨d0, ed0⟩ : ∃ d0, Pg[(0 : Int).toNat]? = some d0 := ⟨Pg[0]'(by have := PO.1; exact List.length_pos_iff.mpr this), List.getElem?_eq_getElem _⟩
    have D0 := PO.2.2 d0 (List.mem_of_getElem? ed0)
    refine use3 ⟨[p], Pg, pp, 0, p1, [], d0, rfl, rfl, rfl, pg1.by L3.os (L3.ts hp1) (fun x hx => .inl hx), Int.le_refl _, ed0, ⟨by have := D0.b; omega, D0.b.2⟩, e3, by have := D0.b; simp; omega, fun fr bx H4 hfr0 hbx0 nfb s4 h4f h4b => ?_⟩
    have L4 := L3.add2 s4 hfr0 hbx0 nfb h4f h4b
    walk_at "mk"; intro pf hpf
    have L5 := L4.new (o := .lst [.ref fr]) hpf
    generalize upd H4 pf (HO.lst [V.ref fr]) = H5 at L5
    walk_at "rd"
    refine sfld_of L5.me HHand.cl HHand.n_frames (Nat.lt_of_le_of_lt (plen (Nat.le_refl 0)) (by decide)) ?_
    have L6 := L5.put (fs' := putF "frames" (V.ref pf) (putF "program" (V.ref pa) []))
    generalize upd H5 p (HO.ins C dx (putF "frames" (V.ref pf) (putF "program" (V.ref pa) []))) = H6 at L6
    walk_at "rd"
    walk_at "mk"; intro pn hpn
    have L7 := L6.new (o := .lst []) hpn
    generalize upd H6 pn (HO.lst []) = H7 at L7
    walk_at "rd"
    refine sfld_of L7.me HHand.cl HHand.n_news (Nat.lt_of_le_of_lt (plen (plen (Nat.le_refl 0))) (by decide)) ?_
    have L8 := L7.put (fs' := putF "news" (V.ref pn) (putF "frames" (V.ref pf) (putF "program" (V.ref pa) [])))
    generalize upd H7 p (HO.ins C dx (putF "news" (V.ref pn) (putF "frames" (V.ref pf) (putF "program" (V.ref pa) [])))) = H8 at L8
    walk_at "rd"
    refine sfld_of L8.me HHand.cl HHand.n_gone (Nat.lt_of_le_of_lt (plen (plen (plen (Nat.le_refl 0)))) (by decide)) ?_
    have L9 := L8.put (fs' := putF "gone" (V.int 0) (putF "news" (V.ref pn) (putF "frames" (V.ref pf) (putF "program" (V.ref pa) []))))
    generalize upd H8 p (HO.ins C dx (putF "gone" (V.int 0) (putF "news" (V.ref pn) (putF "frames" (V.ref pf) (putF "program" (V.ref pa) []))))) = H9 at L9
    walk_at "rd"
    have hq9 : H9 q = some (.lst (ns.map V.int)) := L9.os _ _ (fun m => by
      simp only [List.mem_singleton] at m
      subst m; rw [hp] at hq; cases hq) (s1 _ _ hq)
    refine rd_lstOf (.inl (SqL.of hq9)) fun pl hpl => ?_
    have L10 := L9.new (o := .lst (ns.map V.int)) hpl
    generalize upd H9 pl (HO.lst (ns.map V.int)) = H10 at L10
    walk_at "rd"
    refine sfld_of L10.me HHand.cl HHand.n_left (Nat.lt_of_le_of_lt (plen (plen (plen (plen (Nat.le_refl 0))))) (by decide)) ?_
    have L11 := L10.put (fs' := putF "left" (V.ref pl) (putF "gone" (V.int 0) (putF "news" (V.ref pn) (putF "frames" (V.ref pf) (putF "program" (V.ref pa) [])))))
    generalize upd H10 p (HO.ins C dx (putF "left" (V.ref pl) (putF "gone" (V.int 0) (putF "news" (V.ref pn) (putF "frames" (V.ref pf) (putF "program" (V.ref pa) [])))))) = H11 at L11
    walk_at "rd"
    refine sfld_of L11.me HHand.cl HHand.n_end (Nat.lt_of_le_of_lt (plen (plen (plen (plen (plen (Nat.le_refl 0)))))) (by decide)) ?_
    have L12 := L11.put (fs' := putF "end" V.non (putF "left" (V.ref pl) (putF "gone" (V.int 0) (putF "news" (V.ref pn) (putF "frames" (V.ref pf) (putF "program" (V.ref pa) []))))))
    generalize upd H11 p (HO.ins C dx (putF "end" V.non (putF "left" (V.ref pl) (putF "gone" (V.int 0) (putF "news" (V.ref pn) (putF "frames" (V.ref pf) (putF "program" (V.ref pa) []))))))) = H12 at L12
    rw [hi_all] at L12
    have hnf : newFr Pg 0 [] = (0, 0, List.replicate d0.boxes.toNat 0) := by
      unfold newFr boxesOf
      rw [ed0]
      rfl
    have hnd := L12.nd
    have hown : ownA p pf pn pl [((fr, bx), newFr Pg 0 [])] = [p, pf, pn, pl, fr, bx] := rfl
    have hfr := L12.fresh
    simp only [List.map_cons, List.map_nil, List.mem_cons, List.not_mem_nil, or_false] at hfr
    have hold : ∀ x ∈ [p, pf, pn, pl, fr, bx], x = p ∨ H1 x = none := fun x hx => by
      simp only [List.mem_cons, List.not_mem_nil, or_false] at hx
      rcases hx with z | z | z | z | z | z
      · exact .inl z
      all_goals exact .inr (hfr x (by simp [z]))
    have hpg : ∀ own, (∀ x ∈ own, x ∈ [p, pf, pn, pl, fr, bx] ∨ H x ≠ none) → PgAt own H12 Pg pa := fun own hn => by
      have h1 : PgAt (p :: own) H1 Pg pa := fp.at2 fun x hx => by
        rcases List.mem_cons.mp hx with rfl | hx
        · exact .inl hp0
        · rcases hn x hx with z | z
          · rcases hold x z with rfl | z
            · exact .inl hp0
            · exact .inr z
          · exact .inl z
      exact (h1.by (fun a u n e => L12.os a u (fun m => n (by simp at m; simp [m])) e) (L12.ts hp1) (fun x hx => .inl hx)).by (own' := own) (OSame.refl _ _) (fun _ _ e => e) fun x hx => .inl (List.mem_cons_of_mem _ hx)
    refine k pa pf pn pl [((fr, bx), newFr Pg 0 [])] H12 ⟨fun e he => ?_, ?_, ?_, ?_, rfl⟩ (fun a u n e => L12.os a u n (s1 _ _ e)) (fun x hx => ?_) (by rw [hown]; exact hpg)
    · have ha := L12.all
      rw [hnf] at he
      simp only [hObjs, hand0, frObj, List.map_cons, List.map_nil, List.flatMap_cons, List.flatMap_nil, List.append_nil, List.cons_append, List.nil_append, List.mem_cons, List.not_mem_nil, or_false] at he
      rcases he with rfl | rfl | rfl | rfl | rfl | rfl
      · exact L12.me
      · exact ha (pf, _) (by simp)
      · exact ha (pn, _) (by simp)
      · exact ha (pl, _) (by simp)
      · exact ha (fr, _) (by simp)
      · exact ha (bx, _) (by simp)
    · rw [hown]
      simp only [List.map_cons, List.map_nil, List.nodup_cons, List.mem_cons, List.not_mem_nil, or_false, not_or, not_false_iff, List.nodup_nil, and_true] at hnd ⊢
      obtain ⟨⟨a1, a2, a3, a4, a5, a6⟩, ⟨b1, b2, b3, b4, b5⟩, ⟨c1, c2, c3, c4⟩, ⟨d1, d2, d3⟩, ⟨e1, e2⟩, f1⟩ := hnd
      exact ⟨⟨a3, a2, a1, a4, a5⟩, ⟨fun z => c1 z.symm, fun z => b2 z.symm, d1, d2⟩, ⟨fun z => b1 z.symm, c2, c3⟩, ⟨b3, b4⟩, e1⟩
    · show Rep H12 (En.d none) V.non
      simp only [En.d]
      rw [Rep]
    · exact hpg _ fun x hx => .inl hx
    · rcases hold x hx with z | z
      · exact .inl z
      · refine .inr ?_
        cases e : H x with
        | none => rfl
        | some u => rw [s1 _ _ e] at z; cases z

end
end
end My

end
section
set_option Elab.async false
set_option linter.all false
set_option maxRecDepth 100000
set_option maxHeartbeats 4000000

namespace My
open PySem L2
local macro_rules | `(tactic| walk_at "rd1") => `(tactic| (first | ((with_reducible refine' rd_var ?e ?_); (case e => exact rfl)) | with_reducible refine rd_c ?_ | with_reducible refine rd_op ?_ | with_reducible refine rd_un ?_ | with_reducible refine rd_seq ?_ | with_reducible refine rd_asg ?_ | with_reducible refine rd_gname ?_ | with_reducible refine rd_ret ?_ | with_reducible refine rd_drop ?_ | with_reducible refine rd_next ?_ | with_reducible refine rd_if ?_ | with_reducible refine rd_test ?_ | with_reducible refine rd_tb ?_ | with_reducible refine rd_and ?_ | with_reducible refine rd_or ?_ | with_reducible refine rd_not ?_ | with_reducible refine rd_true ?_ | with_reducible refine rd_andV ?_ | with_reducible refine rd_orV ?_ | with_reducible refine rd_notV ?_ | with_reducible refine rd_ifE ?_ | with_reducible refine rd_chain ?_ | with_reducible refine rd_nil ?_ | with_reducible refine rd_cons ?_ | with_reducible refine rd_cb ?_ | with_reducible refine rd_call ?_ | with_reducible refine rd_I0 ?_ | with_reducible refine rd_U ?_ | with_reducible refine rd_eqI ?_ | with_reducible refine rd_neI ?_ | with_reducible refine rd_eqS ?_ | with_reducible refine rd_neS ?_ | with_reducible refine rd_eqB ?_ | with_reducible refine rd_neB ?_ | with_reducible refine rd_bl ?_ | with_reducible refine rd_int ?_ | with_reducible refine rd_tup ?_ | with_reducible refine rd_lst ?_ | with_reducible refine rd_gsub ?_ | with_reducible refine rd_slice ?_ | with_reducible refine rd_nopart ?_ | with_reducible refine rd_part ?_ | with_reducible refine rd_bm ?_ | with_reducible refine rd_bm0 ?_ | with_reducible refine rd_comp ?_ | with_reducible refine rd_itup ?_ | with_reducible refine rd_ilist ?_ | with_reducible refine rd_irng ?_ | with_reducible refine rd_gcons ?_ | with_reducible refine rd_gnil ?_ | with_reducible refine rd_for ?_ | with_reducible refine rd_abs ?_ | with_reducible refine rd_max ?_ | with_reducible refine rd_min ?_ | with_reducible refine rd_intB ?_ | with_reducible refine rd_dput ?_ | with_reducible refine rd_dget2 ?_ | with_reducible refine rd_dget ?_ | with_reducible refine rd_fld ?_ | with_reducible refine rd_sfld ?_ | with_reducible refine rd_meth ?_ | with_reducible refine rd_make ?_ | with_reducible refine rd_isN ?_ | with_reducible refine rd_notN ?_ | with_reducible refine rd_izip ?_ | with_reducible refine iteNT ?_ | with_reducible refine iteNF ?_ | with_reducible refine iteF ?_ | with_reducible refine iteT ?_))
local macro_rules | `(tactic| walk_at "rd") => `(tactic| (repeat walk_at "rd1"))
local macro_rules | `(tactic| walk_at "mk") => `(tactic| refine ⟨mk_le rfl, ?_⟩)

section
variable {P : Program} {w : World} {K : PySem.W.Frag} {mg : Str → Option Value} {base : Heap}
section
def sp_words : Sp := sp2 fun x y H Q => ∃ a b zs, x = .ref a ∧ y = .ref b ∧ H a = some (.lst ((zs : List Int).map V.int)) ∧ H b = some (.lst (zs.map V.int)) ∧ zs.length ≤ 200000 ∧ Q (.bl true) H
theorem sc__law_words : FnScope ["found", "due", "k"] ["found", "due"] (defScope s__law_words) := ⟨rfl, rfl, rfl, by decide +kernel, rfl, by decide +kernel, by decide +kernel⟩
theorem c__law_words (B : Blt mg) (T__law_words : TopFn K mg "_law_words" s__law_words ["found", "due"]) (C_law_whole : Callee P w K mg base "_law_whole" 1 ["found"] sp_wholeI) : Callee P w K mg base "_law_words" 2 ["found", "due"] sp_words := by
  refine T__law_words.ok2 sc__law_words fun f cdv A outer s H v1 v2 Q E hr h => ?_
  have nd := sc__law_words.nd
  obtain ⟨a, b, zs, rfl, rfl, ha, hb, hz, k⟩ := h
  refine' go_body [some (.ref a), some (.ref b), none] rfl ?hb ?hg
  case hb =>
   refine' pss_cons ?zb ?zc
   case zb =>
    refine' ps_if ?zd ?ze ?zf
    case zd =>
     refine' PW.pt ?zg
     case zg =>
      refine' pw_or ?zh ?zi
      case zh =>
       refine' pt_not ?zj
       case zj =>
        refine' pt_val ?zk
        case zk =>
         refine' pe_callB ?zl ?zm ?zn ?zo ?zp
         case zl => exact call_isi
         case zm => exact (by rfl)
         case zn => exact B.b_isinstance
         case zo => exact bt_isinstance
         case zp => exact (pa_consN (pv 0) (pa_consN (pe_bltn (v := .ty "list") (by rfl) B.b_list bt_list rfl) pa_nil))
      case zi =>
       refine' pw_or1 ?zq
       case zq =>
        refine' pt_cmpR ?zr ?zs ?zt ?zu
        case zr => exact op_ne
        case zs => exact (pe_callB (k_len (K := K) rfl) (by rfl) B.b_len bt_len (pa_consN (pv 0) pa_nil))
        case zt => exact (pe_callB (k_len (K := K) rfl) (by rfl) B.b_len bt_len (pa_consN (pv 1) pa_nil))
        case zu => exact (nomark _)
    case ze => exact (pss_one (ps_ret pe_bl))
    case zf => exact pss_nil
   case zc =>
    refine' pss_cons ?zv ?zw
    case zv =>
     refine' ps_for ?zx ?zy ?zz ?zba ?zbb
     case zx => exact PassesOwn.never
     case zy => exact rfl
     case zz => exact (pi_range1 rfl B.b_range (pa_consC (pe_callB (k_len (K := K) rfl) (by rfl) B.b_len bt_len (pa_consN (pv 1) pa_nil)) pa_nil))
     case zba => exact (pg_name (i := 2) nd rfl (Or.inl rfl))
     case zbb =>
      refine' pss_one ?zbc
      case zbc =>
       refine' ps_if ?zbd ?zbe ?zbf
       case zbd =>
        refine' PW.pt ?zbg
        case zbg =>
         refine' pw_or ?zbh ?zbi
         case zbh =>
          refine' pt_not ?zbj
          case zbj =>
           refine' pt_val ?zbk
           case zbk => exact (pe_fn C_law_whole (hr.mono (by first | decide | omega)) (by rfl) (pa_consS (pe_ix (k_ix (K := K) rfl) (pv 0) (pv 2) (fun _ _ => rfl)) pa_nil))
         case zbi =>
          refine' pw_or1 ?zbl
          case zbl => exact (pt_cmpR op_ne (pe_ix (k_ix (K := K) rfl) (pv 0) (pv 2) (fun _ _ => rfl)) (pe_ix (k_ix (K := K) rfl) (pv 1) (pv 2) (fun _ _ => rfl)) (nomark _))
       case zbe => exact (pss_one (ps_ret pe_bl))
       case zbf => exact pss_nil
    case zw => exact (pss_one (ps_ret pe_bl))
  walk_at "rd"
  refine rd_isi (tyN_lst ha) (by simp) (rd_bl (iteF ?_))
  walk_at "rd"
  refine rd_lenL' (SqL.of ha) ?_
  walk_at "rd"
  refine rd_lenL' (SqL.of hb) ?_
  walk_at "rd"
  refine iteNS rfl ?_
  walk_at "rd"
  refine rd_lenL' (SqL.of hb) ?_
  walk_at "rd"
  refine irK_of (by omega) (by simp; omega) ?_
  refine for_range (n := ((zs.map V.int).length : Int).toNat) (fun j σ Hy => (∃ c3, σ = [some (.ref a), some (.ref b), c3]) ∧ Hy = H) ⟨⟨none, rfl⟩, rfl⟩ ?_ ?_
  · rintro j σ Hy hj ⟨⟨c3, rfl⟩, rfl⟩
    have hj' : j < zs.length := by simpa using hj
    have e : (zs.map V.int)[j]? = some (.int zs[j]) := by simp [hj']
    walk_at "rd"
    rw [show (0 : Int) + (j : Int) = (j : Int) by omega]
    refine rd_ixaL ha (atI_at (n := j) rfl e) ?_
    walk_at "rd"
    refine use1 ⟨zs[j], rfl, ?_⟩
    walk_at "rd"
    refine rd_ixaL ha (atI_at (n := j) rfl e) ?_
    walk_at "rd"
    refine rd_ixaL hb (atI_at (n := j) rfl e) ?_
    walk_at "rd"
    refine iteNS rfl ?_
    walk_at "rd"
    exact ⟨⟨_, rfl⟩, rfl⟩
  · rintro σ Hy ⟨⟨c3, rfl⟩, rfl⟩
    walk_at "rd"
    exact k

end
section
theorem cut2 (x y v : V) : cutV [x, y, v] none (some 2) = [x, y] := cut_to (xs := [x, y, v]) (k := 2) (by simp)
def FrsAt (H : Hp) (a : Addr) (fz : List FZ) : Prop := H a = some (.lst (fz.map fun z => V.ref z.1.1)) ∧ ∀ z ∈ fz, H z.1.1 = some (.lst [.int z.2.1, .int z.2.2.1, .ref z.1.2]) ∧ H z.1.2 = some (.lst (z.2.2.2.map V.int))
theorem FrsAt.mono {H H' : Hp} {a : Addr} {fz : List FZ} (h : FrsAt H a fz) (s : Same H H') : FrsAt H' a fz := ⟨s _ _ h.1, fun z hz => ⟨s _ _ (h.2 z hz).1, s _ _ (h.2 z hz).2⟩⟩
def sp_frames : Sp := sp2 fun x y H Q => ∃ a b fz gz, x = .ref a ∧ y = .ref b ∧ FrsAt H a fz ∧ FrsAt H b gz ∧ fz.map (·.2) = gz.map (·.2) ∧ fz.length ≤ 1000 ∧ (∀ z ∈ fz, z.2.2.2.length ≤ 1000) ∧ ∀ H', Same H H' → Q (.bl true) H'
theorem sc__law_frames : FnScope ["found", "due", "one", "two"] ["found", "due"] (defScope s__law_frames) := ⟨rfl, rfl, rfl, by decide +kernel, rfl, by decide +kernel, by decide +kernel⟩
theorem c__law_frames (B : Blt mg) (T__law_frames : TopFn K mg "_law_frames" s__law_frames ["found", "due"]) (C_law_words : Callee P w K mg base "_law_words" 2 ["found", "due"] sp_words) : Callee P w K mg base "_law_frames" 3 ["found", "due"] sp_frames := by
  refine T__law_frames.ok2 sc__law_frames fun f cdv A outer s H v1 v2 Q E hr h => ?_
  have nd := sc__law_frames.nd
  obtain ⟨a, b, fz, gz, rfl, rfl, ha, hb, hfg, hz, hbx, k⟩ := h
  have hlen : fz.length = gz.length := by simpa using congrArg List.length hfg
  refine' go_body [some (.ref a), some (.ref b), none, none] rfl ?hb ?hg
  case hb =>
   refine' pss_cons ?zbm ?zbn
   case zbm =>
    refine' ps_if ?zbo ?zbp ?zbq
    case zbo =>
     refine' PW.pt ?zbr
     case zbr =>
      refine' pw_or ?zbs ?zbt
      case zbs =>
       refine' pt_not ?zbu
       case zbu =>
        refine' pt_val ?zbv
        case zbv =>
         refine' pe_callB ?zbw ?zbx ?zby ?zbz ?zca
         case zbw => exact call_isi
         case zbx => exact (by rfl)
         case zby => exact B.b_isinstance
         case zbz => exact bt_isinstance
         case zca => exact (pa_consN (pv 0) (pa_consN (pe_bltn (v := .ty "list") (by rfl) B.b_list bt_list rfl) pa_nil))
      case zbt =>
       refine' pw_or1 ?zcb
       case zcb =>
        refine' pt_cmpR ?zcc ?zcd ?zce ?zcf
        case zcc => exact op_ne
        case zcd => exact (pe_callB (k_len (K := K) rfl) (by rfl) B.b_len bt_len (pa_consN (pv 0) pa_nil))
        case zce => exact (pe_callB (k_len (K := K) rfl) (by rfl) B.b_len bt_len (pa_consN (pv 1) pa_nil))
        case zcf => exact (nomark _)
    case zbp => exact (pss_one (ps_ret pe_bl))
    case zbq => exact pss_nil
   case zbn =>
    refine' pss_cons ?zcg ?zch
    case zcg =>
     refine' ps_for ?zci ?zcj ?zck ?zcl ?zcm
     case zci => exact PassesOwn.never
     case zcj => exact rfl
     case zck => exact (k_pi_zip (K := K) rfl (by rfl) B.b_zip (pa_consN (pv 0) (pa_consN (pv 1) pa_nil)))
     case zcl => exact (k_pg_tup (K := K) (n := 2) rfl rfl (pgs_cons (pg_name (i := 2) nd rfl (Or.inl rfl)) (pgs_cons (pg_name (i := 3) nd rfl (Or.inl rfl)) pgs_nil)))
     case zcm =>
      refine' pss_cons ?zcn ?zco
      case zcn =>
       refine' ps_if ?zcp ?zcq ?zcr
       case zcp =>
        refine' PW.pt ?zcs
        case zcs =>
         refine' pw_or ?zct ?zcu
         case zct =>
          refine' pt_not ?zcv
          case zcv =>
           refine' pt_val ?zcw
           case zcw =>
            refine' pe_callB ?zcx ?zcy ?zcz ?zda ?zdb
            case zcx => exact call_isi
            case zcy => exact (by rfl)
            case zcz => exact B.b_isinstance
            case zda => exact bt_isinstance
            case zdb => exact (pa_consN (pv 2) (pa_consN (pe_bltn (v := .ty "list") (by rfl) B.b_list bt_list rfl) pa_nil))
         case zcu =>
          refine' pw_or ?zdc ?zdd
          case zdc => exact (pt_cmpR op_ne (pe_callB (k_len (K := K) rfl) (by rfl) B.b_len bt_len (pa_consN (pv 2) pa_nil)) pe_int (nomark _))
          case zdd =>
           refine' pw_or1 ?zde
           case zde =>
            refine' pt_not ?zdf
            case zdf =>
             refine' pt_val ?zdg
             case zdg =>
              refine' pe_fn ?zdh ?zdi ?zdj ?zdk
              case zdh => exact C_law_words
              case zdi => exact (hr.mono (by first | decide | omega))
              case zdj => exact (by rfl)
              case zdk =>
               refine' pa_consS ?zdl ?zdm
               case zdl => exact (pe_slice (k_sl (K := K) rfl) (pv 2) po_none (po_some pe_int))
               case zdm => exact (pa_consS (pe_slice (k_sl (K := K) rfl) (pv 3) po_none (po_some pe_int)) pa_nil)
       case zcq => exact (pss_one (ps_ret pe_bl))
       case zcr => exact pss_nil
      case zco =>
       refine' pss_one ?zdn
       case zdn =>
        refine' ps_if ?zdo ?zdp ?zdq
        case zdo =>
         refine' pt_not ?zdr
         case zdr =>
          refine' pt_val ?zds
          case zds =>
           refine' pe_fn ?zdt ?zdu ?zdv ?zdw
           case zdt => exact C_law_words
           case zdu => exact (hr.mono (by first | decide | omega))
           case zdv => exact (by rfl)
           case zdw => exact (pa_consS (pe_ix (k_ix (K := K) rfl) (pv 2) pe_int (fun _ _ => rfl)) (pa_consS (pe_ix (k_ix (K := K) rfl) (pv 3) pe_int (fun _ _ => rfl)) pa_nil))
        case zdp => exact (pss_one (ps_ret pe_bl))
        case zdq => exact pss_nil
    case zch => exact (pss_one (ps_ret pe_bl))
  walk_at "rd"
  refine rd_isi (tyN_lst ha.1) (by simp) (rd_bl (iteF ?_))
  walk_at "rd"
  refine rd_lenL' (SqL.of ha.1) ?_
  walk_at "rd"
  refine rd_lenL' (SqL.of hb.1) ?_
  walk_at "rd"
  refine iteNS (by simp [hlen]) ?_
  walk_at "rd"
  refine izK_of (SqL.of ha.1) (SqL.of hb.1) ?_
  refine for_zip (xs := fz.map fun z => V.ref z.1.1) (ys := gz.map fun z => V.ref z.1.1) (by simp [hlen]) (fun j σ Hy => (∃ c3 c4, σ = [some (.ref a), some (.ref b), c3, c4]) ∧ Same H Hy) ⟨⟨none, none, rfl⟩, Same.refl _⟩ (fun i σ Hy _ ⟨_, sy⟩ => ⟨SqL.of (sy _ _ ha.1), SqL.of (sy _ _ hb.1)⟩) ?_ ?_
  · rintro j x y T σ Hy hx hy hT ⟨⟨c3, c4, rfl⟩, sy⟩
    rw [List.getElem?_map] at hx hy
    obtain ⟨z, ez, rfl⟩ := Option.map_eq_some_iff.mp hx
    obtain ⟨z', ez', rfl⟩ := Option.map_eq_some_iff.mp hy
    have hzz : z.2 = z'.2 := by
      have := congrArg (fun l => l[j]?) hfg
      simpa [ez, ez'] using this
    have s1 := sy.trans (Same.new (o := .tup [V.ref z.1.1, V.ref z'.1.1]) hT)
    have hT1 : upd Hy T (.tup [V.ref z.1.1, V.ref z'.1.1]) T = some (.tup [V.ref z.1.1, V.ref z'.1.1]) := upd_same
    generalize upd Hy T (HO.tup [V.ref z.1.1, V.ref z'.1.1]) = H1 at s1 hT1
    obtain ⟨h1, h2⟩ := (ha.mono s1).2 z (List.mem_of_getElem? ez)
    obtain ⟨g1, g2⟩ := (hb.mono s1).2 z' (List.mem_of_getElem? ez')
    have hbl := hbx z (List.mem_of_getElem? ez)
    rw [← hzz] at g1 g2
    refine rd_gtup hT1 rfl ?_
    walk_at "rd"
    refine rd_isi (tyN_lst h1) (by simp) (rd_bl (iteF ?_))
    walk_at "rd"
    refine rd_lenL' (SqL.of h1) ?_
    walk_at "rd"
    refine iteNS rfl ?_
    walk_at "rd"
    refine rd_slL (SqL.of h1) fun p1 hp1 => ?_
    rw [cut2]
    have s2 := Same.new (o := .lst ([V.int z.2.1, V.int z.2.2.1])) hp1
    walk_at "rd"
    refine rd_slL (SqL.of (s2 _ _ g1)) fun p2 hp2 => ?_
    rw [cut2]
    have s3 := Same.new (o := .lst ([V.int z.2.1, V.int z.2.2.1])) hp2
    walk_at "rd"
    refine use2 ⟨p1, p2, [z.2.1, z.2.2.1], rfl, rfl, s3 _ _ upd_same, upd_same, by simp, ?_⟩
    have s13 := (s1.trans s2).trans s3
    have s23 := s2.trans s3
    walk_at "rd"
    refine rd_ixaL (v := .ref z.1.2) (s23 _ _ h1) rfl ?_
    walk_at "rd"
    refine rd_ixaL (v := .ref z'.1.2) (s23 _ _ g1) rfl ?_
    walk_at "rd"
    refine use2 ⟨z.1.2, z'.1.2, z.2.2.2, rfl, rfl, s23 _ _ h2, s23 _ _ g2, by omega, ?_⟩
    walk_at "rd"
    exact ⟨⟨_, _, rfl⟩, s13⟩
  · rintro σ Hy ⟨⟨c3, c4, rfl⟩, sy⟩
    walk_at "rd"
    exact k _ sy
/-! ### the law's own state -/
def sObjs (ps sf sn sl : Addr) (gz : List FZ) (h : HS) (ve : V) : List (Addr × HO) :=
  [(ps, .lst [.ref sf, .ref sl, .ref sn, .int h.gone, ve]), (sf, .lst (gz.map fun z => V.ref z.1.1)), (sn, .lst (h.news.map V.int)), (sl, .lst (h.left.map V.int))] ++ gz.flatMap frObj
theorem own_sobjs {ps sf sn sl : Addr} {gz : List FZ} {h : HS} {ve : V} : (sObjs ps sf sn sl gz h ve).map (·.1) = ownA ps sf sn sl gz := by
  unfold sObjs ownA
  rw [List.map_append, List.map_flatMap]
  rfl
structure SA (ps sf sn sl : Addr) (gz : List FZ) (H : Hp) (h : HS) (ve : V) : Prop where
  all : AllAt H (sObjs ps sf sn sl gz h ve)
  nd : (ownA ps sf sn sl gz).Nodup
  en : Rep H (En.d h.fin) ve
  fr : gz.map (·.2) = h.frames
section
variable {ps sf sn sl : Addr} {gz : List FZ} {H : Hp} {h : HS} {ve : V}
theorem SA.obj (a : SA ps sf sn sl gz H h ve) : H ps = some (.lst [.ref sf, .ref sl, .ref sn, .int h.gone, ve]) := AllAt.here (l1 := []) a.all
theorem SA.fl (a : SA ps sf sn sl gz H h ve) : H sf = some (.lst (gz.map fun z => V.ref z.1.1)) := AllAt.here (l1 := [_]) a.all
theorem SA.nl (a : SA ps sf sn sl gz H h ve) : H sn = some (.lst (h.news.map V.int)) := AllAt.here (l1 := [_, _]) a.all
theorem SA.ll (a : SA ps sf sn sl gz H h ve) : H sl = some (.lst (h.left.map V.int)) := AllAt.here (l1 := [_, _, _]) a.all
theorem SA.z1 (a : SA ps sf sn sl gz H h ve) {z : FZ} (m : z ∈ gz) : H z.1.1 = some (.lst [.int z.2.1, .int z.2.2.1, .ref z.1.2]) := a.all (z.1.1, _) (List.mem_append_right _ (List.mem_flatMap.mpr ⟨z, m, List.mem_cons_self⟩))
theorem SA.z2 (a : SA ps sf sn sl gz H h ve) {z : FZ} (m : z ∈ gz) : H z.1.2 = some (.lst (z.2.2.2.map V.int)) := a.all (z.1.2, _) (List.mem_append_right _ (List.mem_flatMap.mpr ⟨z, m, List.mem_cons_of_mem _ List.mem_cons_self⟩))
theorem SA.mono {H' : Hp} (a : SA ps sf sn sl gz H h ve) (s : Same H H') : SA ps sf sn sl gz H' h ve := ⟨a.all.mono s, a.nd, a.en.mono s.ts, a.fr⟩
theorem SA.frs (a : SA ps sf sn sl gz H h ve) : FrsAt H sf gz := ⟨a.fl, fun z m => ⟨a.z1 m, a.z2 m⟩⟩
theorem _root_.L2.HA.frs {C p dx pp pf pn pl : Addr} {fz : List FZ} {P : List Df} (a : HA C p dx pp pf pn pl fz H P h ve) : FrsAt H pf fz := ⟨a.fl, fun z m => ⟨a.z1 m, a.z2 m⟩⟩
end

end
section
variable {C : Addr}
theorem rd_eqEn {H : Hp} {x y : V} {e : En} {Q : VK} (h1 : Rep H (En.d (some e)) x) (h2 : Rep H (En.d (some e)) y) (q : Q (.bl true) H) : rEqD x y H Q := by
  cases e <;> exact ⟨_, _, h1, h2, rfl, rfl, by simp [D.deps, D.dep], by rw [eqD_same]; exact q⟩
theorem ty_en {H : Hp} {x : V} {e : En} (h : Rep H (En.d (some e)) x) : tyN H x = some "tuple" := by
  cases e <;> (obtain ⟨a, _, rfl, ha, _⟩ := rep_tup_inv h; exact tyN_tup ha)
def sp_fields (C : Addr) : Sp := sp2 fun x y H Q => ∃ p dx pp pf pn pl fz P h ve ps sf sn sl gz ve', x = .ref p ∧ y = .ref ps ∧ HA C p dx pp pf pn pl fz H P h ve ∧ SA ps sf sn sl gz H h ve' ∧ h.frames.length ≤ 1000 ∧ (∀ fr ∈ h.frames, fr.2.2.length ≤ 1000) ∧ h.left.length ≤ 200000 ∧ h.news.length ≤ 200000 ∧ ∀ H', Same H H' → Q (.bl true) H'
theorem sc__law_fields : FnScope ["hand", "state"] ["hand", "state"] (defScope s__law_fields) := ⟨rfl, rfl, rfl, by decide +kernel, rfl, by decide +kernel, by decide +kernel⟩
theorem c__law_fields (B : Blt mg) (HHand : CHand K C) (T__law_fields : TopFn K mg "_law_fields" s__law_fields ["hand", "state"]) (C_law_whole : Callee P w K mg base "_law_whole" 1 ["found"] sp_wholeI) (C_law_words : Callee P w K mg base "_law_words" 2 ["found", "due"] sp_words) (C_law_frames : Callee P w K mg base "_law_frames" 3 ["found", "due"] sp_frames) : Callee P w K mg base "_law_fields" 4 ["hand", "state"] (sp_fields C) := by
  refine T__law_fields.ok2 sc__law_fields fun f cdv A outer s H v1 v2 Q E hr h => ?_
  have nd := sc__law_fields.nd
  have hu := hr.units
  obtain ⟨p, dx, pp, pf, pn, pl, fz, Pg, h, ve, ps, sf, sn, sl, gz, ve', rfl, rfl, a, st, hf, hb, hl, hn, k⟩ := h
  refine' go_body [some (.ref p), some (.ref ps)] rfl ?hb ?hg
  case hb =>
   refine' pss_cons ?zdx ?zdy
   case zdx =>
    refine' ps_if ?zdz ?zea ?zeb
    case zdz =>
     refine' PW.pt ?zec
     case zec =>
      refine' pw_or ?zed ?zee
      case zed =>
       refine' pt_not ?zef
       case zef =>
        refine' pt_val ?zeg
        case zeg =>
         refine' pe_fn ?zeh ?zei ?zej ?zek
         case zeh => exact C_law_frames
         case zei => exact (hr.mono (by first | decide | omega))
         case zej => exact (by rfl)
         case zek => exact (pa_consA (k_fld (K := K) rfl (pv 0) rfl) (pa_consS (pe_ix (k_ix (K := K) rfl) (pv 1) pe_int (fun _ _ => rfl)) pa_nil))
      case zee =>
       refine' pw_or1 ?zel
       case zel =>
        refine' pt_not ?zem
        case zem =>
         refine' pt_val ?zen
         case zen =>
          refine' pe_fn ?zeo ?zep ?zeq ?zer
          case zeo => exact C_law_words
          case zep => exact (hr.mono (by first | decide | omega))
          case zeq => exact (by rfl)
          case zer => exact (pa_consA (k_fld (K := K) rfl (pv 0) rfl) (pa_consS (pe_ix (k_ix (K := K) rfl) (pv 1) pe_int (fun _ _ => rfl)) pa_nil))
    case zea => exact (pss_one (ps_ret pe_bl))
    case zeb => exact pss_nil
   case zdy =>
    refine' pss_cons ?zes ?zet
    case zes =>
     refine' ps_if ?zeu ?zev ?zew
     case zeu =>
      refine' PW.pt ?zex
      case zex =>
       refine' pw_or ?zey ?zez
       case zey =>
        refine' pt_not ?zfa
        case zfa =>
         refine' pt_val ?zfb
         case zfb =>
          refine' pe_fn ?zfc ?zfd ?zfe ?zff
          case zfc => exact C_law_words
          case zfd => exact (hr.mono (by first | decide | omega))
          case zfe => exact (by rfl)
          case zff => exact (pa_consA (k_fld (K := K) rfl (pv 0) rfl) (pa_consS (pe_ix (k_ix (K := K) rfl) (pv 1) pe_int (fun _ _ => rfl)) pa_nil))
       case zez =>
        refine' pw_or ?zfg ?zfh
        case zfg => exact (pt_not (pt_val (pe_fn C_law_whole (hr.mono (by first | decide | omega)) (by rfl) (pa_consA (k_fld (K := K) rfl (pv 0) rfl) pa_nil))))
        case zfh => exact (pw_or1 (pt_cmpR op_ne (k_fld (K := K) rfl (pv 0) rfl) (pe_ix (k_ix (K := K) rfl) (pv 1) pe_int (fun _ _ => rfl)) (nomark _)))
     case zev => exact (pss_one (ps_ret pe_bl))
     case zew => exact pss_nil
    case zet =>
     refine' pss_cons ?zfi ?zfj
     case zfi =>
      refine' ps_if ?zfk ?zfl ?zfm
      case zfk => exact (pt_cmpR op_isN' (pe_ix (k_ix (K := K) rfl) (pv 1) pe_int (fun _ _ => rfl)) pe_non (nomark _))
      case zfl => exact (pss_one (ps_ret (pe_cmpR op_isN' (k_fld (K := K) rfl (pv 0) rfl) pe_non (nomark _))))
      case zfm => exact pss_nil
     case zfj =>
      refine' pss_one ?zfn
      case zfn =>
       refine' ps_ret ?zfo
       case zfo =>
        refine' pe_and ?zfp ?zfq
        case zfp =>
         refine' pe_callB ?zfr ?zfs ?zft ?zfu ?zfv
         case zfr => exact call_isi
         case zfs => exact (by rfl)
         case zft => exact B.b_isinstance
         case zfu => exact bt_isinstance
         case zfv => exact (pa_consA (k_fld (K := K) rfl (pv 0) rfl) (pa_consN (pe_bltn (v := .ty "tuple") (by rfl) B.b_tuple bt_tuple rfl) pa_nil))
        case zfq => exact (pe_one (pe_cmpR (op_eqD hu) (k_fld (K := K) rfl (pv 0) rfl) (pe_ix (k_ix (K := K) rfl) (pv 1) pe_int (fun _ _ => rfl)) (nomark _)))
  walk_at "rd"
  refine fld_of a.obj HHand.cl HHand.n_frames hf_frames ?_
  walk_at "rd"
  refine rd_ixaL (v := .ref sf) st.obj rfl ?_
  walk_at "rd"
  refine use2 ⟨pf, sf, fz, gz, rfl, rfl, a.frs, st.frs, by rw [a.fr, st.fr], by rw [← a.fr] at hf; simpa using hf, fun z hz => hb z.2 (by rw [← a.fr]; exact List.mem_map_of_mem hz), fun H1 s1 => ?_⟩
  have a1 := a.mono s1
  have st1 := st.mono s1
  walk_at "rd"
  refine fld_of a1.obj HHand.cl HHand.n_left hf_left ?_
  walk_at "rd"
  refine rd_ixaL (v := .ref sl) st1.obj rfl ?_
  walk_at "rd"
  refine use2 ⟨pl, sl, h.left, rfl, rfl, a1.ll, st1.ll, hl, ?_⟩
  walk_at "rd"
  refine fld_of a1.obj HHand.cl HHand.n_news hf_news ?_
  walk_at "rd"
  refine rd_ixaL (v := .ref sn) st1.obj rfl ?_
  walk_at "rd"
  refine use2 ⟨pn, sn, h.news, rfl, rfl, a1.nl, st1.nl, hn, ?_⟩
  walk_at "rd"
  refine fld_of a1.obj HHand.cl HHand.n_gone hf_gone ?_
  walk_at "rd"
  refine use1 ⟨h.gone, rfl, ?_⟩
  walk_at "rd"
  refine fld_of a1.obj HHand.cl HHand.n_gone hf_gone ?_
  walk_at "rd"
  refine rd_ixaL (v := .int h.gone) st1.obj rfl ?_
  walk_at "rd"
  refine iteNS rfl ?_
  walk_at "rd"
  refine rd_ixaL (v := ve') st1.obj rfl ?_
  walk_at "rd"
  have e1 := a1.en
  have e2 := st1.en
  cases hfin : h.fin with
  | none =>
    rw [hfin] at e1 e2
    obtain rfl := en_non e1
    obtain rfl := en_non e2
    refine ite_dy rfl ?_
    walk_at "rd"
    refine fld_of a1.obj HHand.cl HHand.n_end hf_end ?_
    walk_at "rd"
    exact k _ s1
  | some e =>
    rw [hfin] at e1 e2
    refine ite_dn (en_ref e2) ?_
    walk_at "rd"
    refine fld_of a1.obj HHand.cl HHand.n_end hf_end ?_
    walk_at "rd"
    refine rd_isi (ty_en e1) (by simp) ?_
    walk_at "rd"
    refine iteT ?_
    walk_at "rd"
    refine fld_of a1.obj HHand.cl HHand.n_end hf_end ?_
    walk_at "rd"
    refine rd_ixaL (v := ve') st1.obj rfl ?_
    exact rd_eqEn e1 e2 (k _ s1)

end
end
end My

end
section
set_option Elab.async false
set_option linter.all false
set_option maxRecDepth 100000
set_option maxHeartbeats 4000000

namespace My
open PySem L2
local macro_rules | `(tactic| walk_at "rd1") => `(tactic| (first | ((with_reducible refine' rd_var ?e ?_); (case e => exact rfl)) | with_reducible refine rd_c ?_ | with_reducible refine rd_op ?_ | with_reducible refine rd_un ?_ | with_reducible refine rd_seq ?_ | with_reducible refine rd_asg ?_ | with_reducible refine rd_gname ?_ | with_reducible refine rd_ret ?_ | with_reducible refine rd_drop ?_ | with_reducible refine rd_next ?_ | with_reducible refine rd_if ?_ | with_reducible refine rd_test ?_ | with_reducible refine rd_tb ?_ | with_reducible refine rd_and ?_ | with_reducible refine rd_or ?_ | with_reducible refine rd_not ?_ | with_reducible refine rd_true ?_ | with_reducible refine rd_andV ?_ | with_reducible refine rd_orV ?_ | with_reducible refine rd_notV ?_ | with_reducible refine rd_ifE ?_ | with_reducible refine rd_chain ?_ | with_reducible refine rd_nil ?_ | with_reducible refine rd_cons ?_ | with_reducible refine rd_cb ?_ | with_reducible refine rd_call ?_ | with_reducible refine rd_I0 ?_ | with_reducible refine rd_U ?_ | with_reducible refine rd_eqI ?_ | with_reducible refine rd_neI ?_ | with_reducible refine rd_eqS ?_ | with_reducible refine rd_neS ?_ | with_reducible refine rd_eqB ?_ | with_reducible refine rd_neB ?_ | with_reducible refine rd_bl ?_ | with_reducible refine rd_int ?_ | with_reducible refine rd_tup ?_ | with_reducible refine rd_lst ?_ | with_reducible refine rd_gsub ?_ | with_reducible refine rd_slice ?_ | with_reducible refine rd_nopart ?_ | with_reducible refine rd_part ?_ | with_reducible refine rd_bm ?_ | with_reducible refine rd_bm0 ?_ | with_reducible refine rd_comp ?_ | with_reducible refine rd_itup ?_ | with_reducible refine rd_ilist ?_ | with_reducible refine rd_irng ?_ | with_reducible refine rd_gcons ?_ | with_reducible refine rd_gnil ?_ | with_reducible refine rd_for ?_ | with_reducible refine rd_abs ?_ | with_reducible refine rd_max ?_ | with_reducible refine rd_min ?_ | with_reducible refine rd_intB ?_ | with_reducible refine rd_dput ?_ | with_reducible refine rd_dget2 ?_ | with_reducible refine rd_dget ?_ | with_reducible refine rd_fld ?_ | with_reducible refine rd_sfld ?_ | with_reducible refine rd_meth ?_ | with_reducible refine rd_make ?_ | with_reducible refine rd_isN ?_ | with_reducible refine rd_notN ?_ | with_reducible refine rd_izip ?_ | with_reducible refine iteNT ?_ | with_reducible refine iteNF ?_ | with_reducible refine iteF ?_ | with_reducible refine iteT ?_))
local macro_rules | `(tactic| walk_at "rd") => `(tactic| (repeat walk_at "rd1"))
local macro_rules | `(tactic| walk_at "mk") => `(tactic| refine ⟨mk_le rfl, ?_⟩)

section
variable {P : Program} {w : World} {K : PySem.W.Frag} {mg : Str → Option Value} {base : Heap}
section
/-- the defs' signs: how many are taken, how many boxes -/
def sigs (P : List Df) : List (Int × Int) := P.map fun d => (d.takes, d.boxes)
def sp_row25 : Sp := sp4 fun x1 x2 x3 x4 H Q => ∃ b l boxes many sa sg vs, x1 = .ref b ∧ x2 = .int boxes ∧ x3 = .int many ∧ x4 = .ref sa ∧ (1 ≤ boxes ∧ boxes ≤ 1000) ∧ (1 ≤ many ∧ many ≤ 1000) ∧ H sa = some (.lst vs) ∧ sa ≠ b ∧ Reps H (sg.map pairD) vs ∧ (1 ≤ sg.length ∧ sg.length ≤ 1000) ∧ (∀ s ∈ (sg : List (Int × Int)), 0 ≤ s.1 ∧ s.1 ≤ 1000) ∧ BagAt H b l ∧
  ∀ r v H', (∀ P, sigs P = sg → Rw.Ok P boxes many r) → Rep H' (rowD r.row) v → BagAt H' b l → BSame b H H' → Q v H'
theorem sc__law_row : FnScope ["bag", "boxes", "many", "signs", "p", "q", "r", "t", "kind", "some", "g"] ["bag", "boxes", "many", "signs"] (defScope s__law_row) := ⟨rfl, rfl, rfl, by decide +kernel, rfl, by decide +kernel, by decide +kernel⟩
theorem c__law_row (B : Blt mg) (T__law_row : TopFn K mg "_law_row" s__law_row ["bag", "boxes", "many", "signs"]) (C_law_draw : Callee P w K mg base "_law_draw" 1 ["bag", "many"] sp_draw) (C_law_number : Callee P w K mg base "_law_number" 2 ["bag"] sp_number) : Callee P w K mg base "_law_row" 3 ["bag", "boxes", "many", "signs"] sp_row25 := by
  refine T__law_row.ok4 sc__law_row fun f cdv A outer s H v1 v2 v3 v4 Q E hr hh => ?_
  have nd := sc__law_row.nd
  obtain ⟨b, l, boxes, many, sa, sg, vs, rfl, rfl, rfl, rfl, ⟨b0, b1⟩, ⟨m0', m1'⟩, hsa, nsa, rsg, ⟨g0, g1⟩, gs, Bg, k⟩ := hh
  refine' go_body [some (.ref b), some (.int boxes), some (.int many), some (.ref sa), none, none, none, none, none, none, none] rfl ?hb ?hg
  case hb =>
   refine' pss_cons ?zb ?zc
   case zb => exact (ps_setC (i := 4) nd rfl (Or.inl rfl) (pe_fn C_law_draw (hr.mono (by first | decide | omega)) (by rfl) (pa_consN (pv 0) (pa_consN (pv 1) pa_nil))))
   case zc =>
    refine' pss_cons ?zd ?ze
    case zd => exact (ps_setC (i := 5) nd rfl (Or.inl rfl) (pe_fn C_law_draw (hr.mono (by first | decide | omega)) (by rfl) (pa_consN (pv 0) (pa_consN (pv 1) pa_nil))))
    case ze =>
     refine' pss_cons ?zf ?zg
     case zf => exact (ps_setC (i := 6) nd rfl (Or.inl rfl) (pe_fn C_law_draw (hr.mono (by first | decide | omega)) (by rfl) (pa_consN (pv 0) (pa_consN (pv 1) pa_nil))))
     case zg =>
      refine' pss_cons ?zh ?zi
      case zh => exact (ps_setC (i := 7) nd rfl (Or.inl rfl) (pe_fn C_law_draw (hr.mono (by first | decide | omega)) (by rfl) (pa_consN (pv 0) (pa_consN (pv 2) pa_nil))))
      case zi =>
       refine' pss_cons ?zj ?zk
       case zj => exact (ps_setC (i := 8) nd rfl (Or.inl rfl) (pe_fn C_law_draw (hr.mono (by first | decide | omega)) (by rfl) (pa_consN (pv 0) (pa_consK pe_int pa_nil))))
       case zk =>
        refine' pss_cons ?zl ?zm
        case zl =>
         refine' ps_setL (i := 9) ?zn ?zo ?zp ?zq
         case zn => exact nd
         case zo => exact rfl
         case zp => exact (Or.inl rfl)
         case zq =>
          refine' pe_lst ?zr
          case zr =>
           refine' pa_consT ?zs ?zt
           case zs =>
            refine' pe_tup ?zu
            case zu => exact (pa_consK pe_str (pa_consN (pv 4) (pa_consC (pe_fn C_law_number (hr.mono (by first | decide | omega)) (by rfl) (pa_consN (pv 0) pa_nil)) pa_nil)))
           case zt =>
            refine' pa_consT ?zv ?zw
            case zv => exact (pe_tup (pa_consK pe_str (pa_consN (pv 4) (pa_consN (pv 5) pa_nil))))
            case zw =>
             refine' pa_consT ?zx ?zy
             case zx => exact (pe_tup (pa_consK pe_str (pa_consN (pv 4) (pa_consN (pv 5) (pa_consN (pv 6) pa_nil)))))
             case zy =>
              refine' pa_consT ?zz ?zba
              case zz => exact (pe_tup (pa_consK pe_str (pa_consN (pv 4) (pa_consN (pv 5) (pa_consN (pv 6) pa_nil)))))
              case zba => exact (pa_consT (pe_tup (pa_consK pe_str (pa_consN (pv 4) pa_nil))) pa_nil)
        case zm =>
         refine' pss_cons ?zbb ?zbc
         case zbb =>
          refine' ps_setB (i := 9) ?zbd ?zbe ?zbf ?zbg
          case zbd => exact nd
          case zbe => exact rfl
          case zbf => exact (Or.inl rfl)
          case zbg =>
           refine' pe_op ?zbh ?zbi ?zbj
           case zbh => exact op_cat
           case zbi => exact (pv 9)
           case zbj =>
            refine' pe_lst ?zbk
            case zbk =>
             refine' pa_consT ?zbl ?zbm
             case zbl =>
              refine' pe_tup ?zbn
              case zbn =>
               refine' pa_consK ?zbo ?zbp
               case zbo => exact pe_str
               case zbp =>
                refine' pa_consN ?zbq ?zbr
                case zbq => exact (pv 4)
                case zbr =>
                 refine' pa_consN ?zbs ?zbt
                 case zbs => exact (pv 5)
                 case zbt => exact (pa_consB (pe_op op_sub (pe_fn C_law_draw (hr.mono (by first | decide | omega)) (by rfl) (pa_consN (pv 0) (pa_consK pe_int pa_nil))) pe_int) pa_nil)
             case zbm =>
              refine' pa_consT ?zbu ?zbv
              case zbu => exact (pe_tup (pa_consK pe_str (pa_consN (pv 4) pa_nil)))
              case zbv =>
               refine' pa_consT ?zbw ?zbx
               case zbw => exact (pe_tup (pa_consK pe_str (pa_consN (pv 4) (pa_consN (pv 7) pa_nil))))
               case zbx => exact (pa_consT (pe_tup (pa_consK pe_str (pa_consN (pv 4) (pa_consN (pv 7) pa_nil)))) pa_nil)
         case zbc =>
          refine' pss_cons ?zby ?zbz
          case zby =>
           refine' ps_setB (i := 9) ?zca ?zcb ?zcc ?zcd
           case zca => exact nd
           case zcb => exact rfl
           case zcc => exact (Or.inl rfl)
           case zcd =>
            refine' pe_op ?zce ?zcf ?zcg
            case zce => exact op_cat
            case zcf => exact (pv 9)
            case zcg =>
             refine' pe_lst ?zch
             case zch =>
              refine' pa_consT ?zci ?zcj
              case zci => exact (pe_tup (pa_consK pe_str (pa_consN (pv 7) pa_nil)))
              case zcj =>
               refine' pa_consT ?zck ?zcl
               case zck => exact (pe_tup (pa_consK pe_str (pa_consN (pv 5) pa_nil)))
               case zcl =>
                refine' pa_consT ?zcm ?zcn
                case zcm => exact (pe_tup (pa_consK pe_str (pa_consN (pv 4) (pa_consN (pv 4) (pa_consN (pv 5) pa_nil)))))
                case zcn =>
                 refine' pa_consT ?zco ?zcp
                 case zco => exact (pe_tup (pa_consK pe_str (pa_consN (pv 4) (pa_consN (pv 4) (pa_consN (pv 6) pa_nil)))))
                 case zcp => exact (pa_consT (pe_tup (pa_consK pe_str (pa_consN (pv 5) pa_nil))) (pa_consT (pe_tup (pa_consK pe_str (pa_consN (pv 5) (pa_consN (pv 7) pa_nil)))) pa_nil))
          case zbz =>
           refine' pss_cons ?zcq ?zcr
           case zcq =>
            refine' ps_expr ?zcs
            case zcs =>
             refine' k_bm (K := K) ?zct ?zcu ?zcv ?zcw ?zcx ?zcy ?zcz
             case zct => exact rfl
             case zcu => exact PySem.F.plainAttrs_list
             case zcv => exact PySem.F.slot_list_append
             case zcw => exact PySem.F.type_list_append
             case zcx => exact mt_append
             case zcy => exact (pv 9)
             case zcz => exact (pa_consT (pe_tup (pa_consK pe_str (pa_consN (pv 4) pa_nil))) pa_nil)
           case zcr =>
            refine' pss_cons ?zda ?zdb
            case zda => exact (ps_if (pt_cmpR op_lt (pv 8) pe_int (nomark _)) (pss_one (ps_ret (pe_ix (k_ix (K := K) rfl) (pv 9) (pv 8) (fun _ _ => rfl)))) pss_nil)
            case zdb =>
             refine' pss_cons ?zdc ?zdd
             case zdc =>
              refine' ps_setC (i := 10) ?zde ?zdf ?zdg ?zdh
              case zde => exact nd
              case zdf => exact rfl
              case zdg => exact (Or.inl rfl)
              case zdh =>
               refine' pe_fn ?zdi ?zdj ?zdk ?zdl
               case zdi => exact C_law_draw
               case zdj => exact (hr.mono (by first | decide | omega))
               case zdk => exact (by rfl)
               case zdl => exact (pa_consN (pv 0) (pa_consC (pe_callB (k_len (K := K) rfl) (by rfl) B.b_len bt_len (pa_consN (pv 3) pa_nil)) pa_nil))
             case zdd =>
              refine' pss_cons ?zdm ?zdn
              case zdm =>
               refine' ps_if ?zdo ?zdp ?zdq
               case zdo =>
                refine' PW.pt ?zdr
                case zdr =>
                 refine' pw_or ?zds ?zdt
                 case zds => exact (pt_cmpR op_eq (pv 8) pe_int (nomark _))
                 case zdt =>
                  refine' pw_or1 ?zdu
                  case zdu =>
                   refine' PW.pt ?zdv
                   case zdv =>
                    refine' pw_and ?zdw ?zdx
                    case zdw => exact (pt_cmpR op_eq (pe_callB (k_len (K := K) rfl) (by rfl) B.b_len bt_len (pa_consN (pv 3) pa_nil)) pe_int (nomark _))
                    case zdx => exact (pw_and1 (pt_cmpR op_eq (pv 8) pe_int (nomark _)))
               case zdp =>
                refine' pss_one ?zdy
                case zdy =>
                 refine' ps_ret ?zdz
                 case zdz =>
                  refine' pe_tup ?zea
                  case zea =>
                   refine' pa_consK ?zeb ?zec
                   case zeb => exact pe_str
                   case zec =>
                    refine' pa_consN ?zed ?zee
                    case zed => exact (pv 4)
                    case zee =>
                     refine' pa_consN ?zef ?zeg
                     case zef => exact (pv 5)
                     case zeg => exact (pa_consB (pe_op op_sub (pe_fn C_law_draw (hr.mono (by first | decide | omega)) (by rfl) (pa_consN (pv 0) (pa_consK pe_int pa_nil))) pe_int) pa_nil)
               case zdq => exact pss_nil
              case zdn =>
               refine' pss_one ?zeh
               case zeh =>
                refine' ps_ret ?zei
                case zei =>
                 refine' pe_tup ?zej
                 case zej =>
                  refine' pa_consK ?zek ?zel
                  case zek => exact pe_str
                  case zel =>
                   refine' pa_consN ?zem ?zen
                   case zem => exact (pv 4)
                   case zen =>
                    refine' pa_consN ?zeo ?zep
                    case zeo => exact (pv 10)
                    case zep =>
                     refine' pa_consC ?zeq ?zer
                     case zeq =>
                      refine' pe_callTy ?zes ?zet ?zeu ?zev ?zew
                      case zes => exact (k_tupOf (K := K) rfl)
                      case zet => exact (by rfl)
                      case zeu => exact B.b_tuple
                      case zev => exact bt_tuple
                      case zew =>
                       refine' pa_consM ?zex ?zey
                       case zex =>
                        refine' pe_comp (LN := ["k"]) (FN := ["bag", "boxes"]) (fr := [0, 1]) ?zez ?zfa ?zfb ?zfc ?zfd ?zfe
                        case zez => exact rfl
                        case zfa => exact (bk_of (by rfl))
                        case zfb =>
                         refine' pi_range1 ?zff ?zfg ?zfh
                         case zff => exact rfl
                         case zfg => exact B.b_range
                         case zfh => exact (pa_consS (pe_ix (k_ix (K := K) rfl) (pe_ix (k_ix (K := K) rfl) (pv 3) (pv 10) (fun _ _ => rfl)) pe_int (fun _ _ => rfl)) pa_nil)
                        case zfc =>
                         intro cl C fp pins s H
                         exact (pg_name (i := 0) (show ((["k"] : List Str) ++ (["bag", "boxes"] : List Str)).Nodup by decide +kernel) rfl (Or.inl rfl))
                        case zfd =>
                         intro cl C fp pins s H
                         exact pts_nil
                        case zfe =>
                         intro cl C fp pins s H
                         exact (pe_fn C_law_draw (hr.mono (by first | decide | omega)) (by rfl) (pa_consN (pv 1) (pa_consN (pv 2) pa_nil)))
                       case zey => exact pa_nil
                     case zer => exact pa_nil
  walk_at "rd"
  refine use2 ⟨b, l, boxes, rfl, rfl, ⟨by omega, by omega⟩, Bg, fun p H1 p0 p1 B1 s1 => ?_⟩
  walk_at "rd"
  refine use2 ⟨b, l, boxes, rfl, rfl, ⟨by omega, by omega⟩, B1, fun q H2 q0 q1 B2 s2 => ?_⟩
  walk_at "rd"
  refine use2 ⟨b, l, boxes, rfl, rfl, ⟨by omega, by omega⟩, B2, fun r H3 r0' r1' B3 s3 => ?_⟩
  walk_at "rd"
  refine use2 ⟨b, l, many, rfl, rfl, ⟨by omega, by omega⟩, B3, fun t H4 t0' t1' B4 s4 => ?_⟩
  walk_at "rd"
  refine use2 ⟨b, l, 20, rfl, rfl, ⟨by decide, by decide⟩, B4, fun kind H5 k0 k1 B5 s5 => ?_⟩
  have s15 := (((s1.trans s2).trans s3).trans s4).trans s5
  walk_at "rd"
  refine use1 ⟨b, l, rfl, B5, fun n H6 hn B6 s6 => ?_⟩
  walk_at "rd"
  walk_at "mk"; intro u0 h0
  have t0 := Same.new (o := .tup [V.str "put", V.int p, V.int n]) h0
  have r0 : Rep (upd H6 u0 (.tup [V.str "put", V.int p, V.int n])) (rowD (Rw.put p n).row) (.ref u0) := rep_tup upd_same (reps_cons (by rw [Rep]; rfl) (reps_cons rep_int (reps_cons rep_int reps_nil)))
  generalize upd H6 u0 (HO.tup [V.str "put", V.int p, V.int n]) = G0 at t0 r0
  have R0 : Reps G0 (rowsD [Rw.put p n]) [V.ref u0] := reps_cons r0 reps_nil
  have S0 := t0
  walk_at "rd"
  walk_at "mk"; intro u1 h1
  have t1 := Same.new (o := .tup [V.str "copy", V.int p, V.int q]) h1
  have r1 : Rep (upd G0 u1 (.tup [V.str "copy", V.int p, V.int q])) (rowD (Rw.copy p q).row) (.ref u1) := rep_tup upd_same (reps_cons (by rw [Rep]; rfl) (reps_cons rep_int (reps_cons rep_int reps_nil)))
  generalize upd G0 u1 (HO.tup [V.str "copy", V.int p, V.int q]) = G1 at t1 r1
  have R1 : Reps G1 (rowsD [Rw.put p n, Rw.copy p q]) [V.ref u0, V.ref u1] := Reps.append (R0.mono t1.ts) (reps_cons r1 reps_nil)
  have S1 := S0.trans t1
  walk_at "rd"
  walk_at "mk"; intro u2 h2
  have t2 := Same.new (o := .tup [V.str "plus", V.int p, V.int q, V.int r]) h2
  have r2 : Rep (upd G1 u2 (.tup [V.str "plus", V.int p, V.int q, V.int r])) (rowD (Rw.plus p q r).row) (.ref u2) := rep_tup upd_same (reps_cons (by rw [Rep]; rfl) (reps_cons rep_int (reps_cons rep_int (reps_cons rep_int reps_nil))))
  generalize upd G1 u2 (HO.tup [V.str "plus", V.int p, V.int q, V.int r]) = G2 at t2 r2
  have R2 : Reps G2 (rowsD [Rw.put p n, Rw.copy p q, Rw.plus p q r]) [V.ref u0, V.ref u1, V.ref u2] := Reps.append (R1.mono t2.ts) (reps_cons r2 reps_nil)
  have S2 := S1.trans t2
  walk_at "rd"
  walk_at "mk"; intro u3 h3
  have t3 := Same.new (o := .tup [V.str "less", V.int p, V.int q, V.int r]) h3
  have r3 : Rep (upd G2 u3 (.tup [V.str "less", V.int p, V.int q, V.int r])) (rowD (Rw.less p q r).row) (.ref u3) := rep_tup upd_same (reps_cons (by rw [Rep]; rfl) (reps_cons rep_int (reps_cons rep_int (reps_cons rep_int reps_nil))))
  generalize upd G2 u3 (HO.tup [V.str "less", V.int p, V.int q, V.int r]) = G3 at t3 r3
  have R3 : Reps G3 (rowsD [Rw.put p n, Rw.copy p q, Rw.plus p q r, Rw.less p q r]) [V.ref u0, V.ref u1, V.ref u2, V.ref u3] := Reps.append (R2.mono t3.ts) (reps_cons r3 reps_nil)
  have S3 := S2.trans t3
  walk_at "rd"
  walk_at "mk"; intro u4 h4
  have t4 := Same.new (o := .tup [V.str "tell", V.int p]) h4
  have r4 : Rep (upd G3 u4 (.tup [V.str "tell", V.int p])) (rowD (Rw.tell p).row) (.ref u4) := rep_tup upd_same (reps_cons (by rw [Rep]; rfl) (reps_cons rep_int reps_nil))
  generalize upd G3 u4 (HO.tup [V.str "tell", V.int p]) = G4 at t4 r4
  have R4 : Reps G4 (rowsD [Rw.put p n, Rw.copy p q, Rw.plus p q r, Rw.less p q r, Rw.tell p]) [V.ref u0, V.ref u1, V.ref u2, V.ref u3, V.ref u4] := Reps.append (R3.mono t4.ts) (reps_cons r4 reps_nil)
  have S4 := S3.trans t4
  walk_at "rd"
  walk_at "mk"; intro la hla
  have tA := Same.new (o := .lst [V.ref u0, V.ref u1, V.ref u2, V.ref u3, V.ref u4]) hla
  have hA : upd G4 la (.lst [V.ref u0, V.ref u1, V.ref u2, V.ref u3, V.ref u4]) la = some (.lst [V.ref u0, V.ref u1, V.ref u2, V.ref u3, V.ref u4]) := upd_same
  have RA := R4.mono tA.ts
  have SA0 := S4.trans tA
  have nla : la ≠ b := fun z => ((B6.mono S4).ne hla).1 z.symm
  generalize upd G4 la (HO.lst [V.ref u0, V.ref u1, V.ref u2, V.ref u3, V.ref u4]) = HA1 at tA hA RA SA0
  have BA := B6.mono SA0
  walk_at "rd"
  refine use2 ⟨b, l, 9, rfl, rfl, ⟨by decide, by decide⟩, BA, fun m H7 m0 m1 B7 s7 => ?_⟩
  have hA7 := s7 _ _ nla hA
  have RA7 := RA.mono (s7.ts BA)
  walk_at "rd"
  walk_at "mk"; intro u5 h5
  have t5 := Same.new (o := .tup [V.str "times", V.int p, V.int q, V.int (m - 4)]) h5
  have r5 : Rep (upd H7 u5 (.tup [V.str "times", V.int p, V.int q, V.int (m - 4)])) (rowD (Rw.times p q (m - 4)).row) (.ref u5) := rep_tup upd_same (reps_cons (by rw [Rep]; rfl) (reps_cons rep_int (reps_cons rep_int (reps_cons rep_int reps_nil))))
  generalize upd H7 u5 (HO.tup [V.str "times", V.int p, V.int q, V.int (m - 4)]) = G5 at t5 r5
  have R5 : Reps G5 (rowsD [Rw.times p q (m - 4)]) [V.ref u5] := reps_cons r5 reps_nil
  have S5 := t5
  walk_at "rd"
  walk_at "mk"; intro u6 h6
  have t6 := Same.new (o := .tup [V.str "take", V.int p]) h6
  have r6 : Rep (upd G5 u6 (.tup [V.str "take", V.int p])) (rowD (Rw.take p).row) (.ref u6) := rep_tup upd_same (reps_cons (by rw [Rep]; rfl) (reps_cons rep_int reps_nil))
  generalize upd G5 u6 (HO.tup [V.str "take", V.int p]) = G6 at t6 r6
  have R6 : Reps G6 (rowsD [Rw.times p q (m - 4), Rw.take p]) [V.ref u5, V.ref u6] := Reps.append (R5.mono t6.ts) (reps_cons r6 reps_nil)
  have S6 := S5.trans t6
  walk_at "rd"
  walk_at "mk"; intro u7 h7
  have t7 := Same.new (o := .tup [V.str "zero", V.int p, V.int t]) h7
  have r7 : Rep (upd G6 u7 (.tup [V.str "zero", V.int p, V.int t])) (rowD (Rw.zero p t).row) (.ref u7) := rep_tup upd_same (reps_cons (by rw [Rep]; rfl) (reps_cons rep_int (reps_cons rep_int reps_nil)))
  generalize upd G6 u7 (HO.tup [V.str "zero", V.int p, V.int t]) = G7 at t7 r7
  have R7 : Reps G7 (rowsD [Rw.times p q (m - 4), Rw.take p, Rw.zero p t]) [V.ref u5, V.ref u6, V.ref u7] := Reps.append (R6.mono t7.ts) (reps_cons r7 reps_nil)
  have S7 := S6.trans t7
  walk_at "rd"
  walk_at "mk"; intro u8 h8
  have t8 := Same.new (o := .tup [V.str "below", V.int p, V.int t]) h8
  have r8 : Rep (upd G7 u8 (.tup [V.str "below", V.int p, V.int t])) (rowD (Rw.below p t).row) (.ref u8) := rep_tup upd_same (reps_cons (by rw [Rep]; rfl) (reps_cons rep_int (reps_cons rep_int reps_nil)))
  generalize upd G7 u8 (HO.tup [V.str "below", V.int p, V.int t]) = G8 at t8 r8
  have R8 : Reps G8 (rowsD [Rw.times p q (m - 4), Rw.take p, Rw.zero p t, Rw.below p t]) [V.ref u5, V.ref u6, V.ref u7, V.ref u8] := Reps.append (R7.mono t8.ts) (reps_cons r8 reps_nil)
  have S8 := S7.trans t8
  walk_at "rd"
  walk_at "mk"; intro lb hlb
  have tB := Same.new (o := .lst [V.ref u5, V.ref u6, V.ref u7, V.ref u8]) hlb
  have hB : upd G8 lb (.lst [V.ref u5, V.ref u6, V.ref u7, V.ref u8]) lb = some (.lst [V.ref u5, V.ref u6, V.ref u7, V.ref u8]) := upd_same
  have RB := R8.mono tB.ts
  have SB := S8.trans tB
  generalize upd G8 lb (HO.lst [V.ref u5, V.ref u6, V.ref u7, V.ref u8]) = HB1 at tB hB RB SB
  walk_at "rd"
  refine rd_cat (SB _ _ hA7) hB (small_le (by simp)) fun lc hlc => ?_
  have tlC := Same.new (o := .lst ([V.ref u0, V.ref u1, V.ref u2, V.ref u3, V.ref u4] ++ [V.ref u5, V.ref u6, V.ref u7, V.ref u8])) hlc
  have hC : upd HB1 lc (.lst ([V.ref u0, V.ref u1, V.ref u2, V.ref u3, V.ref u4] ++ [V.ref u5, V.ref u6, V.ref u7, V.ref u8])) lc = some (.lst ([V.ref u0, V.ref u1, V.ref u2, V.ref u3, V.ref u4] ++ [V.ref u5, V.ref u6, V.ref u7, V.ref u8])) := upd_same
  have SC := SB.trans tlC
  have RC : Reps (upd HB1 lc (.lst ([V.ref u0, V.ref u1, V.ref u2, V.ref u3, V.ref u4] ++ [V.ref u5, V.ref u6, V.ref u7, V.ref u8]))) (rowsD [Rw.put p n, Rw.copy p q, Rw.plus p q r, Rw.less p q r, Rw.tell p, Rw.times p q (m - 4), Rw.take p, Rw.zero p t, Rw.below p t]) ([V.ref u0, V.ref u1, V.ref u2, V.ref u3, V.ref u4] ++ [V.ref u5, V.ref u6, V.ref u7, V.ref u8]) := Reps.append (RA7.mono SC.ts) (RB.mono tlC.ts)
  generalize upd HB1 lc (HO.lst ([V.ref u0, V.ref u1, V.ref u2, V.ref u3, V.ref u4] ++ [V.ref u5, V.ref u6, V.ref u7, V.ref u8])) = HC at tlC hC SC RC
  walk_at "rd"
  walk_at "mk"; intro u9 h9
  have t9 := Same.new (o := .tup [V.str "jump", V.int t]) h9
  have r9 : Rep (upd HC u9 (.tup [V.str "jump", V.int t])) (rowD (Rw.jump t).row) (.ref u9) := rep_tup upd_same (reps_cons (by rw [Rep]; rfl) (reps_cons rep_int reps_nil))
  generalize upd HC u9 (HO.tup [V.str "jump", V.int t]) = G9 at t9 r9
  have R9 : Reps G9 (rowsD [Rw.jump t]) [V.ref u9] := reps_cons r9 reps_nil
  have S9 := t9
  walk_at "rd"
  walk_at "mk"; intro u10 h10
  have t10 := Same.new (o := .tup [V.str "tell", V.int q]) h10
  have r10 : Rep (upd G9 u10 (.tup [V.str "tell", V.int q])) (rowD (Rw.tell q).row) (.ref u10) := rep_tup upd_same (reps_cons (by rw [Rep]; rfl) (reps_cons rep_int reps_nil))
  generalize upd G9 u10 (HO.tup [V.str "tell", V.int q]) = G10 at t10 r10
  have R10 : Reps G10 (rowsD [Rw.jump t, Rw.tell q]) [V.ref u9, V.ref u10] := Reps.append (R9.mono t10.ts) (reps_cons r10 reps_nil)
  have S10 := S9.trans t10
  walk_at "rd"
  walk_at "mk"; intro u11 h11
  have t11 := Same.new (o := .tup [V.str "plus", V.int p, V.int p, V.int q]) h11
  have r11 : Rep (upd G10 u11 (.tup [V.str "plus", V.int p, V.int p, V.int q])) (rowD (Rw.plus p p q).row) (.ref u11) := rep_tup upd_same (reps_cons (by rw [Rep]; rfl) (reps_cons rep_int (reps_cons rep_int (reps_cons rep_int reps_nil))))
  generalize upd G10 u11 (HO.tup [V.str "plus", V.int p, V.int p, V.int q]) = G11 at t11 r11
  have R11 : Reps G11 (rowsD [Rw.jump t, Rw.tell q, Rw.plus p p q]) [V.ref u9, V.ref u10, V.ref u11] := Reps.append (R10.mono t11.ts) (reps_cons r11 reps_nil)
  have S11 := S10.trans t11
  walk_at "rd"
  walk_at "mk"; intro u12 h12
  have t12 := Same.new (o := .tup [V.str "less", V.int p, V.int p, V.int r]) h12
  have r12 : Rep (upd G11 u12 (.tup [V.str "less", V.int p, V.int p, V.int r])) (rowD (Rw.less p p r).row) (.ref u12) := rep_tup upd_same (reps_cons (by rw [Rep]; rfl) (reps_cons rep_int (reps_cons rep_int (reps_cons rep_int reps_nil))))
  generalize upd G11 u12 (HO.tup [V.str "less", V.int p, V.int p, V.int r]) = G12 at t12 r12
  have R12 : Reps G12 (rowsD [Rw.jump t, Rw.tell q, Rw.plus p p q, Rw.less p p r]) [V.ref u9, V.ref u10, V.ref u11, V.ref u12] := Reps.append (R11.mono t12.ts) (reps_cons r12 reps_nil)
  have S12 := S11.trans t12
  walk_at "rd"
  walk_at "mk"; intro u13 h13
  have t13 := Same.new (o := .tup [V.str "take", V.int q]) h13
  have r13 : Rep (upd G12 u13 (.tup [V.str "take", V.int q])) (rowD (Rw.take q).row) (.ref u13) := rep_tup upd_same (reps_cons (by rw [Rep]; rfl) (reps_cons rep_int reps_nil))
  generalize upd G12 u13 (HO.tup [V.str "take", V.int q]) = G13 at t13 r13
  have R13 : Reps G13 (rowsD [Rw.jump t, Rw.tell q, Rw.plus p p q, Rw.less p p r, Rw.take q]) [V.ref u9, V.ref u10, V.ref u11, V.ref u12, V.ref u13] := Reps.append (R12.mono t13.ts) (reps_cons r13 reps_nil)
  have S13 := S12.trans t13
  walk_at "rd"
  walk_at "mk"; intro u14 h14
  have t14 := Same.new (o := .tup [V.str "zero", V.int q, V.int t]) h14
  have r14 : Rep (upd G13 u14 (.tup [V.str "zero", V.int q, V.int t])) (rowD (Rw.zero q t).row) (.ref u14) := rep_tup upd_same (reps_cons (by rw [Rep]; rfl) (reps_cons rep_int (reps_cons rep_int reps_nil)))
  generalize upd G13 u14 (HO.tup [V.str "zero", V.int q, V.int t]) = G14 at t14 r14
  have R14 : Reps G14 (rowsD [Rw.jump t, Rw.tell q, Rw.plus p p q, Rw.less p p r, Rw.take q, Rw.zero q t]) [V.ref u9, V.ref u10, V.ref u11, V.ref u12, V.ref u13, V.ref u14] := Reps.append (R13.mono t14.ts) (reps_cons r14 reps_nil)
  have S14 := S13.trans t14
  walk_at "rd"
  walk_at "mk"; intro ld hld
  have tD := Same.new (o := .lst [V.ref u9, V.ref u10, V.ref u11, V.ref u12, V.ref u13, V.ref u14]) hld
  have hD : upd G14 ld (.lst [V.ref u9, V.ref u10, V.ref u11, V.ref u12, V.ref u13, V.ref u14]) ld = some (.lst [V.ref u9, V.ref u10, V.ref u11, V.ref u12, V.ref u13, V.ref u14]) := upd_same
  have RD := R14.mono tD.ts
  have SD := S14.trans tD
  generalize upd G14 ld (HO.lst [V.ref u9, V.ref u10, V.ref u11, V.ref u12, V.ref u13, V.ref u14]) = HD1 at tD hD RD SD
  walk_at "rd"
  refine rd_cat (SD _ _ hC) hD (small_le (by simp)) fun le hle => ?_
  have tE := Same.new (o := .lst ([V.ref u0, V.ref u1, V.ref u2, V.ref u3, V.ref u4] ++ [V.ref u5, V.ref u6, V.ref u7, V.ref u8] ++ [V.ref u9, V.ref u10, V.ref u11, V.ref u12, V.ref u13, V.ref u14])) hle
  have hE : upd HD1 le (.lst ([V.ref u0, V.ref u1, V.ref u2, V.ref u3, V.ref u4] ++ [V.ref u5, V.ref u6, V.ref u7, V.ref u8] ++ [V.ref u9, V.ref u10, V.ref u11, V.ref u12, V.ref u13, V.ref u14])) le = some (.lst ([V.ref u0, V.ref u1, V.ref u2, V.ref u3, V.ref u4] ++ [V.ref u5, V.ref u6, V.ref u7, V.ref u8] ++ [V.ref u9, V.ref u10, V.ref u11, V.ref u12, V.ref u13, V.ref u14])) := upd_same
  have SE := SD.trans tE
  have RE : Reps (upd HD1 le (.lst ([V.ref u0, V.ref u1, V.ref u2, V.ref u3, V.ref u4] ++ [V.ref u5, V.ref u6, V.ref u7, V.ref u8] ++ [V.ref u9, V.ref u10, V.ref u11, V.ref u12, V.ref u13, V.ref u14]))) (rowsD [Rw.put p n, Rw.copy p q, Rw.plus p q r, Rw.less p q r, Rw.tell p, Rw.times p q (m - 4), Rw.take p, Rw.zero p t, Rw.below p t, Rw.jump t, Rw.tell q, Rw.plus p p q, Rw.less p p r, Rw.take q, Rw.zero q t]) ([V.ref u0, V.ref u1, V.ref u2, V.ref u3, V.ref u4] ++ [V.ref u5, V.ref u6, V.ref u7, V.ref u8] ++ [V.ref u9, V.ref u10, V.ref u11, V.ref u12, V.ref u13, V.ref u14]) := Reps.append (RC.mono SE.ts) (RD.mono tE.ts)
  generalize upd HD1 le (HO.lst ([V.ref u0, V.ref u1, V.ref u2, V.ref u3, V.ref u4] ++ [V.ref u5, V.ref u6, V.ref u7, V.ref u8] ++ [V.ref u9, V.ref u10, V.ref u11, V.ref u12, V.ref u13, V.ref u14])) = HE at tE hE SE RE
  walk_at "rd"
  refine ⟨.inl ⟨rfl, _, SqL.of hE⟩, ?_⟩
  walk_at "rd"
  walk_at "mk"; intro u15 h15
  have t15 := Same.new (o := .tup [V.str "back", V.int p]) h15
  have r15 : Rep (upd HE u15 (.tup [V.str "back", V.int p])) (rowD (Rw.back p).row) (.ref u15) := rep_tup upd_same (reps_cons (by rw [Rep]; rfl) (reps_cons rep_int reps_nil))
  generalize upd HE u15 (HO.tup [V.str "back", V.int p]) = G15 at t15 r15
  walk_at "rd"
  refine rd_append (t15 _ _ hE) (by rw [sizeLine_eq]; simp) ?_
  have BSD : BSame b H HD1 := ((((s15.trans s6).to SA0).trans s7).to SC).to SD
  have BD := (B7.mono SC).mono SD
  obtain ⟨neb, nel⟩ := BD.ne hle
  have leN : H le = none := BSD.free (fun z => neb z.symm) hle
  have hF : upd G15 le (.lst (([V.ref u0, V.ref u1, V.ref u2, V.ref u3, V.ref u4] ++ [V.ref u5, V.ref u6, V.ref u7, V.ref u8] ++ [V.ref u9, V.ref u10, V.ref u11, V.ref u12, V.ref u13, V.ref u14]) ++ [V.ref u15])) le = some (.lst (([V.ref u0, V.ref u1, V.ref u2, V.ref u3, V.ref u4] ++ [V.ref u5, V.ref u6, V.ref u7, V.ref u8] ++ [V.ref u9, V.ref u10, V.ref u11, V.ref u12, V.ref u13, V.ref u14]) ++ [V.ref u15])) := upd_same
  have tF : TSame G15 (upd G15 le (.lst (([V.ref u0, V.ref u1, V.ref u2, V.ref u3, V.ref u4] ++ [V.ref u5, V.ref u6, V.ref u7, V.ref u8] ++ [V.ref u9, V.ref u10, V.ref u11, V.ref u12, V.ref u13, V.ref u14]) ++ [V.ref u15]))) := fun x xs e => by
    rw [upd_ne (fun z => by subst z; rw [t15 _ _ hE] at e; cases e)]; exact e
  have RF : Reps (upd G15 le (.lst (([V.ref u0, V.ref u1, V.ref u2, V.ref u3, V.ref u4] ++ [V.ref u5, V.ref u6, V.ref u7, V.ref u8] ++ [V.ref u9, V.ref u10, V.ref u11, V.ref u12, V.ref u13, V.ref u14]) ++ [V.ref u15]))) (rowsD [Rw.put p n, Rw.copy p q, Rw.plus p q r, Rw.less p q r, Rw.tell p, Rw.times p q (m - 4), Rw.take p, Rw.zero p t, Rw.below p t, Rw.jump t, Rw.tell q, Rw.plus p p q, Rw.less p p r, Rw.take q, Rw.zero q t, Rw.back p]) (([V.ref u0, V.ref u1, V.ref u2, V.ref u3, V.ref u4] ++ [V.ref u5, V.ref u6, V.ref u7, V.ref u8] ++ [V.ref u9, V.ref u10, V.ref u11, V.ref u12, V.ref u13, V.ref u14]) ++ [V.ref u15]) := Reps.append ((RE.mono t15.ts).mono tF) (reps_cons (r15.mono tF) reps_nil)
  have BF : BagAt (upd G15 le (.lst (([V.ref u0, V.ref u1, V.ref u2, V.ref u3, V.ref u4] ++ [V.ref u5, V.ref u6, V.ref u7, V.ref u8] ++ [V.ref u9, V.ref u10, V.ref u11, V.ref u12, V.ref u13, V.ref u14]) ++ [V.ref u15]))) b l := ((BD.mono tE).mono t15).wr neb nel
  have sF : BSame b H (upd G15 le (.lst (([V.ref u0, V.ref u1, V.ref u2, V.ref u3, V.ref u4] ++ [V.ref u5, V.ref u6, V.ref u7, V.ref u8] ++ [V.ref u9, V.ref u10, V.ref u11, V.ref u12, V.ref u13, V.ref u14]) ++ [V.ref u15]))) := ((BSD.to tE).to t15).wrNew leN
  generalize upd G15 le (HO.lst (([V.ref u0, V.ref u1, V.ref u2, V.ref u3, V.ref u4] ++ [V.ref u5, V.ref u6, V.ref u7, V.ref u8] ++ [V.ref u9, V.ref u10, V.ref u11, V.ref u12, V.ref u13, V.ref u14]) ++ [V.ref u15])) = HF at hF tF RF BF sF
  have hsF := sF _ _ nsa hsa
  have rsF := rsg.mono (sF.ts Bg)
  have hvl := rsg.length
  rw [List.length_map] at hvl
  walk_at "rd"
  refine ite_dd (fun hk => ?_) (fun hk => ?_)
  · obtain ⟨i, hi⟩ : ∃ i : Nat, kind = (i : Int) := ⟨kind.toNat, by omega⟩
    have hi16 : i < 16 := by omega
    have all : ∀ r0 ∈ ([Rw.put p n, Rw.copy p q, Rw.plus p q r, Rw.less p q r, Rw.tell p, Rw.times p q (m - 4), Rw.take p, Rw.zero p t, Rw.below p t, Rw.jump t, Rw.tell q, Rw.plus p p q, Rw.less p p r, Rw.take q, Rw.zero q t, Rw.back p] : List Rw), ∀ P, sigs P = sg → Rw.Ok P boxes many r0 := fun r0 h0 P _ => by
      simp only [List.mem_cons, List.not_mem_nil, or_false] at h0
      rcases h0 with rfl | rfl | rfl | rfl | rfl | rfl | rfl | rfl | rfl | rfl | rfl | rfl | rfl | rfl | rfl | rfl
      · exact ⟨⟨p0, p1⟩, hn⟩
      · exact ⟨⟨p0, p1⟩, ⟨q0, q1⟩⟩
      · exact ⟨⟨p0, p1⟩, ⟨q0, q1⟩, ⟨r0', r1'⟩⟩
      · exact ⟨⟨p0, p1⟩, ⟨q0, q1⟩, ⟨r0', r1'⟩⟩
      · exact ⟨p0, p1⟩
      · exact ⟨⟨p0, p1⟩, ⟨q0, q1⟩, by omega⟩
      · exact ⟨p0, p1⟩
      · exact ⟨⟨p0, p1⟩, ⟨t0', t1'⟩⟩
      · exact ⟨⟨p0, p1⟩, ⟨t0', t1'⟩⟩
      · exact ⟨t0', t1'⟩
      · exact ⟨q0, q1⟩
      · exact ⟨⟨p0, p1⟩, ⟨p0, p1⟩, ⟨q0, q1⟩⟩
      · exact ⟨⟨p0, p1⟩, ⟨p0, p1⟩, ⟨r0', r1'⟩⟩
      · exact ⟨q0, q1⟩
      · exact ⟨⟨q0, q1⟩, ⟨t0', t1'⟩⟩
      · exact ⟨p0, p1⟩
    have hlen : i < ([Rw.put p n, Rw.copy p q, Rw.plus p q r, Rw.less p q r, Rw.tell p, Rw.times p q (m - 4), Rw.take p, Rw.zero p t, Rw.below p t, Rw.jump t, Rw.tell q, Rw.plus p p q, Rw.less p p r, Rw.take q, Rw.zero q t, Rw.back p] : List Rw).length := hi16
    obtain ⟨v, ev, rv⟩ := RF.get (i := i) (d := rowD (([Rw.put p n, Rw.copy p q, Rw.plus p q r, Rw.less p q r, Rw.tell p, Rw.times p q (m - 4), Rw.take p, Rw.zero p t, Rw.below p t, Rw.jump t, Rw.tell q, Rw.plus p p q, Rw.less p p r, Rw.take q, Rw.zero q t, Rw.back p] : List Rw)[i]).row) (by unfold rowsD; rw [List.getElem?_map, List.getElem?_eq_getElem hlen]; rfl)
    walk_at "rd"
    rw [hi]
    refine rd_ixaL (v := v) hF (atI_at (n := i) rfl ev) ?_
    exact k _ v _ (all _ (List.getElem_mem hlen)) rv BF sF
  · walk_at "rd"
    refine rd_lenL' (SqL.of hsF) ?_
    walk_at "rd"
    refine use2 ⟨b, l, (vs.length : Int), rfl, rfl, ⟨by omega, by omega⟩, BF, fun g HG gg0 gg1 BG sG => ?_⟩
    have hsG := sG _ _ nsa hsF
    have rsG := rsF.mono (sG.ts BF)
    have timesR : (tRet (tTup (tCons (tC (.str "times")) (tCons (tVar 4) (tCons (tVar 5) (tCons (tOp (rI0 fun i j => .int (i - j)) (tCall sp_draw [] E0 (tCons (tVar 0) (tCons (tC (.int 199)) tNil))) (tC (.int 99))) tNil)))))) { nx := fun σ H' => (tRet (tTup (tCons (tC (.str "call")) (tCons (tVar 4) (tCons (tVar 10) (tCons (tCB (rTupOf K) (tCons (tComp ["k"] [0, 1] (iRng1 (tCons (tOp (rIxA K) (tOp (rIxA K) (tVar 3) (tVar 10)) (tC (.int 0))) tNil)) (gName 0) tTrue (tCall sp_draw [] E0 (tCons (tVar 1) (tCons (tVar 2) tNil)))) tNil)) tNil)))))) { nx := fun _ H' => Q .non H', rt := Q } σ H', rt := Q } [some (.ref b), some (.int boxes), some (.int many), some (.ref sa), some (.int p), some (.int q), some (.int r), some (.int t), some (.int kind), some (.ref le), some (.int g)] HG := by
      walk_at "rd"
      refine use2 ⟨b, l, 199, rfl, rfl, ⟨by decide, by decide⟩, BG, fun m2 HH m20 m21 BH sH => ?_⟩
      walk_at "rd"
      walk_at "mk"; intro uz hz
      have tz := Same.new (o := .tup [.str "times", .int p, .int q, .int (m2 - 99)]) hz
      refine k (.times p q (m2 - 99)) _ _ (fun _ _ => ⟨⟨p0, p1⟩, ⟨q0, q1⟩, by omega⟩) ?_ (BH.mono tz) (((sF.trans sG).trans sH).to tz)
      exact rep_tup upd_same (reps_cons (by rw [Rep]; rfl) (reps_cons rep_int (reps_cons rep_int (reps_cons rep_int reps_nil))))
    have callR : (tRet (tTup (tCons (tC (.str "call")) (tCons (tVar 4) (tCons (tVar 10) (tCons (tCB (rTupOf K) (tCons (tComp ["k"] [0, 1] (iRng1 (tCons (tOp (rIxA K) (tOp (rIxA K) (tVar 3) (tVar 10)) (tC (.int 0))) tNil)) (gName 0) tTrue (tCall sp_draw [] E0 (tCons (tVar 1) (tCons (tVar 2) tNil)))) tNil)) tNil)))))) { nx := fun _ H' => Q .non H', rt := Q } [some (.ref b), some (.int boxes), some (.int many), some (.ref sa), some (.int p), some (.int q), some (.int r), some (.int t), some (.int kind), some (.ref le), some (.int g)] HG := by
      walk_at "rd"
      have hgl : g.toNat < vs.length := by omega
      obtain ⟨sv, esv, rsv⟩ := rsG.get (i := g.toNat) (d := pairD (sg[g.toNat]'(by omega))) (by rw [List.getElem?_map, List.getElem?_eq_getElem (by omega)]; rfl)
      have hsg : sg[g.toNat]? = some (sg[g.toNat]'(by omega)) := List.getElem?_eq_getElem _
      obtain ⟨sk, hsk⟩ : ∃ sk, sk = sg[g.toNat]'(by omega) := ⟨_, rfl⟩
      rw [← hsk] at rsv hsg
      have gk := gs sk (by rw [hsk]; exact List.getElem_mem _)
      refine rd_ixaL hsG (atI_at (n := g.toNat) (by omega) esv) ?_
      walk_at "rd"
      refine rd_ixI (n := 0) rsv rfl rfl ?_
      walk_at "rd"
      refine irK_of (by omega) (by omega) ?_
      refine cw_range (n := sk.1.toNat) (small_le (by omega)) (fun i ys σ Hy => (∃ x1, σ = [x1, some (.ref b), some (.int boxes)]) ∧ BagAt Hy b l ∧ BSame b HG Hy ∧ ∃ zs : List Int, zs.length = i ∧ ys = zs.map V.int ∧ ∀ x ∈ zs, In0 x boxes) ⟨⟨none, rfl⟩, BG, BSame.refl _ _, [], rfl, rfl, fun _ h => (by cases h)⟩ ?_ ?_
      · rintro i ys σ Hy hi hle' hlt ⟨⟨x1, rfl⟩, By, sy, zs, hzl, rfl, hz⟩
        walk_at "rd"
        refine use2 ⟨b, l, boxes, rfl, rfl, ⟨by omega, by omega⟩, By, fun x Hz x0 x1' Bz bz => ?_⟩
        refine ⟨hlt, by simp; omega, ⟨_, rfl⟩, Bz, sy.trans bz, zs ++ [x], by simp [hzl], by simp, fun y hy => ?_⟩
        rcases List.mem_append.mp hy with h | h
        · exact hz y h
        · rw [List.mem_singleton.mp h]; exact ⟨x0, x1'⟩
      · rintro ys σ Hy hyl ⟨⟨x1, rfl⟩, By, sy, zs, hzl, rfl, hz⟩ pz hpz
        have t1z := Same.new (o := .lst (zs.map V.int)) hpz
        walk_at "rd"
        refine rd_tupL (SqL.of upd_same) fun pt hpt => ?_
        have t2z := Same.new (o := .tup (zs.map V.int)) hpt
        have hpt2 : upd (upd Hy pz (.lst (zs.map V.int))) pt (.tup (zs.map V.int)) pt = some (.tup (zs.map V.int)) := upd_same
        have t12 := t1z.trans t2z
        generalize upd (upd Hy pz (HO.lst (zs.map V.int))) pt (HO.tup (zs.map V.int)) = Hz at t2z hpt2 t12
        walk_at "rd"
        walk_at "mk"; intro uz huz
        have tz := Same.new (o := .tup [.str "call", .int p, .int g, .ref pt]) huz
        refine k (.call p g zs) _ _ (fun P hP => ?_) ?_ ((By.mono t12).mono tz) (((((sF.trans sG).trans sy)).to t12).to tz)
        · have hd : (sigs P)[g.toNat]? = some sk := by rw [hP]; exact hsg
          unfold sigs at hd
          rw [List.getElem?_map] at hd
          obtain ⟨d, ed, hd⟩ := Option.map_eq_some_iff.mp hd
          have hd1 : d.takes = sk.1 := by rw [← hd]
          exact ⟨⟨p0, p1⟩, ⟨d, gg0, ed, by rw [hzl, hd1]; omega⟩, hz⟩
        · exact rep_tup upd_same (reps_cons (by rw [Rep]; rfl) (reps_cons rep_int (reps_cons rep_int (reps_cons (rep_tup (tz _ _ hpt2) (reps_of_ints zs)) reps_nil))))
    walk_at "rd"
    refine ite_dd (fun hk9 => iteT timesR) (fun hk9 => ?_)
    walk_at "rd"
    refine rd_lenL' (SqL.of hsG) ?_
    walk_at "rd"
    refine ite_dd (fun hl1 => ?_) (fun hl1 => iteF (rd_next callR))
    walk_at "rd"
    exact ite_dd (fun hk8 => timesR) (fun hk8 => rd_next callR)

end
end
end My

end
section
set_option Elab.async false
set_option linter.all false
set_option maxRecDepth 100000
set_option maxHeartbeats 4000000

namespace My
open PySem L2
local macro_rules | `(tactic| walk_at "rd1") => `(tactic| (first | ((with_reducible refine' rd_var ?e ?_); (case e => exact rfl)) | with_reducible refine rd_c ?_ | with_reducible refine rd_op ?_ | with_reducible refine rd_un ?_ | with_reducible refine rd_seq ?_ | with_reducible refine rd_asg ?_ | with_reducible refine rd_gname ?_ | with_reducible refine rd_ret ?_ | with_reducible refine rd_drop ?_ | with_reducible refine rd_next ?_ | with_reducible refine rd_if ?_ | with_reducible refine rd_test ?_ | with_reducible refine rd_tb ?_ | with_reducible refine rd_and ?_ | with_reducible refine rd_or ?_ | with_reducible refine rd_not ?_ | with_reducible refine rd_true ?_ | with_reducible refine rd_andV ?_ | with_reducible refine rd_orV ?_ | with_reducible refine rd_notV ?_ | with_reducible refine rd_ifE ?_ | with_reducible refine rd_chain ?_ | with_reducible refine rd_nil ?_ | with_reducible refine rd_cons ?_ | with_reducible refine rd_cb ?_ | with_reducible refine rd_call ?_ | with_reducible refine rd_I0 ?_ | with_reducible refine rd_U ?_ | with_reducible refine rd_eqI ?_ | with_reducible refine rd_neI ?_ | with_reducible refine rd_eqS ?_ | with_reducible refine rd_neS ?_ | with_reducible refine rd_eqB ?_ | with_reducible refine rd_neB ?_ | with_reducible refine rd_bl ?_ | with_reducible refine rd_int ?_ | with_reducible refine rd_tup ?_ | with_reducible refine rd_lst ?_ | with_reducible refine rd_gsub ?_ | with_reducible refine rd_slice ?_ | with_reducible refine rd_nopart ?_ | with_reducible refine rd_part ?_ | with_reducible refine rd_bm ?_ | with_reducible refine rd_bm0 ?_ | with_reducible refine rd_comp ?_ | with_reducible refine rd_itup ?_ | with_reducible refine rd_ilist ?_ | with_reducible refine rd_irng ?_ | with_reducible refine rd_gcons ?_ | with_reducible refine rd_gnil ?_ | with_reducible refine rd_for ?_ | with_reducible refine rd_abs ?_ | with_reducible refine rd_max ?_ | with_reducible refine rd_min ?_ | with_reducible refine rd_intB ?_ | with_reducible refine rd_dput ?_ | with_reducible refine rd_dget2 ?_ | with_reducible refine rd_dget ?_ | with_reducible refine rd_fld ?_ | with_reducible refine rd_sfld ?_ | with_reducible refine rd_meth ?_ | with_reducible refine rd_make ?_ | with_reducible refine rd_isN ?_ | with_reducible refine rd_notN ?_ | with_reducible refine rd_izip ?_ | with_reducible refine iteNT ?_ | with_reducible refine iteNF ?_ | with_reducible refine iteF ?_ | with_reducible refine iteT ?_))
local macro_rules | `(tactic| walk_at "rd") => `(tactic| (repeat walk_at "rd1"))
local macro_rules | `(tactic| walk_at "mk") => `(tactic| refine ⟨mk_le rfl, ?_⟩)

section
variable {P : Program} {w : World} {K : PySem.W.Frag} {mg : Str → Option Value} {base : Heap}
section
theorem Reps.set {H : Hp} : ∀ {ds : List D} {vs : List V} {i : Nat} {d : D} {v : V}, Reps H ds vs → Rep H d v → Reps H (ds.set i d) (vs.set i v)
  | [], vs, i, d, v, h, r => by rw [reps_nil_inv h]; simpa using reps_nil
  | d0 :: ds, vs, i, d, v, h, r => by
    obtain ⟨v0, r0, rfl, h0, hr⟩ := reps_cons_inv h
    cases i with
    | zero => exact reps_cons r hr
    | succ i => exact reps_cons h0 (Reps.set hr r)
/-- a list of rows being made -/
structure RA (b l : Addr) (H0 : Hp) (ok : Rw → Prop) (qa : Addr) (n : Nat) (H : Hp) : Prop where
  ex : ∃ rs ys, H qa = some (.lst ys) ∧ Reps H (rowsD rs) ys ∧ rs.length = n ∧ ∀ r ∈ rs, ok r
  bag : BagAt H b l
  bs : BSame b H0 H
section
variable {b l qa : Addr} {H0 H H' : Hp} {ok : Rw → Prop} {n : Nat}
theorem RA.mono (a : RA b l H0 ok qa n H) (s : Same H H') : RA b l H0 ok qa n H' := by
  obtain ⟨rs, ys, h1, h2, h3, h4⟩ := a.ex
  exact ⟨⟨rs, ys, s _ _ h1, h2.mono s.ts, h3, h4⟩, a.bag.mono s, a.bs.to s⟩
theorem RA.draw (a : RA b l H0 ok qa n H) (nb : qa ≠ b) (B : BagAt H' b l) (s : BSame b H H') : RA b l H0 ok qa n H' := by
  obtain ⟨rs, ys, h1, h2, h3, h4⟩ := a.ex
  exact ⟨⟨rs, ys, s _ _ nb h1, h2.mono (s.ts a.bag), h3, h4⟩, B, a.bs.trans s⟩
theorem RA.wr {r : Rw} {v : V} {i : Int} {Q : Hp → Prop} (a : RA b l H0 ok qa n H) (nb : qa ≠ b) (nl : qa ≠ l) (h0 : H0 qa = none) (hr : ok r) (rv : Rep H (rowD r.row) v) (i0 : 0 ≤ i) (i1 : i < n) (q : ∀ H', RA b l H0 ok qa n H' → Q H') : rSetL (.ref qa) (.int i) v H Q := by
  obtain ⟨rs, ys, h1, h2, h3, h4⟩ := a.ex
  have hl := h2.length
  unfold rowsD at hl
  rw [List.length_map] at hl
  have t : TSame H (upd H qa (.lst (ys.set i.toNat v))) := fun x xs e => by
    rw [upd_ne (fun z => by subst z; rw [h1] at e; cases e)]; exact e
  refine rd_setL (k := i.toNat) h1 (ixN_at (by omega) (by omega)) (q _ ⟨⟨rs.set i.toNat r, ys.set i.toNat v, upd_same, ?_, by simp [h3], fun r' hr' => ?_⟩, a.bag.wr (fun z => nb z.symm) (fun z => nl z.symm), a.bs.wrNew h0⟩)
  · unfold rowsD
    rw [List.map_set]
    exact (Reps.set h2 rv).mono t
  · rcases List.mem_or_eq_of_mem_set hr' with h | h
    · exact h4 r' h
    · rw [h]; exact hr
end
theorem FDf.bs {H0 H H' : Hp} {b l : Addr} {d : Df} {v : V} (h : FDf H0 H d v) (B0 : H0 b ≠ none) (B : BagAt H b l) (s : BSame b H H') : FDf H0 H' d v := by
  obtain ⟨t, q, ys, e, h1, h2, h3, r⟩ := h
  exact ⟨t, q, ys, e, s.ts B _ _ h1, s _ _ (fun z => by subst z; exact B0 h3) h2, h3, r.mono (s.ts B)⟩
theorem BagAt.some {H : Hp} {b l : Addr} (B : BagAt H b l) : H b ≠ none := by
  obtain ⟨xs, e⟩ := B.lst
  rw [e]; simp
def sp_def25 : Sp := sp3 fun x1 x2 x3 H Q => ∃ b l sa sg vs s, x1 = .ref b ∧ x2 = .ref sa ∧ Rep H (pairD s) x3 ∧ H sa = some (.lst vs) ∧ sa ≠ b ∧ Reps H (sg.map pairD) vs ∧ (1 ≤ sg.length ∧ sg.length ≤ 1000) ∧ (∀ s ∈ (sg : List (Int × Int)), 0 ≤ s.1 ∧ s.1 ≤ 1000) ∧ (0 ≤ s.1 ∧ s.1 ≤ s.2 ∧ 1 ≤ s.2 ∧ s.2 ≤ 1000) ∧ BagAt H b l ∧
  ∀ d v H', d.takes = s.1 → d.boxes = s.2 → (∀ P, sigs P = sg → DfOk P d) → FDf H H' d v → BagAt H' b l → BSame b H H' → Q v H'
theorem sc__law_def : FnScope ["bag", "signs", "sign", "takes", "boxes", "many", "rows", "p", "last"] ["bag", "signs", "sign"] (defScope s__law_def) := ⟨rfl, rfl, rfl, by decide +kernel, rfl, by decide +kernel, by decide +kernel⟩
theorem c__law_def (B : Blt mg) (T__law_def : TopFn K mg "_law_def" s__law_def ["bag", "signs", "sign"]) (C_law_draw : Callee P w K mg base "_law_draw" 1 ["bag", "many"] sp_draw) (C_law_row : Callee P w K mg base "_law_row" 3 ["bag", "boxes", "many", "signs"] sp_row25) : Callee P w K mg base "_law_def" 4 ["bag", "signs", "sign"] sp_def25 := by
  refine T__law_def.ok3 sc__law_def fun f cdv A outer s H v1 v2 v3 Q E hr hh => ?_
  have nd := sc__law_def.nd
  obtain ⟨b, l, sa, sg, vs, sk, rfl, rfl, rv3, hsa, nsa, rsg, ⟨g0, g1⟩, gs, ⟨k0, k1, k2, k3⟩, Bg, k⟩ := hh
  refine' go_body [some (.ref b), some (.ref sa), some v3, none, none, none, none, none, none] rfl ?hb ?hg
  case hb =>
   refine' pss_cons ?zb ?zc
   case zb =>
    refine' ps_asg ?zd ?ze
    case zd => exact (pv 2)
    case ze => exact (k_pg_tup (K := K) (n := 2) rfl rfl (pgs_cons (pg_name (i := 3) nd rfl (Or.inl rfl)) (pgs_cons (pg_name (i := 4) nd rfl (Or.inr rfl)) pgs_nil)))
   case zc =>
    refine' pss_cons ?zf ?zg
    case zf =>
     refine' ps_setS (i := 5) ?zh ?zi ?zj ?zk
     case zh => exact nd
     case zi => exact rfl
     case zj => exact (Or.inr rfl)
     case zk =>
      refine' pe_ix ?zl ?zm ?zn ?zo
      case zl => exact (k_ix (K := K) rfl)
      case zm =>
       refine' pe_lst ?zp
       case zp =>
        refine' pa_consK ?zq ?zr
        case zq => exact pe_int
        case zr =>
         refine' pa_consK ?zs ?zt
         case zs => exact pe_int
         case zt =>
          refine' pa_consK ?zu ?zv
          case zu => exact pe_int
          case zv =>
           refine' pa_consK ?zw ?zx
           case zw => exact pe_int
           case zx =>
            refine' pa_consK ?zy ?zz
            case zy => exact pe_int
            case zz =>
             refine' pa_consK ?zba ?zbb
             case zba => exact pe_int
             case zbb =>
              refine' pa_consB ?zbc ?zbd
              case zbc => exact (pe_op op_add pe_int (pe_fn C_law_draw (hr.mono (by first | decide | omega)) (by rfl) (pa_consN (pv 0) (pa_consK pe_int pa_nil))))
              case zbd => exact (pa_consK pe_int pa_nil)
      case zn => exact (pe_fn C_law_draw (hr.mono (by first | decide | omega)) (by rfl) (pa_consN (pv 0) (pa_consK pe_int pa_nil)))
      case zo => exact (fun _ _ => rfl)
    case zg =>
     refine' pss_cons ?zbe ?zbf
     case zbe =>
      refine' ps_setc (i := 6) (LN := ["k"]) (FN := ["bag", "boxes", "many", "signs"]) (fr := [0, 4, 5, 1]) ?zbg ?zbh ?zbi ?zbj ?zbk ?zbl ?zbm ?zbn ?zbo
      case zbg => exact rfl
      case zbh => exact nd
      case zbi => exact rfl
      case zbj => exact rfl
      case zbk => exact (bk_of (by rfl))
      case zbl => exact (pi_range1 rfl B.b_range (pa_consB (pe_op op_sub (pv 5) pe_int) pa_nil))
      case zbm =>
       intro cl C fp pins s H
       exact (pg_name (i := 0) (show ((["k"] : List Str) ++ (["bag", "boxes", "many", "signs"] : List Str)).Nodup by decide +kernel) rfl (Or.inl rfl))
      case zbn =>
       intro cl C fp pins s H
       exact pts_nil
      case zbo =>
       intro cl C fp pins s H
       exact (pe_fn C_law_row (hr.mono (by first | decide | omega)) (by rfl) (pa_consN (pv 1) (pa_consN (pv 2) (pa_consN (pv 3) (pa_consN (pv 4) pa_nil)))))
     case zbf =>
      refine' pss_cons ?zbp ?zbq
      case zbp =>
       refine' ps_if ?zbr ?zbs ?zbt
       case zbr =>
        refine' PW.pt ?zbu
        case zbu =>
         refine' pw_and ?zbv ?zbw
         case zbv => exact (pt_cmpR op_gt (pv 5) pe_int (nomark _))
         case zbw =>
          refine' pw_and1 ?zbx
          case zbx => exact (pt_cmpR op_eq (pe_fn C_law_draw (hr.mono (by first | decide | omega)) (by rfl) (pa_consN (pv 0) (pa_consK pe_int pa_nil))) pe_int (nomark _))
       case zbs =>
        refine' pss_cons ?zby ?zbz
        case zby => exact (ps_setC (i := 7) nd rfl (Or.inl rfl) (pe_fn C_law_draw (hr.mono (by first | decide | omega)) (by rfl) (pa_consN (pv 0) (pa_consN (pv 4) pa_nil))))
        case zbz =>
         refine' pss_cons ?zca ?zcb
         case zca =>
          refine' ps_asg ?zcc ?zcd
          case zcc =>
           refine' pe_tup ?zce
           case zce =>
            refine' pa_consK ?zcf ?zcg
            case zcf => exact pe_str
            case zcg =>
             refine' pa_consN ?zch ?zci
             case zch => exact (pv 7)
             case zci => exact (pa_consB (pe_op op_add pe_int (pe_fn C_law_draw (hr.mono (by first | decide | omega)) (by rfl) (pa_consN (pv 0) (pa_consK pe_int pa_nil)))) pa_nil)
          case zcd => exact (pg_sub (pv 6) pe_int set_list)
         case zcb =>
          refine' pss_cons ?zcj ?zck
          case zcj =>
           refine' ps_asg ?zcl ?zcm
           case zcl => exact (pe_tup (pa_consK pe_str (pa_consB (pe_op op_mod (pe_op op_add (pv 7) pe_int) (pv 4)) (pa_consK pe_int pa_nil))))
           case zcm => exact (pg_sub (pv 6) (pe_op op_sub (pv 5) pe_int) set_list)
          case zck =>
           refine' pss_cons ?zcn ?zco
           case zcn =>
            refine' ps_asg ?zcp ?zcq
            case zcp =>
             refine' pe_ifExp ?zcr ?zcs ?zct
             case zcr => exact (pt_cmpR op_gt (pv 4) pe_int (nomark _))
             case zcs => exact (pe_tup (pa_consK pe_str (pa_consN (pv 7) (pa_consN (pv 7) (pa_consB (pe_op op_mod (pe_op op_add (pv 7) pe_int) (pv 4)) pa_nil)))))
             case zct => exact (pe_tup (pa_consK pe_str (pa_consN (pv 7) (pa_consK pe_int pa_nil))))
            case zcq => exact (pg_sub (pv 6) (pe_op op_sub (pv 5) pe_int) set_list)
           case zco =>
            refine' pss_cons ?zcu ?zcv
            case zcu =>
             refine' ps_asg ?zcw ?zcx
             case zcw => exact (pe_tup (pa_consK pe_str (pa_consN (pv 7) (pa_consB (pe_op op_sub (pv 5) pe_int) pa_nil))))
             case zcx => exact (pg_sub (pv 6) (pe_op op_sub (pv 5) pe_int) set_list)
            case zcv => exact (pss_one (ps_asg (pe_tup (pa_consK pe_str (pa_consK pe_int pa_nil))) (pg_sub (pv 6) (pe_op op_sub (pv 5) pe_int) set_list)))
       case zbt => exact pss_nil
      case zbq =>
       refine' pss_cons ?zcy ?zcz
       case zcy =>
        refine' ps_setT (i := 8) ?zda ?zdb ?zdc ?zdd
        case zda => exact nd
        case zdb => exact rfl
        case zdc => exact (Or.inl rfl)
        case zdd =>
         refine' pe_tup ?zde
         case zde => exact (pa_consK pe_str (pa_consC (pe_fn C_law_draw (hr.mono (by first | decide | omega)) (by rfl) (pa_consN (pv 0) (pa_consN (pv 4) pa_nil))) pa_nil))
       case zcz =>
        refine' pss_cons ?zdf ?zdg
        case zdf =>
         refine' ps_if ?zdh ?zdi ?zdj
         case zdh => exact (pt_cmpR op_eq (pe_fn C_law_draw (hr.mono (by first | decide | omega)) (by rfl) (pa_consN (pv 0) (pa_consK pe_int pa_nil))) pe_int (nomark _))
         case zdi =>
          refine' pss_one ?zdk
          case zdk =>
           refine' ps_setT (i := 8) ?zdl ?zdm ?zdn ?zdo
           case zdl => exact nd
           case zdm => exact rfl
           case zdn => exact (Or.inl rfl)
           case zdo =>
            refine' pe_tup ?zdp
            case zdp => exact (pa_consK pe_str (pa_consC (pe_fn C_law_draw (hr.mono (by first | decide | omega)) (by rfl) (pa_consN (pv 0) (pa_consN (pv 5) pa_nil))) pa_nil))
         case zdj => exact pss_nil
        case zdg => exact (pss_one (ps_ret (pe_tup (pa_consN (pv 3) (pa_consN (pv 4) (pa_consB (pe_op op_cat (pv 6) (pe_lst (pa_consN (pv 8) pa_nil))) pa_nil))))))
  obtain ⟨at3, xs3, rfl, ht3, rx3⟩ := rep_tup_inv rv3
  obtain ⟨y1, rs1, rfl, ry1, rx3⟩ := reps_cons_inv rx3
  obtain ⟨y2, rs2, rfl, ry2, rx3⟩ := reps_cons_inv rx3
  obtain rfl := reps_nil_inv rx3
  obtain rfl := rep_int_inv ry1
  obtain rfl := rep_int_inv ry2
  obtain ⟨tk, bo⟩ := sk
  dsimp only at k0 k1 k2 k3 k ht3 ⊢
  walk_at "rd"
  refine rd_gtup ht3 rfl ?_
  walk_at "rd"
  refine use2 ⟨b, l, 30, rfl, rfl, ⟨by decide, by decide⟩, Bg, fun m3 H1 m30 m31 B1 s1 => ?_⟩
  walk_at "rd"
  walk_at "mk"; intro pm hpm
  have sm := Same.new (o := .lst [.int 3, .int 6, .int 9, .int 4, .int 12, .int 7, .int (1 + m3), .int 30]) hpm
  have hm2 : upd H1 pm (.lst [.int 3, .int 6, .int 9, .int 4, .int 12, .int 7, .int (1 + m3), .int 30]) pm = some (.lst [.int 3, .int 6, .int 9, .int 4, .int 12, .int 7, .int (1 + m3), .int 30]) := upd_same
  have nmb : pm ≠ b := fun z => (B1.ne hpm).1 z.symm
  generalize upd H1 pm (HO.lst [V.int 3, V.int 6, V.int 9, V.int 4, V.int 12, V.int 7, V.int (1 + m3), V.int 30]) = H2 at sm hm2
  have B2 := B1.mono sm
  walk_at "rd"
  refine use2 ⟨b, l, 8, rfl, rfl, ⟨by decide, by decide⟩, B2, fun wi H3 wi0 wi1 B3 s3 => ?_⟩
  have s13 : BSame b H H3 := (s1.to sm).trans s3
  walk_at "rd"
  obtain ⟨mv, mv0, mv1, hat⟩ : ∃ mv : Int, 1 ≤ mv ∧ mv ≤ 30 ∧ atI [V.int 3, V.int 6, V.int 9, V.int 4, V.int 12, V.int 7, V.int (1 + m3), V.int 30] wi = some (.int mv) := by
    have : wi = 0 ∨ wi = 1 ∨ wi = 2 ∨ wi = 3 ∨ wi = 4 ∨ wi = 5 ∨ wi = 6 ∨ wi = 7 := by omega
    rcases this with rfl | rfl | rfl | rfl | rfl | rfl | rfl | rfl
    · exact ⟨3, by omega, by omega, rfl⟩
    · exact ⟨6, by omega, by omega, rfl⟩
    · exact ⟨9, by omega, by omega, rfl⟩
    · exact ⟨4, by omega, by omega, rfl⟩
    · exact ⟨12, by omega, by omega, rfl⟩
    · exact ⟨7, by omega, by omega, rfl⟩
    · exact ⟨1 + m3, by omega, by omega, rfl⟩
    · exact ⟨30, by omega, by omega, rfl⟩
  refine rd_ixaL (s3 _ _ nmb hm2) hat ?_
  walk_at "rd"
  refine irK_of (by omega) (by omega) ?_
  refine cw_range (n := (mv - 1).toNat) (small_le (by omega)) (fun i ys σ Hy => (∃ x1, σ = [x1, some (.ref b), some (.int bo), some (.int mv), some (.ref sa)]) ∧ BagAt Hy b l ∧ BSame b H Hy ∧ ∃ rs : List Rw, rs.length = i ∧ Reps Hy (rowsD rs) ys ∧ ∀ r ∈ rs, ∀ P, sigs P = sg → Rw.Ok P bo mv r) ⟨⟨none, rfl⟩, B3, s13, [], rfl, reps_nil, fun _ h => (by cases h)⟩ ?_ ?_
  · rintro i ys σ Hy hi hle hlt ⟨⟨x1, rfl⟩, By, sy, rs, hrl, rr, ok⟩
    walk_at "rd"
    refine use4 ⟨b, l, bo, mv, sa, sg, vs, rfl, rfl, rfl, rfl, ⟨by omega, by omega⟩, ⟨mv0, by omega⟩, sy _ _ nsa hsa, nsa, rsg.mono (sy.ts Bg), ⟨g0, g1⟩, gs, By, fun r v Hz okr rv Bz bz => ?_⟩
    refine ⟨hlt, by simp; omega, ⟨_, rfl⟩, Bz, sy.trans bz, rs ++ [r], by simp [hrl], ?_, fun r' hr' => ?_⟩
    · unfold rowsD
      rw [List.map_append]
      exact (rr.mono (bz.ts By)).append (reps_cons rv reps_nil)
    · rcases List.mem_append.mp hr' with h | h
      · exact ok r' h
      · rw [List.mem_singleton.mp h]; exact okr
  rintro ys σ Hy hyl ⟨⟨x1, rfl⟩, By, sy, rs, hrl, rr, ok⟩ qa hqa
  have nqb : qa ≠ b := fun z => (By.ne hqa).1 z.symm
  have nql : qa ≠ l := fun z => (By.ne hqa).2 z.symm
  have hq0 : H qa = none := sy.free nqb hqa
  have sq := Same.new (o := .lst ys) hqa
  have R0 : RA b l H (fun r => ∀ P, sigs P = sg → Rw.Ok P bo mv r) qa (mv - 1).toNat (upd Hy qa (.lst ys)) := ⟨⟨rs, ys, upd_same, rr.mono sq.ts, hrl, ok⟩, By.mono sq, sy.to sq⟩
  generalize upd Hy qa (HO.lst ys) = H4 at R0
  -- the end
  have fin : ∀ (r : Rw) (v : V) (c7 : Option V) (H5 : Hp), RA b l H (fun r => ∀ P, sigs P = sg → Rw.Ok P bo mv r) qa (mv - 1).toNat H5 → Rep H5 (rowD r.row) v → r.last → (∀ P, sigs P = sg → Rw.Ok P bo mv r) → (tRet (tTup (tCons (tVar 3) (tCons (tVar 4) (tCons (tOp rCat (tVar 6) (tLst (tCons (tVar 8) tNil))) tNil))))) { nx := fun _ H' => Q .non H', rt := Q } [some (.ref b), some (.ref sa), some (.ref at3), some (.int tk), some (.int bo), some (.int mv), some (.ref qa), c7, some v] H5 := by
    intro r v c7 H5 R5 rv hlast okr
    walk_at "rd"
    walk_at "mk"; intro u hu
    have t1 := Same.new (o := .lst [v]) hu
    obtain ⟨rs, ys, h1, h2, h3, h4⟩ := R5.ex
    have hl := h2.length
    unfold rowsD at hl
    rw [List.length_map] at hl
    walk_at "rd"
    refine rd_cat (t1 _ _ h1) upd_same (small_le' (by simp; omega)) fun qd hqd => ?_
    have t2 := Same.new (o := .lst (ys ++ [v])) hqd
    have t12 := t1.trans t2
    have hqd2 : upd (upd H5 u (.lst [v])) qd (.lst (ys ++ [v])) qd = some (.lst (ys ++ [v])) := upd_same
    have nqdb : qd ≠ b := fun z => ((R5.bag.mono t1).ne hqd).1 z.symm
    have hqd0 : H qd = none := (R5.bs.to t1).free nqdb hqd
    generalize upd (upd H5 u (HO.lst [v])) qd (HO.lst (ys ++ [v])) = H6 at t12 hqd2
    walk_at "rd"
    walk_at "mk"; intro t ht
    have t3 := Same.new (o := .tup [.int tk, .int bo, .ref qd]) ht
    have t13 := t12.trans t3
    refine k ⟨tk, bo, rs ++ [r]⟩ _ _ rfl rfl (fun P hP => ?_) ⟨t, qd, ys ++ [v], rfl, upd_same, t3 _ _ hqd2, hqd0, ?_⟩ (R5.bag.mono t13) (R5.bs.to t13)
    · have hm : (((rs ++ [r]).length : Nat) : Int) = mv := by simp; omega
      refine ⟨⟨k2, k3⟩, ⟨k0, k1⟩, by show (rs ++ [r]).length ≤ 1000; omega, fun r' hr' => ?_, ⟨r, by simp, hlast⟩⟩
      show Rw.Ok _ bo (((rs ++ [r]).length : Nat) : Int) r'
      rw [hm]
      rcases List.mem_append.mp hr' with h | h
      · exact h4 r' h P hP
      · rw [List.mem_singleton.mp h]; exact okr P hP
    · show Reps _ (rowsD (rs ++ [r])) _
      unfold rowsD
      rw [List.map_append]
      exact (h2.mono t13.ts).append (reps_cons (rv.mono t13.ts) reps_nil)
  have main : ∀ (c7 : Option V) (H5 : Hp), RA b l H (fun r => ∀ P, sigs P = sg → Rw.Ok P bo mv r) qa (mv - 1).toNat H5 → (tSeq (tAsg (tTup (tCons (tC (.str "back")) (tCons (tCall sp_draw [] E0 (tCons (tVar 0) (tCons (tVar 4) tNil))) tNil))) (gName 8)) (tSeq (tIfS (tTest (tOp rEq (tCall sp_draw [] E0 (tCons (tVar 0) (tCons (tC (.int 6)) tNil))) (tC (.int 5)))) (tAsg (tTup (tCons (tC (.str "jump")) (tCons (tCall sp_draw [] E0 (tCons (tVar 0) (tCons (tVar 5) tNil))) tNil))) (gName 8)) tNext) (tRet (tTup (tCons (tVar 3) (tCons (tVar 4) (tCons (tOp rCat (tVar 6) (tLst (tCons (tVar 8) tNil))) tNil))))))) { nx := fun _ H' => Q .non H', rt := Q } [some (.ref b), some (.ref sa), some (.ref at3), some (.int tk), some (.int bo), some (.int mv), some (.ref qa), c7, none] H5 := by
    intro c7 H5 R5
    walk_at "rd"
    refine use2 ⟨b, l, bo, rfl, rfl, ⟨by omega, by omega⟩, R5.bag, fun la H6 la0 la1 B6 s6 => ?_⟩
    have R6 := R5.draw nqb B6 s6
    walk_at "rd"
    walk_at "mk"; intro u hu
    have t1 := Same.new (o := .tup [.str "back", .int la]) hu
    have r1 : Rep (upd H6 u (.tup [.str "back", .int la])) (rowD (Rw.back la).row) (.ref u) := rep_tup upd_same (reps_cons (by rw [Rep]; rfl) (reps_cons rep_int reps_nil))
    have R7 := R6.mono t1
    generalize upd H6 u (HO.tup [V.str "back", V.int la]) = H7 at t1 r1 R7
    walk_at "rd"
    refine use2 ⟨b, l, 6, rfl, rfl, ⟨by decide, by decide⟩, R7.bag, fun c6 H8 c60 c61 B8 s8 => ?_⟩
    have R8 := R7.draw nqb B8 s8
    walk_at "rd"
    refine ite_dd (fun h5 => ?_) (fun h5 => rd_next (fin (.back la) (.ref u) c7 H8 R8 (r1.mono (s8.ts R7.bag)) trivial fun _ _ => ⟨la0, la1⟩))
    walk_at "rd"
    refine use2 ⟨b, l, mv, rfl, rfl, ⟨by omega, by omega⟩, R8.bag, fun jt H9 jt0 jt1 B9 s9 => ?_⟩
    have R9 := R8.draw nqb B9 s9
    walk_at "rd"
    walk_at "mk"; intro u2 hu2
    have t2 := Same.new (o := .tup [.str "jump", .int jt]) hu2
    have r2 : Rep (upd H9 u2 (.tup [.str "jump", .int jt])) (rowD (Rw.jump jt).row) (.ref u2) := rep_tup upd_same (reps_cons (by rw [Rep]; rfl) (reps_cons rep_int reps_nil))
    exact rd_gname (fin (.jump jt) (.ref u2) c7 _ (R9.mono t2) r2 trivial fun _ _ => ⟨jt0, jt1⟩)
  walk_at "rd"
  refine ite_dd (fun h5 => ?_) (fun h5 => iteF (rd_next (main none H4 R0)))
  walk_at "rd"
  refine use2 ⟨b, l, 2, rfl, rfl, ⟨by decide, by decide⟩, R0.bag, fun c2 H5 c20 c21 B5 s5 => ?_⟩
  have R5 := R0.draw nqb B5 s5
  walk_at "rd"
  refine ite_dd (fun h1 => ?_) (fun h1 => rd_next (main none H5 R5))
  walk_at "rd"
  refine use2 ⟨b, l, bo, rfl, rfl, ⟨by omega, by omega⟩, R5.bag, fun p H6 p0 p1 B6 s6 => ?_⟩
  have R6 := R5.draw nqb B6 s6
  walk_at "rd"
  refine use2 ⟨b, l, 5, rfl, rfl, ⟨by decide, by decide⟩, R6.bag, fun c5 H7 c50 c51 B7 s7 => ?_⟩
  have R7 := R6.draw nqb B7 s7
  have p10 : 0 ≤ (p + 1) % bo := Int.emod_nonneg _ (by omega)
  have p11 : (p + 1) % bo < bo := Int.emod_lt_of_pos _ (by omega)
  walk_at "rd"
  walk_at "mk"; intro u1 hu1
  walk_at "rd"
  refine (R7.mono (Same.new hu1)).wr (r := .put p (3 + c5)) nqb nql hq0 (fun _ _ => ⟨⟨p0, p1⟩, by omega⟩) (rep_tup upd_same (reps_cons (by rw [Rep]; rfl) (reps_cons rep_int (reps_cons rep_int reps_nil)))) (by omega) (by omega) fun H8 R8 => ?_
  walk_at "rd"
  refine rd_I (by omega) ?_
  walk_at "rd"
  walk_at "mk"; intro u2 hu2
  walk_at "rd"
  refine (R8.mono (Same.new hu2)).wr (r := .put ((p + 1) % bo) 1) nqb nql hq0 (fun _ _ => ⟨⟨p10, p11⟩, by decide⟩) (rep_tup upd_same (reps_cons (by rw [Rep]; rfl) (reps_cons rep_int (reps_cons rep_int reps_nil)))) (by omega) (by omega) fun H9 R9 => ?_
  have rest : ∀ H10, RA b l H (fun r => ∀ P, sigs P = sg → Rw.Ok P bo mv r) qa (mv - 1).toNat H10 → (tSeq (tAsg (tTup (tCons (tC (.str "zero")) (tCons (tVar 7) (tCons (tOp (rI0 fun i j => .int (i - j)) (tVar 5) (tC (.int 1))) tNil)))) (gSub (tVar 6) (tOp (rI0 fun i j => .int (i - j)) (tVar 5) (tC (.int 3))) rSetL)) (tAsg (tTup (tCons (tC (.str "jump")) (tCons (tC (.int 1)) tNil))) (gSub (tVar 6) (tOp (rI0 fun i j => .int (i - j)) (tVar 5) (tC (.int 2))) rSetL))) { nx := (tSeq (tAsg (tTup (tCons (tC (.str "back")) (tCons (tCall sp_draw [] E0 (tCons (tVar 0) (tCons (tVar 4) tNil))) tNil))) (gName 8)) (tSeq (tIfS (tTest (tOp rEq (tCall sp_draw [] E0 (tCons (tVar 0) (tCons (tC (.int 6)) tNil))) (tC (.int 5)))) (tAsg (tTup (tCons (tC (.str "jump")) (tCons (tCall sp_draw [] E0 (tCons (tVar 0) (tCons (tVar 5) tNil))) tNil))) (gName 8)) tNext) (tRet (tTup (tCons (tVar 3) (tCons (tVar 4) (tCons (tOp rCat (tVar 6) (tLst (tCons (tVar 8) tNil))) tNil))))))) { nx := fun _ H' => Q .non H', rt := Q }, rt := Q } [some (.ref b), some (.ref sa), some (.ref at3), some (.int tk), some (.int bo), some (.int mv), some (.ref qa), some (.int p), none] H10 := by
    intro H10 R10
    walk_at "rd"
    walk_at "mk"; intro u3 hu3
    walk_at "rd"
    refine (R10.mono (Same.new hu3)).wr (r := .zero p (mv - 1)) nqb nql hq0 (fun _ _ => ⟨⟨p0, p1⟩, ⟨by omega, by omega⟩⟩) (rep_tup upd_same (reps_cons (by rw [Rep]; rfl) (reps_cons rep_int (reps_cons rep_int reps_nil)))) (by omega) (by omega) fun H11 R11 => ?_
    walk_at "rd"
    walk_at "mk"; intro u4 hu4
    walk_at "rd"
    refine (R11.mono (Same.new hu4)).wr (r := .jump 1) nqb nql hq0 (fun _ _ => ⟨by decide, by omega⟩) (rep_tup upd_same (reps_cons (by rw [Rep]; rfl) (reps_cons rep_int reps_nil))) (by omega) (by omega) fun H12 R12 => ?_
    exact main _ H12 R12
  walk_at "rd"
  refine ite_dd (fun hb1 => ?_) (fun hb1 => ?_)
  · walk_at "rd"
    refine rd_I (by omega) ?_
    walk_at "rd"
    walk_at "mk"; intro u3 hu3
    walk_at "rd"
    refine (R9.mono (Same.new hu3)).wr (r := .less p p ((p + 1) % bo)) nqb nql hq0 (fun _ _ => ⟨⟨p0, p1⟩, ⟨p0, p1⟩, ⟨p10, p11⟩⟩) (rep_tup upd_same (reps_cons (by rw [Rep]; rfl) (reps_cons rep_int (reps_cons rep_int (reps_cons rep_int reps_nil))))) (by omega) (by omega) fun H10 R10 => ?_
    exact rest H10 R10
  · walk_at "rd"
    walk_at "mk"; intro u3 hu3
    walk_at "rd"
    refine (R9.mono (Same.new hu3)).wr (r := .put p 0) nqb nql hq0 (fun _ _ => ⟨⟨p0, p1⟩, by decide⟩) (rep_tup upd_same (reps_cons (by rw [Rep]; rfl) (reps_cons rep_int (reps_cons rep_int reps_nil)))) (by omega) (by omega) fun H10 R10 => ?_
    exact rest H10 R10

end
end
end My

end
section
set_option Elab.async false
set_option linter.all false
set_option maxRecDepth 100000
set_option maxHeartbeats 4000000

namespace My
open PySem L2
local macro_rules | `(tactic| walk_at "rd1") => `(tactic| (first | ((with_reducible refine' rd_var ?e ?_); (case e => exact rfl)) | with_reducible refine rd_c ?_ | with_reducible refine rd_op ?_ | with_reducible refine rd_un ?_ | with_reducible refine rd_seq ?_ | with_reducible refine rd_asg ?_ | with_reducible refine rd_gname ?_ | with_reducible refine rd_ret ?_ | with_reducible refine rd_drop ?_ | with_reducible refine rd_next ?_ | with_reducible refine rd_if ?_ | with_reducible refine rd_test ?_ | with_reducible refine rd_tb ?_ | with_reducible refine rd_and ?_ | with_reducible refine rd_or ?_ | with_reducible refine rd_not ?_ | with_reducible refine rd_true ?_ | with_reducible refine rd_andV ?_ | with_reducible refine rd_orV ?_ | with_reducible refine rd_notV ?_ | with_reducible refine rd_ifE ?_ | with_reducible refine rd_chain ?_ | with_reducible refine rd_nil ?_ | with_reducible refine rd_cons ?_ | with_reducible refine rd_cb ?_ | with_reducible refine rd_call ?_ | with_reducible refine rd_I0 ?_ | with_reducible refine rd_U ?_ | with_reducible refine rd_eqI ?_ | with_reducible refine rd_neI ?_ | with_reducible refine rd_eqS ?_ | with_reducible refine rd_neS ?_ | with_reducible refine rd_eqB ?_ | with_reducible refine rd_neB ?_ | with_reducible refine rd_bl ?_ | with_reducible refine rd_int ?_ | with_reducible refine rd_tup ?_ | with_reducible refine rd_lst ?_ | with_reducible refine rd_gsub ?_ | with_reducible refine rd_slice ?_ | with_reducible refine rd_nopart ?_ | with_reducible refine rd_part ?_ | with_reducible refine rd_bm ?_ | with_reducible refine rd_bm0 ?_ | with_reducible refine rd_comp ?_ | with_reducible refine rd_itup ?_ | with_reducible refine rd_ilist ?_ | with_reducible refine rd_irng ?_ | with_reducible refine rd_gcons ?_ | with_reducible refine rd_gnil ?_ | with_reducible refine rd_for ?_ | with_reducible refine rd_abs ?_ | with_reducible refine rd_max ?_ | with_reducible refine rd_min ?_ | with_reducible refine rd_intB ?_ | with_reducible refine rd_dput ?_ | with_reducible refine rd_dget2 ?_ | with_reducible refine rd_dget ?_ | with_reducible refine rd_fld ?_ | with_reducible refine rd_sfld ?_ | with_reducible refine rd_meth ?_ | with_reducible refine rd_make ?_ | with_reducible refine rd_isN ?_ | with_reducible refine rd_notN ?_ | with_reducible refine rd_izip ?_ | with_reducible refine iteNT ?_ | with_reducible refine iteNF ?_ | with_reducible refine iteF ?_ | with_reducible refine iteT ?_))
local macro_rules | `(tactic| walk_at "rd") => `(tactic| (repeat walk_at "rd1"))
local macro_rules | `(tactic| walk_at "mk") => `(tactic| refine ⟨mk_le rfl, ?_⟩)

section
variable {P : Program} {w : World} {K : PySem.W.Frag} {mg : Str → Option Value} {base : Heap}
section
def SgG (s : Int × Int) : Prop := 0 ≤ s.1 ∧ s.1 ≤ s.2 ∧ 1 ≤ s.2 ∧ s.2 ≤ 8
def sp_prog25 : Sp := sp1 fun x H Q => ∃ b l, x = .ref b ∧ BagAt H b l ∧ ∀ pp P H', PgOk P → FPg H H' P pp → BagAt H' b l → BSame b H H' → Q (.ref pp) H'
theorem rep_pair {H : Hp} {t : Addr} {x y : Int} (h : H t = some (.tup [.int x, .int y])) : Rep H (pairD (x, y)) (.ref t) := rep_tup h (reps_cons rep_int (reps_cons rep_int reps_nil))
theorem sc__law_program : FnScope ["bag", "signs", "k", "boxes"] ["bag"] (defScope s__law_program) := ⟨rfl, rfl, rfl, by decide +kernel, rfl, by decide +kernel, by decide +kernel⟩
theorem c__law_program (B : Blt mg) (T__law_program : TopFn K mg "_law_program" s__law_program ["bag"]) (C_law_draw : Callee P w K mg base "_law_draw" 1 ["bag", "many"] sp_draw) (C_law_def : Callee P w K mg base "_law_def" 4 ["bag", "signs", "sign"] sp_def25) : Callee P w K mg base "_law_program" 5 ["bag"] sp_prog25 := by
  refine T__law_program.ok1 sc__law_program fun f cdv A outer s H v1 Q E hr hh => ?_
  have nd := sc__law_program.nd
  obtain ⟨b, l, rfl, Bg, k⟩ := hh
  refine' go_body [some (.ref b), none, none, none] rfl ?hb ?hg
  case hb =>
   refine' pss_cons ?zb ?zc
   case zb =>
    refine' ps_setL (i := 1) ?zd ?ze ?zf ?zg
    case zd => exact nd
    case ze => exact rfl
    case zf => exact (Or.inr rfl)
    case zg =>
     refine' pe_lst ?zh
     case zh =>
      refine' pa_consT ?zi ?zj
      case zi =>
       refine' pe_tup ?zk
       case zk =>
        refine' pa_consK ?zl ?zm
        case zl => exact pe_int
        case zm =>
         refine' pa_consS ?zn ?zo
         case zn =>
          refine' pe_ix ?zp ?zq ?zr ?zs
          case zp => exact (k_ix (K := K) rfl)
          case zq =>
           refine' pe_lst ?zt
           case zt => exact (pa_consK pe_int (pa_consK pe_int (pa_consK pe_int (pa_consK pe_int (pa_consK pe_int (pa_consK pe_int (pa_consK pe_int (pa_consK pe_int pa_nil))))))))
          case zr => exact (pe_fn C_law_draw (hr.mono (by first | decide | omega)) (by rfl) (pa_consN (pv 0) (pa_consK pe_int pa_nil)))
          case zs => exact (fun _ _ => rfl)
         case zo => exact pa_nil
      case zj => exact pa_nil
   case zc =>
    refine' pss_cons ?zu ?zv
    case zu =>
     refine' ps_for ?zw ?zx ?zy ?zz ?zba
     case zw => exact PassesOwn.never
     case zx => exact rfl
     case zy =>
      refine' pi_range1 ?zbb ?zbc ?zbd
      case zbb => exact rfl
      case zbc => exact B.b_range
      case zbd =>
       refine' pa_consS ?zbe ?zbf
       case zbe =>
        refine' pe_ix ?zbg ?zbh ?zbi ?zbj
        case zbg => exact (k_ix (K := K) rfl)
        case zbh =>
         refine' pe_lst ?zbk
         case zbk => exact (pa_consK pe_int (pa_consK pe_int (pa_consK pe_int (pa_consK pe_int (pa_consK pe_int (pa_consK pe_int (pa_consK pe_int (pa_consK pe_int pa_nil))))))))
        case zbi => exact (pe_fn C_law_draw (hr.mono (by first | decide | omega)) (by rfl) (pa_consN (pv 0) (pa_consK pe_int pa_nil)))
        case zbj => exact (fun _ _ => rfl)
       case zbf => exact pa_nil
     case zz => exact (pg_name (i := 2) nd rfl (Or.inl rfl))
     case zba =>
      refine' pss_cons ?zbl ?zbm
      case zbl =>
       refine' ps_setB (i := 3) ?zbn ?zbo ?zbp ?zbq
       case zbn => exact nd
       case zbo => exact rfl
       case zbp => exact (Or.inl rfl)
       case zbq =>
        refine' pe_op ?zbr ?zbs ?zbt
        case zbr => exact op_add
        case zbs => exact pe_int
        case zbt =>
         refine' pe_fn ?zbu ?zbv ?zbw ?zbx
         case zbu => exact C_law_draw
         case zbv => exact (hr.mono (by first | decide | omega))
         case zbw => exact (by rfl)
         case zbx =>
          refine' pa_consN ?zby ?zbz
          case zby => exact (pv 0)
          case zbz =>
           refine' pa_consS ?zca ?zcb
           case zca =>
            refine' pe_ix ?zcc ?zcd ?zce ?zcf
            case zcc => exact (k_ix (K := K) rfl)
            case zcd => exact (pe_lst (pa_consK pe_int (pa_consK pe_int (pa_consK pe_int pa_nil))))
            case zce => exact (pe_fn C_law_draw (hr.mono (by first | decide | omega)) (by rfl) (pa_consN (pv 0) (pa_consK pe_int pa_nil)))
            case zcf => exact (fun _ _ => rfl)
           case zcb => exact pa_nil
      case zbm =>
       refine' pss_one ?zcg
       case zcg =>
        refine' ps_expr ?zch
        case zch =>
         refine' k_bm (K := K) ?zci ?zcj ?zck ?zcl ?zcm ?zcn ?zco
         case zci => exact rfl
         case zcj => exact PySem.F.plainAttrs_list
         case zck => exact PySem.F.slot_list_append
         case zcl => exact PySem.F.type_list_append
         case zcm => exact mt_append
         case zcn => exact (pv 1)
         case zco =>
          refine' pa_consT ?zcp ?zcq
          case zcp =>
           refine' pe_tup ?zcr
           case zcr =>
            refine' pa_consC ?zcs ?zct
            case zcs =>
             refine' pe_callB ?zcu ?zcv ?zcw ?zcx ?zcy
             case zcu => exact (call_min' rfl)
             case zcv => exact (by rfl)
             case zcw => exact B.b_min
             case zcx => exact bt_min
             case zcy =>
              refine' pa_consN ?zcz ?zda
              case zcz => exact (pv 3)
              case zda =>
               refine' pa_consS ?zdb ?zdc
               case zdb =>
                refine' pe_ix ?zdd ?zde ?zdf ?zdg
                case zdd => exact (k_ix (K := K) rfl)
                case zde => exact (pe_lst (pa_consK pe_int (pa_consK pe_int (pa_consK pe_int (pa_consK pe_int (pa_consK pe_int (pa_consK pe_int pa_nil)))))))
                case zdf => exact (pe_fn C_law_draw (hr.mono (by first | decide | omega)) (by rfl) (pa_consN (pv 0) (pa_consK pe_int pa_nil)))
                case zdg => exact (fun _ _ => rfl)
               case zdc => exact pa_nil
            case zct => exact (pa_consN (pv 3) pa_nil)
          case zcq => exact pa_nil
    case zv =>
     refine' pss_one ?zdh
     case zdh =>
      refine' ps_ret ?zdi
      case zdi =>
       refine' pe_comp (LN := ["sign"]) (FN := ["bag", "signs"]) (fr := [0, 1]) ?zdj ?zdk ?zdl ?zdm ?zdn ?zdo
       case zdj => exact rfl
       case zdk => exact (bk_of (by rfl))
       case zdl => exact (k_pi_list (K := K) rfl (pv 1))
       case zdm =>
        intro cl C fp pins s H
        exact (pg_name (i := 0) (show ((["sign"] : List Str) ++ (["bag", "signs"] : List Str)).Nodup by decide +kernel) rfl (Or.inl rfl))
       case zdn =>
        intro cl C fp pins s H
        exact pts_nil
       case zdo =>
        intro cl C fp pins s H
        exact (pe_fn C_law_def (hr.mono (by first | decide | omega)) (by rfl) (pa_consN (pv 1) (pa_consN (pv 2) (pa_consN (pv 0) pa_nil))))
  walk_at "rd"
  walk_at "mk"; intro pm hpm
  have sm := Same.new (o := .lst [.int 3, .int 2, .int 4, .int 8, .int 1, .int 6, .int 7, .int 5]) hpm
  have hm2 : upd H pm (.lst [.int 3, .int 2, .int 4, .int 8, .int 1, .int 6, .int 7, .int 5]) pm = some (.lst [.int 3, .int 2, .int 4, .int 8, .int 1, .int 6, .int 7, .int 5]) := upd_same
  have nmb : pm ≠ b := fun z => (Bg.ne hpm).1 z.symm
  generalize upd H pm (HO.lst [V.int 3, V.int 2, V.int 4, V.int 8, V.int 1, V.int 6, V.int 7, V.int 5]) = H1 at sm hm2
  have B1 := Bg.mono sm
  walk_at "rd"
  refine use2 ⟨b, l, 8, rfl, rfl, ⟨by decide, by decide⟩, B1, fun wi H2 wi0 wi1 B2 s2 => ?_⟩
  have s02 : BSame b H H2 := (BSame.of sm).trans s2
  walk_at "rd"
  obtain ⟨bo, bo0, bo1, hat⟩ : ∃ bo : Int, 1 ≤ bo ∧ bo ≤ 8 ∧ atI [V.int 3, V.int 2, V.int 4, V.int 8, V.int 1, V.int 6, V.int 7, V.int 5] wi = some (.int bo) := by
    have : wi = 0 ∨ wi = 1 ∨ wi = 2 ∨ wi = 3 ∨ wi = 4 ∨ wi = 5 ∨ wi = 6 ∨ wi = 7 := by omega
    rcases this with rfl | rfl | rfl | rfl | rfl | rfl | rfl | rfl <;> exact ⟨_, by decide, by decide, rfl⟩
  refine rd_ixaL (s2 _ _ nmb hm2) hat ?_
  walk_at "rd"
  walk_at "mk"; intro t0 ht0
  have st0 := Same.new (o := .tup [.int 0, .int bo]) ht0
  have ht01 : upd H2 t0 (.tup [.int 0, .int bo]) t0 = some (.tup [.int 0, .int bo]) := upd_same
  generalize upd H2 t0 (HO.tup [V.int 0, V.int bo]) = H3 at st0 ht01
  have B3 := B2.mono st0
  walk_at "rd"
  walk_at "mk"; intro sa hsa
  have ssa := Same.new (o := .lst [.ref t0]) hsa
  have hsa1 : upd H3 sa (.lst [.ref t0]) sa = some (.lst [.ref t0]) := upd_same
  have nsab : sa ≠ b := fun z => (B3.ne hsa).1 z.symm
  have nsal : sa ≠ l := fun z => (B3.ne hsa).2 z.symm
  have s03 : BSame b H H3 := s02.to st0
  have hsa0 : H sa = none := s03.free nsab hsa
  have rt0 : Reps (upd H3 sa (.lst [.ref t0])) ([((0 : Int), bo)].map pairD) [.ref t0] := reps_cons (rep_pair (ssa _ _ ht01)) reps_nil
  generalize upd H3 sa (HO.lst [V.ref t0]) = H4 at ssa hsa1 rt0
  have B4 := B3.mono ssa
  have s04 := s03.to ssa
  walk_at "rd"
  walk_at "mk"; intro pm2 hpm2
  have sm2 := Same.new (o := .lst [.int 0, .int 1, .int 2, .int 1, .int 3, .int 4, .int 2, .int 5]) hpm2
  have hm3 : upd H4 pm2 (.lst [.int 0, .int 1, .int 2, .int 1, .int 3, .int 4, .int 2, .int 5]) pm2 = some (.lst [.int 0, .int 1, .int 2, .int 1, .int 3, .int 4, .int 2, .int 5]) := upd_same
  have nmb2 : pm2 ≠ b := fun z => (B4.ne hpm2).1 z.symm
  generalize upd H4 pm2 (HO.lst [V.int 0, V.int 1, V.int 2, V.int 1, V.int 3, V.int 4, V.int 2, V.int 5]) = H5 at sm2 hm3
  have B5 := B4.mono sm2
  walk_at "rd"
  refine use2 ⟨b, l, 8, rfl, rfl, ⟨by decide, by decide⟩, B5, fun wj H6 wj0 wj1 B6 s6 => ?_⟩
  have s46 : BSame b H4 H6 := (BSame.of sm2).trans s6
  walk_at "rd"
  obtain ⟨cn, cn0, cn1, hat2⟩ : ∃ cn : Int, 0 ≤ cn ∧ cn ≤ 5 ∧ atI [V.int 0, V.int 1, V.int 2, V.int 1, V.int 3, V.int 4, V.int 2, V.int 5] wj = some (.int cn) := by
    have : wj = 0 ∨ wj = 1 ∨ wj = 2 ∨ wj = 3 ∨ wj = 4 ∨ wj = 5 ∨ wj = 6 ∨ wj = 7 := by omega
    rcases this with rfl | rfl | rfl | rfl | rfl | rfl | rfl | rfl <;> exact ⟨_, by decide, by decide, rfl⟩
  refine rd_ixaL (s6 _ _ nmb2 hm3) hat2 ?_
  walk_at "rd"
  refine irK_of (by omega) (by omega) ?_
  refine for_range (n := cn.toNat) (fun i σ Hx => (∃ c2 c3, σ = [some (.ref b), some (.ref sa), c2, c3]) ∧ BagAt Hx b l ∧ BSame b H Hx ∧ ∃ sg vs, Hx sa = some (.lst vs) ∧ Reps Hx (sg.map pairD) vs ∧ sg.length = i + 1 ∧ ∀ s ∈ sg, SgG s) ⟨⟨_, _, rfl⟩, B6, s04.trans s46, [(0, bo)], [.ref t0], s46 _ _ nsab hsa1, rt0.mono (s46.ts B4), rfl, fun s hs => by rw [List.mem_singleton.mp hs]; exact ⟨by simp, by simp; omega, bo0, bo1⟩⟩ ?_ ?_
  · rintro i σ Hx hi ⟨⟨c2, c3, rfl⟩, Bx, sx, sg, vs, hs, rs, hsl, good⟩
    walk_at "rd"
    walk_at "mk"; intro p3 hp3
    have t3 := Same.new (o := .lst [.int 3, .int 3, .int 8]) hp3
    have h3 : upd Hx p3 (.lst [.int 3, .int 3, .int 8]) p3 = some (.lst [.int 3, .int 3, .int 8]) := upd_same
    have n3 : p3 ≠ b := fun z => (Bx.ne hp3).1 z.symm
    generalize upd Hx p3 (HO.lst [V.int 3, V.int 3, V.int 8]) = X1 at t3 h3
    have C1 := Bx.mono t3
    walk_at "rd"
    refine use2 ⟨b, l, 3, rfl, rfl, ⟨by decide, by decide⟩, C1, fun w3 X2 w30 w31 C2 d2 => ?_⟩
    walk_at "rd"
    obtain ⟨m3, m30, m31, hat3⟩ : ∃ m : Int, 1 ≤ m ∧ m ≤ 8 ∧ atI [V.int 3, V.int 3, V.int 8] w3 = some (.int m) := by
      have : w3 = 0 ∨ w3 = 1 ∨ w3 = 2 := by omega
      rcases this with rfl | rfl | rfl <;> exact ⟨_, by decide, by decide, rfl⟩
    refine rd_ixaL (d2 _ _ n3 h3) hat3 ?_
    walk_at "rd"
    refine use2 ⟨b, l, m3, rfl, rfl, ⟨by omega, by omega⟩, C2, fun br X3 br0 br1 C3 d3 => ?_⟩
    have e03 : BSame b Hx X3 := ((BSame.of t3).trans d2).trans d3
    walk_at "rd"
    refine ⟨.inl ⟨rfl, _, SqL.of (e03 _ _ nsab hs)⟩, ?_⟩
    walk_at "rd"
    walk_at "mk"; intro p4 hp4
    have t4 := Same.new (o := .lst [.int 1, .int 2, .int 0, .int 1, .int 3, .int 4]) hp4
    have h4 : upd X3 p4 (.lst [.int 1, .int 2, .int 0, .int 1, .int 3, .int 4]) p4 = some (.lst [.int 1, .int 2, .int 0, .int 1, .int 3, .int 4]) := upd_same
    have n4 : p4 ≠ b := fun z => (C3.ne hp4).1 z.symm
    generalize upd X3 p4 (HO.lst [V.int 1, V.int 2, V.int 0, V.int 1, V.int 3, V.int 4]) = X4 at t4 h4
    have C4 := C3.mono t4
    walk_at "rd"
    refine use2 ⟨b, l, 6, rfl, rfl, ⟨by decide, by decide⟩, C4, fun w5 X5 w50 w51 C5 d5 => ?_⟩
    walk_at "rd"
    obtain ⟨m5, m50, m51, hat5⟩ : ∃ m : Int, 0 ≤ m ∧ m ≤ 4 ∧ atI [V.int 1, V.int 2, V.int 0, V.int 1, V.int 3, V.int 4] w5 = some (.int m) := by
      have : w5 = 0 ∨ w5 = 1 ∨ w5 = 2 ∨ w5 = 3 ∨ w5 = 4 ∨ w5 = 5 := by omega
      rcases this with rfl | rfl | rfl | rfl | rfl | rfl <;> exact ⟨_, by decide, by decide, rfl⟩
    refine rd_ixaL (d5 _ _ n4 h4) hat5 ?_
    walk_at "rd"
    obtain ⟨tk, tk0, tk1, htk⟩ : ∃ tk : Int, 0 ≤ tk ∧ tk ≤ 1 + br ∧ (if m5 < 1 + br then m5 else 1 + br) = tk := by
      by_cases h : m5 < 1 + br
      · exact ⟨m5, by omega, by omega, if_pos h⟩
      · exact ⟨1 + br, by omega, by omega, if_neg h⟩
    rw [htk]
    have e05 : BSame b Hx X5 := (e03.to t4).trans d5
    walk_at "mk"; intro t6 ht6
    have s7 := Same.new (o := .tup [.int tk, .int (1 + br)]) ht6
    have h6 : upd X5 t6 (.tup [.int tk, .int (1 + br)]) t6 = some (.tup [.int tk, .int (1 + br)]) := upd_same
    generalize upd X5 t6 (HO.tup [V.int tk, V.int (1 + br)]) = X6 at s7 h6
    have e06 := e05.to s7
    have h6s := e06 _ _ nsab hs
    have r6 := rs.mono (e06.ts Bx)
    have hvl := rs.length
    rw [List.length_map] at hvl
    walk_at "rd"
    refine rd_append h6s (Nat.lt_of_le_of_lt (show vs.length ≤ 200000 by omega) (by rw [sizeLine_eq]; decide)) ?_
    walk_at "rd"
    have t8 : TSame X6 (upd X6 sa (.lst (vs ++ [.ref t6]))) := fun x xs e => by
      rw [upd_ne (fun z => by subst z; rw [h6s] at e; cases e)]; exact e
    refine ⟨⟨_, _, rfl⟩, (C5.mono s7).wr (fun z => nsab z.symm) (fun z => nsal z.symm), (sx.trans e06).wrNew hsa0, sg ++ [(tk, 1 + br)], vs ++ [.ref t6], upd_same, ?_, by simp [hsl], fun s hs => ?_⟩
    · rw [List.map_append]
      exact (r6.mono t8).append (reps_cons ((rep_pair h6).mono t8) reps_nil)
    · rcases List.mem_append.mp hs with h | h
      · exact good s h
      · rw [List.mem_singleton.mp h]
        exact ⟨tk0, tk1, by show 1 ≤ 1 + br; omega, by show 1 + br ≤ 8; omega⟩
  · rintro σ Hx ⟨⟨c2, c3, rfl⟩, Bx, sx, sg, vs, hs, rs, hsl, good⟩
    have hvl := rs.length
    rw [List.length_map] at hvl
    walk_at "rd"
    refine ilK_of (SqL.of hs) ?_
    refine cw_list (xs := vs) (small_le (by omega)) (fun i ys σ Hy => (∃ x1, σ = [x1, some (.ref b), some (.ref sa)]) ∧ BagAt Hy b l ∧ BSame b H Hy ∧ Hy sa = some (.lst vs) ∧ Reps Hy (sg.map pairD) vs ∧ ys.length = i ∧ ∃ ds : List Df, ds.length = i ∧ sigs ds = sg.take i ∧ (∀ d ∈ ds, ∀ P, sigs P = sg → DfOk P d) ∧ ∀ (j : Nat) (d : Df) (v : V), ds[j]? = some d → ys[j]? = some v → FDf H Hy d v) ⟨⟨none, rfl⟩, Bx, sx, hs, rs, rfl, [], rfl, rfl, fun _ h => (by cases h), fun _ _ _ e => by simp at e⟩ (fun i ys σ Hy _ ⟨_, _, _, h, _⟩ => SqL.of h) ?_ ?_
    · rintro i x ys σ Hy hx hle hlt ⟨⟨x1, rfl⟩, By, sy, hsy, ry, hyl, ds, hdl, hsg, hok, hall⟩
      obtain ⟨dd, ed, rdd⟩ := ry.get' hx
      rw [List.getElem?_map] at ed
      obtain ⟨sk, esk, rfl⟩ := Option.map_eq_some_iff.mp ed
      have gk := good sk (List.mem_of_getElem? esk)
      walk_at "rd"
      refine use3 ⟨b, l, sa, sg, vs, sk, rfl, rfl, rdd, hsy, nsab, ry, ⟨by omega, by omega⟩, fun s hs => by have := good s hs; unfold SgG at this; omega, ⟨gk.1, gk.2.1, gk.2.2.1, by have := gk.2.2.2; omega⟩, By, fun d v Hz e1 e2 okd fd Bz bz => ?_⟩
      refine ⟨hlt, by simp; omega, ⟨_, rfl⟩, Bz, sy.trans bz, bz _ _ nsab hsy, ry.mono (bz.ts By), by simp [hyl], ds ++ [d], by simp [hdl], ?_, fun d' hd' => ?_, fun j d' v' e3 e4 => ?_⟩
      · unfold sigs at hsg ⊢
        rw [List.map_append, hsg, List.take_add_one, esk]
        simp [e1, e2]
      · rcases List.mem_append.mp hd' with h | h
        · exact hok d' h
        · rw [List.mem_singleton.mp h]; exact okd
      · rcases Nat.lt_or_ge j i with hj | hj
        · rw [List.getElem?_append_left (by omega)] at e3 e4
          exact (hall j d' v' e3 e4).bs (BagAt.some Bg) By bz
        · have hlt2 := (List.getElem?_eq_some_iff.mp e3).1
          have hj' : j = i := by simp at hlt2; omega
          subst hj'
          rw [List.getElem?_append_right (by omega), hdl, Nat.sub_self] at e3
          rw [List.getElem?_append_right (by omega), hyl, Nat.sub_self] at e4
          cases e3; cases e4
          obtain ⟨t, q, zs, e, h1, h2, h3, r⟩ := fd
          exact ⟨t, q, zs, e, h1, h2, sy.free (fun z => by subst z; exact BagAt.some By h3) h3, r⟩
    · rintro ys σ Hy hyl' ⟨⟨x1, rfl⟩, By, sy, hsy, ry, hyl, ds, hdl, hsg, hok, hall⟩ pp hpp
      have sp := Same.new (o := .lst ys) hpp
      have npb : pp ≠ b := fun z => (By.ne hpp).1 z.symm
      have hsg' : sigs ds = sg := by rw [hsg, List.take_of_length_le (by omega)]
      refine k pp ds _ ⟨fun e => ?_, by omega, fun d hd => hok d hd ds hsg'⟩ ⟨ys, upd_same, sy.free npb hpp, by omega, fun j d v e1 e2 => (hall j d v e1 e2).mono sp⟩ (By.mono sp) (sy.to sp)
      rw [e] at hdl
      simp at hdl
      omega

def sp_nums25 : Sp := sp1 fun x H Q => ∃ b l, x = .ref b ∧ BagAt H b l ∧ ∀ q ns H', H q = none → H' q = some (.lst ((ns : List Int).map V.int)) → ns.length ≤ 1000 → (∀ x ∈ ns, x.natAbs ≤ 10 ^ 60) → BagAt H' b l → BSame b H H' → Q (.ref q) H'
theorem sc__law_numbers : FnScope ["bag"] ["bag"] (defScope s__law_numbers) := ⟨rfl, rfl, rfl, by decide +kernel, rfl, by decide +kernel, by decide +kernel⟩
theorem c__law_numbers (B : Blt mg) (T__law_numbers : TopFn K mg "_law_numbers" s__law_numbers ["bag"]) (C_law_draw : Callee P w K mg base "_law_draw" 1 ["bag", "many"] sp_draw) (C_law_number : Callee P w K mg base "_law_number" 2 ["bag"] sp_number) : Callee P w K mg base "_law_numbers" 3 ["bag"] sp_nums25 := by
  refine T__law_numbers.ok1 sc__law_numbers fun f cdv A outer s H v1 Q E hr hh => ?_
  have nd := sc__law_numbers.nd
  obtain ⟨b, l, rfl, Bg, k⟩ := hh
  refine' go_body [some (.ref b)] rfl ?hb ?hg
  case hb =>
   refine' pss_one ?zdp
   case zdp =>
    refine' ps_ret ?zdq
    case zdq =>
     refine' pe_comp (LN := ["k"]) (FN := ["bag"]) (fr := [0]) ?zdr ?zds ?zdt ?zdu ?zdv ?zdw
     case zdr => exact rfl
     case zds => exact (bk_of (by rfl))
     case zdt =>
      refine' pi_range1 ?zdx ?zdy ?zdz
      case zdx => exact rfl
      case zdy => exact B.b_range
      case zdz =>
       refine' pa_consS ?zea ?zeb
       case zea =>
        refine' pe_ix ?zec ?zed ?zee ?zef
        case zec => exact (k_ix (K := K) rfl)
        case zed => exact (pe_lst (pa_consK pe_int (pa_consK pe_int (pa_consK pe_int (pa_consK pe_int (pa_consK pe_int (pa_consK pe_int pa_nil)))))))
        case zee => exact (pe_fn C_law_draw (hr.mono (by first | decide | omega)) (by rfl) (pa_consN (pv 0) (pa_consK pe_int pa_nil)))
        case zef => exact (fun _ _ => rfl)
       case zeb => exact pa_nil
     case zdu =>
      intro cl C fp pins s H
      exact (pg_name (i := 0) (show ((["k"] : List Str) ++ (["bag"] : List Str)).Nodup by decide +kernel) rfl (Or.inl rfl))
     case zdv =>
      intro cl C fp pins s H
      exact pts_nil
     case zdw =>
      intro cl C fp pins s H
      exact (pe_fn C_law_number (hr.mono (by first | decide | omega)) (by rfl) (pa_consN (pv 1) pa_nil))
  walk_at "rd"
  walk_at "mk"; intro pm hpm
  have sm := Same.new (o := .lst [.int 3, .int 0, .int 8, .int 20, .int 1, .int 5]) hpm
  have hm2 : upd H pm (.lst [.int 3, .int 0, .int 8, .int 20, .int 1, .int 5]) pm = some (.lst [.int 3, .int 0, .int 8, .int 20, .int 1, .int 5]) := upd_same
  have nmb : pm ≠ b := fun z => (Bg.ne hpm).1 z.symm
  generalize upd H pm (HO.lst [V.int 3, V.int 0, V.int 8, V.int 20, V.int 1, V.int 5]) = H1 at sm hm2
  have B1 := Bg.mono sm
  walk_at "rd"
  refine use2 ⟨b, l, 6, rfl, rfl, ⟨by decide, by decide⟩, B1, fun wi H2 wi0 wi1 B2 s2 => ?_⟩
  have s02 : BSame b H H2 := (BSame.of sm).trans s2
  walk_at "rd"
  obtain ⟨cn, cn0, cn1, hat⟩ : ∃ bo : Int, 0 ≤ bo ∧ bo ≤ 20 ∧ atI [V.int 3, V.int 0, V.int 8, V.int 20, V.int 1, V.int 5] wi = some (.int bo) := by
    have : wi = 0 ∨ wi = 1 ∨ wi = 2 ∨ wi = 3 ∨ wi = 4 ∨ wi = 5 := by omega
    rcases this with rfl | rfl | rfl | rfl | rfl | rfl <;> exact ⟨_, by decide, by decide, rfl⟩
  refine rd_ixaL (s2 _ _ nmb hm2) hat ?_
  walk_at "rd"
  refine irK_of (by omega) (by omega) ?_
  refine cw_range (n := cn.toNat) (small_le (by omega)) (fun i ys σ Hy => (∃ x1, σ = [x1, some (.ref b)]) ∧ BagAt Hy b l ∧ BSame b H Hy ∧ ∃ zs : List Int, zs.length = i ∧ ys = zs.map V.int ∧ ∀ x ∈ zs, x.natAbs ≤ 10 ^ 60) ⟨⟨none, rfl⟩, B2, s02, [], rfl, rfl, fun _ h => (by cases h)⟩ ?_ ?_
  · rintro i ys σ Hy hi hle hlt ⟨⟨x1, rfl⟩, By, sy, zs, hzl, rfl, hz⟩
    walk_at "rd"
    refine use1 ⟨b, l, rfl, By, fun n Hz hn Bz bz => ?_⟩
    refine ⟨hlt, by simp; omega, ⟨_, rfl⟩, Bz, sy.trans bz, zs ++ [n], by simp [hzl], by simp, fun x hx => ?_⟩
    rcases List.mem_append.mp hx with h | h
    · exact hz x h
    · rw [List.mem_singleton.mp h]; exact hn
  · rintro ys σ Hy hyl ⟨⟨x1, rfl⟩, By, sy, zs, hzl, rfl, hz⟩ q hq
    have sq := Same.new (o := .lst (zs.map V.int)) hq
    exact k q zs _ (sy.free (fun z => (By.ne hq).1 z.symm) hq) upd_same (by omega) hz (By.mono sq) (sy.to sq)

end
end
end My

end
section
set_option Elab.async false
set_option linter.all false
set_option maxRecDepth 100000
set_option maxHeartbeats 4000000
namespace L2
open PySem
/-! ### what is kept: the objects at kp, and all tuples -/
structure KS (kp : List Addr) (H0 H : Hp) : Prop where
  at' : ∀ a ∈ kp, ∀ o, H0 a = some o → H a = some o
  ts : TSame H0 H
section
variable {kp own : List Addr} {H0 H H' : Hp}
theorem KS.refl (kp : List Addr) (H : Hp) : KS kp H H := ⟨fun _ _ _ h => h, TSame.refl _⟩
theorem KS.by (k : KS kp H0 H) (s : OSame own H H') (n : NoTup own H) (m : ∀ x ∈ kp, x ∉ own) : KS kp H0 H' := ⟨fun a ma o h => s _ _ (m a ma) (k.at' a ma o h), k.ts.trans (s.ts n)⟩
theorem KS.some {a : Addr} (k : KS kp H0 H) (m : a ∈ kp) (h : H0 a ≠ none) : H a ≠ none := fun e => by
  cases q : H0 a with
  | none => exact h q
  | some o => rw [k.at' a m o q] at e; cases e
/-- an owner stays apart from what is there -/
theorem apart {own own' oth : List Addr} (new : ∀ x ∈ own', x ∈ own ∨ H x = none) (d : ∀ x ∈ oth, x ∉ own) (al : ∀ x ∈ oth, H x ≠ none) : ∀ x ∈ oth, x ∉ own' := fun x hx m => by
  rcases new x m with h | h
  · exact d x hx h
  · exact al x hx h
end
/-- a program whose lists are among kp -/
def PgF (kp : List Addr) (H : Hp) (P : List Df) (pp : Addr) : Prop := ∃ vs, H pp = some (.lst vs) ∧ pp ∈ kp ∧ vs.length = P.length ∧ ∀ (i : Nat) (d : Df) (v : V), P[i]? = some d → vs[i]? = some v → ∃ t q ys, v = .ref t ∧ H t = some (.tup [.int d.takes, .int d.boxes, .ref q]) ∧ H q = some (.lst ys) ∧ q ∈ kp ∧ Reps H (rowsD d.rows) ys
section
variable {kp own : List Addr} {H0 H H' : Hp} {P : List Df} {pp : Addr}
theorem PgF.ks (h : PgF kp H P pp) (k : KS kp H H') : PgF kp H' P pp := by
  obtain ⟨vs, h1, m1, hl, h2⟩ := h
  refine ⟨vs, k.at' _ m1 _ h1, m1, hl, fun i d v e1 e2 => ?_⟩
  obtain ⟨t, q, ys, e, t1, q1, m, r⟩ := h2 i d v e1 e2
  exact ⟨t, q, ys, e, k.ts _ _ t1, k.at' _ m _ q1, m, r.mono k.ts⟩
theorem PgF.at (h : PgF kp H P pp) (m : ∀ x ∈ kp, x ∉ own) : PgAt own H P pp := by
  obtain ⟨vs, h1, m1, hl, h2⟩ := h
  refine ⟨vs, h1, m _ m1, hl, fun i d v e1 e2 => ?_⟩
  obtain ⟨t, q, ys, e, t1, q1, m2, r⟩ := h2 i d v e1 e2
  exact ⟨t, q, ys, e, t1, q1, m _ m2, r⟩
def qOf (H : Hp) : V → Option Addr
  | .ref t => match H t with
    | some (.tup [_, _, .ref q]) => some q
    | _ => none
  | _ => none
theorem PgF.of (h : PgAt own H P pp) : ∃ kp, PgF kp H P pp ∧ ∀ x ∈ kp, (∃ ys, H x = some (.lst ys)) ∧ x ∉ own := by
  obtain ⟨vs, h1, n1, hl, h2⟩ := h
  refine ⟨pp :: vs.filterMap (qOf H), ⟨vs, h1, List.mem_cons_self, hl, fun i d v e1 e2 => ?_⟩, fun x hx => ?_⟩
  · obtain ⟨t, q, ys, e, t1, q1, m2, r⟩ := h2 i d v e1 e2
    refine ⟨t, q, ys, e, t1, q1, List.mem_cons_of_mem _ (List.mem_filterMap.mpr ⟨v, List.mem_of_getElem? e2, ?_⟩), r⟩
    subst e
    simp only [qOf, t1]
  · rcases List.mem_cons.mp hx with rfl | hx
    · exact ⟨⟨_, h1⟩, n1⟩
    · obtain ⟨v, hv, e⟩ := List.mem_filterMap.mp hx
      obtain ⟨i, hi⟩ := List.mem_iff_getElem?.mp hv
      have hlt : i < P.length := by rw [← hl]; exact (List.getElem?_eq_some_iff.mp hi).1
      obtain ⟨t, q, ys, ev, t1, q1, m2, r⟩ := h2 i _ v (List.getElem?_eq_getElem hlt) hi
      subst ev
      simp only [qOf, t1] at e
      cases e
      exact ⟨⟨_, q1⟩, m2⟩
end
end L2

end
section
set_option Elab.async false
set_option linter.all false
set_option maxRecDepth 100000
set_option maxHeartbeats 4000000
namespace L2
open PySem PySem.Spec PyProof.Rows
/-! ### two values that are alike, lists and tuples in one another: == tells True, != False -/
section
variable {X : Cx} {pins : List (Addr × Obj)} {σ : St} {H : Hp} {s : Shared}
end
/-! ### what is alike -/
section
variable {H : Hp}
end
end L2

end
section
set_option Elab.async false
set_option linter.all false
set_option maxRecDepth 100000
set_option maxHeartbeats 4000000
namespace L2
open PySem
/-- a display's object; the rest named -/
abbrev NewL (xs : List V) (H : Hp) (Q : VK) : Prop := xs.length ≤ sizeLine ∧ ∀ p, H p = none → Q (.ref p) (upd H p (.lst xs))
abbrev NewT (xs : List V) (H : Hp) (Q : VK) : Prop := xs.length ≤ sizeLine ∧ ∀ p, H p = none → Q (.ref p) (upd H p (.tup xs))
theorem rd_lstN {ta : TA} {σ : St} {H : Hp} {Q : VK} (h : ta σ H fun xs H1 => NewL xs H1 Q) : tLst ta σ H Q := h
theorem rd_tupN {ta : TA} {σ : St} {H : Hp} {Q : VK} (h : ta σ H fun xs H1 => NewT xs H1 Q) : tTup ta σ H Q := h
abbrev NewI (C : Addr) (sp : Sp) (vs : List V) (H : Hp) (Q : VK) : Prop := ∀ x dx, H x = none → H dx = none → dx ≠ x → sp (.ref x :: (vs ++ [])) (upd (upd H dx (.own x)) x (.ins C dx [])) (fun v H2 => v = .non ∧ Q (.ref x) H2) E0
theorem rd_makeN {C : Addr} {sp : Sp} {t : TA} {σ : St} {H : Hp} {Q : VK} (h : t σ H fun vs H1 => NewI C sp vs H1 Q) : tMake C sp [] E0 t σ H Q := h
/-! ### a walk: what is new since H0 (lists L, data R); of the old objects only those at ow may change -/
structure WC (ow : List Addr) (H0 H : Hp) (L : List (Addr × HO)) (R : List (List D × List V)) : Prop where
  os : OSame ow H0 H
  ts : TSame H0 H
  all : AllAt H L
  nd : (L.map (·.1)).Nodup
  nw : ∀ x ∈ L.map (·.1), H0 x = none
  nt : ∀ x ∈ L, ∀ xs, x.2 ≠ .tup xs
  rp : ∀ e ∈ R, Reps H e.1 e.2
  al : ∀ x ∈ ow, H x ≠ none
section
variable {ow : List Addr} {H0 H H' : Hp} {L L' l1 l2 : List (Addr × HO)} {R R' : List (List D × List V)} {Q : VK} {a q : Addr} {o : HO} {xs ys vs : List V} {ds : List D} {d : D} {v : V}
theorem WC.start (al : ∀ x ∈ ow, H x ≠ none) : WC ow H H [] [] := ⟨fun _ _ _ h => h, TSame.refl _, fun _ h => (by cases h), by simp, fun _ h => (by cases h), fun _ h => (by cases h), fun _ h => (by cases h), al⟩
theorem WC.same (w : WC ow H0 H L R) (s : Same H H') : WC ow H0 H' L R :=
  ⟨fun a o n h => s _ _ (w.os a o n h), w.ts.trans s.ts, w.all.mono s, w.nd, w.nw, w.nt, fun e he => (w.rp e he).mono s.ts, fun x hx e => by
    cases h : H x with
    | none => exact w.al x hx h
    | some o => rw [s _ _ h] at e; cases e⟩
theorem WC.free (w : WC ow H0 H L R) (h : H a = none) : H0 a = none := by
  cases e : H0 a with
  | none => rfl
  | some o =>
    by_cases m : a ∈ ow
    · exact absurd h (w.al a m)
    · rw [w.os a o m e] at h; cases h
theorem WC.mem (w : WC ow H0 H L R) (h : H a = none) : a ∉ L.map (·.1) := fun m => by
  obtain ⟨e, he, rfl⟩ := List.mem_map.mp m
  rw [w.all e he] at h; cases h
theorem WC.newL (w : WC ow H0 H L R) (h : H a = none) : WC ow H0 (upd H a (.lst xs)) ((a, .lst xs) :: L) R := by
  have w' := w.same (Same.new (o := .lst xs) h)
  refine ⟨w'.os, w'.ts, fun e he => ?_, ?_, fun x hx => ?_, fun x hx => ?_, w'.rp, w'.al⟩
  · rcases List.mem_cons.mp he with rfl | he
    · exact upd_same
    · exact w'.all e he
  · rw [List.map_cons, List.nodup_cons]
    exact ⟨w.mem h, w.nd⟩
  · rcases List.mem_cons.mp hx with rfl | hx
    · exact w.free h
    · exact w.nw x hx
  · rcases List.mem_cons.mp hx with rfl | hx
    · intro ys z; cases z
    · exact w.nt x hx
theorem WC.newT (w : WC ow H0 H L R) (r : Reps H ds xs) (h : H a = none) : WC ow H0 (upd H a (.tup xs)) L (([.tup ds], [.ref a]) :: R) := by
  have s := Same.new (o := .tup xs) h
  have w' := w.same s
  refine ⟨w'.os, w'.ts, w'.all, w'.nd, w'.nw, w'.nt, fun e he => ?_, w'.al⟩
  rcases List.mem_cons.mp he with rfl | he
  · exact reps_cons (rep_tup upd_same (r.mono s.ts)) reps_nil
  · exact w'.rp e he
theorem WC.nl (w : WC ow H0 H L R) (k : ∀ q H', WC ow H0 H' ((q, .lst xs) :: L) R → Q (.ref q) H') : ∀ p, H p = none → Q (.ref p) (upd H p (.lst xs)) := fun p hp => k p _ (w.newL hp)
theorem WC.mkL (w : WC ow H0 H L R) (k : ∀ q H', WC ow H0 H' ((q, .lst xs) :: L) R → Q (.ref q) H') (hl : Nat.ble xs.length 1000 = true := by rfl) : NewL xs H Q := ⟨mk_le hl, w.nl k⟩
theorem WC.wr (w : WC ow H0 H (l1 ++ (q, o) :: l2) R) : WC ow H0 (upd H q (.lst ys)) (l1 ++ (q, .lst ys) :: l2) R := by
  have hq : H q = some o := AllAt.here w.all
  have ho : ∀ zs, H q ≠ some (.tup zs) := fun zs e => by
    rw [hq] at e; cases e
    exact w.nt (q, .tup zs) (by simp) zs rfl
  have t : TSame H (upd H q (.lst ys)) := TSame.wr ho
  have h0 : H0 q = none := w.nw q (by simp)
  refine ⟨fun a u n e => ?_, w.ts.trans t, w.all.wr w.nd, by have := w.nd; simpa using this, fun x hx => w.nw x (by simpa using hx), fun x hx => ?_, fun e he => (w.rp e he).mono t, fun x hx e => ?_⟩
  · rw [upd_ne (fun z => by rw [z, h0] at e; cases e)]
    exact w.os a u n e
  · rcases List.mem_append.mp hx with hx | hx
    · exact w.nt x (List.mem_append_left _ hx)
    · rcases List.mem_cons.mp hx with rfl | hx
      · intro ys z; cases z
      · exact w.nt x (by simp [hx])
  · by_cases z : x = q
    · subst z; rw [upd_same] at e; cases e
    · rw [upd_ne z] at e; exact w.al x hx e
theorem WC.app (w : WC ow H0 H (l1 ++ (q, .lst xs) :: l2) R) (hz : xs.length < sizeLine) (k : ∀ H', WC ow H0 H' (l1 ++ (q, .lst (xs ++ [v])) :: l2) R → Q .non H') : rAppend (.ref q) [v] H Q := rd_append (AllAt.here w.all) hz (k _ w.wr)
theorem WC.app0 (w : WC ow H0 H ((q, .lst xs) :: L) R) (hz : xs.length ≤ 200000) (k : ∀ H', WC ow H0 H' ((q, .lst (xs ++ [v])) :: L) R → Q .non H') : rAppend (.ref q) [v] H Q := WC.app (l1 := []) w (Nat.lt_of_le_of_lt hz (by rw [sizeLine_eq]; decide)) k
theorem WC.set {i : Int} {j : Nat} {Q : Hp → Prop} (w : WC ow H0 H (l1 ++ (q, .lst xs) :: l2) R) (e : ixN xs.length i = some j) (k : ∀ H', WC ow H0 H' (l1 ++ (q, .lst (xs.set j v)) :: l2) R → Q H') : rSetL (.ref q) (.int i) v H Q := rd_setL (AllAt.here w.all) e (k _ w.wr)
theorem WC.get0 (w : WC ow H0 H ((q, o) :: L) R) : H q = some o := w.all (q, o) List.mem_cons_self
theorem WC.get1 {e : Addr × HO} (w : WC ow H0 H (e :: (q, o) :: L) R) : H q = some o := w.all (q, o) (List.mem_cons_of_mem _ List.mem_cons_self)
theorem rep_of1 (h : Reps H [d] [v]) : Rep H d v := by
  obtain ⟨_, _, e, h, _⟩ := reps_cons_inv h
  cases e; exact h
theorem WC.rp0 (w : WC ow H0 H L (([d], [v]) :: R)) : Rep H d v := rep_of1 (w.rp ([d], [v]) List.mem_cons_self)
theorem WC.rps0 (w : WC ow H0 H L ((ds, xs) :: R)) : Reps H ds xs := w.rp (ds, xs) List.mem_cons_self
theorem WC.rps1 {e : List D × List V} (w : WC ow H0 H L (e :: (ds, xs) :: R)) : Reps H ds xs := w.rp (ds, xs) (List.mem_cons_of_mem _ List.mem_cons_self)
theorem WC.noR (w : WC ow H0 H L R) : WC ow H0 H L [] := ⟨w.os, w.ts, w.all, w.nd, w.nw, w.nt, fun _ h => (by cases h), w.al⟩
theorem WC.subR (w : WC ow H0 H L R) (h : ∀ e ∈ R', e ∈ R) : WC ow H0 H L R' := ⟨w.os, w.ts, w.all, w.nd, w.nw, w.nt, fun e he => w.rp e (h e he), w.al⟩
theorem WC.subL (w : WC ow H0 H L R) (h : L'.Sublist L) : WC ow H0 H L' R := ⟨w.os, w.ts, fun e he => w.all e (h.subset he), w.nd.sublist (h.map _), fun x hx => w.nw x ((h.map _).subset hx), fun x hx => w.nt x (h.subset hx), w.rp, w.al⟩
theorem WC.noL (w : WC ow H0 H L R) : WC ow H0 H [] R := w.subL (List.nil_sublist _)
theorem WC.addRs (w : WC ow H0 H L R) (r : Reps H ds xs) : WC ow H0 H L ((ds, xs) :: R) := ⟨w.os, w.ts, w.all, w.nd, w.nw, w.nt, fun e he => by
  rcases List.mem_cons.mp he with rfl | he
  · exact r
  · exact w.rp e he, w.al⟩
theorem WC.perm (w : WC ow H0 H L R) (h : L.Perm L') : WC ow H0 H L' R := ⟨w.os, w.ts, fun e he => w.all e (h.mem_iff.mpr he), (h.map _).nodup_iff.mp w.nd, fun x hx => w.nw x ((h.map _).mem_iff.mpr hx), fun x hx => w.nt x (h.mem_iff.mpr hx), w.rp, w.al⟩
theorem WC.sm (w : WC [] H0 H L R) : Same H0 H := fun a o e => w.os a o (by simp) e
/-- a list that a call has made -/
theorem WC.got (w : WC ow H0 H L R) (w' : WC ow H0 H' L R) (hn : H q = none) (h : H' q = some (.lst xs)) : WC ow H0 H' ((q, .lst xs) :: L) R := by
  refine ⟨w'.os, w'.ts, fun e he => ?_, ?_, fun x hx => ?_, fun x hx => ?_, w'.rp, w'.al⟩
  · rcases List.mem_cons.mp he with rfl | he
    · exact h
    · exact w'.all e he
  · rw [List.map_cons, List.nodup_cons]
    exact ⟨w.mem hn, w.nd⟩
  · rcases List.mem_cons.mp hx with rfl | hx
    · exact w.free hn
    · exact w.nw x hx
  · rcases List.mem_cons.mp hx with rfl | hx
    · intro ys z; cases z
    · exact w.nt x hx
/-- something that changes only what is old at ow', or new -/
theorem WC.call {ow' : List Addr} (w : WC ow H0 H L R) (s : OSame ow' H H') (t : TSame H H') (h : ∀ x ∈ ow', x ∈ ow) (ho : ∀ x ∈ ow', H0 x ≠ none) (al : ∀ x ∈ ow', H' x ≠ none) : WC ow H0 H' L R := by
  refine ⟨fun a o n e => s _ _ (fun m => n (h a m)) (w.os a o n e), w.ts.trans t, w.all.by fun x o hx e => s _ _ (fun m => ho x m (w.nw x hx)) e, w.nd, w.nw, w.nt, fun e he => (w.rp e he).mono t, fun x hx => ?_⟩
  by_cases m : x ∈ ow'
  · exact al x m
  · intro e
    cases q : H x with
    | none => exact w.al x hx q
    | some o => rw [s _ _ m q] at e; cases e
end
/-! ### with the law's bag -/
structure WB (b l : Addr) (H0 H : Hp) (L : List (Addr × HO)) (R : List (List D × List V)) : Prop extends WC [b] H0 H L R where
  bag : BagAt H b l
  ob : H0 b ≠ none
  ol : H0 l ≠ none
section
variable {b l : Addr} {H0 H H' : Hp} {L L' l1 l2 : List (Addr × HO)} {R R' : List (List D × List V)} {Q : VK} {E : XK} {a q : Addr} {o : HO} {xs ys vs : List V} {ds : List D} {d : D} {v : V}
theorem BagAt.al (B : BagAt H b l) : H b ≠ none ∧ H l ≠ none := by
  obtain ⟨xs, i, m, st, c, e1, e2, r⟩ := B.ex
  rw [e1, e2]; simp
theorem WB.start (B : BagAt H b l) : WB b l H H [] [] := ⟨WC.start (fun x hx => by rw [List.mem_singleton.mp hx]; exact B.al.1), B, B.al.1, B.al.2⟩
theorem WB.bs (w : WB b l H0 H L R) : BSame b H0 H := fun a o n e => w.os a o (by simpa using n) e
theorem WB.up (w : WB b l H0 H L R) (c : WC [b] H0 H' L' R') (s : Same H H') : WB b l H0 H' L' R' := ⟨c, w.bag.mono s, w.ob, w.ol⟩
theorem WB.drew (w : WB b l H0 H L R) (B : BagAt H' b l) (s : BSame b H H') : WB b l H0 H' L R :=
  ⟨w.toWC.call (ow' := [b]) (fun a o n e => s a o (by simpa using n) e) (s.ts w.bag) (fun x hx => hx) (fun x hx => by rw [List.mem_singleton.mp hx]; exact w.ob) (fun x hx => by rw [List.mem_singleton.mp hx]; exact B.al.1), B, w.ob, w.ol⟩
theorem WB.draw {n : Int} (w : WB b l H0 H L R) (hn : 0 < n) (hm : n ≤ 10 ^ 65) (k : ∀ r H', 0 ≤ r → r < n → WB b l H0 H' L R → Q (.int r) H') : sp_draw [.ref b, .int n] H Q E :=
  use2 ⟨b, l, n, rfl, rfl, ⟨hn, hm⟩, w.bag, fun r H' r0 r1 B s => k r H' r0 r1 (w.drew B s)⟩
theorem WB.num (w : WB b l H0 H L R) (k : ∀ r H', r.natAbs ≤ 10 ^ 60 → WB b l H0 H' L R → Q (.int r) H') : sp_number [.ref b] H Q E :=
  use1 ⟨b, l, rfl, w.bag, fun r H' r0 B s => k r H' r0 (w.drew B s)⟩
theorem WB.newL (w : WB b l H0 H L R) (h : H a = none) : WB b l H0 (upd H a (.lst xs)) ((a, .lst xs) :: L) R := w.up (w.toWC.newL h) (Same.new h)
theorem WB.newT (w : WB b l H0 H L R) (r : Reps H ds xs) (h : H a = none) : WB b l H0 (upd H a (.tup xs)) L (([.tup ds], [.ref a]) :: R) := w.up (w.toWC.newT r h) (Same.new h)
theorem WB.nl (w : WB b l H0 H L R) (k : ∀ q H', WB b l H0 H' ((q, .lst xs) :: L) R → Q (.ref q) H') : ∀ p, H p = none → Q (.ref p) (upd H p (.lst xs)) := fun p hp => k p _ (w.newL hp)
theorem WB.mkL (w : WB b l H0 H L R) (k : ∀ q H', WB b l H0 H' ((q, .lst xs) :: L) R → Q (.ref q) H') (hl : Nat.ble xs.length 1000 = true := by rfl) : NewL xs H Q := ⟨mk_le hl, w.nl k⟩
theorem WB.nt' (w : WB b l H0 H L R) (r : Reps H ds xs) (k : ∀ q H', H' q = some (.tup xs) → WB b l H0 H' L (([.tup ds], [.ref q]) :: R) → Q (.ref q) H') : ∀ p, H p = none → Q (.ref p) (upd H p (.tup xs)) := fun p hp => k p _ upd_same (w.newT r hp)
theorem WB.mkT (w : WB b l H0 H L R) (r : Reps H ds xs) (k : ∀ q H', H' q = some (.tup xs) → WB b l H0 H' L (([.tup ds], [.ref q]) :: R) → Q (.ref q) H') (hl : Nat.ble xs.length 1000 = true := by rfl) : NewT xs H Q := ⟨mk_le hl, w.nt' r k⟩
theorem WB.wr (w : WB b l H0 H (l1 ++ (q, o) :: l2) R) : WB b l H0 (upd H q (.lst ys)) (l1 ++ (q, .lst ys) :: l2) R := by
  have h0 : H0 q = none := w.nw q (by simp)
  exact ⟨w.toWC.wr, w.bag.wr (fun z => w.ob (z ▸ h0)) (fun z => w.ol (z ▸ h0)), w.ob, w.ol⟩
theorem WB.app (w : WB b l H0 H (l1 ++ (q, .lst xs) :: l2) R) (hz : xs.length < sizeLine) (k : ∀ H', WB b l H0 H' (l1 ++ (q, .lst (xs ++ [v])) :: l2) R → Q .non H') : rAppend (.ref q) [v] H Q := rd_append (AllAt.here w.all) hz (k _ w.wr)
theorem WB.app0 (w : WB b l H0 H ((q, .lst xs) :: L) R) (hz : xs.length ≤ 200000) (k : ∀ H', WB b l H0 H' ((q, .lst (xs ++ [v])) :: L) R → Q .non H') : rAppend (.ref q) [v] H Q := WB.app (l1 := []) w (Nat.lt_of_le_of_lt hz (by rw [sizeLine_eq]; decide)) k
theorem WB.noR (w : WB b l H0 H L R) : WB b l H0 H L [] := ⟨w.toWC.noR, w.bag, w.ob, w.ol⟩
theorem WB.subR (w : WB b l H0 H L R) (h : ∀ e ∈ R', e ∈ R) : WB b l H0 H L R' := ⟨w.toWC.subR h, w.bag, w.ob, w.ol⟩
theorem WB.subL (w : WB b l H0 H L R) (h : L'.Sublist L) : WB b l H0 H L' R := ⟨w.toWC.subL h, w.bag, w.ob, w.ol⟩
theorem WB.noL (w : WB b l H0 H L R) : WB b l H0 H [] R := ⟨w.toWC.noL, w.bag, w.ob, w.ol⟩
theorem WB.addRs (w : WB b l H0 H L R) (r : Reps H ds xs) : WB b l H0 H L ((ds, xs) :: R) := ⟨w.toWC.addRs r, w.bag, w.ob, w.ol⟩
theorem WB.got (w : WB b l H0 H L R) (w' : WB b l H0 H' L R) (hn : H q = none) (h : H' q = some (.lst xs)) : WB b l H0 H' ((q, .lst xs) :: L) R := ⟨w.toWC.got w'.toWC hn h, w'.bag, w'.ob, w'.ol⟩
end
section
variable {ow : List Addr} {b l : Addr} {K : PySem.W.Frag} {H0 H H' : Hp} {L L' l1 l2 : List (Addr × HO)} {R R' : List (List D × List V)} {Q : VK} {E : XK} {a q p : Addr} {o : HO} {xs ys zs vs : List V} {ds : List D} {d : D} {v : V}
theorem WC.lstOf (w : WC ow H0 H L R) (h : SqL K H p ys ∨ SqT K H p ys) (k : ∀ q H', WC ow H0 H' ((q, .lst ys) :: L) R → Q (.ref q) H') : rLstOf K [.ref p] H Q := rd_lstOf h (w.nl k)
theorem WC.cat (w : WC ow H0 H L R) (h1 : H p = some (.lst xs)) (h2 : H q = some (.lst zs)) (hl : xs.length + zs.length ≤ 1000000) (k : ∀ q H', WC ow H0 H' ((q, .lst (xs ++ zs)) :: L) R → Q (.ref q) H') : rCat (.ref p) (.ref q) H Q := rd_cat h1 h2 (small_le' hl) (w.nl k)
theorem WC.sl {lo hi : Option Int} (w : WC ow H0 H L R) (h : SqL K H a xs) (k : ∀ q H', WC ow H0 H' ((q, .lst (cutV xs lo hi)) :: L) R → Q (.ref q) H') : rSlL K (.ref a) lo hi H Q := rd_slL h (w.nl k)
theorem WB.cat (w : WB b l H0 H L R) (h1 : H p = some (.lst xs)) (h2 : H q = some (.lst zs)) (hl : xs.length + zs.length ≤ 1000000) (k : ∀ q H', WB b l H0 H' ((q, .lst (xs ++ zs)) :: L) R → Q (.ref q) H') : rCat (.ref p) (.ref q) H Q := rd_cat h1 h2 (small_le' hl) (w.nl k)
theorem WB.tupOf (w : WB b l H0 H L R) (h : SqL K H p xs) (r : Reps H ds xs) (k : ∀ q H', H' q = some (.tup xs) → WB b l H0 H' L (([.tup ds], [.ref q]) :: R) → Q (.ref q) H') : rTupOf K [.ref p] H Q := rd_tupL h (w.nt' r k)
theorem WB.sl {lo hi : Option Int} (w : WB b l H0 H L R) (h : SqL K H a xs) (k : ∀ q H', WB b l H0 H' ((q, .lst (cutV xs lo hi)) :: L) R → Q (.ref q) H') : rSlL K (.ref a) lo hi H Q := rd_slL h (w.nl k)
theorem rd_neLI {ns ms : List Int} (h1 : SqL K H a (ns.map V.int)) (h2 : SqL K H q (ms.map V.int)) (k : Q (.bl (!decide (ns = ms))) H) : rNeL K (.ref a) (.ref q) H Q := by
  refine ⟨a, q, _, _, ns.map D.int, ms.map D.int, rfl, rfl, h1, h2, reps_of_ints ns, reps_of_ints ms, pls_ints _, pls_ints _, by rw [deps_ints]; omega, ?_⟩
  have e : eqD (.tup (ns.map D.int)) (.tup (ms.map D.int)) = decide (ns = ms) := by
    by_cases h : ns = ms
    · subst h; rw [eqD_same]; simp
    · rw [eqD_false (fun z => h ?_)]
      · simp [h]
      · injection z with z
        have inj : ∀ (l1 l2 : List Int), l1.map D.int = l2.map D.int → l1 = l2 := by
          intro l1
          induction l1 with
          | nil => intro l2 e; cases l2 with | nil => rfl | cons _ _ => simp at e
          | cons x l1 ih => intro l2 e; cases l2 with
            | nil => simp at e
            | cons y l2 => simp at e; rw [e.1, ih l2 (by simpa using e.2)]
        exact inj _ _ z
  rw [e]; exact k
end
/-! ### slices of tuples -/
end L2

end
section


set_option Elab.async false
set_option linter.all false
set_option maxRecDepth 100000
set_option maxHeartbeats 4000000

namespace My
open PySem L2
local macro_rules | `(tactic| walk_at "rd1") => `(tactic| (first | ((with_reducible refine' rd_var ?e ?_); (case e => exact rfl)) | with_reducible refine rd_c ?_ | with_reducible refine rd_op ?_ | with_reducible refine rd_un ?_ | with_reducible refine rd_seq ?_ | with_reducible refine rd_asg ?_ | with_reducible refine rd_gname ?_ | with_reducible refine rd_ret ?_ | with_reducible refine rd_drop ?_ | with_reducible refine rd_next ?_ | with_reducible refine rd_if ?_ | with_reducible refine rd_test ?_ | with_reducible refine rd_tb ?_ | with_reducible refine rd_and ?_ | with_reducible refine rd_or ?_ | with_reducible refine rd_not ?_ | with_reducible refine rd_true ?_ | with_reducible refine rd_andV ?_ | with_reducible refine rd_orV ?_ | with_reducible refine rd_notV ?_ | with_reducible refine rd_ifE ?_ | with_reducible refine rd_chain ?_ | with_reducible refine rd_nil ?_ | with_reducible refine rd_cons ?_ | with_reducible refine rd_cb ?_ | with_reducible refine rd_call ?_ | with_reducible refine rd_I0 ?_ | with_reducible refine rd_U ?_ | with_reducible refine rd_eqI ?_ | with_reducible refine rd_neI ?_ | with_reducible refine rd_eqS ?_ | with_reducible refine rd_neS ?_ | with_reducible refine rd_eqB ?_ | with_reducible refine rd_neB ?_ | with_reducible refine rd_bl ?_ | with_reducible refine rd_int ?_ | with_reducible refine rd_tupN ?_ | with_reducible refine rd_lstN ?_ | with_reducible refine rd_gsub ?_ | with_reducible refine rd_slice ?_ | with_reducible refine rd_nopart ?_ | with_reducible refine rd_part ?_ | with_reducible refine rd_bm ?_ | with_reducible refine rd_bm0 ?_ | with_reducible refine rd_comp ?_ | with_reducible refine rd_itup ?_ | with_reducible refine rd_ilist ?_ | with_reducible refine rd_irng ?_ | with_reducible refine rd_gcons ?_ | with_reducible refine rd_gnil ?_ | with_reducible refine rd_for ?_ | with_reducible refine rd_abs ?_ | with_reducible refine rd_max ?_ | with_reducible refine rd_min ?_ | with_reducible refine rd_intB ?_ | with_reducible refine rd_dput ?_ | with_reducible refine rd_dget2 ?_ | with_reducible refine rd_dget ?_ | with_reducible refine rd_fld ?_ | with_reducible refine rd_sfld ?_ | with_reducible refine rd_meth ?_ | with_reducible refine rd_makeN ?_ | with_reducible refine rd_isN ?_ | with_reducible refine rd_notN ?_ | with_reducible refine rd_izip ?_ | with_reducible refine iteNT ?_ | with_reducible refine iteNF ?_ | with_reducible refine iteF ?_ | with_reducible refine iteT ?_))
local macro_rules | `(tactic| walk_at "rd") => `(tactic| (repeat walk_at "rd1"))
local macro_rules | `(tactic| walk_at "mk") => `(tactic| refine ⟨mk_le rfl, ?_⟩)
local macro_rules | `(tactic| walk_at "rp") => `(tactic| (repeat first | exact reps_nil | refine reps_cons rep_int ?_ | refine reps_cons (by rw [Rep]) ?_ | refine reps_cons (by rw [Rep]; rfl) ?_ | refine reps_cons (by assumption) ?_))

section
variable {P : Program} {w : World} {K : PySem.W.Frag} {mg : Str → Option Value} {base : Heap}
section
def sp_great : Sp := sp1 fun x H Q => ∃ b l, x = .ref b ∧ BagAt H b l ∧ ∀ r H', r.natAbs ≤ 10 ^ 305 → BagAt H' b l → BSame b H H' → Q (.int r) H'
theorem great_step {n d : Int} {i : Nat} (h : n.natAbs ≤ 10 ^ (61 * (i + 1))) (d0 : 0 ≤ d) (d1 : d < 10 ^ 60) : (n * 10 ^ 60 + d).natAbs ≤ 10 ^ (61 * (i + 1 + 1)) := by
  have h1 : (n * 10 ^ 60 + d).natAbs ≤ (n * 10 ^ 60).natAbs + d.natAbs := Int.natAbs_add_le _ _
  rw [Int.natAbs_mul] at h1
  have e1 : ((10 : Int) ^ 60).natAbs = 10 ^ 60 := by decide
  rw [e1] at h1
  have h2 : n.natAbs * 10 ^ 60 ≤ 10 ^ (61 * (i + 1)) * 10 ^ 60 := Nat.mul_le_mul_right _ h
  have h3 : d.natAbs ≤ 10 ^ 60 := by omega
  have h4 : (10 : Nat) ^ (61 * (i + 1 + 1)) = 10 ^ (61 * (i + 1)) * 10 ^ 60 * 10 := by
    rw [show 61 * (i + 1 + 1) = 61 * (i + 1) + 60 + 1 by omega, Nat.pow_succ, Nat.pow_add]
  have h5 : 1 ≤ (10 : Nat) ^ (61 * (i + 1)) := Nat.pos_of_ne_zero (by simp)
  have h6 : 1 * 10 ^ 60 ≤ (10 : Nat) ^ (61 * (i + 1)) * 10 ^ 60 := Nat.mul_le_mul_right _ h5
  rw [h4]
  omega
theorem great_big {n : Int} {i : Nat} (h : n.natAbs ≤ 10 ^ (61 * (i + 1))) (hi : i ≤ 4) : n.natAbs ≤ 10 ^ 305 := Nat.le_trans h (Nat.pow_le_pow_right (by decide) (by omega))
theorem big305 {n : Int} (h : n.natAbs ≤ 10 ^ 306) : n.natAbs < 2 ^ 8000 := Nat.lt_of_le_of_lt h (by decide +kernel)
theorem sc__law_great : FnScope ["bag", "number", "k"] ["bag"] (defScope s__law_great) := ⟨rfl, rfl, rfl, by decide +kernel, rfl, by decide +kernel, by decide +kernel⟩
theorem c__law_great (B : Blt mg) (T__law_great : TopFn K mg "_law_great" s__law_great ["bag"]) (C_law_draw : Callee P w K mg base "_law_draw" 1 ["bag", "many"] sp_draw) (C_law_number : Callee P w K mg base "_law_number" 2 ["bag"] sp_number) : Callee P w K mg base "_law_great" 3 ["bag"] sp_great := by
  refine T__law_great.ok1 sc__law_great fun f cdv A outer s H v1 Q E hr hh => ?_
  have nd := sc__law_great.nd
  obtain ⟨b, l, rfl, Bg, k⟩ := hh
  refine' go_body [some (.ref b), none, none] rfl ?hb ?hg
  case hb =>
   refine' pss_cons ?zb ?zc
   case zb =>
    refine' ps_setS (i := 1) ?zd ?ze ?zf ?zg
    case zd => exact nd
    case ze => exact rfl
    case zf => exact (Or.inl rfl)
    case zg =>
     refine' pe_ix ?zh ?zi ?zj ?zk
     case zh => exact (k_ix (K := K) rfl)
     case zi =>
      refine' pe_lst ?zl
      case zl =>
       refine' pa_consB ?zm ?zn
       case zm => exact (pe_op op_sub (pe_fn C_law_draw (hr.mono (by first | decide | omega)) (by rfl) (pa_consN (pv 0) (pa_consK pe_int pa_nil))) pe_int)
       case zn => exact (pa_consC (pe_fn C_law_number (hr.mono (by first | decide | omega)) (by rfl) (pa_consN (pv 0) pa_nil)) pa_nil)
     case zj => exact (pe_fn C_law_draw (hr.mono (by first | decide | omega)) (by rfl) (pa_consN (pv 0) (pa_consK pe_int pa_nil)))
     case zk => exact (fun _ _ => rfl)
   case zc =>
    refine' pss_cons ?zo ?zp
    case zo =>
     refine' ps_for ?zq ?zr ?zs ?zt ?zu
     case zq => exact PassesOwn.never
     case zr => exact rfl
     case zs =>
      refine' pi_range1 ?zv ?zw ?zx
      case zv => exact rfl
      case zw => exact B.b_range
      case zx =>
       refine' pa_consB ?zy ?zz
       case zy =>
        refine' pe_op ?zba ?zbb ?zbc
        case zba => exact op_mulB
        case zbb => exact pe_int
        case zbc => exact (pe_op op_fdivB (pe_fn C_law_draw (hr.mono (by first | decide | omega)) (by rfl) (pa_consN (pv 0) (pa_consK pe_int pa_nil))) pe_int)
       case zz => exact pa_nil
     case zt => exact (pg_name (i := 2) nd rfl (Or.inl rfl))
     case zu =>
      refine' pss_one ?zbd
      case zbd =>
       refine' ps_setB (i := 1) ?zbe ?zbf ?zbg ?zbh
       case zbe => exact nd
       case zbf => exact rfl
       case zbg => exact (Or.inl rfl)
       case zbh =>
        refine' pe_op ?zbi ?zbj ?zbk
        case zbi => exact op_add
        case zbj => exact (pe_op op_mulB (pv 1) (pe_op op_pow pe_int pe_int))
        case zbk => exact (pe_fn C_law_draw (hr.mono (by first | decide | omega)) (by rfl) (pa_consN (pv 0) (pa_consB (pe_op op_pow pe_int pe_int) pa_nil)))
    case zp => exact (pss_one (ps_ret (pv 1)))
  have w := WB.start Bg
  walk_at "rd"
  refine w.draw (by decide) (by decide) fun d H1 d0 d1 w => ?_
  walk_at "rd"
  refine w.num fun n H2 hn w => ?_
  walk_at "rd"
  refine w.mkL fun q H3 w => ?_
  walk_at "rd"
  refine w.draw (by decide) (by decide) fun wi H4 wi0 wi1 w => ?_
  walk_at "rd"
  obtain ⟨x, hx, hat⟩ : ∃ x : Int, x.natAbs ≤ 10 ^ (61 * (0 + 1)) ∧ atI [V.int (d - 4), V.int n] wi = some (.int x) := by
    have : wi = 0 ∨ wi = 1 := by omega
    rcases this with rfl | rfl
    · exact ⟨d - 4, by have : (d - 4).natAbs ≤ 10 := by omega
                       exact Nat.le_trans this (by decide), rfl⟩
    · exact ⟨n, Nat.le_trans hn (by decide), rfl⟩
  refine rd_ixaL w.get0 hat ?_
  walk_at "rd"
  refine w.draw (by decide) (by decide) fun z H5 z0 z1 w => ?_
  walk_at "rd"
  refine rd_I (cdivb_of (by decide) (by decide)) ?_
  walk_at "rd"
  have zz : z / 39 = 0 ∨ z / 39 = 1 := by omega
  refine rd_I ⟨big62 (by decide), big62 (by omega)⟩ ?_
  walk_at "rd"
  refine irK_of (by omega) (by omega) ?_
  refine for_range (n := (4 * (z / 39)).toNat) (fun i σ Hx => ∃ c2 x, σ = [some (.ref b), some (.int x), c2] ∧ x.natAbs ≤ 10 ^ (61 * (i + 1)) ∧ WB b l H Hx [] []) ⟨_, x, rfl, hx, w.noL⟩ ?_ ?_
  · rintro i σ Hx hi ⟨c2, x, rfl, hx, w⟩
    walk_at "rd"
    refine rd_I cpow60 ?_
    walk_at "rd"
    refine rd_I ⟨big305 (Nat.le_trans (great_big hx (by omega)) (Nat.pow_le_pow_right (by decide) (by decide))), big62 (by decide)⟩ ?_
    walk_at "rd"
    refine rd_I cpow60 ?_
    walk_at "rd"
    refine w.draw (by decide) (by decide) fun dd H6 dd0 dd1 w => ?_
    walk_at "rd"
    exact ⟨_, _, rfl, great_step hx dd0 dd1, w⟩
  · rintro σ Hx ⟨c2, x, rfl, hx, w⟩
    walk_at "rd"
    exact k x Hx (great_big hx (by omega)) w.bag w.bs
/-- a form's numbers and words, within bounds -/
structure FmOk (many : Int) (f : Int × List (Int × Int)) : Prop where
  c : f.1.natAbs ≤ 10 ^ 305
  p : ∀ p ∈ f.2, p.1.natAbs ≤ 10 ^ 306 ∧ 0 ≤ p.2 ∧ p.2 < many
  l : f.2.length ≤ 40
def fD (f : Int × List (Int × Int)) : D := formD f.1 f.2
def sp_form41 : Sp := sp2 fun x y H Q => ∃ b l many, x = .ref b ∧ y = .int many ∧ (0 ≤ many ∧ many ≤ 40) ∧ BagAt H b l ∧ ∀ f v H', FmOk many f → Rep H' (fD f) v → BagAt H' b l → BSame b H H' → Q v H'
theorem sc__law_form : FnScope ["bag", "many", "parts", "w", "a"] ["bag", "many"] (defScope s__law_form) := ⟨rfl, rfl, rfl, by decide +kernel, rfl, by decide +kernel, by decide +kernel⟩
theorem c__law_form (B : Blt mg) (T__law_form : TopFn K mg "_law_form" s__law_form ["bag", "many"]) (C_law_draw : Callee P w K mg base "_law_draw" 1 ["bag", "many"] sp_draw) (C_law_great : Callee P w K mg base "_law_great" 3 ["bag"] sp_great) : Callee P w K mg base "_law_form" 4 ["bag", "many"] sp_form41 := by
  refine T__law_form.ok2 sc__law_form fun f cdv A outer s H v1 v2 Q E hr hh => ?_
  have nd := sc__law_form.nd
  obtain ⟨b, l, many, rfl, rfl, ⟨m0, m1⟩, Bg, k⟩ := hh
  refine' go_body [some (.ref b), some (.int many), none, none, none] rfl ?hb ?hg
  case hb =>
   refine' pss_cons ?zbl ?zbm
   case zbl => exact (ps_setL (i := 2) nd rfl (Or.inl rfl) (pe_lst pa_nil))
   case zbm =>
    refine' pss_cons ?zbn ?zbo
    case zbn =>
     refine' ps_for ?zbp ?zbq ?zbr ?zbs ?zbt
     case zbp => exact PassesOwn.never
     case zbq => exact rfl
     case zbr => exact (pi_range1 rfl B.b_range (pa_consN (pv 1) pa_nil))
     case zbs => exact (pg_name (i := 3) nd rfl (Or.inl rfl))
     case zbt =>
      refine' pss_one ?zbu
      case zbu =>
       refine' ps_if ?zbv ?zbw ?zbx
       case zbv => exact (pt_cmpR op_eq (pe_fn C_law_draw (hr.mono (by first | decide | omega)) (by rfl) (pa_consN (pv 0) (pa_consK pe_int pa_nil))) pe_int (nomark _))
       case zbw =>
        refine' pss_cons ?zby ?zbz
        case zby => exact (ps_setC (i := 4) nd rfl (Or.inl rfl) (pe_fn C_law_great (hr.mono (by first | decide | omega)) (by rfl) (pa_consN (pv 0) pa_nil)))
        case zbz =>
         refine' pss_one ?zca
         case zca =>
          refine' ps_expr ?zcb
          case zcb =>
           refine' k_bm (K := K) ?zcc ?zcd ?zce ?zcf ?zcg ?zch ?zci
           case zcc => exact rfl
           case zcd => exact PySem.F.plainAttrs_list
           case zce => exact PySem.F.slot_list_append
           case zcf => exact PySem.F.type_list_append
           case zcg => exact mt_append
           case zch => exact (pv 2)
           case zci =>
            refine' pa_consT ?zcj ?zck
            case zcj =>
             refine' pe_tup ?zcl
             case zcl =>
              refine' pa_consB ?zcm ?zcn
              case zcm => exact (pe_op op_add (pv 4) (pe_callTy call_int' (by rfl) B.b_int bt_int (pa_consQ (pe_cmpR op_eq (pv 4) pe_int (nomark _)) pa_nil)))
              case zcn => exact (pa_consN (pv 3) pa_nil)
            case zck => exact pa_nil
       case zbx => exact pss_nil
    case zbo =>
     refine' pss_one ?zco
     case zco =>
      refine' ps_ret ?zcp
      case zcp =>
       refine' pe_tup ?zcq
       case zcq =>
        refine' pa_consC ?zcr ?zcs
        case zcr => exact (pe_fn C_law_great (hr.mono (by first | decide | omega)) (by rfl) (pa_consN (pv 0) pa_nil))
        case zcs => exact (pa_consC (pe_callTy (k_tupOf (K := K) rfl) (by rfl) B.b_tuple bt_tuple (pa_consN (pv 2) pa_nil)) pa_nil)
  have w := WB.start Bg
  walk_at "rd"
  refine w.mkL fun qa H1 w => ?_
  walk_at "rd"
  refine irK_of (by omega) (by omega) ?_
  refine for_range (n := many.toNat) (fun i σ Hx => ∃ c3 c4, σ = [some (.ref b), some (.int many), some (.ref qa), c3, c4] ∧ ∃ ps ys, WB b l H Hx [(qa, .lst ys)] [(ps.map pairD, ys)] ∧ ps.length ≤ i ∧ ∀ p ∈ ps, p.1.natAbs ≤ 10 ^ 306 ∧ 0 ≤ p.2 ∧ p.2 < many) ⟨_, _, rfl, [], [], w.addRs reps_nil, by simp, fun _ h => (by cases h)⟩ ?_ ?_
  · rintro i σ Hx hi ⟨c3, c4, rfl, ps, ys, w, hpl, hp⟩
    have hyl := w.rps0.length
    rw [List.length_map] at hyl
    walk_at "rd"
    refine w.draw (by decide) (by decide) fun d H2 d0 d1 w => ?_
    walk_at "rd"
    refine ite_dd (fun h => ?_) (fun h => rd_next ⟨_, _, rfl, ps, ys, w, by omega, hp⟩)
    walk_at "rd"
    refine use1 ⟨b, l, rfl, w.bag, fun a H3 ha B3 s3 => ?_⟩
    have w := w.drew B3 s3
    walk_at "rd"
    refine ⟨.inl ⟨rfl, _, SqL.of w.get0⟩, ?_⟩
    walk_at "rd"
    obtain ⟨a', ha', hb'⟩ : ∃ a' : Int, (a + if decide (a = 0) = true then (1 : Int) else 0) = a' ∧ a'.natAbs ≤ 10 ^ 306 := by
      refine ⟨_, rfl, ?_⟩
      have h5 : (10 : Nat) ^ 305 + 1 ≤ 10 ^ 306 := by decide
      split <;> omega
    rw [ha']
    refine w.mkT (ds := [.int a', .int (0 + i)]) (by walk_at "rp") fun u H4 _ w => ?_
    walk_at "rd"
    refine w.app0 (by omega) fun H5 w => ?_
    walk_at "rd"
    refine ⟨_, _, rfl, ps ++ [(a', 0 + (i : Int))], ys ++ [.ref u], w.noR.addRs ?_, by simp; omega, fun p hp' => ?_⟩
    · rw [List.map_append]
      exact w.rps1.append (reps_cons w.rp0 reps_nil)
    · rcases List.mem_append.mp hp' with h | h
      · exact hp p h
      · rw [List.mem_singleton.mp h]
        exact ⟨hb', by show 0 ≤ 0 + (i : Int); omega, by show 0 + (i : Int) < many; omega⟩
  · rintro σ Hx ⟨c3, c4, rfl, ps, ys, w, hpl, hp⟩
    walk_at "rd"
    refine use1 ⟨b, l, rfl, w.bag, fun c H2 hc B2 s2 => ?_⟩
    have w := w.drew B2 s2
    walk_at "rd"
    refine w.tupOf (SqL.of w.get0) w.rps0 fun t H3 _ w => ?_
    walk_at "rd"
    exact w.mkT (ds := [.int c, .tup (ps.map pairD)]) (reps_cons rep_int (reps_cons w.rp0 reps_nil)) fun u H4 _ w => k (c, ps) _ _ ⟨hc, hp, by show ps.length ≤ 40; omega⟩ w.rp0 w.bag w.bs
abbrev SFr := Int × Int × List (Int × List (Int × Int))
def sfD (s : SFr) : D := .tup [.int s.1, .int s.2.1, .tup (s.2.2.map fD)]
def SfOk (many : Int) (s : SFr) : Prop := s.2.2.length ≤ 100 ∧ ∀ f ∈ s.2.2, FmOk many f
def sp_paper41 : Sp := sp2 fun x y H Q => ∃ b l many, x = .ref b ∧ y = .int many ∧ (0 ≤ many ∧ many ≤ 40) ∧ BagAt H b l ∧ ∀ q sp vs H', H q = none → H' q = some (.lst vs) → Reps H' ((sp : List SFr).map sfD) vs → sp.length ≤ 4 → sp ≠ [] → (∀ s ∈ sp, SfOk many s) → BagAt H' b l → BSame b H H' → Q (.ref q) H'
theorem sc__law_paper : FnScope ["bag", "many", "sizes", "paper", "k", "f"] ["bag", "many"] (defScope s__law_paper) := ⟨rfl, rfl, rfl, by decide +kernel, rfl, by decide +kernel, by decide +kernel⟩
theorem c__law_paper (B : Blt mg) (T__law_paper : TopFn K mg "_law_paper" s__law_paper ["bag", "many"]) (C_law_draw : Callee P w K mg base "_law_draw" 1 ["bag", "many"] sp_draw) (C_law_form : Callee P w K mg base "_law_form" 4 ["bag", "many"] sp_form41) : Callee P w K mg base "_law_paper" 5 ["bag", "many"] sp_paper41 := by
  refine T__law_paper.ok2 sc__law_paper fun f cdv A outer s H v1 v2 Q E hr hh => ?_
  have nd := sc__law_paper.nd
  obtain ⟨b, l, many, rfl, rfl, ⟨m0, m1⟩, Bg, k⟩ := hh
  refine' go_body [some (.ref b), some (.int many), none, none, none, none] rfl ?hb ?hg
  case hb =>
   refine' pss_cons ?zct ?zcu
   case zct =>
    refine' ps_setc (i := 2) (LN := ["k"]) (FN := ["bag"]) (fr := [0]) ?zcv ?zcw ?zcx ?zcy ?zcz ?zda ?zdb ?zdc ?zdd
    case zcv => exact rfl
    case zcw => exact nd
    case zcx => exact rfl
    case zcy => exact rfl
    case zcz => exact (bk_of (by rfl))
    case zda => exact (pi_range1 rfl B.b_range (pa_consK pe_int pa_nil))
    case zdb =>
     intro cl C fp pins s H
     exact (pg_name (i := 0) (show ((["k"] : List Str) ++ (["bag"] : List Str)).Nodup by decide +kernel) rfl (Or.inl rfl))
    case zdc =>
     intro cl C fp pins s H
     exact pts_nil
    case zdd =>
     intro cl C fp pins s H
     exact (pe_op op_add pe_int (pe_fn C_law_draw (hr.mono (by first | decide | omega)) (by rfl) (pa_consN (pv 1) (pa_consK pe_int pa_nil))))
   case zcu =>
    refine' pss_cons ?zde ?zdf
    case zde => exact (ps_setL (i := 3) nd rfl (Or.inl rfl) (pe_lst pa_nil))
    case zdf =>
     refine' pss_cons ?zdg ?zdh
     case zdg =>
      refine' ps_for ?zdi ?zdj ?zdk ?zdl ?zdm
      case zdi => exact PassesOwn.never
      case zdj => exact rfl
      case zdk =>
       refine' pi_range1 ?zdn ?zdo ?zdp
       case zdn => exact rfl
       case zdo => exact B.b_range
       case zdp => exact (pa_consB (pe_op op_add pe_int (pe_fn C_law_draw (hr.mono (by first | decide | omega)) (by rfl) (pa_consN (pv 0) (pa_consK pe_int pa_nil)))) pa_nil)
      case zdl => exact (pg_name (i := 4) nd rfl (Or.inl rfl))
      case zdm =>
       refine' pss_cons ?zdq ?zdr
       case zdq => exact (ps_setC (i := 5) nd rfl (Or.inl rfl) (pe_fn C_law_draw (hr.mono (by first | decide | omega)) (by rfl) (pa_consN (pv 0) (pa_consK pe_int pa_nil))))
       case zdr =>
        refine' pss_one ?zds
        case zds =>
         refine' ps_expr ?zdt
         case zdt =>
          refine' k_bm (K := K) ?zdu ?zdv ?zdw ?zdx ?zdy ?zdz ?zea
          case zdu => exact rfl
          case zdv => exact PySem.F.plainAttrs_list
          case zdw => exact PySem.F.slot_list_append
          case zdx => exact PySem.F.type_list_append
          case zdy => exact mt_append
          case zdz => exact (pv 3)
          case zea =>
           refine' pa_consT ?zeb ?zec
           case zeb =>
            refine' pe_tup ?zed
            case zed =>
             refine' pa_consN ?zee ?zef
             case zee => exact (pv 5)
             case zef =>
              refine' pa_consC ?zeg ?zeh
              case zeg => exact (pe_fn C_law_draw (hr.mono (by first | decide | omega)) (by rfl) (pa_consN (pv 0) (pa_consK pe_int pa_nil)))
              case zeh =>
               refine' pa_consC ?zei ?zej
               case zei =>
                refine' pe_callTy ?zek ?zel ?zem ?zen ?zeo
                case zek => exact (k_tupOf (K := K) rfl)
                case zel => exact (by rfl)
                case zem => exact B.b_tuple
                case zen => exact bt_tuple
                case zeo =>
                 refine' pa_consM ?zep ?zeq
                 case zep =>
                  refine' pe_comp (LN := ["box"]) (FN := ["bag", "many"]) (fr := [0, 1]) ?zer ?zes ?zet ?zeu ?zev ?zew
                  case zer => exact rfl
                  case zes => exact (bk_of (by rfl))
                  case zet => exact (pi_range1 rfl B.b_range (pa_consS (pe_ix (k_ix (K := K) rfl) (pv 2) (pv 5) (fun _ _ => rfl)) pa_nil))
                  case zeu =>
                   intro cl C fp pins s H
                   exact (pg_name (i := 0) (show ((["box"] : List Str) ++ (["bag", "many"] : List Str)).Nodup by decide +kernel) rfl (Or.inl rfl))
                  case zev =>
                   intro cl C fp pins s H
                   exact pts_nil
                  case zew =>
                   intro cl C fp pins s H
                   exact (pe_fn C_law_form (hr.mono (by first | decide | omega)) (by rfl) (pa_consN (pv 1) (pa_consN (pv 2) pa_nil)))
                 case zeq => exact pa_nil
               case zej => exact pa_nil
           case zec => exact pa_nil
     case zdh => exact (pss_one (ps_ret (pv 3)))
  have w := WB.start Bg
  walk_at "rd"
  refine irK_of (by omega) (by omega) ?_
  refine cw_range (n := 6) (small_le (by omega)) (fun i ys σ Hy => (∃ x1, σ = [x1, some (.ref b)]) ∧ WB b l H Hy [] [] ∧ ∃ zs : List Int, zs.length = i ∧ ys = zs.map V.int ∧ ∀ x ∈ zs, 1 ≤ x ∧ x ≤ 8) ⟨⟨none, rfl⟩, w, [], rfl, rfl, fun _ h => (by cases h)⟩ ?_ ?_
  · rintro i ys σ Hy hi hle hlt ⟨⟨x1, rfl⟩, w, zs, hzl, rfl, hz⟩
    walk_at "rd"
    refine w.draw (by decide) (by decide) fun x Hz x0 x1' w => ?_
    walk_at "rd"
    refine ⟨hlt, by simp; omega, ⟨_, rfl⟩, w, zs ++ [1 + x], by simp [hzl], by simp, fun y hy => ?_⟩
    rcases List.mem_append.mp hy with h | h
    · exact hz y h
    · rw [List.mem_singleton.mp h]; omega
  rintro ys σ Hy hyl ⟨⟨x1, rfl⟩, w, zs, hzl, rfl, hz⟩ sa hsa
  have w := w.newL (xs := zs.map V.int) hsa
  generalize upd Hy sa (HO.lst (zs.map V.int)) = H2 at w
  refine rd_gname ?_
  walk_at "rd"
  refine w.mkL fun qa H3 w => ?_
  walk_at "rd"
  refine w.draw (by decide) (by decide) fun n H4 n0 n1 w => ?_
  walk_at "rd"
  refine irK_of (by omega) (by omega) ?_
  refine for_range (n := (1 + n).toNat) (fun i σ Hx => ∃ c4 c5, σ = [some (.ref b), some (.int many), some (.ref sa), some (.ref qa), c4, c5] ∧ ∃ (sp : List SFr) (vs : List V), WB b l H Hx [(qa, .lst vs), (sa, .lst (zs.map V.int))] [(sp.map sfD, vs)] ∧ sp.length = i ∧ ∀ s ∈ sp, SfOk many s) ⟨_, _, rfl, [], [], w.addRs reps_nil, rfl, fun _ h => (by cases h)⟩ ?_ ?_
  · rintro i σ Hx hi ⟨c4, c5, rfl, sp, vs, w, hsl, hsp⟩
    have hvl := w.rps0.length
    rw [List.length_map] at hvl
    walk_at "rd"
    refine w.draw (by decide) (by decide) fun f0 H5 f00 f01 w => ?_
    walk_at "rd"
    refine ⟨.inl ⟨rfl, _, SqL.of w.get0⟩, ?_⟩
    walk_at "rd"
    refine w.draw (by decide) (by decide) fun at0 H6 at00 at01 w => ?_
    walk_at "rd"
    obtain ⟨z, hz1, hz2⟩ : ∃ z : Int, (1 ≤ z ∧ z ≤ 8) ∧ atI (zs.map V.int) f0 = some (.int z) := by
      obtain ⟨z, hm, e⟩ := atI_mem (ms := zs) f00 (by omega)
      exact ⟨z, hz z hm, e⟩
    refine rd_ixaL w.get1 hz2 ?_
    walk_at "rd"
    refine irK_of (by omega) (by omega) ?_
    refine cw_range (n := z.toNat) (small_le (by omega)) (fun j ys σ Hy => (∃ x1, σ = [x1, some (.ref b), some (.int many)]) ∧ ∃ fs, WB b l H Hy [(qa, .lst vs), (sa, .lst (zs.map V.int))] [(fs.map fD, ys), (sp.map sfD, vs)] ∧ fs.length = j ∧ ∀ f ∈ fs, FmOk many f) ⟨⟨none, rfl⟩, [], w.addRs reps_nil, rfl, fun _ h => (by cases h)⟩ ?_ ?_
    · rintro j ys σ Hy hj hle' hlt' ⟨⟨x1, rfl⟩, fs, w, hfl, hfs⟩
      walk_at "rd"
      refine use2 ⟨b, l, many, rfl, rfl, ⟨m0, m1⟩, w.bag, fun f v Hz okf rf Bz bz => ?_⟩
      have w := w.drew Bz bz
      refine ⟨hlt', by simp; omega, ⟨_, rfl⟩, fs ++ [f], (w.subR (R' := [(sp.map sfD, vs)]) (by simp)).addRs ?_, by simp [hfl], fun f' hf' => ?_⟩
      · rw [List.map_append]
        exact w.rps0.append (reps_cons rf reps_nil)
      · rcases List.mem_append.mp hf' with h | h
        · exact hfs f' h
        · rw [List.mem_singleton.mp h]; exact okf
    · rintro ys σ Hy hyl' ⟨⟨x1, rfl⟩, fs, w, hfl, hfs⟩ pz hpz
      have w := w.newL (xs := ys) hpz
      walk_at "rd"
      refine w.tupOf (SqL.of w.get0) w.rps0 fun t H7 _ w => ?_
      walk_at "rd"
      refine w.mkT (ds := [.int f0, .int at0, .tup (fs.map fD)]) (reps_cons rep_int (reps_cons rep_int (reps_cons w.rp0 reps_nil))) fun u H8 _ w => ?_
      walk_at "rd"
      refine WB.app (l1 := [_]) w (Nat.lt_of_le_of_lt (show vs.length ≤ 200000 by omega) (by rw [sizeLine_eq]; decide)) fun H9 w => ?_
      walk_at "rd"
      have w' : WB b l H H9 [(qa, .lst (vs ++ [.ref u])), (sa, .lst (zs.map V.int))] [] := w.noR.subL (List.Sublist.cons _ (List.Sublist.refl _))
      refine ⟨_, _, rfl, sp ++ [(f0, at0, fs)], vs ++ [.ref u], w'.addRs ?_, by simp [hsl], fun s hs => ?_⟩
      · rw [List.map_append]
        have r4 : Reps H9 (sp.map sfD) vs := w.rp (sp.map sfD, vs) (by simp)
        exact r4.append (reps_cons w.rp0 reps_nil)
      · rcases List.mem_append.mp hs with h | h
        · exact hsp s h
        · rw [List.mem_singleton.mp h]
          exact ⟨by show fs.length ≤ 100; omega, hfs⟩
  · rintro σ Hx ⟨c4, c5, rfl, sp, vs, w, hsl, hsp⟩
    walk_at "rd"
    exact k qa sp vs Hx (w.nw qa (by simp)) w.get0 w.rps0 (by omega) (fun e => by rw [e] at hsl; simp at hsl; omega) hsp w.bag w.bs

end
end
end My

end
section


set_option Elab.async false
set_option linter.all false
set_option maxRecDepth 100000
set_option maxHeartbeats 4000000

namespace My
open PySem L2
local macro_rules | `(tactic| walk_at "rd1") => `(tactic| (first | ((with_reducible refine' rd_var ?e ?_); (case e => exact rfl)) | with_reducible refine rd_c ?_ | with_reducible refine rd_op ?_ | with_reducible refine rd_un ?_ | with_reducible refine rd_seq ?_ | with_reducible refine rd_asg ?_ | with_reducible refine rd_gname ?_ | with_reducible refine rd_ret ?_ | with_reducible refine rd_drop ?_ | with_reducible refine rd_next ?_ | with_reducible refine rd_if ?_ | with_reducible refine rd_test ?_ | with_reducible refine rd_tb ?_ | with_reducible refine rd_and ?_ | with_reducible refine rd_or ?_ | with_reducible refine rd_not ?_ | with_reducible refine rd_true ?_ | with_reducible refine rd_andV ?_ | with_reducible refine rd_orV ?_ | with_reducible refine rd_notV ?_ | with_reducible refine rd_ifE ?_ | with_reducible refine rd_chain ?_ | with_reducible refine rd_nil ?_ | with_reducible refine rd_cons ?_ | with_reducible refine rd_cb ?_ | with_reducible refine rd_call ?_ | with_reducible refine rd_I0 ?_ | with_reducible refine rd_U ?_ | with_reducible refine rd_eqI ?_ | with_reducible refine rd_neI ?_ | with_reducible refine rd_eqS ?_ | with_reducible refine rd_neS ?_ | with_reducible refine rd_eqB ?_ | with_reducible refine rd_neB ?_ | with_reducible refine rd_bl ?_ | with_reducible refine rd_int ?_ | with_reducible refine rd_tupN ?_ | with_reducible refine rd_lstN ?_ | with_reducible refine rd_gsub ?_ | with_reducible refine rd_slice ?_ | with_reducible refine rd_nopart ?_ | with_reducible refine rd_part ?_ | with_reducible refine rd_bm ?_ | with_reducible refine rd_bm0 ?_ | with_reducible refine rd_comp ?_ | with_reducible refine rd_itup ?_ | with_reducible refine rd_ilist ?_ | with_reducible refine rd_irng ?_ | with_reducible refine rd_gcons ?_ | with_reducible refine rd_gnil ?_ | with_reducible refine rd_for ?_ | with_reducible refine rd_abs ?_ | with_reducible refine rd_max ?_ | with_reducible refine rd_min ?_ | with_reducible refine rd_intB ?_ | with_reducible refine rd_dput ?_ | with_reducible refine rd_dget2 ?_ | with_reducible refine rd_dget ?_ | with_reducible refine rd_fld ?_ | with_reducible refine rd_sfld ?_ | with_reducible refine rd_meth ?_ | with_reducible refine rd_makeN ?_ | with_reducible refine rd_isN ?_ | with_reducible refine rd_notN ?_ | with_reducible refine rd_izip ?_ | with_reducible refine iteNT ?_ | with_reducible refine iteNF ?_ | with_reducible refine iteF ?_ | with_reducible refine iteT ?_))
local macro_rules | `(tactic| walk_at "rd") => `(tactic| (repeat walk_at "rd1"))
local macro_rules | `(tactic| walk_at "mk") => `(tactic| refine ⟨mk_le rfl, ?_⟩)
local macro_rules | `(tactic| walk_at "rp") => `(tactic| (repeat first | exact reps_nil | refine reps_cons rep_int ?_ | refine reps_cons (by rw [Rep]) ?_ | refine reps_cons (by rw [Rep]; rfl) ?_ | refine reps_cons (by assumption) ?_))

section
variable {P : Program} {w : World} {K : PySem.W.Frag} {mg : Str → Option Value} {base : Heap}
section
variable {C : Addr}
theorem sc_worth : FnScope ["form", "words"] ["form", "words"] (defScope s_worth) := ⟨rfl, rfl, rfl, by decide +kernel, rfl, by decide +kernel, by decide +kernel⟩
def sp_worth (K : PySem.W.Frag) : Sp := sp2 fun x y H Q => ∃ c ps a ws, Rep H (formD c ps) x ∧ y = .ref a ∧ SqL K H a ((ws : List Int).map V.int) ∧ ps.length ≤ 100000 ∧ (∀ p ∈ ps, 0 ≤ p.2 ∧ p.2 < ws.length ∧ p.1.natAbs < 2 ^ 8000) ∧ (∀ z ∈ ws, z.natAbs < 2 ^ 8000) ∧ ∀ H', Same H H' → Q (.int (worthZ c ps ws)) H'
theorem c_worth (B : Blt mg) (T_worth : TopFn K mg "worth" s_worth ["form", "words"]) : Callee P w K mg base "worth" 1 ["form", "words"] (sp_worth K) := by
  refine T_worth.ok2 sc_worth fun f cdv A outer s H v1 v2 Q E hr h => ?_
  have nd := sc_worth.nd
  obtain ⟨c, ps, a, ws, r, rfl, hw, hl, hp, hz, k⟩ := h
  refine' go_body [some v1, some (.ref a)] rfl ?hb ?hg
  case hb =>
   refine' pss_one ?zb
   case zb =>
    refine' ps_ret ?zc
    case zc =>
     refine' pe_op ?zd ?ze ?zf
     case zd => exact op_add
     case ze => exact (pe_ix (k_ix (K := K) rfl) (pv 0) pe_int (fun _ _ => rfl))
     case zf =>
      refine' pe_callB ?zg ?zh ?zi ?zj ?zk
      case zg => exact (k_sum (K := K) rfl rfl)
      case zh => exact (by rfl)
      case zi => exact B.b_sum
      case zj => exact bt_sum
      case zk =>
       refine' pa_consM ?zl ?zm
       case zl =>
        refine' pe_comp (LN := ["a", "w"]) (FN := ["words"]) (fr := [1]) ?zn ?zo ?zp ?zq ?zr ?zs
        case zn => exact rfl
        case zo => exact (bk_of (by rfl))
        case zp => exact (k_pi_tup (K := K) rfl (pe_ix (k_ix (K := K) rfl) (pv 0) pe_int (fun _ _ => rfl)))
        case zq =>
         intro cl C fp pins s H
         refine' k_pg_tup (K := K) (n := 2) ?zt ?zu ?zv
         case zt => exact rfl
         case zu => exact rfl
         case zv =>
          refine' pgs_cons ?zw ?zx
          case zw => exact (pg_name (i := 0) (show ((["a", "w"] : List Str) ++ (["words"] : List Str)).Nodup by decide +kernel) rfl (Or.inl rfl))
          case zx => exact (pgs_cons (pg_name (i := 1) (show ((["a", "w"] : List Str) ++ (["words"] : List Str)).Nodup by decide +kernel) rfl (Or.inl rfl)) pgs_nil)
        case zr =>
         intro cl C fp pins s H
         exact pts_nil
        case zs =>
         intro cl C fp pins s H
         exact (pe_op op_mulB (pv 0) (pe_ix (k_ix (K := K) rfl) (pv 2) (pv 1) (fun _ _ => rfl)))
       case zm => exact pa_nil
  walk_at "rd"
  refine rd_ixI (n := 0) r rfl rfl ?_
  walk_at "rd"
  refine rd_ixR (n := 1) r rfl rfl fun v rv => ?_
  refine itK_rep rv fun b xs e hb rx => ?_
  have hlen := rx.length
  rw [List.length_map] at hlen
  refine cw_tup (xs := xs) (small_le' (by omega)) (fun i ys σ H1 => ∃ x1 x2, σ = [x1, x2, some (.ref a)] ∧ Same H H1 ∧ ys = ((ps.take i).map fun p => p.1 * ws.getD p.2.toNat 0).map V.int) ⟨none, none, rfl, Same.refl _, rfl⟩ (fun i ys σ H1 _ ⟨_, _, _, s1, _⟩ => SqT.of (s1 _ _ hb)) ?_ ?_
  · rintro i x ys σ H1 hx hle hlt ⟨x1, x2, rfl, s1, rfl⟩
    obtain ⟨d, ed, rd⟩ := rx.get' hx
    rw [List.getElem?_map] at ed
    obtain ⟨p, ep, rfl⟩ := Option.map_eq_some_iff.mp ed
    obtain ⟨q, zs, rfl, hq, rz⟩ := rep_tup_inv rd
    obtain ⟨u1, r1, rfl, e1, rz⟩ := reps_cons_inv rz
    obtain ⟨u2, r2, rfl, e2, rz⟩ := reps_cons_inv rz
    obtain rfl := reps_nil_inv rz
    obtain rfl := rep_int_inv e1
    obtain rfl := rep_int_inv e2
    obtain ⟨h0, h1, h2⟩ := hp p (List.mem_of_getElem? ep)
    refine rd_gtup (s1 _ _ hq) rfl ?_
    walk_at "rd"
    have hwi : ws[p.2.toNat]? = some (ws.getD p.2.toNat 0) := by
      rw [List.getD_eq_getElem?_getD]
      rw [List.getElem?_eq_getElem (by omega)]
      rfl
    refine .inl ⟨a, _, _, _, rfl, rfl, hw.mono s1, atI_at (n := p.2.toNat) (by omega) (by rw [List.getElem?_map, hwi]; rfl), ?_⟩
    refine rd_I ⟨h2, hz _ (List.mem_of_getElem? hwi)⟩ ?_
    refine ⟨hlt, by simpa using hle, _, _, rfl, s1, ?_⟩
    rw [List.take_add_one, ep]
    simp
  · rintro ys σ H1 _ ⟨x1, x2, rfl, s1, rfl⟩ q hq
    walk_at "rd"
    refine rd_sum (SqL.of upd_same) ?_
    walk_at "rd"
    rw [← hlen, List.take_length]
    exact k _ (s1.trans (Same.new hq))

def sp_words_in (C : Addr) : Sp := sp1 fun x H Q => ∃ p dx pp pf pn pl fz z P h ve, x = .ref p ∧ HA C p dx pp pf pn pl (fz ++ [z]) H P h ve ∧ ∀ q H', Same H H' → H q = none → H' q = some (.lst (z.2.2.2.map V.int)) → Q (.ref q) H'
theorem sc_words_in : FnScope ["hand"] ["hand"] (defScope s_words_in) := ⟨rfl, rfl, rfl, by decide +kernel, rfl, by decide +kernel, by decide +kernel⟩
theorem c_words_in (B : Blt mg) (HHand : CHand K C) (T_words_in : TopFn K mg "words_in" s_words_in ["hand"]) : Callee P w K mg base "words_in" 1 ["hand"] (sp_words_in C) := by
  refine T_words_in.ok1 sc_words_in fun f cdv A outer s H v1 Q E hr hh => ?_
  have nd := sc_words_in.nd
  obtain ⟨p, dx, pp, pf, pn, pl, fz, z, Pg, h, ve, rfl, a, k⟩ := hh
  refine' go_body [some (.ref p)] rfl ?hb ?hg
  case hb =>
   refine' pss_one ?zy
   case zy =>
    refine' ps_ret ?zz
    case zz =>
     refine' pe_callTy ?zba ?zbb ?zbc ?zbd ?zbe
     case zba => exact (k_lstOf (K := K) rfl)
     case zbb => exact (by rfl)
     case zbc => exact B.b_list
     case zbd => exact bt_list
     case zbe =>
      refine' pa_consS ?zbf ?zbg
      case zbf => exact (pe_ix (k_ix (K := K) rfl) (pe_ix (k_ix (K := K) rfl) (k_fld (K := K) rfl (pv 0) rfl) (pe_un un_neg pe_int) (fun _ _ => rfl)) pe_int (fun _ _ => rfl))
      case zbg => exact pa_nil
  have z1 := a.z1 (z := z) (by simp)
  have z2 := a.z2 (z := z) (by simp)
  walk_at "rd"
  refine fld_of a.obj HHand.cl HHand.n_frames hf_frames ?_
  walk_at "rd"
  refine rd_ixaL a.fl fz_last ?_
  walk_at "rd"
  refine rd_ixaL (v := .ref z.1.2) z1 rfl ?_
  walk_at "rd"
  refine rd_lstOf (.inl (SqL.of z2)) fun q hq => ?_
  exact k q _ (Same.new hq) hq upd_same
/-- what a sign frame stands for -/
def wFr (ws : List Int) (s : SFr) : Fr := (s.1, s.2.1, s.2.2.map fun f => worthZ f.1 f.2 ws)
def Ws (ws : List Int) : Prop := ∀ z ∈ ws, z.natAbs ≤ 10 ^ 306
theorem sf_get {H : Hp} {sp : List SFr} {vs : List V} {i : Nat} {x : V} (r : Reps H (sp.map sfD) vs) (hx : vs[i]? = some x) : ∃ s t u xs, sp[i]? = some s ∧ x = .ref t ∧ H t = some (.tup [.int s.1, .int s.2.1, .ref u]) ∧ H u = some (.tup xs) ∧ Reps H (s.2.2.map fD) xs := by
  obtain ⟨d, ed, rd⟩ := r.get' hx
  rw [List.getElem?_map] at ed
  obtain ⟨s, es, rfl⟩ := Option.map_eq_some_iff.mp ed
  obtain ⟨t, zs, rfl, ht, rz⟩ := rep_tup_inv rd
  obtain ⟨u1, r1, rfl, e1, rz⟩ := reps_cons_inv rz
  obtain ⟨u2, r2, rfl, e2, rz⟩ := reps_cons_inv rz
  obtain ⟨u3, r3, rfl, e3, rz⟩ := reps_cons_inv rz
  obtain rfl := reps_nil_inv rz
  obtain rfl := rep_int_inv e1
  obtain rfl := rep_int_inv e2
  obtain ⟨u, xs, rfl, hu, rx⟩ := rep_tup_inv e3
  exact ⟨s, t, u, xs, es, rfl, ht, hu, rx⟩
def fObjs (a : Addr) (fz : List FZ) : List (Addr × HO) := (a, HO.lst (fz.map fun z => V.ref z.1.1)) :: fz.flatMap frObj
theorem fobjs_at {H : Hp} {a : Addr} {fz : List FZ} (h : AllAt H (fObjs a fz)) : FrsAt H a fz :=
  ⟨h (a, _) List.mem_cons_self, fun z hz => ⟨h (z.1.1, _) (List.mem_cons_of_mem _ (List.mem_flatMap.mpr ⟨z, hz, List.mem_cons_self⟩)), h (z.1.2, _) (List.mem_cons_of_mem _ (List.mem_flatMap.mpr ⟨z, hz, List.mem_cons_of_mem _ List.mem_cons_self⟩))⟩⟩
def sp_frames_of (K : PySem.W.Frag) : Sp := sp2 fun x y H Q => ∃ (q qw : Addr) (sp : List SFr) (vs : List V) (ws : List Int), x = .ref q ∧ y = .ref qw ∧ H q = some (.lst vs) ∧ Reps H (sp.map sfD) vs ∧ H qw = some (.lst (ws.map V.int)) ∧ sp.length ≤ 100 ∧ ws.length ≤ 1000 ∧ Ws ws ∧ (∀ s ∈ sp, SfOk ws.length s) ∧
  ∀ a fz H', fz.map (·.2) = sp.map (wFr ws) → WC [] H H' (fObjs a fz) [] → Q (.ref a) H'
theorem sc_frames_of : FnScope ["paper", "words"] ["paper", "words"] (defScope s_frames_of) := ⟨rfl, rfl, rfl, by decide +kernel, rfl, by decide +kernel, by decide +kernel⟩
theorem c_frames_of (B : Blt mg) (T_frames_of : TopFn K mg "frames_of" s_frames_of ["paper", "words"]) (Cworth : Callee P w K mg base "worth" 1 ["form", "words"] (sp_worth K)) : Callee P w K mg base "frames_of" 2 ["paper", "words"] (sp_frames_of K) := by
  refine T_frames_of.ok2 sc_frames_of fun f cdv A outer s H v1 v2 Q E hr hh => ?_
  have nd := sc_frames_of.nd
  obtain ⟨q, qw, sp, vs, ws, rfl, rfl, hq, rsp, hqw, hsl, hwl, hws, hok, k⟩ := hh
  refine' go_body [some (.ref q), some (.ref qw)] rfl ?hb ?hg
  case hb =>
   refine' pss_one ?zbh
   case zbh =>
    refine' ps_ret ?zbi
    case zbi =>
     refine' pe_comp (LN := ["f", "at", "forms"]) (FN := ["words"]) (fr := [1]) ?zbj ?zbk ?zbl ?zbm ?zbn ?zbo
     case zbj => exact rfl
     case zbk => exact (bk_of (by rfl))
     case zbl => exact (k_pi_list (K := K) rfl (pv 0))
     case zbm =>
      intro cl C fp pins s H
      refine' k_pg_tup (K := K) (n := 3) ?zbp ?zbq ?zbr
      case zbp => exact rfl
      case zbq => exact rfl
      case zbr =>
       refine' pgs_cons ?zbs ?zbt
       case zbs => exact (pg_name (i := 0) (show ((["f", "at", "forms"] : List Str) ++ (["words"] : List Str)).Nodup by decide +kernel) rfl (Or.inl rfl))
       case zbt =>
        refine' pgs_cons ?zbu ?zbv
        case zbu => exact (pg_name (i := 1) (show ((["f", "at", "forms"] : List Str) ++ (["words"] : List Str)).Nodup by decide +kernel) rfl (Or.inl rfl))
        case zbv => exact (pgs_cons (pg_name (i := 2) (show ((["f", "at", "forms"] : List Str) ++ (["words"] : List Str)).Nodup by decide +kernel) rfl (Or.inl rfl)) pgs_nil)
     case zbn =>
      intro cl C fp pins s H
      exact pts_nil
     case zbo =>
      intro cl C fp pins s H
      refine' pe_lst ?zbw
      case zbw =>
       refine' pa_consN ?zbx ?zby
       case zbx => exact (pv 0)
       case zby =>
        refine' pa_consN ?zbz ?zca
        case zbz => exact (pv 1)
        case zca =>
         refine' pa_consM ?zcb ?zcc
         case zcb =>
          refine' pe_comp (LN := ["form"]) (FN := ["words"]) (fr := [3]) ?zcd ?zce ?zcf ?zcg ?zch ?zci
          case zcd => exact rfl
          case zce => exact (bk_of (by rfl))
          case zcf => exact (k_pi_tup (K := K) rfl (pv 2))
          case zcg =>
           intro cl C fp pins s H
           exact (pg_name (i := 0) (show ((["form"] : List Str) ++ (["words"] : List Str)).Nodup by decide +kernel) rfl (Or.inl rfl))
          case zch =>
           intro cl C fp pins s H
           exact pts_nil
          case zci =>
           intro cl C fp pins s H
           exact (pe_fn Cworth (hr.mono (by first | decide | omega)) (by rfl) (pa_consN (pv 0) (pa_consN (pv 1) pa_nil)))
         case zcc => exact pa_nil
  have hvl := rsp.length
  rw [List.length_map] at hvl
  walk_at "rd"
  refine ilK_of (SqL.of hq) ?_
  refine cw_list (xs := vs) (small_le (by omega)) (fun i ys σ Hy => (∃ x1 x2 x3, σ = [x1, x2, x3, some (.ref qw)]) ∧ ∃ fz : List FZ, ys = fz.map (fun z => V.ref z.1.1) ∧ fz.map (·.2) = (sp.take i).map (wFr ws) ∧ WC [] H Hy (fz.flatMap frObj) []) ⟨⟨none, none, none, rfl⟩, [], rfl, rfl, WC.start (fun _ h => by cases h)⟩ (fun i ys σ Hy _ ⟨_, _, _, _, w⟩ => SqL.of (w.os _ _ (by simp) hq)) ?_ ?_
  · rintro i x ys σ Hy hx hle hlt ⟨⟨x1, x2, x3, rfl⟩, fz, rfl, hfz, w⟩
    obtain ⟨sf, t, u, xs, es, rfl, ht, hu, rx⟩ := sf_get (rsp.mono w.ts) hx
    have ok := hok sf (List.mem_of_getElem? es)
    have hxl := rx.length
    rw [List.length_map] at hxl
    have hok1 := ok.1
    refine rd_gtup ht rfl ?_
    walk_at "rd"
    refine ⟨u, rfl, ⟨_, SqT.of hu⟩, ?_⟩
    refine cw_tup (xs := xs) (small_le (by omega)) (fun j zs σ Hz => (∃ x1, σ = [x1, some (.ref qw)]) ∧ zs = ((sf.2.2.take j).map fun f => worthZ f.1 f.2 ws).map V.int ∧ WC [] H Hz (fz.flatMap frObj) [] ∧ Hz u = some (.tup xs) ∧ Reps Hz (sf.2.2.map fD) xs) ⟨⟨none, rfl⟩, rfl, w, hu, rx⟩ (fun j zs σ Hz _ ⟨_, _, _, h, _⟩ => SqT.of h) ?_ ?_
    · rintro j x zs σ Hz hx' hle' hlt' ⟨⟨x1, rfl⟩, rfl, w, hu, rx⟩
      obtain ⟨d, ed, rd⟩ := rx.get' hx'
      rw [List.getElem?_map] at ed
      obtain ⟨fm, ef, rfl⟩ := Option.map_eq_some_iff.mp ed
      have okf := ok.2 fm (List.mem_of_getElem? ef)
      walk_at "rd"
      refine use2 ⟨fm.1, fm.2, qw, ws, rd, rfl, SqL.of (w.os _ _ (by simp) hqw), by have := okf.l; omega, fun p hp => ⟨(okf.p p hp).2.1, (okf.p p hp).2.2, big305 (okf.p p hp).1⟩, fun z hz => big305 (hws z hz), fun H3 s3 => ?_⟩
      refine ⟨hlt', by simp; omega, ⟨_, rfl⟩, ?_, w.same s3, s3 _ _ hu, rx.mono s3.ts⟩
      rw [List.take_add_one, ef]
      simp
    · rintro zs σ Hz hzl ⟨⟨x1, rfl⟩, rfl, w, hu, rx⟩ pb hpb
      rw [← hxl, List.take_length]
      have w := w.newL (xs := (sf.2.2.map fun f => worthZ f.1 f.2 ws).map V.int) hpb
      generalize upd Hz pb (HO.lst ((sf.2.2.map fun f => worthZ f.1 f.2 ws).map V.int)) = H4 at w
      walk_at "rd"
      refine ⟨mk_le rfl, fun pf hpf => ?_⟩
      have w := w.newL (xs := [.int sf.1, .int sf.2.1, .ref pb]) hpf
      refine ⟨hlt, by simpa using hle, ⟨_, _, _, rfl⟩, fz ++ [((pf, pb), wFr ws sf)], by simp, ?_, ?_⟩
      · rw [List.take_add_one, es, List.map_append, hfz]
        simp
      · refine w.perm ?_
        rw [List.flatMap_append]
        exact (List.perm_append_comm (l₁ := [(pf, HO.lst [.int sf.1, .int sf.2.1, .ref pb]), (pb, HO.lst ((sf.2.2.map fun f => worthZ f.1 f.2 ws).map V.int))]) (l₂ := fz.flatMap frObj))
  · rintro ys σ Hy hyl ⟨⟨x1, x2, x3, rfl⟩, fz, rfl, hfz, w⟩ a ha
    have w := w.newL (xs := fz.map (fun z => V.ref z.1.1)) ha
    rw [List.take_of_length_le (by omega)] at hfz
    exact k a fz _ hfz w

end
end
end My

end
section


set_option Elab.async false
set_option linter.all false
set_option maxRecDepth 100000
set_option maxHeartbeats 4000000

namespace My
open PySem L2
local macro_rules | `(tactic| walk_at "rd1") => `(tactic| (first | ((with_reducible refine' rd_var ?e ?_); (case e => exact rfl)) | with_reducible refine rd_c ?_ | with_reducible refine rd_op ?_ | with_reducible refine rd_un ?_ | with_reducible refine rd_seq ?_ | with_reducible refine rd_asg ?_ | with_reducible refine rd_gname ?_ | with_reducible refine rd_ret ?_ | with_reducible refine rd_drop ?_ | with_reducible refine rd_next ?_ | with_reducible refine rd_if ?_ | with_reducible refine rd_test ?_ | with_reducible refine rd_tb ?_ | with_reducible refine rd_and ?_ | with_reducible refine rd_or ?_ | with_reducible refine rd_not ?_ | with_reducible refine rd_true ?_ | with_reducible refine rd_andV ?_ | with_reducible refine rd_orV ?_ | with_reducible refine rd_notV ?_ | with_reducible refine rd_ifE ?_ | with_reducible refine rd_chain ?_ | with_reducible refine rd_nil ?_ | with_reducible refine rd_cons ?_ | with_reducible refine rd_cb ?_ | with_reducible refine rd_call ?_ | with_reducible refine rd_I0 ?_ | with_reducible refine rd_U ?_ | with_reducible refine rd_eqI ?_ | with_reducible refine rd_neI ?_ | with_reducible refine rd_eqS ?_ | with_reducible refine rd_neS ?_ | with_reducible refine rd_eqB ?_ | with_reducible refine rd_neB ?_ | with_reducible refine rd_bl ?_ | with_reducible refine rd_int ?_ | with_reducible refine rd_tupN ?_ | with_reducible refine rd_lstN ?_ | with_reducible refine rd_gsub ?_ | with_reducible refine rd_slice ?_ | with_reducible refine rd_nopart ?_ | with_reducible refine rd_part ?_ | with_reducible refine rd_bm ?_ | with_reducible refine rd_bm0 ?_ | with_reducible refine rd_comp ?_ | with_reducible refine rd_itup ?_ | with_reducible refine rd_ilist ?_ | with_reducible refine rd_irng ?_ | with_reducible refine rd_gcons ?_ | with_reducible refine rd_gnil ?_ | with_reducible refine rd_for ?_ | with_reducible refine rd_abs ?_ | with_reducible refine rd_max ?_ | with_reducible refine rd_min ?_ | with_reducible refine rd_intB ?_ | with_reducible refine rd_dput ?_ | with_reducible refine rd_dget2 ?_ | with_reducible refine rd_dget ?_ | with_reducible refine rd_fld ?_ | with_reducible refine rd_sfld ?_ | with_reducible refine rd_meth ?_ | with_reducible refine rd_makeN ?_ | with_reducible refine rd_isN ?_ | with_reducible refine rd_notN ?_ | with_reducible refine rd_izip ?_ | with_reducible refine iteNT ?_ | with_reducible refine iteNF ?_ | with_reducible refine iteF ?_ | with_reducible refine iteT ?_))
local macro_rules | `(tactic| walk_at "rd") => `(tactic| (repeat walk_at "rd1"))
local macro_rules | `(tactic| walk_at "mk") => `(tactic| refine ⟨mk_le rfl, ?_⟩)
local macro_rules | `(tactic| walk_at "rp") => `(tactic| (repeat first | exact reps_nil | refine reps_cons rep_int ?_ | refine reps_cons (by rw [Rep]) ?_ | refine reps_cons (by rw [Rep]; rfl) ?_ | refine reps_cons (by assumption) ?_))

section
variable {P : Program} {w : World} {K : PySem.W.Frag} {mg : Str → Option Value} {base : Heap}
section
variable {C : Addr}
theorem fm_get {H : Hp} {fs : List (Int × List (Int × Int))} {xs : List V} {i : Nat} {x : V} (r : Reps H (fs.map fD) xs) (hx : xs[i]? = some x) : ∃ f t u zs, fs[i]? = some f ∧ x = .ref t ∧ H t = some (.tup [.int f.1, .ref u]) ∧ H u = some (.tup zs) ∧ Reps H (f.2.map pairD) zs := by
  obtain ⟨d, ed, rd⟩ := r.get' hx
  rw [List.getElem?_map] at ed
  obtain ⟨s, es, rfl⟩ := Option.map_eq_some_iff.mp ed
  obtain ⟨t, zs, rfl, ht, rz⟩ := rep_tup_inv rd
  obtain ⟨u1, r1, rfl, e1, rz⟩ := reps_cons_inv rz
  obtain ⟨u2, r2, rfl, e2, rz⟩ := reps_cons_inv rz
  obtain rfl := reps_nil_inv rz
  obtain rfl := rep_int_inv e1
  obtain ⟨u, xs, rfl, hu, rx⟩ := rep_tup_inv e2
  exact ⟨s, t, u, xs, es, rfl, ht, hu, rx⟩
theorem pr_get {H : Hp} {ps : List (Int × Int)} {xs : List V} {i : Nat} {x : V} (r : Reps H (ps.map pairD) xs) (hx : xs[i]? = some x) : ∃ p t, ps[i]? = some p ∧ x = .ref t ∧ H t = some (.tup [.int p.1, .int p.2]) := by
  obtain ⟨d, ed, rd⟩ := r.get' hx
  rw [List.getElem?_map] at ed
  obtain ⟨s, es, rfl⟩ := Option.map_eq_some_iff.mp ed
  obtain ⟨t, zs, rfl, ht, rz⟩ := rep_tup_inv rd
  obtain ⟨u1, r1, rfl, e1, rz⟩ := reps_cons_inv rz
  obtain ⟨u2, r2, rfl, e2, rz⟩ := reps_cons_inv rz
  obtain rfl := reps_nil_inv rz
  obtain rfl := rep_int_inv e1
  obtain rfl := rep_int_inv e2
  exact ⟨s, t, es, rfl, ht⟩
theorem worth_take {c : Int} {ps : List (Int × Int)} {ws : List Int} {i : Nat} {p : Int × Int} (h : ps[i]? = some p) : worthZ c (ps.take i) ws + p.1 * ws.getD p.2.toNat 0 = worthZ c (ps.take (i + 1)) ws := by
  unfold worthZ
  rw [List.take_add_one, h]
  simp
  omega
def sp_due41 (K : PySem.W.Frag) : Sp := sp2 fun x y H Q => ∃ (q qw : Addr) (sp : List SFr) (vs : List V) (ws : List Int), x = .ref q ∧ y = .ref qw ∧ H q = some (.lst vs) ∧ Reps H (sp.map sfD) vs ∧ H qw = some (.lst (ws.map V.int)) ∧ sp.length ≤ 100 ∧ ws.length ≤ 1000 ∧ Ws ws ∧ (∀ s ∈ sp, SfOk ws.length s) ∧
  ∀ a fz H', fz.map (·.2) = sp.map (wFr ws) → WC [] H H' (fObjs a fz) [] → Q (.ref a) H'
theorem sc__law_due : FnScope ["paper", "words", "due", "f", "at", "forms", "boxes", "c", "parts", "a", "w"] ["paper", "words"] (defScope s__law_due) := ⟨rfl, rfl, rfl, by decide +kernel, rfl, by decide +kernel, by decide +kernel⟩
theorem c__law_due (T__law_due : TopFn K mg "_law_due" s__law_due ["paper", "words"]) : Callee P w K mg base "_law_due" 1 ["paper", "words"] (sp_due41 K) := by
  refine T__law_due.ok2 sc__law_due fun f cdv A outer s H v1 v2 Q E hr hh => ?_
  have nd := sc__law_due.nd
  obtain ⟨q, qw, sp, vs, ws, rfl, rfl, hq, rsp, hqw, hsl, hwl, hws, hok, k⟩ := hh
  refine' go_body [some (.ref q), some (.ref qw), none, none, none, none, none, none, none, none, none] rfl ?hb ?hg
  case hb =>
   refine' pss_cons ?zb ?zc
   case zb => exact (ps_setL (i := 2) nd rfl (Or.inl rfl) (pe_lst pa_nil))
   case zc =>
    refine' pss_cons ?zd ?ze
    case zd =>
     refine' ps_for ?zf ?zg ?zh ?zi ?zj
     case zf => exact PassesOwn.never
     case zg => exact rfl
     case zh => exact (k_pi_list (K := K) rfl (pv 0))
     case zi =>
      refine' k_pg_tup (K := K) (n := 3) ?zk ?zl ?zm
      case zk => exact rfl
      case zl => exact rfl
      case zm =>
       refine' pgs_cons ?zn ?zo
       case zn => exact (pg_name (i := 3) nd rfl (Or.inl rfl))
       case zo => exact (pgs_cons (pg_name (i := 4) nd rfl (Or.inl rfl)) (pgs_cons (pg_name (i := 5) nd rfl (Or.inl rfl)) pgs_nil))
     case zj =>
      refine' pss_cons ?zp ?zq
      case zp => exact (ps_setL (i := 6) nd rfl (Or.inl rfl) (pe_lst pa_nil))
      case zq =>
       refine' pss_cons ?zr ?zs
       case zr =>
        refine' ps_for ?zt ?zu ?zv ?zw ?zx
        case zt => exact PassesOwn.never
        case zu => exact rfl
        case zv => exact (k_pi_tup (K := K) rfl (pv 5))
        case zw => exact (k_pg_tup (K := K) (n := 2) rfl rfl (pgs_cons (pg_name (i := 7) nd rfl (Or.inl rfl)) (pgs_cons (pg_name (i := 8) nd rfl (Or.inl rfl)) pgs_nil)))
        case zx =>
         refine' pss_cons ?zy ?zz
         case zy =>
          refine' ps_for ?zba ?zbb ?zbc ?zbd ?zbe
          case zba => exact PassesOwn.never
          case zbb => exact rfl
          case zbc => exact (k_pi_tup (K := K) rfl (pv 8))
          case zbd => exact (k_pg_tup (K := K) (n := 2) rfl rfl (pgs_cons (pg_name (i := 9) nd rfl (Or.inl rfl)) (pgs_cons (pg_name (i := 10) nd rfl (Or.inl rfl)) pgs_nil)))
          case zbe =>
           refine' pss_one ?zbf
           case zbf => exact (ps_setB (i := 7) nd rfl (Or.inl rfl) (pe_op op_add (pv 7) (pe_op op_mulB (pv 9) (pe_ix (k_ix (K := K) rfl) (pv 1) (pv 10) (fun _ _ => rfl)))))
         case zz =>
          refine' pss_one ?zbg
          case zbg => exact (ps_expr (k_bm (K := K) rfl PySem.F.plainAttrs_list PySem.F.slot_list_append PySem.F.type_list_append mt_append (pv 6) (pa_consN (pv 7) pa_nil)))
       case zs =>
        refine' pss_one ?zbh
        case zbh =>
         refine' ps_expr ?zbi
         case zbi =>
          refine' k_bm (K := K) ?zbj ?zbk ?zbl ?zbm ?zbn ?zbo ?zbp
          case zbj => exact rfl
          case zbk => exact PySem.F.plainAttrs_list
          case zbl => exact PySem.F.slot_list_append
          case zbm => exact PySem.F.type_list_append
          case zbn => exact mt_append
          case zbo => exact (pv 2)
          case zbp => exact (pa_consL (pe_lst (pa_consN (pv 3) (pa_consN (pv 4) (pa_consN (pv 6) pa_nil)))) pa_nil)
    case ze => exact (pss_one (ps_ret (pv 2)))
  have hvl := rsp.length
  rw [List.length_map] at hvl
  have w := WC.start (ow := []) (H := H) (fun _ h => by cases h)
  walk_at "rd"
  refine w.mkL fun a H1 w => ?_
  walk_at "rd"
  refine ilK_of (SqL.of (w.os _ _ (by simp) hq)) ?_
  refine for_list (xs := vs) (fun i σ Hx => (∃ c3 c4 c5 c6 c7 c8 c9 c10, σ = [some (.ref q), some (.ref qw), some (.ref a), c3, c4, c5, c6, c7, c8, c9, c10]) ∧ ∃ fz : List FZ, fz.map (·.2) = (sp.take i).map (wFr ws) ∧ WC [] H Hx (fObjs a fz) []) ⟨⟨_, _, _, _, _, _, _, _, rfl⟩, [], rfl, w⟩ (fun i σ Hx _ ⟨_, _, _, w⟩ => SqL.of (w.os _ _ (by simp) hq)) ?_ ?_
  · rintro i x σ Hx hx ⟨⟨c3, c4, c5, c6, c7, c8, c9, c10, rfl⟩, fz, hfz, w⟩
    obtain ⟨sf, t, u, xs, es, rfl, ht0, hu0, rx0⟩ := sf_get rsp hx
    have ht := w.ts _ _ ht0
    have ok := hok sf (List.mem_of_getElem? es)
    have hxl := rx0.length
    rw [List.length_map] at hxl
    have hok1 := ok.1
    have hfl : fz.length ≤ 100 := by
      have := congrArg List.length hfz
      simp at this; omega
    refine rd_gtup ht rfl ?_
    walk_at "rd"
    refine w.mkL fun bx H2 w => ?_
    walk_at "rd"
    refine ⟨u, rfl, ⟨_, SqT.of (w.ts _ _ hu0)⟩, ?_⟩
    refine for_tup (xs := xs) (fun j σ Hy => (∃ c7 c8 c9 c10, σ = [some (.ref q), some (.ref qw), some (.ref a), some (.int sf.1), some (.int sf.2.1), some (.ref u), some (.ref bx), c7, c8, c9, c10]) ∧ WC [] H Hy ((bx, .lst (((sf.2.2.take j).map fun f => worthZ f.1 f.2 ws).map V.int)) :: fObjs a fz) []) ⟨⟨_, _, _, _, rfl⟩, w⟩ (fun j σ Hy _ ⟨_, w⟩ => SqT.of (w.ts _ _ hu0)) ?_ ?_
    · rintro j x σ Hy hx' ⟨⟨c7, c8, c9, c10, rfl⟩, w⟩
      obtain ⟨fm, t2, u2, zs, ef, rfl, ht2, hu2, rz⟩ := fm_get rx0 hx'
      have okf := ok.2 fm (List.mem_of_getElem? ef)
      have hzl := rz.length
      rw [List.length_map] at hzl
      have := okf.l
      refine rd_gtup (w.ts _ _ ht2) rfl ?_
      walk_at "rd"
      refine ⟨u2, rfl, ⟨_, SqT.of (w.ts _ _ hu2)⟩, ?_⟩
      refine for_tup (xs := zs) (fun m σ Hz => (∃ c9 c10, σ = [some (.ref q), some (.ref qw), some (.ref a), some (.int sf.1), some (.int sf.2.1), some (.ref u), some (.ref bx), some (.int (worthZ fm.1 (fm.2.take m) ws)), some (.ref u2), c9, c10]) ∧ Hz = Hy) ⟨⟨c9, c10, by simp [worthZ]⟩, rfl⟩ (fun m σ Hz _ ⟨_, e⟩ => by rw [e]; exact SqT.of (w.ts _ _ hu2)) ?_ ?_
      · rintro m x σ Hz hx2 ⟨⟨c9, c10, rfl⟩, rfl⟩
        obtain ⟨p, t3, ep, rfl, ht3⟩ := pr_get rz hx2
        have op := okf.p p (List.mem_of_getElem? ep)
        have hwi : ws[p.2.toNat]? = some (ws.getD p.2.toNat 0) := by
          rw [List.getD_eq_getElem?_getD, List.getElem?_eq_getElem (by omega)]
          rfl
        refine rd_gtup (w.ts _ _ ht3) rfl ?_
        walk_at "rd"
        refine rd_ixaL (w.os _ _ (by simp) hqw) (atI_at (n := p.2.toNat) (by omega) (by rw [List.getElem?_map, hwi]; rfl)) ?_
        walk_at "rd"
        refine rd_I ⟨big305 op.1, big305 (hws _ (List.mem_of_getElem? hwi))⟩ ?_
        walk_at "rd"
        exact ⟨⟨some (.int p.1), some (.int p.2), by rw [worth_take ep]; rfl⟩, rfl⟩
      · rintro σ Hz ⟨⟨c9, c10, rfl⟩, rfl⟩
        walk_at "rd"
        refine ⟨.inl ⟨rfl, _, SqL.of w.get0⟩, ?_⟩
        walk_at "rd"
        refine w.app0 (by simp; omega) fun H3 w => ?_
        walk_at "rd"
        refine ⟨⟨_, _, _, _, rfl⟩, ?_⟩
        rw [← hzl, List.take_length] at w
        rw [List.take_add_one, ef]
        simpa using w
    · rintro σ Hy ⟨⟨c7, c8, c9, c10, rfl⟩, w⟩
      rw [← hxl, List.take_length] at w
      walk_at "rd"
      refine ⟨.inl ⟨rfl, _, SqL.of w.get1⟩, ?_⟩
      walk_at "rd"
      refine w.mkL fun pf H3 w => ?_
      walk_at "rd"
      refine WC.app (l1 := [_, _]) w (Nat.lt_of_le_of_lt (show (fz.map fun z => V.ref z.1.1).length ≤ 200000 by simp; omega) (by rw [sizeLine_eq]; decide)) fun H4 w => ?_
      walk_at "rd"
      refine ⟨⟨_, _, _, _, _, _, _, _, rfl⟩, fz ++ [((pf, bx), wFr ws sf)], ?_, w.perm ?_⟩
      · rw [List.take_add_one, es, List.map_append, hfz]
        simp
      · unfold fObjs
        rw [List.flatMap_append, List.map_append]
        exact (List.perm_append_comm (l₁ := [(pf, HO.lst [.int sf.1, .int sf.2.1, .ref bx]), (bx, HO.lst ((sf.2.2.map fun f => worthZ f.1 f.2 ws).map V.int))]) (l₂ := (a, HO.lst ((fz.map fun z => V.ref z.1.1) ++ [.ref pf])) :: fz.flatMap frObj))
  · rintro σ Hx ⟨⟨c3, c4, c5, c6, c7, c8, c9, c10, rfl⟩, fz, hfz, w⟩
    rw [List.take_of_length_le (by omega)] at hfz
    walk_at "rd"
    exact k a fz _ hfz w

end
end
end My

end
section


set_option Elab.async false
set_option linter.all false
set_option maxRecDepth 100000
set_option maxHeartbeats 4000000

namespace My
open PySem L2
local macro_rules | `(tactic| walk_at "rd1") => `(tactic| (first | ((with_reducible refine' rd_var ?e ?_); (case e => exact rfl)) | with_reducible refine rd_c ?_ | with_reducible refine rd_op ?_ | with_reducible refine rd_un ?_ | with_reducible refine rd_seq ?_ | with_reducible refine rd_asg ?_ | with_reducible refine rd_gname ?_ | with_reducible refine rd_ret ?_ | with_reducible refine rd_drop ?_ | with_reducible refine rd_next ?_ | with_reducible refine rd_if ?_ | with_reducible refine rd_test ?_ | with_reducible refine rd_tb ?_ | with_reducible refine rd_and ?_ | with_reducible refine rd_or ?_ | with_reducible refine rd_not ?_ | with_reducible refine rd_true ?_ | with_reducible refine rd_andV ?_ | with_reducible refine rd_orV ?_ | with_reducible refine rd_notV ?_ | with_reducible refine rd_ifE ?_ | with_reducible refine rd_chain ?_ | with_reducible refine rd_nil ?_ | with_reducible refine rd_cons ?_ | with_reducible refine rd_cb ?_ | with_reducible refine rd_call ?_ | with_reducible refine rd_I0 ?_ | with_reducible refine rd_U ?_ | with_reducible refine rd_eqI ?_ | with_reducible refine rd_neI ?_ | with_reducible refine rd_eqS ?_ | with_reducible refine rd_neS ?_ | with_reducible refine rd_eqB ?_ | with_reducible refine rd_neB ?_ | with_reducible refine rd_bl ?_ | with_reducible refine rd_int ?_ | with_reducible refine rd_tupN ?_ | with_reducible refine rd_lstN ?_ | with_reducible refine rd_gsub ?_ | with_reducible refine rd_slice ?_ | with_reducible refine rd_nopart ?_ | with_reducible refine rd_part ?_ | with_reducible refine rd_bm ?_ | with_reducible refine rd_bm0 ?_ | with_reducible refine rd_comp ?_ | with_reducible refine rd_itup ?_ | with_reducible refine rd_ilist ?_ | with_reducible refine rd_irng ?_ | with_reducible refine rd_gcons ?_ | with_reducible refine rd_gnil ?_ | with_reducible refine rd_for ?_ | with_reducible refine rd_abs ?_ | with_reducible refine rd_max ?_ | with_reducible refine rd_min ?_ | with_reducible refine rd_intB ?_ | with_reducible refine rd_dput ?_ | with_reducible refine rd_dget2 ?_ | with_reducible refine rd_dget ?_ | with_reducible refine rd_fld ?_ | with_reducible refine rd_sfld ?_ | with_reducible refine rd_meth ?_ | with_reducible refine rd_makeN ?_ | with_reducible refine rd_isN ?_ | with_reducible refine rd_notN ?_ | with_reducible refine rd_izip ?_ | with_reducible refine iteNT ?_ | with_reducible refine iteNF ?_ | with_reducible refine iteF ?_ | with_reducible refine iteT ?_))
local macro_rules | `(tactic| walk_at "rd") => `(tactic| (repeat walk_at "rd1"))
local macro_rules | `(tactic| walk_at "mk") => `(tactic| refine ⟨mk_le rfl, ?_⟩)
local macro_rules | `(tactic| walk_at "rp") => `(tactic| (repeat first | exact reps_nil | refine reps_cons rep_int ?_ | refine reps_cons (by rw [Rep]) ?_ | refine reps_cons (by rw [Rep]; rfl) ?_ | refine reps_cons (by assumption) ?_))

section
variable {P : Program} {w : World} {K : PySem.W.Frag} {mg : Str → Option Value} {base : Heap}
section
variable {C : Addr}
theorem pls_map {α : Type} {g : α → D} : ∀ {l : List α}, (∀ x ∈ l, (g x).pl = true) → D.pls (l.map g) = true
  | [], _ => rfl
  | x :: l, h => by rw [List.map_cons, D.pls, h x List.mem_cons_self, pls_map fun y hy => h y (List.mem_cons_of_mem _ hy)]; rfl
theorem deps_map {α : Type} {g : α → D} {n : Nat} : ∀ {l : List α}, (∀ x ∈ l, (g x).dep ≤ n) → D.deps (l.map g) ≤ n
  | [], _ => by simp [D.deps]
  | x :: l, h => by
    have h1 := h x List.mem_cons_self
    have h2 := deps_map fun y hy => h y (List.mem_cons_of_mem x hy)
    rw [List.map_cons, D.deps]; omega
theorem fD_pl (f : Int × List (Int × Int)) : (fD f).pl = true := by
  have := pls_map (g := pairD) (l := f.2) fun _ _ => rfl
  simp [fD, formD, D.pl, D.pls, this]
theorem fD_dep (f : Int × List (Int × Int)) : (fD f).dep ≤ 3 := by
  have := deps_map (g := pairD) (n := 1) (l := f.2) fun _ _ => by simp [pairD, D.dep, D.deps]
  simp [fD, formD, D.dep, D.deps]; omega
theorem sfD_pl (s : SFr) : (sfD s).pl = true := by
  have := pls_map (g := fD) (l := s.2.2) fun f _ => fD_pl f
  simp [sfD, D.pl, D.pls, this]
theorem sfD_dep (s : SFr) : (sfD s).dep ≤ 5 := by
  have := deps_map (g := fD) (n := 3) (l := s.2.2) fun f _ => fD_dep f
  simp [sfD, D.dep, D.deps]; omega
def chg (z : FZ) : FZ := (z.1, (-1, z.2.2.1, z.2.2.2 ++ [5]))
theorem wFr_len {ws : List Int} {sp : List SFr} {fz : List FZ} (h : fz.map (·.2) = sp.map (wFr ws)) (hok : ∀ s ∈ sp, SfOk ws.length s) : ∀ z ∈ fz, z.2.2.2.length ≤ 100 := fun z hz => by
  have : z.2 ∈ fz.map (·.2) := List.mem_map_of_mem hz
  rw [h] at this
  obtain ⟨s, hs, e⟩ := List.mem_map.mp this
  rw [← e]
  have := (hok s hs).1
  simpa [wFr] using this
theorem law_r16 {D : Ends} {σ : St} {H : Hp} (k : ∀ H, D.rt (.bl true) H) {c0 c1 c2 c3 c6 c7 c8 c9 c10 c11 c12 c13 c14 c15 c16 : Option V} {qw qa : Addr} {ws : List Int} {sp : List SFr} {vs : List V}
    (hσ : σ = [c0, c1, c2, c3, some (.ref qw), some (.ref qa), c6, c7, c8, c9, c10, c11, c12, c13, c14, c15, c16]) (hqa : H qa = some (.lst vs)) (rsp : Reps H (sp.map sfD) vs) (hqw : H qw = some (.lst (ws.map V.int))) (hsl : sp.length ≤ 100) (hwl : ws.length ≤ 1000) (hws : Ws ws) (hok : ∀ s ∈ sp, SfOk ws.length s) : (tSeq (tAsg (tCB (rLstOf K) (tCons (tVar 5) tNil)) (gName 12)) (tSeq (tAsg (tCB (rLstOf K) (tCons (tVar 4) tNil)) (gName 13)) (tSeq (tAsg (tCall (sp_due41 K) [] E0 (tCons (tVar 5) (tCons (tVar 4) tNil))) (gName 14)) (tSeq (tAsg (tCall (sp_frames_of K) [] E0 (tCons (tVar 5) (tCons (tVar 13) tNil))) (gName 15)) (tSeq (tIfS (tOr (tNot (tB (tCall sp_frames [] E0 (tCons (tVar 15) (tCons (tVar 14) tNil))))) (tOr (tTest (tOp (rNeL K) (tVar 13) (tVar 4))) (tTest (tOp (rNeL K) (tVar 5) (tVar 12))))) (tRet (tC (.bl false))) tNext) (tSeq (tFor (iList K (tVar 15)) (gName 16) (tSeq (tDrop (tBM K "list" rAppend (tOp (rIxA K) (tVar 16) (tC (.int 2))) (tCons (tC (.int 5)) tNil))) (tAsg (tUn (rU fun i => V.int (-i)) (tC (.int 1))) (gSub (tVar 16) (tC (.int 0)) rSetL)))) (tSeq (tIfS (tTest (tOp (rNeL K) (tComp ["frame"] [] (iList K (tVar 15)) (gName 0) tTrue (tCB (rLen K) (tCons (tOp (rIxA K) (tVar 0) (tC (.int 2))) tNil))) (tComp ["frame"] [] (iList K (tVar 14)) (gName 0) tTrue (tOp (rI0 fun i j => .int (i + j)) (tCB (rLen K) (tCons (tOp (rIxA K) (tVar 0) (tC (.int 2))) tNil)) (tC (.int 1)))))) (tRet (tC (.bl false))) tNext) (tRet (tCall sp_frames [] E0 (tCons (tCall (sp_frames_of K) [] E0 (tCons (tVar 5) (tCons (tVar 13) tNil))) (tCons (tVar 14) tNil))))))))))) D σ H := by
  subst hσ
  have w := WC.start (ow := []) (H := H) (fun _ h => by cases h)
  walk_at "rd"
  refine w.lstOf (.inl (SqL.of hqa)) fun kq H1 w => ?_
  walk_at "rd"
  refine w.lstOf (.inl (SqL.of (w.sm _ _ hqw))) fun hw H2 w => ?_
  have s2 := w.sm
  have hkq := w.get1
  have hhw := w.get0
  walk_at "rd"
  refine use2 ⟨qa, qw, sp, vs, ws, rfl, rfl, s2 _ _ hqa, rsp.mono s2.ts, s2 _ _ hqw, hsl, hwl, hws, hok, fun a1 f1 H3 e1 w1 => ?_⟩
  have s3 := s2.trans w1.sm
  have D1 := fobjs_at w1.all
  have hf1 : f1.length = sp.length := by have := congrArg List.length e1; simpa using this
  have l1 := wFr_len e1 hok
  have told : ∀ (Hx : Hp) (Q : VK), Same H3 Hx → (∀ a fz H', fz.map (·.2) = sp.map (wFr ws) → WC [] Hx H' (fObjs a fz) [] → Q (.ref a) H') → sp_frames_of K [.ref qa, .ref hw] Hx Q E0 := fun Hx Q s q =>
    use2 ⟨qa, hw, sp, vs, ws, rfl, rfl, (s3.trans s) _ _ hqa, rsp.mono (s3.trans s).ts, s _ _ (w1.sm _ _ hhw), hsl, hwl, hws, hok, q⟩
  walk_at "rd"
  refine told H3 _ (Same.refl _) fun a2 f2 H4 e2 w2 => ?_
  have D2 := fobjs_at w2.all
  have hf2 : f2.length = sp.length := by have := congrArg List.length e2; simpa using this
  have l2 := wFr_len e2 hok
  have s4 := s3.trans w2.sm
  walk_at "rd"
  refine use2 ⟨a2, a1, f2, f1, rfl, rfl, D2, D1.mono w2.sm, by rw [e1, e2], by omega, fun z hz => by have := l2 z hz; omega, fun H5 s5 => ?_⟩
  have s45 := s4.trans s5
  have w5 : WC [] H3 H5 (fObjs a2 f2) [] := w2.same s5
  walk_at "rd"
  refine rd_neLI (SqL.of (s5 _ _ (w2.sm _ _ (w1.sm _ _ hhw)))) (SqL.of (s45 _ _ hqw)) ?_
  walk_at "rd"
  refine iteNS rfl ?_
  walk_at "rd"
  refine ⟨qa, kq, vs, vs, sp.map sfD, sp.map sfD, rfl, rfl, SqL.of (s45 _ _ hqa), SqL.of (s5 _ _ (w2.sm _ _ (w1.sm _ _ hkq))), rsp.mono s45.ts, rsp.mono s45.ts, pls_map fun s _ => sfD_pl s, pls_map fun s _ => sfD_pl s, Nat.le_trans (deps_map (n := 5) fun s _ => sfD_dep s) (by decide), ?_⟩
  rw [eqD_same]
  walk_at "rd"
  refine ilK_of (SqL.of w5.get0) ?_
  refine for_list (xs := f2.map fun z => V.ref z.1.1) (fun i σ Hx => (∃ c16, σ = [c0, c1, c2, c3, some (.ref qw), some (.ref qa), c6, c7, c8, c9, c10, c11, some (.ref kq), some (.ref hw), some (.ref a1), some (.ref a2), c16]) ∧ WC [] H3 Hx (fObjs a2 ((f2.take i).map chg ++ f2.drop i)) []) ⟨⟨_, rfl⟩, by simpa using w5⟩ (fun i σ Hx _ ⟨_, w⟩ => SqL.of (by
      have := w.get0
      have e : ((f2.take i).map chg ++ f2.drop i).map (fun z => V.ref z.1.1) = f2.map fun z => V.ref z.1.1 := by
        rw [List.map_append, List.map_map]
        have : ((fun z : FZ => V.ref z.1.1) ∘ chg) = fun z => V.ref z.1.1 := rfl
        rw [this, ← List.map_append, List.take_append_drop]
      rw [e] at this; exact this)) ?_ ?_
  · rintro i x σ Hx hx ⟨⟨c16, rfl⟩, w⟩
    rw [List.getElem?_map] at hx
    obtain ⟨z, ez, rfl⟩ := Option.map_eq_some_iff.mp hx
    have hi := (List.getElem?_eq_some_iff.mp ez).1
    have ed : f2.drop i = z :: f2.drop (i + 1) := by
      rw [List.drop_eq_getElem_cons hi]
      congr 1
      rw [List.getElem?_eq_getElem hi] at ez
      exact Option.some.inj ez
    generalize hpre : (f2.take i).map chg = pre at w
    have w : WC [] H3 Hx (((a2, HO.lst ((pre ++ z :: f2.drop (i + 1)).map fun z => V.ref z.1.1)) :: pre.flatMap frObj) ++ (z.1.1, .lst [.int z.2.1, .int z.2.2.1, .ref z.1.2]) :: (z.1.2, .lst (z.2.2.2.map V.int)) :: (f2.drop (i + 1)).flatMap frObj) [] := by
      rw [ed] at w
      simpa [fObjs, frObj] using w
    have hz1 : Hx z.1.1 = some (.lst [.int z.2.1, .int z.2.2.1, .ref z.1.2]) := AllAt.here w.all
    have w' : WC [] H3 Hx ((((a2, HO.lst ((pre ++ z :: f2.drop (i + 1)).map fun z => V.ref z.1.1)) :: pre.flatMap frObj) ++ [(z.1.1, .lst [.int z.2.1, .int z.2.2.1, .ref z.1.2])]) ++ (z.1.2, .lst (z.2.2.2.map V.int)) :: (f2.drop (i + 1)).flatMap frObj) [] := by simpa using w
    have hz2 : Hx z.1.2 = some (.lst (z.2.2.2.map V.int)) := AllAt.here w'.all
    have := l2 z (List.mem_of_getElem? ez)
    walk_at "rd"
    refine rd_ixaL (v := .ref z.1.2) hz1 rfl ?_
    walk_at "rd"
    refine ⟨.inl ⟨rfl, _, SqL.of hz2⟩, ?_⟩
    walk_at "rd"
    refine WC.app w' (Nat.lt_of_le_of_lt (show (z.2.2.2.map V.int).length ≤ 200000 by simp; omega) (by rw [sizeLine_eq]; decide)) fun H6 w => ?_
    have w : WC [] H3 H6 (((a2, HO.lst ((pre ++ z :: f2.drop (i + 1)).map fun z => V.ref z.1.1)) :: pre.flatMap frObj) ++ (z.1.1, .lst [.int z.2.1, .int z.2.2.1, .ref z.1.2]) :: (z.1.2, .lst (z.2.2.2.map V.int ++ [.int 5])) :: (f2.drop (i + 1)).flatMap frObj) [] := by simpa using w
    walk_at "rd"
    refine WC.set (j := 0) w rfl fun H7 w => ?_
    walk_at "rd"
    refine ⟨⟨_, rfl⟩, ?_⟩
    have e8 : fObjs a2 ((f2.take (i + 1)).map chg ++ f2.drop (i + 1)) = ((a2, HO.lst ((pre ++ z :: f2.drop (i + 1)).map fun z => V.ref z.1.1)) :: pre.flatMap frObj) ++ (z.1.1, .lst [.int (-1), .int z.2.2.1, .ref z.1.2]) :: (z.1.2, .lst (z.2.2.2.map V.int ++ [.int 5])) :: (f2.drop (i + 1)).flatMap frObj := by
      rw [List.take_add_one, ez, List.map_append, hpre]
      simp [fObjs, frObj, chg]
    rw [e8]
    exact w
  · rintro σ Hx ⟨⟨c16, rfl⟩, w⟩
    rw [List.length_map, List.take_length, List.drop_length, List.append_nil] at w
    have D3 := fobjs_at w.all
    have D4 := D1.mono w.sm
    have lens : ∀ (hx : List V → St → Hp → Prop), True := fun _ => trivial
    walk_at "rd"
    refine ilK_of (SqL.of D3.1) ?_
    refine cw_list (xs := (f2.map chg).map fun z => V.ref z.1.1) (small_le (by simp; omega)) (fun i ys σ Hy => (∃ x1, σ = [x1]) ∧ Hy = Hx ∧ ys = ((f2.take i).map fun z => (z.2.2.2.length : Int) + 1).map V.int) ⟨⟨none, rfl⟩, rfl, rfl⟩ (fun i ys σ Hy _ ⟨_, e, _⟩ => by rw [e]; exact SqL.of D3.1) ?_ ?_
    · rintro i x ys σ Hy hx hle hlt ⟨⟨x1, rfl⟩, rfl, rfl⟩
      rw [List.map_map, List.getElem?_map] at hx
      obtain ⟨z, ez, rfl⟩ := Option.map_eq_some_iff.mp hx
      obtain ⟨g1, g2⟩ := D3.2 (chg z) (List.mem_map_of_mem (List.mem_of_getElem? ez))
      walk_at "rd"
      refine rd_ixaL (v := .ref z.1.2) g1 rfl ?_
      walk_at "rd"
      refine rd_lenL' (SqL.of g2) ?_
      refine ⟨hlt, by simpa using hle, ⟨_, rfl⟩, rfl, ?_⟩
      rw [List.take_add_one, ez]
      simp [chg]
    rintro ys σ Hy hyl ⟨⟨x1, rfl⟩, rfl, rfl⟩ u1 hu1
    have n1 := Same.new (o := .lst (((f2.take ((f2.map chg).map fun z => V.ref z.1.1).length).map fun z => (z.2.2.2.length : Int) + 1).map V.int)) hu1
    have g1 : upd Hy u1 (.lst (((f2.take ((f2.map chg).map fun z => V.ref z.1.1).length).map fun z => (z.2.2.2.length : Int) + 1).map V.int)) u1 = some (.lst ((f2.map fun z => (z.2.2.2.length : Int) + 1).map V.int)) := by rw [upd_same, List.length_map, List.length_map, List.take_length]
    have D5 := D4.mono n1
    have s6 : Same H3 (upd Hy u1 (.lst (((f2.take ((f2.map chg).map fun z => V.ref z.1.1).length).map fun z => (z.2.2.2.length : Int) + 1).map V.int))) := w.sm.trans n1
    generalize upd Hy u1 (HO.lst (((f2.take ((f2.map chg).map fun z => V.ref z.1.1).length).map fun z => (z.2.2.2.length : Int) + 1).map V.int)) = H6 at g1 D5 s6
    walk_at "rd"
    refine ilK_of (SqL.of D5.1) ?_
    refine cw_list (xs := f1.map fun z => V.ref z.1.1) (small_le (by simp; omega)) (fun i ys σ Hy => (∃ x1, σ = [x1]) ∧ Hy = H6 ∧ ys = ((f1.take i).map fun z => (z.2.2.2.length : Int) + 1).map V.int) ⟨⟨none, rfl⟩, rfl, rfl⟩ (fun i ys σ Hy _ ⟨_, e, _⟩ => by rw [e]; exact SqL.of D5.1) ?_ ?_
    · rintro i x ys σ Hy hx hle hlt ⟨⟨x1, rfl⟩, rfl, rfl⟩
      rw [List.getElem?_map] at hx
      obtain ⟨z, ez, rfl⟩ := Option.map_eq_some_iff.mp hx
      obtain ⟨g1, g2⟩ := D5.2 z (List.mem_of_getElem? ez)
      walk_at "rd"
      refine rd_ixaL (v := .ref z.1.2) g1 rfl ?_
      walk_at "rd"
      refine rd_lenL' (SqL.of g2) ?_
      walk_at "rd"
      refine ⟨hlt, by simpa using hle, ⟨_, rfl⟩, rfl, ?_⟩
      rw [List.take_add_one, ez]
      simp
    rintro ys σ Hy hyl ⟨⟨x1, rfl⟩, rfl, rfl⟩ u2 hu2
    have n2 := Same.new (o := .lst (((f1.take (f1.map fun z => V.ref z.1.1).length).map fun z => (z.2.2.2.length : Int) + 1).map V.int)) hu2
    have g2 : upd Hy u2 (.lst (((f1.take (f1.map fun z => V.ref z.1.1).length).map fun z => (z.2.2.2.length : Int) + 1).map V.int)) u2 = some (.lst ((f1.map fun z => (z.2.2.2.length : Int) + 1).map V.int)) := by rw [upd_same, List.length_map, List.take_length]
    have D6 := D5.mono n2
    have s7 := s6.trans n2
    have g1' := n2 _ _ g1
    generalize upd Hy u2 (HO.lst (((f1.take (f1.map fun z => V.ref z.1.1).length).map fun z => (z.2.2.2.length : Int) + 1).map V.int)) = H7 at g1' g2 D6 s7
    have el : (f2.map fun z => (z.2.2.2.length : Int) + 1) = f1.map fun z => (z.2.2.2.length : Int) + 1 := by
      have e := e2.trans e1.symm
      have := congrArg (fun l => l.map fun (fr : Fr) => (fr.2.2.length : Int) + 1) e
      rw [List.map_map, List.map_map] at this
      exact this
    walk_at "rd"
    refine rd_neLI (SqL.of g1') (SqL.of g2) ?_
    walk_at "rd"
    refine iteNS el ?_
    walk_at "rd"
    refine told H7 _ s7 fun a3 f3 H8 e3 w3 => ?_
    have l3 := wFr_len e3 hok
    have hf3 : f3.length = sp.length := by have := congrArg List.length e3; simpa using this
    walk_at "rd"
    exact use2 ⟨a3, a1, f3, f1, rfl, rfl, fobjs_at w3.all, D6.mono w3.sm, by rw [e1, e3], by omega, fun z hz => by have := l3 z hz; omega, fun H9 s9 => k _⟩

end
end
end My

end
section


set_option Elab.async false
set_option linter.all false
set_option maxRecDepth 100000
set_option maxHeartbeats 4000000

namespace My
open PySem L2
local macro_rules | `(tactic| walk_at "rd1") => `(tactic| (first | ((with_reducible refine' rd_var ?e ?_); (case e => exact rfl)) | with_reducible refine rd_c ?_ | with_reducible refine rd_op ?_ | with_reducible refine rd_un ?_ | with_reducible refine rd_seq ?_ | with_reducible refine rd_asg ?_ | with_reducible refine rd_gname ?_ | with_reducible refine rd_ret ?_ | with_reducible refine rd_drop ?_ | with_reducible refine rd_next ?_ | with_reducible refine rd_if ?_ | with_reducible refine rd_test ?_ | with_reducible refine rd_tb ?_ | with_reducible refine rd_and ?_ | with_reducible refine rd_or ?_ | with_reducible refine rd_not ?_ | with_reducible refine rd_true ?_ | with_reducible refine rd_andV ?_ | with_reducible refine rd_orV ?_ | with_reducible refine rd_notV ?_ | with_reducible refine rd_ifE ?_ | with_reducible refine rd_chain ?_ | with_reducible refine rd_nil ?_ | with_reducible refine rd_cons ?_ | with_reducible refine rd_cb ?_ | with_reducible refine rd_call ?_ | with_reducible refine rd_I0 ?_ | with_reducible refine rd_U ?_ | with_reducible refine rd_eqI ?_ | with_reducible refine rd_neI ?_ | with_reducible refine rd_eqS ?_ | with_reducible refine rd_neS ?_ | with_reducible refine rd_eqB ?_ | with_reducible refine rd_neB ?_ | with_reducible refine rd_bl ?_ | with_reducible refine rd_int ?_ | with_reducible refine rd_tupN ?_ | with_reducible refine rd_lstN ?_ | with_reducible refine rd_gsub ?_ | with_reducible refine rd_slice ?_ | with_reducible refine rd_nopart ?_ | with_reducible refine rd_part ?_ | with_reducible refine rd_bm ?_ | with_reducible refine rd_bm0 ?_ | with_reducible refine rd_comp ?_ | with_reducible refine rd_itup ?_ | with_reducible refine rd_ilist ?_ | with_reducible refine rd_irng ?_ | with_reducible refine rd_gcons ?_ | with_reducible refine rd_gnil ?_ | with_reducible refine rd_for ?_ | with_reducible refine rd_abs ?_ | with_reducible refine rd_max ?_ | with_reducible refine rd_min ?_ | with_reducible refine rd_intB ?_ | with_reducible refine rd_dput ?_ | with_reducible refine rd_dget2 ?_ | with_reducible refine rd_dget ?_ | with_reducible refine rd_fld ?_ | with_reducible refine rd_sfld ?_ | with_reducible refine rd_meth ?_ | with_reducible refine rd_makeN ?_ | with_reducible refine rd_isN ?_ | with_reducible refine rd_notN ?_ | with_reducible refine rd_izip ?_ | with_reducible refine iteNT ?_ | with_reducible refine iteNF ?_ | with_reducible refine iteF ?_ | with_reducible refine iteT ?_))
local macro_rules | `(tactic| walk_at "rd") => `(tactic| (repeat walk_at "rd1"))
local macro_rules | `(tactic| walk_at "mk") => `(tactic| refine ⟨mk_le rfl, ?_⟩)
local macro_rules | `(tactic| walk_at "rp") => `(tactic| (repeat first | exact reps_nil | refine reps_cons rep_int ?_ | refine reps_cons (by rw [Rep]) ?_ | refine reps_cons (by rw [Rep]; rfl) ?_ | refine reps_cons (by assumption) ?_))

section
variable {P : Program} {w : World} {K : PySem.W.Frag} {mg : Str → Option Value} {base : Heap}
section
variable {C : Addr}
/-! ### the hand's way, turn by turn -/
def hit (P : List Df) (ns : List Int) : Nat → HS
  | 0 => hand0 P ns
  | i + 1 => (hit P ns i).go P
theorem hand0_ok {P : List Df} {ns : List Int} (PO : PgOk P) (hn : ∀ x ∈ ns, x.natAbs ≤ 10 ^ 60) (hl : ns.length ≤ 100000) : HsOk P (hand0 P ns) := by
  obtain ⟨d0, ed0⟩ : ∃ d0, P[(0 : Int).toNat]? = some d0 := ⟨P[0]'(by have := PO.1; exact List.length_pos_iff.mpr this), List.getElem?_eq_getElem _⟩
  have D0 := PO.2.2 d0 (List.mem_of_getElem? ed0)
  refine ⟨by simp [hand0], by simp [hand0], fun fr hfr => ?_, fun i fr e hi => ?_, hn, Int.le_refl _, by simp [hand0]; omega⟩
  · obtain rfl := List.mem_singleton.mp hfr
    exact fr_new PO (Int.le_refl _) ed0 (by have := D0.b; simp; omega) fun x hx => by cases hx
  · simp [hand0] at hi
theorem go_gone {P : List Df} {h : HS} : (h.go P).gone ≤ h.gone + 1 := by
  unfold HS.go
  cases h.fin with
  | some e => simp only; omega
  | none =>
    simp only
    cases h.frames.getLast? with
    | none => simp only; omega
    | some fr =>
      simp only
      cases rowAt P fr.1 fr.2.1 with
      | none => simp only; omega
      | some r =>
        simp only
        cases endAt h fr r with
        | none => simp only; omega
        | some e => simp only; omega
theorem hit_ok {P : List Df} {ns : List Int} (PO : PgOk P) (hn : ∀ x ∈ ns, x.natAbs ≤ 10 ^ 60) (hl : ns.length ≤ 100000) : ∀ i, HsOk P (hit P ns i) ∧ (hit P ns i).gone ≤ i
  | 0 => ⟨hand0_ok PO hn hl, Int.le_refl _⟩
  | i + 1 => by
    obtain ⟨a, b⟩ := hit_ok PO hn hl i
    refine ⟨a.go PO, ?_⟩
    have := go_gone (P := P) (h := hit P ns i)
    show ((hit P ns i).go P).gone ≤ ((i + 1 : Nat) : Int)
    omega
variable {C : Addr}
/-- a hand's places -/
structure HR where
  p : Addr
  dx : Addr
  pa : Addr
  pf : Addr
  pn : Addr
  pl : Addr
  fz : List FZ
  ve : V
abbrev HR.own (r : HR) : List Addr := ownA r.p r.pf r.pn r.pl r.fz
abbrev HR.At (C : Addr) (r : HR) (H : Hp) (P : List Df) (h : HS) : Prop := HA C r.p r.dx r.pa r.pf r.pn r.pl r.fz H P h r.ve
theorem mk_hand {H : Hp} {P : List Df} {pp q : Addr} {ns : List Int} {Q : VK} (oth : List Addr) (pg : PgAt [] H P pp) (PO : PgOk P) (hq : H q = some (.lst (ns.map V.int))) (hl : ns.length ≤ 100000) (ho : ∀ x ∈ oth, H x ≠ none)
    (k : ∀ (r : HR) (H' : Hp) (kq : List Addr), Same H H' → r.At C H' P (hand0 P ns) → (∀ x ∈ r.own, H x = none) → PgF kq H' P r.pa → (∀ x ∈ kq, H' x ≠ none ∧ x ∉ r.own ∧ x ∉ oth) → Q (.ref r.p) H') : NewI C (sp_init C) [.ref pp, .ref q] H Q := by
  intro p dx hp hdx hne
  have s2 : Same H (upd (upd H dx (.own p)) p (.ins C dx [])) := (Same.new (o := .own p) hdx).trans (Same.new (by rw [upd_ne (fun z => hne z.symm)]; exact hp))
  have hp2 : upd (upd H dx (.own p)) p (.ins C dx []) p = some (.ins C dx []) := upd_same
  generalize upd (upd H dx (HO.own p)) p (HO.ins C dx []) = H2 at s2 hp2
  refine use3 ⟨p, dx, P, pp, q, ns, rfl, rfl, rfl, hp2, pg.by (OSame.of s2) s2.ts (fun x hx => by cases hx), PO, s2 _ _ hq, hl, fun pa pf pn pl fz H3 a3 o3 f3 g3 => ⟨rfl, ?_⟩⟩
  have s3 : Same H H3 := fun a o e => o3 a o (fun m => by rw [List.mem_singleton.mp m, hp] at e; cases e) (s2 _ _ e)
  have n3 : ∀ x ∈ ownA p pf pn pl fz, H x = none := fun x hx => by
    rcases f3 x hx with h | h
    · rw [h]; exact hp
    · exact s2.free h
  obtain ⟨kq, pga, hkq⟩ := PgF.of (g3 (ownA p pf pn pl fz ++ oth) fun x hx => by
    rcases List.mem_append.mp hx with h | h
    · exact .inl h
    · right
      intro e
      exact ho x h (s2.free e))
  refine k ⟨p, dx, pa, pf, pn, pl, fz, .non⟩ H3 kq s3 a3 n3 pga fun x hx => ?_
  obtain ⟨⟨ys, e⟩, n⟩ := hkq x hx
  exact ⟨by rw [e]; simp, fun m => n (List.mem_append_left _ m), fun m => n (List.mem_append_right _ m)⟩
theorem cpow30 : CPow 10 30 := ⟨by decide, by decide, by decide⟩
theorem law_r9 (HHand : CHand K C) {D : Ends} {σ : St} {H : Hp} (k : ∀ H, D.rt (.bl true) H) {c0 c1 c2 c3 c6 c8 c9 c10 c11 c12 c13 c14 c15 c16 : Option V} {qw qa : Addr} {ws : List Int} {sp : List SFr} {vs : List V} {p dx pa pf pn pl : Addr} {fz : List FZ} {ve : V} {P : List Df} {h : HS}
    (hσ : σ = [c0, c1, c2, c3, some (.ref qw), some (.ref qa), c6, some (.ref p), c8, c9, c10, c11, c12, c13, c14, c15, c16]) (hqa : H qa = some (.lst vs)) (rsp : Reps H (sp.map sfD) vs) (hqw : H qw = some (.lst (ws.map V.int))) (hsl : sp.length ≤ 100) (hwl : ws.length ≤ 1000) (hws : Ws ws) (hok : ∀ s ∈ sp, SfOk ws.length s)
    (a : HA C p dx pa pf pn pl fz H P h ve) (PO : PgOk P) (HK : HsOk P h) (hg : h.gone ≤ 900) : (tSeq (tAsg (tCB (rLstOf K) (tCons (tOp (rIxA K) (tOp (rIxA K) (tFld K (tVar 7) "frames") (tUn (rU fun i => V.int (-i)) (tC (.int 1)))) (tC (.int 2))) tNil)) (gName 9)) (tSeq (tAsg (tLst (tCons (tComp ["one"] [] (iList K (tFld K (tVar 7) "frames")) (gName 0) tTrue (tOp rCat (tSl (rSlL K) (tVar 0) tNoPart (tPart (tC (.int 2)))) (tLst (tCons (tCB (rLstOf K) (tCons (tOp (rIxA K) (tVar 0) (tC (.int 2))) tNil)) tNil)))) (tCons (tCB (rLstOf K) (tCons (tFld K (tVar 7) "left") tNil)) (tCons (tCB (rLstOf K) (tCons (tFld K (tVar 7) "news") tNil)) (tCons (tFld K (tVar 7) "gone") (tCons (tFld K (tVar 7) "end") tNil)))))) (gName 10)) (tSeq (tAsg (tCall (sp_words_in C) [] E0 (tCons (tVar 7) tNil)) (gName 11)) (tSeq (tIfS (tNot (tB (tCall sp_words [] E0 (tCons (tVar 11) (tCons (tVar 9) tNil))))) (tRet (tC (.bl false))) tNext) (tSeq (tDrop (tBM K "list" rAppend (tVar 11) (tCons (tC (.int 7)) tNil))) (tSeq (tAsg (tOp (rI CPow fun i j => .int (i ^ j.toNat)) (tC (.int 10)) (tC (.int 30))) (gSub (tVar 11) (tC (.int 0)) rSetL)) (tSeq (tIfS (tOr (tNot (tB (tCall (sp_fields C) [] E0 (tCons (tVar 7) (tCons (tVar 10) tNil))))) (tNot (tB (tCall sp_words [] E0 (tCons (tCall (sp_words_in C) [] E0 (tCons (tVar 7) tNil)) (tCons (tVar 9) tNil)))))) (tRet (tC (.bl false))) tNext) (tSeq (tAsg (tCB (rLstOf K) (tCons (tVar 5) tNil)) (gName 12)) (tSeq (tAsg (tCB (rLstOf K) (tCons (tVar 4) tNil)) (gName 13)) (tSeq (tAsg (tCall (sp_due41 K) [] E0 (tCons (tVar 5) (tCons (tVar 4) tNil))) (gName 14)) (tSeq (tAsg (tCall (sp_frames_of K) [] E0 (tCons (tVar 5) (tCons (tVar 13) tNil))) (gName 15)) (tSeq (tIfS (tOr (tNot (tB (tCall sp_frames [] E0 (tCons (tVar 15) (tCons (tVar 14) tNil))))) (tOr (tTest (tOp (rNeL K) (tVar 13) (tVar 4))) (tTest (tOp (rNeL K) (tVar 5) (tVar 12))))) (tRet (tC (.bl false))) tNext) (tSeq (tFor (iList K (tVar 15)) (gName 16) (tSeq (tDrop (tBM K "list" rAppend (tOp (rIxA K) (tVar 16) (tC (.int 2))) (tCons (tC (.int 5)) tNil))) (tAsg (tUn (rU fun i => V.int (-i)) (tC (.int 1))) (gSub (tVar 16) (tC (.int 0)) rSetL)))) (tSeq (tIfS (tTest (tOp (rNeL K) (tComp ["frame"] [] (iList K (tVar 15)) (gName 0) tTrue (tCB (rLen K) (tCons (tOp (rIxA K) (tVar 0) (tC (.int 2))) tNil))) (tComp ["frame"] [] (iList K (tVar 14)) (gName 0) tTrue (tOp (rI0 fun i j => .int (i + j)) (tCB (rLen K) (tCons (tOp (rIxA K) (tVar 0) (tC (.int 2))) tNil)) (tC (.int 1)))))) (tRet (tC (.bl false))) tNext) (tRet (tCall sp_frames [] E0 (tCons (tCall (sp_frames_of K) [] E0 (tCons (tVar 5) (tCons (tVar 13) tNil))) (tCons (tVar 14) tNil)))))))))))))))))) D σ H := by
  subst hσ
  obtain ⟨fz0, z, hz⟩ : ∃ fz0 z, fz = fz0 ++ [z] := by
    rcases List.eq_nil_or_concat fz with e | ⟨l, x, e⟩
    · have := a.fr
      rw [e] at this
      exact absurd this.symm HK.ne
    · exact ⟨l, x, by simpa using e⟩
  have few := HK.few
  have hfl : fz.length = h.frames.length := by rw [← a.fr]; simp
  have bxl : ∀ z ∈ fz, 1 ≤ z.2.2.2.length ∧ z.2.2.2.length ≤ 1000 := fun z hz => by
    obtain ⟨d', _, ed, _, hb⟩ := (HK.fr z.2 (by rw [← a.fr]; exact List.mem_map_of_mem hz)).ex
    have := (PO.2.2 d' (List.mem_of_getElem? ed)).b
    omega
  have z1 := a.z1 (z := z) (by rw [hz]; simp)
  have z2 := a.z2 (z := z) (by rw [hz]; simp)
  have zl := bxl z (by rw [hz]; simp)
  have fl := a.fl
  have fl' := fl
  rw [hz] at fl'
  have sz := HK.sz
  have w := WC.start (ow := []) (H := H) (fun _ h => by cases h)
  walk_at "rd"
  refine fld_of a.obj HHand.cl HHand.n_frames hf_frames ?_
  walk_at "rd"
  refine rd_ixaL fl' fz_last ?_
  walk_at "rd"
  refine rd_ixaL (v := .ref z.1.2) z1 rfl ?_
  walk_at "rd"
  refine w.lstOf (.inl (SqL.of z2)) fun bq H1 w => ?_
  walk_at "rd"
  refine fld_of (a.mono w.sm).obj HHand.cl HHand.n_frames hf_frames ?_
  walk_at "rd"
  refine ilK_of (SqL.of (w.sm _ _ fl)) ?_
  refine cw_list (xs := fz.map fun z => V.ref z.1.1) (small_le (by simp; omega)) (fun i ys σ Hy => (∃ x1, σ = [x1]) ∧ ∃ gz : List FZ, ys = gz.map (fun z => V.ref z.1.1) ∧ gz.map (·.2) = (fz.take i).map (·.2) ∧ WC [] H Hy (gz.flatMap frObj ++ [(bq, .lst (z.2.2.2.map V.int))]) []) ⟨⟨none, rfl⟩, [], rfl, rfl, w⟩ (fun i ys σ Hy _ ⟨_, _, _, _, w⟩ => SqL.of (w.sm _ _ fl)) ?_ ?_
  · rintro i x ys σ Hy hx hle hlt ⟨⟨x1, rfl⟩, gz, rfl, hgz, w⟩
    rw [List.getElem?_map] at hx
    obtain ⟨z, ez, rfl⟩ := Option.map_eq_some_iff.mp hx
    have zm := List.mem_of_getElem? ez
    have g1 := a.z1 zm
    have g2 := a.z2 zm
    walk_at "rd"
    refine w.sl (SqL.of (w.sm _ _ g1)) fun u1 H2 w => ?_
    rw [cut2] at w
    walk_at "rd"
    refine rd_ixaL (v := .ref z.1.2) (w.sm _ _ g1) rfl ?_
    walk_at "rd"
    refine w.lstOf (.inl (SqL.of (w.sm _ _ g2))) fun nb H3 w => ?_
    walk_at "rd"
    refine w.mkL fun u2 H4 w => ?_
    walk_at "rd"
    refine w.cat (w.all (u1, .lst [.int z.2.1, .int z.2.2.1]) (by simp)) w.get0 (by simp) fun nf H5 w => ?_
    refine ⟨hlt, by simpa using hle, ⟨_, rfl⟩, gz ++ [((nf, nb), z.2)], by simp, ?_, ?_⟩
    · rw [List.take_add_one, ez, List.map_append, hgz]
      simp
    · have w := w.subL (List.Sublist.cons₂ _ (List.Sublist.cons _ (List.Sublist.cons₂ _ (List.Sublist.cons _ (List.Sublist.refl _)))))
      refine w.perm ?_
      rw [List.flatMap_append]
      exact List.Perm.append_right [(bq, _)] (List.perm_append_comm (l₁ := [(nf, HO.lst [.int z.2.1, .int z.2.2.1, .ref nb]), (nb, HO.lst (z.2.2.2.map V.int))]) (l₂ := gz.flatMap frObj))
  · rintro ys σ Hy hyl ⟨⟨x1, rfl⟩, gz, rfl, hgz, w⟩ sf hsf
    rw [List.length_map, List.take_length] at hgz
    have w := w.newL (xs := gz.map fun z => V.ref z.1.1) hsf
    generalize upd Hy sf (HO.lst (gz.map fun z => V.ref z.1.1)) = H2 at w
    walk_at "rd"
    refine fld_of (a.mono w.sm).obj HHand.cl HHand.n_left hf_left ?_
    walk_at "rd"
    refine w.lstOf (.inl (SqL.of (w.sm _ _ a.ll))) fun sl H3 w => ?_
    walk_at "rd"
    refine fld_of (a.mono w.sm).obj HHand.cl HHand.n_news hf_news ?_
    walk_at "rd"
    refine w.lstOf (.inl (SqL.of (w.sm _ _ a.nl))) fun sn H4 w => ?_
    walk_at "rd"
    refine fld_of (a.mono w.sm).obj HHand.cl HHand.n_gone hf_gone ?_
    walk_at "rd"
    refine fld_of (a.mono w.sm).obj HHand.cl HHand.n_end hf_end ?_
    walk_at "rd"
    refine w.mkL fun ps H5 w => ?_
    walk_at "rd"
    refine use1 ⟨p, dx, pa, pf, pn, pl, fz0, z, P, h, ve, rfl, by rw [← hz]; exact a.mono w.sm, fun fo H6 s6 n6 h6 => ?_⟩
    have w := w.got (w.same s6) n6 h6
    have hbq : ∀ {Hx : Hp} {X : List (Addr × HO)}, WC [] H Hx (X ++ (gz.flatMap frObj ++ [(bq, .lst (z.2.2.2.map V.int))])) [] → Hx bq = some (.lst (z.2.2.2.map V.int)) := fun w => w.all (bq, .lst (z.2.2.2.map V.int)) (by simp)
    walk_at "rd"
    refine use2 ⟨fo, bq, z.2.2.2, rfl, rfl, w.get0, hbq (X := [_, _, _, _, _]) w, by omega, ?_⟩
    walk_at "rd"
    refine ⟨.inl ⟨rfl, _, SqL.of w.get0⟩, ?_⟩
    walk_at "rd"
    refine w.app0 (by simp; omega) fun H7 w => ?_
    walk_at "rd"
    refine rd_I cpow30 ?_
    walk_at "rd"
    refine WC.set (l1 := []) (j := 0) w (ixN_at (by omega) (by simp)) fun H8 w => ?_
    -- the state
    have st : SA ps sf sn sl gz H8 h ve := by
      have w2 : WC [] H H8 (sObjs ps sf sn sl gz h ve ++ [(bq, .lst (z.2.2.2.map V.int))]) [] := by
        have w1 : WC [] H H8 ((ps, HO.lst [.ref sf, .ref sl, .ref sn, .int h.gone, ve]) :: (sn, HO.lst (h.news.map V.int)) :: (sl, HO.lst (h.left.map V.int)) :: (sf, HO.lst (gz.map fun z => V.ref z.1.1)) :: (gz.flatMap frObj ++ [(bq, .lst (z.2.2.2.map V.int))])) [] := w.subL (List.Sublist.cons _ (List.Sublist.refl _))
        refine w1.perm ?_
        unfold sObjs
        rw [List.append_assoc]
        refine List.Perm.cons _ ?_
        show List.Perm ([(sn, HO.lst (h.news.map V.int)), (sl, HO.lst (h.left.map V.int))] ++ (sf, HO.lst (gz.map fun z => V.ref z.1.1)) :: (gz.flatMap frObj ++ [(bq, .lst (z.2.2.2.map V.int))])) ((sf, HO.lst (gz.map fun z => V.ref z.1.1)) :: ([(sn, HO.lst (h.news.map V.int)), (sl, HO.lst (h.left.map V.int))] ++ (gz.flatMap frObj ++ [(bq, .lst (z.2.2.2.map V.int))])))
        exact List.perm_middle
      have w3 := w2.subL (List.sublist_append_left _ _)
      refine ⟨w3.all, ?_, a.en.mono w.ts, by rw [hgz, a.fr]⟩
      have := w3.nd
      rwa [own_sobjs] at this
    have gzl : gz.length = fz.length := by have := congrArg List.length hgz; simpa using this
    walk_at "rd"
    refine use2 ⟨p, dx, pa, pf, pn, pl, fz, P, h, ve, ps, sf, sn, sl, gz, ve, rfl, rfl, a.mono w.sm, st, by omega, fun fr hfr => ?_, by omega, by omega, fun H9 s9 => ?_⟩
    · rw [← a.fr] at hfr
      obtain ⟨z', hz', rfl⟩ := List.mem_map.mp hfr
      exact (bxl z' hz').2
    have w := w.same s9
    walk_at "rd"
    refine use1 ⟨p, dx, pa, pf, pn, pl, fz0, z, P, h, ve, rfl, by rw [← hz]; exact a.mono w.sm, fun fo2 H10 s10 n10 h10 => ?_⟩
    have w := w.got (w.same s10) n10 h10
    walk_at "rd"
    refine use2 ⟨fo2, bq, z.2.2.2, rfl, rfl, w.get0, hbq (X := [_, _, _, _, _, _]) w, by omega, ?_⟩
    refine rd_bl (iteF (rd_next ?_))
    exact law_r16 k rfl (w.sm _ _ hqa) (rsp.mono w.ts) (w.sm _ _ hqw) hsl hwl hws hok

end
end
end My

end
section


set_option Elab.async false
set_option linter.all false
set_option maxRecDepth 100000
set_option maxHeartbeats 4000000

namespace My
open PySem L2
local macro_rules | `(tactic| walk_at "rd1") => `(tactic| (first | ((with_reducible refine' rd_var ?e ?_); (case e => exact rfl)) | with_reducible refine rd_c ?_ | with_reducible refine rd_op ?_ | with_reducible refine rd_un ?_ | with_reducible refine rd_seq ?_ | with_reducible refine rd_asg ?_ | with_reducible refine rd_gname ?_ | with_reducible refine rd_ret ?_ | with_reducible refine rd_drop ?_ | with_reducible refine rd_next ?_ | with_reducible refine rd_if ?_ | with_reducible refine rd_test ?_ | with_reducible refine rd_tb ?_ | with_reducible refine rd_and ?_ | with_reducible refine rd_or ?_ | with_reducible refine rd_not ?_ | with_reducible refine rd_true ?_ | with_reducible refine rd_andV ?_ | with_reducible refine rd_orV ?_ | with_reducible refine rd_notV ?_ | with_reducible refine rd_ifE ?_ | with_reducible refine rd_chain ?_ | with_reducible refine rd_nil ?_ | with_reducible refine rd_cons ?_ | with_reducible refine rd_cb ?_ | with_reducible refine rd_call ?_ | with_reducible refine rd_I0 ?_ | with_reducible refine rd_U ?_ | with_reducible refine rd_eqI ?_ | with_reducible refine rd_neI ?_ | with_reducible refine rd_eqS ?_ | with_reducible refine rd_neS ?_ | with_reducible refine rd_eqB ?_ | with_reducible refine rd_neB ?_ | with_reducible refine rd_bl ?_ | with_reducible refine rd_int ?_ | with_reducible refine rd_tupN ?_ | with_reducible refine rd_lstN ?_ | with_reducible refine rd_gsub ?_ | with_reducible refine rd_slice ?_ | with_reducible refine rd_nopart ?_ | with_reducible refine rd_part ?_ | with_reducible refine rd_bm ?_ | with_reducible refine rd_bm0 ?_ | with_reducible refine rd_comp ?_ | with_reducible refine rd_itup ?_ | with_reducible refine rd_ilist ?_ | with_reducible refine rd_irng ?_ | with_reducible refine rd_gcons ?_ | with_reducible refine rd_gnil ?_ | with_reducible refine rd_for ?_ | with_reducible refine rd_abs ?_ | with_reducible refine rd_max ?_ | with_reducible refine rd_min ?_ | with_reducible refine rd_intB ?_ | with_reducible refine rd_dput ?_ | with_reducible refine rd_dget2 ?_ | with_reducible refine rd_dget ?_ | with_reducible refine rd_fld ?_ | with_reducible refine rd_sfld ?_ | with_reducible refine rd_meth ?_ | with_reducible refine rd_makeN ?_ | with_reducible refine rd_isN ?_ | with_reducible refine rd_notN ?_ | with_reducible refine rd_izip ?_ | with_reducible refine iteNT ?_ | with_reducible refine iteNF ?_ | with_reducible refine iteF ?_ | with_reducible refine iteT ?_))
local macro_rules | `(tactic| walk_at "rd") => `(tactic| (repeat walk_at "rd1"))
local macro_rules | `(tactic| walk_at "mk") => `(tactic| refine ⟨mk_le rfl, ?_⟩)
local macro_rules | `(tactic| walk_at "rp") => `(tactic| (repeat first | exact reps_nil | refine reps_cons rep_int ?_ | refine reps_cons (by rw [Rep]) ?_ | refine reps_cons (by rw [Rep]; rfl) ?_ | refine reps_cons (by assumption) ?_))

section
variable {P : Program} {w : World} {K : PySem.W.Frag} {mg : Str → Option Value} {base : Heap}
section
variable {C : Addr}
theorem cut_last {xs : List V} (h : xs ≠ []) : cutV xs (some (-1)) none = xs.drop (xs.length - 1) := by
  have hl : 0 < xs.length := List.length_pos_iff.mpr h
  unfold cutV
  have e1 : HT.sIx xs.length 0 (some (-1)) = xs.length - 1 := by
    unfold HT.sIx
    simp
    omega
  have e2 : HT.sIx xs.length xs.length none = xs.length := rfl
  rw [e1, e2]
  rw [List.take_of_length_le (by simp)]
theorem law_r6 (HHand : CHand K C) {D : Ends} {σ : St} {H : Hp} (k : ∀ H, D.rt (.bl true) H) {c0 c3 c6 c7 c8 c9 c10 c11 c12 c13 c14 c15 c16 : Option V} {b l qw qa : Addr} {ws : List Int} {sp : List SFr} {vs : List V} {g : Int}
    (hσ : σ = [c0, some (.ref b), some (.int g), c3, some (.ref qw), some (.ref qa), c6, c7, c8, c9, c10, c11, c12, c13, c14, c15, c16]) (hqa : H qa = some (.lst vs)) (rsp : Reps H (sp.map sfD) vs) (hqw : H qw = some (.lst (ws.map V.int))) (hsl : sp.length ≤ 100) (hwl : ws.length ≤ 1000) (hws : Ws ws) (hok : ∀ s ∈ sp, SfOk ws.length s)
    (bag : BagAt H b l) (nqa : qa ≠ b) (nqw : qw ≠ b) (g0 : 0 ≤ g) (g1 : g ≤ 900) : (tSeq (tAsg (tCall sp_prog25 [] E0 (tCons (tVar 1) tNil)) (gName 6)) (tSeq (tAsg (tMake C (sp_init C) [] E0 (tCons (tVar 6) (tCons (tCall sp_nums25 [] E0 (tCons (tVar 1) tNil)) tNil))) (gName 7)) (tSeq (tFor (iRng1 (tCons (tVar 2) tNil)) (gName 8) (tDrop (tMeth C "go" (sp_go C) [] E0 (tVar 7) tNil))) (tSeq (tAsg (tCB (rLstOf K) (tCons (tOp (rIxA K) (tOp (rIxA K) (tFld K (tVar 7) "frames") (tUn (rU fun i => V.int (-i)) (tC (.int 1)))) (tC (.int 2))) tNil)) (gName 9)) (tSeq (tAsg (tLst (tCons (tComp ["one"] [] (iList K (tFld K (tVar 7) "frames")) (gName 0) tTrue (tOp rCat (tSl (rSlL K) (tVar 0) tNoPart (tPart (tC (.int 2)))) (tLst (tCons (tCB (rLstOf K) (tCons (tOp (rIxA K) (tVar 0) (tC (.int 2))) tNil)) tNil)))) (tCons (tCB (rLstOf K) (tCons (tFld K (tVar 7) "left") tNil)) (tCons (tCB (rLstOf K) (tCons (tFld K (tVar 7) "news") tNil)) (tCons (tFld K (tVar 7) "gone") (tCons (tFld K (tVar 7) "end") tNil)))))) (gName 10)) (tSeq (tAsg (tCall (sp_words_in C) [] E0 (tCons (tVar 7) tNil)) (gName 11)) (tSeq (tIfS (tNot (tB (tCall sp_words [] E0 (tCons (tVar 11) (tCons (tVar 9) tNil))))) (tRet (tC (.bl false))) tNext) (tSeq (tDrop (tBM K "list" rAppend (tVar 11) (tCons (tC (.int 7)) tNil))) (tSeq (tAsg (tOp (rI CPow fun i j => .int (i ^ j.toNat)) (tC (.int 10)) (tC (.int 30))) (gSub (tVar 11) (tC (.int 0)) rSetL)) (tSeq (tIfS (tOr (tNot (tB (tCall (sp_fields C) [] E0 (tCons (tVar 7) (tCons (tVar 10) tNil))))) (tNot (tB (tCall sp_words [] E0 (tCons (tCall (sp_words_in C) [] E0 (tCons (tVar 7) tNil)) (tCons (tVar 9) tNil)))))) (tRet (tC (.bl false))) tNext) (tSeq (tAsg (tCB (rLstOf K) (tCons (tVar 5) tNil)) (gName 12)) (tSeq (tAsg (tCB (rLstOf K) (tCons (tVar 4) tNil)) (gName 13)) (tSeq (tAsg (tCall (sp_due41 K) [] E0 (tCons (tVar 5) (tCons (tVar 4) tNil))) (gName 14)) (tSeq (tAsg (tCall (sp_frames_of K) [] E0 (tCons (tVar 5) (tCons (tVar 13) tNil))) (gName 15)) (tSeq (tIfS (tOr (tNot (tB (tCall sp_frames [] E0 (tCons (tVar 15) (tCons (tVar 14) tNil))))) (tOr (tTest (tOp (rNeL K) (tVar 13) (tVar 4))) (tTest (tOp (rNeL K) (tVar 5) (tVar 12))))) (tRet (tC (.bl false))) tNext) (tSeq (tFor (iList K (tVar 15)) (gName 16) (tSeq (tDrop (tBM K "list" rAppend (tOp (rIxA K) (tVar 16) (tC (.int 2))) (tCons (tC (.int 5)) tNil))) (tAsg (tUn (rU fun i => V.int (-i)) (tC (.int 1))) (gSub (tVar 16) (tC (.int 0)) rSetL)))) (tSeq (tIfS (tTest (tOp (rNeL K) (tComp ["frame"] [] (iList K (tVar 15)) (gName 0) tTrue (tCB (rLen K) (tCons (tOp (rIxA K) (tVar 0) (tC (.int 2))) tNil))) (tComp ["frame"] [] (iList K (tVar 14)) (gName 0) tTrue (tOp (rI0 fun i j => .int (i + j)) (tCB (rLen K) (tCons (tOp (rIxA K) (tVar 0) (tC (.int 2))) tNil)) (tC (.int 1)))))) (tRet (tC (.bl false))) tNext) (tRet (tCall sp_frames [] E0 (tCons (tCall (sp_frames_of K) [] E0 (tCons (tVar 5) (tCons (tVar 13) tNil))) (tCons (tVar 14) tNil))))))))))))))))))))) D σ H := by
  subst hσ
  walk_at "rd"
  refine use1 ⟨b, l, rfl, bag, fun pp P H1 PO f1 B1 s1 => ?_⟩
  obtain ⟨kp, pgp, hkp⟩ := PgF.of (own := [b]) (f1.at fun x hx => by rw [List.mem_singleton.mp hx]; exact bag.al.1)
  walk_at "rd"
  refine use1 ⟨b, l, rfl, B1, fun qn ns H2 hn0 hqn hnl hnb B2 s2 => ?_⟩
  have ks : KS kp H1 H2 := ⟨fun x hx o e => s2 x o (fun z => (hkp x hx).2 (by simp [z])) e, s2.ts B1⟩
  have t2 := (s1.ts bag).trans (s2.ts B1)
  walk_at "rd"
  refine mk_hand [] ((pgp.ks ks).at fun _ _ m => by cases m) PO hqn (by omega) (fun _ m => by cases m) fun r H3 kq s3 a3 n3 pga hkq => ?_
  have hqa3 := s3 _ _ (s2 _ _ nqa (s1 _ _ nqa hqa))
  have hqw3 := s3 _ _ (s2 _ _ nqw (s1 _ _ nqw hqw))
  have hd : ∀ x ∈ [qa, qw], x ∉ r.own := fun x hx m => by
    have := n3 x m
    simp only [List.mem_cons, List.not_mem_nil, or_false] at hx
    rcases hx with rfl | rfl
    · rw [s2 _ _ nqa (s1 _ _ nqa hqa)] at this; cases this
    · rw [s2 _ _ nqw (s1 _ _ nqw hqw)] at this; cases this
  have al3 : ∀ x ∈ [qa, qw], H3 x ≠ none := fun x hx => by
    simp only [List.mem_cons, List.not_mem_nil, or_false] at hx
    rcases hx with rfl | rfl
    · rw [hqa3]; simp
    · rw [hqw3]; simp
  walk_at "rd"
  refine irK_of (by omega) (by omega) ?_
  refine for_range (n := g.toNat) (fun i σ Hx => ∃ (fz : List FZ) (ve : V) (c8 : Option V), σ = [c0, some (.ref b), some (.int g), c3, some (.ref qw), some (.ref qa), some (.ref pp), some (.ref r.p), c8, c9, c10, c11, c12, c13, c14, c15, c16] ∧ HA C r.p r.dx r.pa r.pf r.pn r.pl fz Hx P (hit P ns i) ve ∧ KS [qa, qw] H3 Hx ∧ ∀ x ∈ [qa, qw], x ∉ ownA r.p r.pf r.pn r.pl fz) ⟨r.fz, r.ve, _, rfl, a3, KS.refl _ _, hd⟩ ?_ ?_
  · rintro i σ Hx hi ⟨fz, ve, c8, rfl, a, ks, d⟩
    obtain ⟨HOi, gi⟩ := hit_ok PO hnb (by omega) i
    walk_at "rd"
    refine meth_of a.obj hm_go ?_
    walk_at "rd"
    refine use1 ⟨_, _, _, _, _, _, _, P, hit P ns i, _, rfl, a, PO, HOi, by omega, fun fz' ve3 H4 a4 o4 f4 => ?_⟩
    exact ⟨fz', ve3, _, rfl, a4, ks.by o4 a.notup d, apart f4 d fun x hx => ks.some hx (al3 x hx)⟩
  · rintro σ Hx ⟨fz, ve, c8, rfl, a, ks, d⟩
    obtain ⟨HOi, gi⟩ := hit_ok PO hnb (by omega) g.toNat
    exact law_r9 HHand k rfl (ks.at' _ (by simp) _ hqa3) (rsp.mono ((t2.trans s3.ts).trans ks.ts)) (ks.at' _ (by simp) _ hqw3) hsl hwl hws hok a PO HOi (by omega)
theorem law_r0 (HHand : CHand K C) {D : Ends} {H : Hp} (k : ∀ H, D.rt (.bl true) H) {a : Addr} {ns : List Int} (hS : SqL K H a (ns.map V.int)) (hlen : ns.length ≤ 63) : (tSeq (tAsg (tCall (sp_bag K) [] E0 (tCons (tVar 0) tNil)) (gName 1)) (tSeq (tAsg (tCall sp_draw [] E0 (tCons (tVar 1) (tCons (tC (.int 41)) tNil))) (gName 2)) (tSeq (tAsg (tOp (rIxA K) (tLst (tCons (tCall sp_draw [] E0 (tCons (tVar 1) (tCons (tC (.int 10)) tNil))) (tCons (tC (.int 40)) tNil))) (tOp (rI CDivB fun i j => .int (i / j)) (tCall sp_draw [] E0 (tCons (tVar 1) (tCons (tC (.int 4)) tNil))) (tC (.int 3)))) (gName 3)) (tSeq (tAsg (tComp ["w"] [1] (iRng1 (tCons (tVar 3) tNil)) (gName 0) tTrue (tCall sp_great [] E0 (tCons (tVar 1) tNil))) (gName 4)) (tSeq (tAsg (tCall sp_paper41 [] E0 (tCons (tVar 1) (tCons (tVar 3) tNil))) (gName 5)) (tSeq (tIfS (tTest (tOp rEq (tCall sp_draw [] E0 (tCons (tVar 1) (tCons (tC (.int 4)) tNil))) (tC (.int 3)))) (tAsg (tOp rCat (tSl (rSlL K) (tVar 5) tNoPart (tPart (tC (.int 3)))) (tSl (rSlL K) (tSl (rSlL K) (tVar 5) tNoPart (tPart (tC (.int 3)))) (tPart (tUn (rU fun i => V.int (-i)) (tC (.int 1)))) tNoPart)) (gName 5)) tNext) (tSeq (tAsg (tCall sp_prog25 [] E0 (tCons (tVar 1) tNil)) (gName 6)) (tSeq (tAsg (tMake C (sp_init C) [] E0 (tCons (tVar 6) (tCons (tCall sp_nums25 [] E0 (tCons (tVar 1) tNil)) tNil))) (gName 7)) (tSeq (tFor (iRng1 (tCons (tVar 2) tNil)) (gName 8) (tDrop (tMeth C "go" (sp_go C) [] E0 (tVar 7) tNil))) (tSeq (tAsg (tCB (rLstOf K) (tCons (tOp (rIxA K) (tOp (rIxA K) (tFld K (tVar 7) "frames") (tUn (rU fun i => V.int (-i)) (tC (.int 1)))) (tC (.int 2))) tNil)) (gName 9)) (tSeq (tAsg (tLst (tCons (tComp ["one"] [] (iList K (tFld K (tVar 7) "frames")) (gName 0) tTrue (tOp rCat (tSl (rSlL K) (tVar 0) tNoPart (tPart (tC (.int 2)))) (tLst (tCons (tCB (rLstOf K) (tCons (tOp (rIxA K) (tVar 0) (tC (.int 2))) tNil)) tNil)))) (tCons (tCB (rLstOf K) (tCons (tFld K (tVar 7) "left") tNil)) (tCons (tCB (rLstOf K) (tCons (tFld K (tVar 7) "news") tNil)) (tCons (tFld K (tVar 7) "gone") (tCons (tFld K (tVar 7) "end") tNil)))))) (gName 10)) (tSeq (tAsg (tCall (sp_words_in C) [] E0 (tCons (tVar 7) tNil)) (gName 11)) (tSeq (tIfS (tNot (tB (tCall sp_words [] E0 (tCons (tVar 11) (tCons (tVar 9) tNil))))) (tRet (tC (.bl false))) tNext) (tSeq (tDrop (tBM K "list" rAppend (tVar 11) (tCons (tC (.int 7)) tNil))) (tSeq (tAsg (tOp (rI CPow fun i j => .int (i ^ j.toNat)) (tC (.int 10)) (tC (.int 30))) (gSub (tVar 11) (tC (.int 0)) rSetL)) (tSeq (tIfS (tOr (tNot (tB (tCall (sp_fields C) [] E0 (tCons (tVar 7) (tCons (tVar 10) tNil))))) (tNot (tB (tCall sp_words [] E0 (tCons (tCall (sp_words_in C) [] E0 (tCons (tVar 7) tNil)) (tCons (tVar 9) tNil)))))) (tRet (tC (.bl false))) tNext) (tSeq (tAsg (tCB (rLstOf K) (tCons (tVar 5) tNil)) (gName 12)) (tSeq (tAsg (tCB (rLstOf K) (tCons (tVar 4) tNil)) (gName 13)) (tSeq (tAsg (tCall (sp_due41 K) [] E0 (tCons (tVar 5) (tCons (tVar 4) tNil))) (gName 14)) (tSeq (tAsg (tCall (sp_frames_of K) [] E0 (tCons (tVar 5) (tCons (tVar 13) tNil))) (gName 15)) (tSeq (tIfS (tOr (tNot (tB (tCall sp_frames [] E0 (tCons (tVar 15) (tCons (tVar 14) tNil))))) (tOr (tTest (tOp (rNeL K) (tVar 13) (tVar 4))) (tTest (tOp (rNeL K) (tVar 5) (tVar 12))))) (tRet (tC (.bl false))) tNext) (tSeq (tFor (iList K (tVar 15)) (gName 16) (tSeq (tDrop (tBM K "list" rAppend (tOp (rIxA K) (tVar 16) (tC (.int 2))) (tCons (tC (.int 5)) tNil))) (tAsg (tUn (rU fun i => V.int (-i)) (tC (.int 1))) (gSub (tVar 16) (tC (.int 0)) rSetL)))) (tSeq (tIfS (tTest (tOp (rNeL K) (tComp ["frame"] [] (iList K (tVar 15)) (gName 0) tTrue (tCB (rLen K) (tCons (tOp (rIxA K) (tVar 0) (tC (.int 2))) tNil))) (tComp ["frame"] [] (iList K (tVar 14)) (gName 0) tTrue (tOp (rI0 fun i j => .int (i + j)) (tCB (rLen K) (tCons (tOp (rIxA K) (tVar 0) (tC (.int 2))) tNil)) (tC (.int 1)))))) (tRet (tC (.bl false))) tNext) (tRet (tCall sp_frames [] E0 (tCons (tCall (sp_frames_of K) [] E0 (tCons (tVar 5) (tCons (tVar 13) tNil))) (tCons (tVar 14) tNil))))))))))))))))))))))))))) D [some (.ref a), none, none, none, none, none, none, none, none, none, none, none, none, none, none, none, none] H := by
  walk_at "rd"
  refine use1 ⟨a, ns, rfl, hS, hlen, fun b l H1 hb s1 B1 => ?_⟩
  have w := WB.start B1
  walk_at "rd"
  refine w.draw (by decide) (by decide) fun g H2 g0 g1 w => ?_
  walk_at "rd"
  refine w.draw (by decide) (by decide) fun d H3 d0 d1 w => ?_
  walk_at "rd"
  refine w.mkL fun u H4 w => ?_
  walk_at "rd"
  refine w.draw (by decide) (by decide) fun wi H5 wi0 wi1 w => ?_
  walk_at "rd"
  refine rd_I (cdivb_of (by decide) (by decide)) ?_
  obtain ⟨mn, m0, m1, hat⟩ : ∃ m : Int, 0 ≤ m ∧ m ≤ 40 ∧ atI [V.int d, V.int 40] (wi / 3) = some (.int m) := by
    have : wi / 3 = 0 ∨ wi / 3 = 1 := by omega
    rcases this with h | h
    · exact ⟨d, by omega, by omega, by rw [h]; rfl⟩
    · exact ⟨40, by omega, by omega, by rw [h]; rfl⟩
  walk_at "rd"
  refine rd_ixaL w.get0 hat ?_
  walk_at "rd"
  refine irK_of (by omega) (by omega) ?_
  refine cw_range (n := mn.toNat) (small_le (by omega)) (fun i ys σ Hy => (∃ x1, σ = [x1, some (.ref b)]) ∧ WB b l H1 Hy [] [] ∧ ∃ zs : List Int, zs.length = i ∧ ys = zs.map V.int ∧ Ws zs) ⟨⟨none, rfl⟩, w.noL, [], rfl, rfl, fun _ h => (by cases h)⟩ ?_ ?_
  · rintro i ys σ Hy hi hle hlt ⟨⟨x1, rfl⟩, w, zs, hzl, rfl, hz⟩
    walk_at "rd"
    refine use1 ⟨b, l, rfl, w.bag, fun n Hz hn Bz bz => ?_⟩
    refine ⟨hlt, by simp; omega, ⟨_, rfl⟩, w.drew Bz bz, zs ++ [n], by simp [hzl], by simp, fun x hx => ?_⟩
    rcases List.mem_append.mp hx with h | h
    · exact hz x h
    · rw [List.mem_singleton.mp h]; exact Nat.le_trans hn (Nat.pow_le_pow_right (by decide) (by decide))
  rintro ys σ Hy hyl ⟨⟨x1, rfl⟩, w, zs, hzl, rfl, hz⟩ qw hqw
  have w := w.newL (xs := zs.map V.int) hqw
  generalize upd Hy qw (HO.lst (zs.map V.int)) = H6 at w
  have nqw : qw ≠ b := fun z => w.ob (z ▸ w.nw qw (by simp))
  walk_at "rd"
  refine use2 ⟨b, l, mn, rfl, rfl, ⟨m0, m1⟩, w.bag, fun qa sp vs H7 nqa0 hqa rsp hsl hne hok B7 s7 => ?_⟩
  have w := (w.got (w.drew B7 s7) nqa0 hqa).addRs rsp
  have nqa : qa ≠ b := fun z => w.ob (z ▸ w.nw qa (by simp))
  have hmn : (zs.length : Int) = mn := by omega
  have hvl := rsp.length
  rw [List.length_map] at hvl
  rw [← hmn] at hok
  refine rd_gname ?_
  dsimp only
  refine rd_meet (fun σ' H' => ∃ (qa : Addr) (sp : List SFr) (vs : List V), σ' = [some (.ref a), some (.ref b), some (.int g), some (.int mn), some (.ref qw), some (.ref qa), none, none, none, none, none, none, none, none, none, none, none] ∧ WB b l H1 H' [(qa, .lst vs), (qw, .lst (zs.map V.int))] [(sp.map sfD, vs)] ∧ sp.length ≤ 100 ∧ ∀ s ∈ sp, SfOk zs.length s) ?_ fun N hN => ?_
  · rintro σ' H' ⟨qa, sp, vs, rfl, w, hsl, hok⟩
    have nqa : qa ≠ b := fun z => w.ob (z ▸ w.nw qa (by simp))
    exact law_r6 HHand k rfl w.get0 w.rps0 w.get1 hsl (by omega) hz hok w.bag nqa nqw g0 (by omega)
  · walk_at "rd"
    refine w.draw (by decide) (by decide) fun c H8 c0 c1 w => ?_
    walk_at "rd"
    refine ite_dd (fun hc => ?_) (fun hc => rd_next (hN _ _ ⟨qa, sp, vs, rfl, w, by omega, hok⟩))
    walk_at "rd"
    refine w.sl (SqL.of w.get0) fun u1 H9 w => ?_
    have e3 : cutV vs none (some 3) = vs.take 3 := by
      by_cases h : 3 ≤ vs.length
      · exact cut_to (k := 3) h
      · unfold cutV
        rw [show HT.sIx vs.length 0 none = 0 from rfl, List.drop_zero, Nat.sub_zero]
        rw [List.take_of_length_le (i := 3) (by omega)]
        refine List.take_of_length_le ?_
        have : HT.sIx vs.length vs.length (some 3) = vs.length := by
          unfold HT.sIx
          simp
          omega
        omega
    rw [e3] at w
    walk_at "rd"
    refine w.sl (SqL.of (w.all (qa, .lst vs) (by simp))) fun u2 H10 w => ?_
    rw [e3] at w
    walk_at "rd"
    have hne3 : vs.take 3 ≠ [] := fun e => by
      have := congrArg List.length e
      have h0 : 0 < sp.length := List.length_pos_iff.mpr hne
      rw [List.length_take, List.length_nil] at this
      omega
    refine w.sl (SqL.of w.get0) fun u3 H11 w => ?_
    rw [cut_last hne3] at w
    walk_at "rd"
    refine w.cat (w.all (u1, .lst (vs.take 3)) (by simp)) w.get0 (by simp; omega) fun u4 H12 w => ?_
    refine rd_gname (hN _ _ ⟨u4, sp.take 3 ++ (sp.take 3).drop ((vs.take 3).length - 1), _, rfl, (w.noR.subL (List.Sublist.cons₂ _ (List.Sublist.cons _ (List.Sublist.cons _ (List.Sublist.cons _ (List.Sublist.cons _ (List.Sublist.refl _))))))).addRs ?_, by simp; omega, fun s hs => ?_⟩)
    · have r := w.rps0
      have r3 := r.take 3
      have r4 := r3.drop ((vs.take 3).length - 1)
      rw [List.map_append]
      refine Reps.append ?_ ?_
      · rw [List.map_take]; exact r3
      · rw [List.map_drop, List.map_take]; exact r4
    · rcases List.mem_append.mp hs with h | h
      · exact hok s (List.mem_of_mem_take h)
      · exact hok s (List.mem_of_mem_take (List.mem_of_mem_drop h))

end
end
end My

end
set_option Elab.async false
set_option linter.all false
set_option maxRecDepth 100000
set_option maxHeartbeats 4000000

namespace My
open PySem L2
section
variable {P : Program} {w : World} {K : PySem.W.Frag} {mg : Str → Option Value} {base : Heap}
variable {C : Addr}
theorem sc_law : FnScope ["script", "bag", "gone", "many", "words", "paper", "program", "hand", "k", "boxes", "state", "found", "kept", "handed", "due", "told", "frame"] ["script"] (defScope s_law) := ⟨rfl, rfl, rfl, by decide +kernel, rfl, by decide +kernel, by decide +kernel⟩
theorem law_fn {f : Addr} {fd : FuncData} (B : Blt mg) (G : Glb K mg) (HHand : CHand K C) (T__law_draw : TopFn K mg "_law_draw" s__law_draw ["bag", "many"]) (T__law_number : TopFn K mg "_law_number" s__law_number ["bag"]) (T__law_bag : TopFn K mg "_law_bag" s__law_bag ["script"]) (T__law_whole : TopFn K mg "_law_whole" s__law_whole ["found"]) (T_row_of : TopFn K mg "row_of" s_row_of ["program", "frame"]) (T_goes_to_row : TopFn K mg "goes_to_row" s_goes_to_row ["row", "number"]) (T_new_frame : TopFn K mg "new_frame" s_new_frame ["program", "f", "numbers"]) (T_reckoned : TopFn K mg "reckoned" s_reckoned ["row", "boxes"]) (T_row_behind : TopFn K mg "row_behind" s_row_behind ["row", "at", "boxes"]) (T_Hand_end_at : TopM K C "end_at" "Hand.end_at" s_Hand_end_at ["self", "row"]) (T_Hand_do_own : TopM K C "do_own" "Hand.do_own" s_Hand_do_own ["self", "row", "boxes"]) (T_Hand_give_back : TopM K C "give_back" "Hand.give_back" s_Hand_give_back ["self", "number"]) (T_Hand_do_row : TopM K C "do_row" "Hand.do_row" s_Hand_do_row ["self", "row"]) (T_Hand_go : TopM K C "go" "Hand.go" s_Hand_go ["self"]) (T_Hand___init__ : TopI K mg C "Hand" "Hand.__init__" s_Hand___init__ ["self", "program", "inputs"]) (T__law_words : TopFn K mg "_law_words" s__law_words ["found", "due"]) (T__law_frames : TopFn K mg "_law_frames" s__law_frames ["found", "due"]) (T__law_fields : TopFn K mg "_law_fields" s__law_fields ["hand", "state"]) (T__law_row : TopFn K mg "_law_row" s__law_row ["bag", "boxes", "many", "signs"]) (T__law_def : TopFn K mg "_law_def" s__law_def ["bag", "signs", "sign"]) (T__law_program : TopFn K mg "_law_program" s__law_program ["bag"]) (T__law_numbers : TopFn K mg "_law_numbers" s__law_numbers ["bag"]) (T__law_great : TopFn K mg "_law_great" s__law_great ["bag"]) (T__law_form : TopFn K mg "_law_form" s__law_form ["bag", "many"]) (T__law_paper : TopFn K mg "_law_paper" s__law_paper ["bag", "many"]) (T_worth : TopFn K mg "worth" s_worth ["form", "words"]) (T_words_in : TopFn K mg "words_in" s_words_in ["hand"]) (T_frames_of : TopFn K mg "frames_of" s_frames_of ["paper", "words"]) (T__law_due : TopFn K mg "_law_due" s__law_due ["paper", "words"]) (T_law : Fun K "law" "law" s_law f fd) : FnOk P w K mg base CX0 12 f fd ["script"] (spLaw K) := by
  have C_law_draw := c__law_draw (P := P) (w := w) (base := base) B T__law_draw
  have C_law_number := c__law_number (P := P) (w := w) (base := base) T__law_number C_law_draw
  have C_law_bag := c__law_bag (P := P) (w := w) (base := base) B T__law_bag
  have C_law_whole := c__law_whole (P := P) (w := w) (base := base) B T__law_whole
  have Crow_of := c_row_of (P := P) (w := w) (base := base) T_row_of
  have Cgoes_to_row := c_goes_to_row (P := P) (w := w) (base := base) T_goes_to_row
  have Cnew_frame := c_new_frame (P := P) (w := w) (base := base) B T_new_frame
  have Creckoned := c_reckoned (P := P) (w := w) (base := base) T_reckoned
  have Crow_behind := c_row_behind (P := P) (w := w) (base := base) T_row_behind Cgoes_to_row
  have MHand_end_at := c_Hand_end_at (P := P) (w := w) (base := base) B G HHand T_Hand_end_at
  have MHand_do_own := c_Hand_do_own (P := P) (w := w) (base := base) B G HHand T_Hand_do_own Creckoned
  have MHand_give_back := c_Hand_give_back (P := P) (w := w) (base := base) HHand T_Hand_give_back Crow_of
  have MHand_do_row := c_Hand_do_row (P := P) (w := w) (base := base) B HHand T_Hand_do_row Cnew_frame Crow_behind MHand_give_back MHand_do_own
  have MHand_go := c_Hand_go (P := P) (w := w) (base := base) HHand T_Hand_go Crow_of MHand_end_at MHand_do_row
  have NHand := c_Hand___init__ (P := P) (w := w) (base := base) B HHand T_Hand___init__ Cnew_frame
  have C_law_words := c__law_words (P := P) (w := w) (base := base) B T__law_words C_law_whole
  have C_law_frames := c__law_frames (P := P) (w := w) (base := base) B T__law_frames C_law_words
  have C_law_fields := c__law_fields (P := P) (w := w) (base := base) B HHand T__law_fields C_law_whole C_law_words C_law_frames
  have C_law_row := c__law_row (P := P) (w := w) (base := base) B T__law_row C_law_draw C_law_number
  have C_law_def := c__law_def (P := P) (w := w) (base := base) B T__law_def C_law_draw C_law_row
  have C_law_program := c__law_program (P := P) (w := w) (base := base) B T__law_program C_law_draw C_law_def
  have C_law_numbers := c__law_numbers (P := P) (w := w) (base := base) B T__law_numbers C_law_draw C_law_number
  have C_law_great := c__law_great (P := P) (w := w) (base := base) B T__law_great C_law_draw C_law_number
  have C_law_form := c__law_form (P := P) (w := w) (base := base) B T__law_form C_law_draw C_law_great
  have C_law_paper := c__law_paper (P := P) (w := w) (base := base) B T__law_paper C_law_draw C_law_form
  have Cworth := c_worth (P := P) (w := w) (base := base) B T_worth
  have Cwords_in := c_words_in (P := P) (w := w) (base := base) B HHand T_words_in
  have Cframes_of := c_frames_of (P := P) (w := w) (base := base) B T_frames_of Cworth
  have C_law_due := c__law_due (P := P) (w := w) (base := base) T__law_due
  refine T_law.law (k := 11) sc_law fun cdv A outer s H a ns Q E hr hS hlen k => ?_
  have nd := sc_law.nd
  have hu := hr.units
  have main : (tSeq (tAsg (tCall (sp_bag K) [] E0 (tCons (tVar 0) tNil)) (gName 1)) (tSeq (tAsg (tCall sp_draw [] E0 (tCons (tVar 1) (tCons (tC (.int 41)) tNil))) (gName 2)) (tSeq (tAsg (tOp (rIxA K) (tLst (tCons (tCall sp_draw [] E0 (tCons (tVar 1) (tCons (tC (.int 10)) tNil))) (tCons (tC (.int 40)) tNil))) (tOp (rI CDivB fun i j => .int (i / j)) (tCall sp_draw [] E0 (tCons (tVar 1) (tCons (tC (.int 4)) tNil))) (tC (.int 3)))) (gName 3)) (tSeq (tAsg (tComp ["w"] [1] (iRng1 (tCons (tVar 3) tNil)) (gName 0) tTrue (tCall sp_great [] E0 (tCons (tVar 1) tNil))) (gName 4)) (tSeq (tAsg (tCall sp_paper41 [] E0 (tCons (tVar 1) (tCons (tVar 3) tNil))) (gName 5)) (tSeq (tIfS (tTest (tOp rEq (tCall sp_draw [] E0 (tCons (tVar 1) (tCons (tC (.int 4)) tNil))) (tC (.int 3)))) (tAsg (tOp rCat (tSl (rSlL K) (tVar 5) tNoPart (tPart (tC (.int 3)))) (tSl (rSlL K) (tSl (rSlL K) (tVar 5) tNoPart (tPart (tC (.int 3)))) (tPart (tUn (rU fun i => V.int (-i)) (tC (.int 1)))) tNoPart)) (gName 5)) tNext) (tSeq (tAsg (tCall sp_prog25 [] E0 (tCons (tVar 1) tNil)) (gName 6)) (tSeq (tAsg (tMake C (sp_init C) [] E0 (tCons (tVar 6) (tCons (tCall sp_nums25 [] E0 (tCons (tVar 1) tNil)) tNil))) (gName 7)) (tSeq (tFor (iRng1 (tCons (tVar 2) tNil)) (gName 8) (tDrop (tMeth C "go" (sp_go C) [] E0 (tVar 7) tNil))) (tSeq (tAsg (tCB (rLstOf K) (tCons (tOp (rIxA K) (tOp (rIxA K) (tFld K (tVar 7) "frames") (tUn (rU fun i => V.int (-i)) (tC (.int 1)))) (tC (.int 2))) tNil)) (gName 9)) (tSeq (tAsg (tLst (tCons (tComp ["one"] [] (iList K (tFld K (tVar 7) "frames")) (gName 0) tTrue (tOp rCat (tSl (rSlL K) (tVar 0) tNoPart (tPart (tC (.int 2)))) (tLst (tCons (tCB (rLstOf K) (tCons (tOp (rIxA K) (tVar 0) (tC (.int 2))) tNil)) tNil)))) (tCons (tCB (rLstOf K) (tCons (tFld K (tVar 7) "left") tNil)) (tCons (tCB (rLstOf K) (tCons (tFld K (tVar 7) "news") tNil)) (tCons (tFld K (tVar 7) "gone") (tCons (tFld K (tVar 7) "end") tNil)))))) (gName 10)) (tSeq (tAsg (tCall (sp_words_in C) [] E0 (tCons (tVar 7) tNil)) (gName 11)) (tSeq (tIfS (tNot (tB (tCall sp_words [] E0 (tCons (tVar 11) (tCons (tVar 9) tNil))))) (tRet (tC (.bl false))) tNext) (tSeq (tDrop (tBM K "list" rAppend (tVar 11) (tCons (tC (.int 7)) tNil))) (tSeq (tAsg (tOp (rI CPow fun i j => .int (i ^ j.toNat)) (tC (.int 10)) (tC (.int 30))) (gSub (tVar 11) (tC (.int 0)) rSetL)) (tSeq (tIfS (tOr (tNot (tB (tCall (sp_fields C) [] E0 (tCons (tVar 7) (tCons (tVar 10) tNil))))) (tNot (tB (tCall sp_words [] E0 (tCons (tCall (sp_words_in C) [] E0 (tCons (tVar 7) tNil)) (tCons (tVar 9) tNil)))))) (tRet (tC (.bl false))) tNext) (tSeq (tAsg (tCB (rLstOf K) (tCons (tVar 5) tNil)) (gName 12)) (tSeq (tAsg (tCB (rLstOf K) (tCons (tVar 4) tNil)) (gName 13)) (tSeq (tAsg (tCall (sp_due41 K) [] E0 (tCons (tVar 5) (tCons (tVar 4) tNil))) (gName 14)) (tSeq (tAsg (tCall (sp_frames_of K) [] E0 (tCons (tVar 5) (tCons (tVar 13) tNil))) (gName 15)) (tSeq (tIfS (tOr (tNot (tB (tCall sp_frames [] E0 (tCons (tVar 15) (tCons (tVar 14) tNil))))) (tOr (tTest (tOp (rNeL K) (tVar 13) (tVar 4))) (tTest (tOp (rNeL K) (tVar 5) (tVar 12))))) (tRet (tC (.bl false))) tNext) (tSeq (tFor (iList K (tVar 15)) (gName 16) (tSeq (tDrop (tBM K "list" rAppend (tOp (rIxA K) (tVar 16) (tC (.int 2))) (tCons (tC (.int 5)) tNil))) (tAsg (tUn (rU fun i => V.int (-i)) (tC (.int 1))) (gSub (tVar 16) (tC (.int 0)) rSetL)))) (tSeq (tIfS (tTest (tOp (rNeL K) (tComp ["frame"] [] (iList K (tVar 15)) (gName 0) tTrue (tCB (rLen K) (tCons (tOp (rIxA K) (tVar 0) (tC (.int 2))) tNil))) (tComp ["frame"] [] (iList K (tVar 14)) (gName 0) tTrue (tOp (rI0 fun i j => .int (i + j)) (tCB (rLen K) (tCons (tOp (rIxA K) (tVar 0) (tC (.int 2))) tNil)) (tC (.int 1)))))) (tRet (tC (.bl false))) tNext) (tRet (tCall sp_frames [] E0 (tCons (tCall (sp_frames_of K) [] E0 (tCons (tVar 5) (tCons (tVar 13) tNil))) (tCons (tVar 14) tNil))))))))))))))))))))))))))) { nx := fun _ H' => Q .non H', rt := Q } [some (.ref a), none, none, none, none, none, none, none, none, none, none, none, none, none, none, none, none] H := law_r0 HHand k hS hlen
  refine' go_body [some (.ref a), none, none, none, none, none, none, none, none, none, none, none, none, none, none, none, none] rfl ?hb main
  case hb =>
   refine' pss_cons ?zb ?zc
   case zb => exact (ps_setC (i := 1) nd rfl (Or.inr rfl) (pe_fn C_law_bag (hr.mono (by first | decide | omega)) (by rfl) (pa_consN (pv 0) pa_nil)))
   case zc =>
    refine' pss_cons ?zd ?ze
    case zd => exact (ps_setC (i := 2) nd rfl (Or.inl rfl) (pe_fn C_law_draw (hr.mono (by first | decide | omega)) (by rfl) (pa_consN (pv 1) (pa_consK pe_int pa_nil))))
    case ze =>
     refine' pss_cons ?zf ?zg
     case zf =>
      refine' ps_setS (i := 3) ?zh ?zi ?zj ?zk
      case zh => exact nd
      case zi => exact rfl
      case zj => exact (Or.inl rfl)
      case zk =>
       refine' pe_ix ?zl ?zm ?zn ?zo
       case zl => exact (k_ix (K := K) rfl)
       case zm =>
        refine' pe_lst ?zp
        case zp => exact (pa_consC (pe_fn C_law_draw (hr.mono (by first | decide | omega)) (by rfl) (pa_consN (pv 1) (pa_consK pe_int pa_nil))) (pa_consK pe_int pa_nil))
       case zn => exact (pe_op op_fdivB (pe_fn C_law_draw (hr.mono (by first | decide | omega)) (by rfl) (pa_consN (pv 1) (pa_consK pe_int pa_nil))) pe_int)
       case zo => exact (fun _ _ => rfl)
     case zg =>
      refine' pss_cons ?zq ?zr
      case zq =>
       refine' ps_setc (i := 4) (LN := ["w"]) (FN := ["bag"]) (fr := [1]) ?zs ?zt ?zu ?zv ?zw ?zx ?zy ?zz ?zba
       case zs => exact rfl
       case zt => exact nd
       case zu => exact rfl
       case zv => exact rfl
       case zw => exact (bk_of (by rfl))
       case zx => exact (pi_range1 rfl B.b_range (pa_consN (pv 3) pa_nil))
       case zy =>
        intro cl C fp pins s H
        exact (pg_name (i := 0) (show ((["w"] : List Str) ++ (["bag"] : List Str)).Nodup by decide +kernel) rfl (Or.inl rfl))
       case zz =>
        intro cl C fp pins s H
        exact pts_nil
       case zba =>
        intro cl C fp pins s H
        exact (pe_fn C_law_great (hr.mono (by first | decide | omega)) (by rfl) (pa_consN (pv 1) pa_nil))
      case zr =>
       refine' pss_cons ?zbb ?zbc
       case zbb => exact (ps_setC (i := 5) nd rfl (Or.inl rfl) (pe_fn C_law_paper (hr.mono (by first | decide | omega)) (by rfl) (pa_consN (pv 1) (pa_consN (pv 3) pa_nil))))
       case zbc =>
        refine' pss_cons ?zbd ?zbe
        case zbd =>
         refine' ps_if ?zbf ?zbg ?zbh
         case zbf => exact (pt_cmpR op_eq (pe_fn C_law_draw (hr.mono (by first | decide | omega)) (by rfl) (pa_consN (pv 1) (pa_consK pe_int pa_nil))) pe_int (nomark _))
         case zbg =>
          refine' pss_one ?zbi
          case zbi =>
           refine' ps_setB (i := 5) ?zbj ?zbk ?zbl ?zbm
           case zbj => exact nd
           case zbk => exact rfl
           case zbl => exact (Or.inl rfl)
           case zbm =>
            refine' pe_op ?zbn ?zbo ?zbp
            case zbn => exact op_cat
            case zbo => exact (pe_slice (k_sl (K := K) rfl) (pv 5) po_none (po_some pe_int))
            case zbp => exact (pe_slice (k_sl (K := K) rfl) (pe_slice (k_sl (K := K) rfl) (pv 5) po_none (po_some pe_int)) (po_some (pe_un un_neg pe_int)) po_none)
         case zbh => exact pss_nil
        case zbe =>
         refine' pss_cons ?zbq ?zbr
         case zbq => exact (ps_setC (i := 6) nd rfl (Or.inl rfl) (pe_fn C_law_program (hr.mono (by first | decide | omega)) (by rfl) (pa_consN (pv 1) pa_nil)))
         case zbr =>
          refine' pss_cons ?zbs ?zbt
          case zbs =>
           refine' ps_setC (i := 7) ?zbu ?zbv ?zbw ?zbx
           case zbu => exact nd
           case zbv => exact rfl
           case zbw => exact (Or.inl rfl)
           case zbx =>
            refine' pe_new ?zby ?zbz ?zca ?zcb
            case zby => exact NHand
            case zbz => exact (hr.mono (by first | decide | omega))
            case zca => exact (by rfl)
            case zcb => exact (pa_consN (pv 6) (pa_consC (pe_fn C_law_numbers (hr.mono (by first | decide | omega)) (by rfl) (pa_consN (pv 1) pa_nil)) pa_nil))
          case zbt =>
           refine' pss_cons ?zcc ?zcd
           case zcc =>
            refine' ps_for ?zce ?zcf ?zcg ?zch ?zci
            case zce => exact PassesOwn.never
            case zcf => exact rfl
            case zcg => exact (pi_range1 rfl B.b_range (pa_consN (pv 2) pa_nil))
            case zch => exact (pg_name (i := 8) nd rfl (Or.inl rfl))
            case zci => exact (pss_one (ps_expr (pe_m0 MHand_go HHand.cl (hr.mono (by first | decide | omega)) (pv 7))))
           case zcd =>
            refine' pss_cons ?zcj ?zck
            case zcj =>
             refine' ps_setC (i := 9) ?zcl ?zcm ?zcn ?zco
             case zcl => exact nd
             case zcm => exact rfl
             case zcn => exact (Or.inl rfl)
             case zco =>
              refine' pe_callTy ?zcp ?zcq ?zcr ?zcs ?zct
              case zcp => exact (k_lstOf (K := K) rfl)
              case zcq => exact (by rfl)
              case zcr => exact B.b_list
              case zcs => exact bt_list
              case zct =>
               refine' pa_consS ?zcu ?zcv
               case zcu => exact (pe_ix (k_ix (K := K) rfl) (pe_ix (k_ix (K := K) rfl) (k_fld (K := K) rfl (pv 7) rfl) (pe_un un_neg pe_int) (fun _ _ => rfl)) pe_int (fun _ _ => rfl))
               case zcv => exact pa_nil
            case zck =>
             refine' pss_cons ?zcw ?zcx
             case zcw =>
              refine' ps_setL (i := 10) ?zcy ?zcz ?zda ?zdb
              case zcy => exact nd
              case zcz => exact rfl
              case zda => exact (Or.inl rfl)
              case zdb =>
               refine' pe_lst ?zdc
               case zdc =>
                refine' pa_consM ?zdd ?zde
                case zdd =>
                 refine' pe_comp (LN := ["one"]) (FN := []) (fr := []) ?zdf ?zdg ?zdh ?zdi ?zdj ?zdk
                 case zdf => exact rfl
                 case zdg => exact (bk_of (by rfl))
                 case zdh => exact (k_pi_list (K := K) rfl (k_fld (K := K) rfl (pv 7) rfl))
                 case zdi =>
                  intro cl C fp pins s H
                  exact (pg_name (i := 0) (show ((["one"] : List Str) ++ ([] : List Str)).Nodup by decide +kernel) rfl (Or.inl rfl))
                 case zdj =>
                  intro cl C fp pins s H
                  exact pts_nil
                 case zdk =>
                  intro cl C fp pins s H
                  refine' pe_op ?zdl ?zdm ?zdn
                  case zdl => exact op_cat
                  case zdm => exact (pe_slice (k_sl (K := K) rfl) (pv 0) po_none (po_some pe_int))
                  case zdn =>
                   refine' pe_lst ?zdo
                   case zdo =>
                    refine' pa_consC ?zdp ?zdq
                    case zdp => exact (pe_callTy (k_lstOf (K := K) rfl) (by rfl) B.b_list bt_list (pa_consS (pe_ix (k_ix (K := K) rfl) (pv 0) pe_int (fun _ _ => rfl)) pa_nil))
                    case zdq => exact pa_nil
                case zde =>
                 refine' pa_consC ?zdr ?zds
                 case zdr => exact (pe_callTy (k_lstOf (K := K) rfl) (by rfl) B.b_list bt_list (pa_consA (k_fld (K := K) rfl (pv 7) rfl) pa_nil))
                 case zds =>
                  refine' pa_consC ?zdt ?zdu
                  case zdt => exact (pe_callTy (k_lstOf (K := K) rfl) (by rfl) B.b_list bt_list (pa_consA (k_fld (K := K) rfl (pv 7) rfl) pa_nil))
                  case zdu => exact (pa_consA (k_fld (K := K) rfl (pv 7) rfl) (pa_consA (k_fld (K := K) rfl (pv 7) rfl) pa_nil))
             case zcx =>
              refine' pss_cons ?zdv ?zdw
              case zdv => exact (ps_setC (i := 11) nd rfl (Or.inl rfl) (pe_fn Cwords_in (hr.mono (by first | decide | omega)) (by rfl) (pa_consN (pv 7) pa_nil)))
              case zdw =>
               refine' pss_cons ?zdx ?zdy
               case zdx =>
                refine' ps_if ?zdz ?zea ?zeb
                case zdz => exact (pt_not (pt_val (pe_fn C_law_words (hr.mono (by first | decide | omega)) (by rfl) (pa_consN (pv 11) (pa_consN (pv 9) pa_nil)))))
                case zea => exact (pss_one (ps_ret pe_bl))
                case zeb => exact pss_nil
               case zdy =>
                refine' pss_cons ?zec ?zed
                case zec => exact (ps_expr (k_bm (K := K) rfl PySem.F.plainAttrs_list PySem.F.slot_list_append PySem.F.type_list_append mt_append (pv 11) (pa_consK pe_int pa_nil)))
                case zed =>
                 refine' pss_cons ?zee ?zef
                 case zee => exact (ps_asg (pe_op op_pow pe_int pe_int) (pg_sub (pv 11) pe_int set_list))
                 case zef =>
                  refine' pss_cons ?zeg ?zeh
                  case zeg =>
                   refine' ps_if ?zei ?zej ?zek
                   case zei =>
                    refine' PW.pt ?zel
                    case zel =>
                     refine' pw_or ?zem ?zen
                     case zem => exact (pt_not (pt_val (pe_fn C_law_fields (hr.mono (by first | decide | omega)) (by rfl) (pa_consN (pv 7) (pa_consN (pv 10) pa_nil)))))
                     case zen =>
                      refine' pw_or1 ?zeo
                      case zeo =>
                       refine' pt_not ?zep
                       case zep =>
                        refine' pt_val ?zeq
                        case zeq =>
                         refine' pe_fn ?zer ?zes ?zet ?zeu
                         case zer => exact C_law_words
                         case zes => exact (hr.mono (by first | decide | omega))
                         case zet => exact (by rfl)
                         case zeu => exact (pa_consC (pe_fn Cwords_in (hr.mono (by first | decide | omega)) (by rfl) (pa_consN (pv 7) pa_nil)) (pa_consN (pv 9) pa_nil))
                   case zej => exact (pss_one (ps_ret pe_bl))
                   case zek => exact pss_nil
                  case zeh =>
                   refine' pss_cons ?zev ?zew
                   case zev => exact (ps_setC (i := 12) nd rfl (Or.inl rfl) (pe_callTy (k_lstOf (K := K) rfl) (by rfl) B.b_list bt_list (pa_consN (pv 5) pa_nil)))
                   case zew =>
                    refine' pss_cons ?zex ?zey
                    case zex => exact (ps_setC (i := 13) nd rfl (Or.inl rfl) (pe_callTy (k_lstOf (K := K) rfl) (by rfl) B.b_list bt_list (pa_consN (pv 4) pa_nil)))
                    case zey =>
                     refine' pss_cons ?zez ?zfa
                     case zez => exact (ps_setC (i := 14) nd rfl (Or.inl rfl) (pe_fn C_law_due (hr.mono (by first | decide | omega)) (by rfl) (pa_consN (pv 5) (pa_consN (pv 4) pa_nil))))
                     case zfa =>
                      refine' pss_cons ?zfb ?zfc
                      case zfb => exact (ps_setC (i := 15) nd rfl (Or.inl rfl) (pe_fn Cframes_of (hr.mono (by first | decide | omega)) (by rfl) (pa_consN (pv 5) (pa_consN (pv 13) pa_nil))))
                      case zfc =>
                       refine' pss_cons ?zfd ?zfe
                       case zfd =>
                        refine' ps_if ?zff ?zfg ?zfh
                        case zff =>
                         refine' PW.pt ?zfi
                         case zfi =>
                          refine' pw_or ?zfj ?zfk
                          case zfj => exact (pt_not (pt_val (pe_fn C_law_frames (hr.mono (by first | decide | omega)) (by rfl) (pa_consN (pv 15) (pa_consN (pv 14) pa_nil)))))
                          case zfk => exact (pw_or (pt_cmpR (k_neL (K := K) rfl hu) (pv 13) (pv 4) (nomark _)) (pw_or1 (pt_cmpR (k_neL (K := K) rfl hu) (pv 5) (pv 12) (nomark _))))
                        case zfg => exact (pss_one (ps_ret pe_bl))
                        case zfh => exact pss_nil
                       case zfe =>
                        refine' pss_cons ?zfl ?zfm
                        case zfl =>
                         refine' ps_for ?zfn ?zfo ?zfp ?zfq ?zfr
                         case zfn => exact PassesOwn.never
                         case zfo => exact rfl
                         case zfp => exact (k_pi_list (K := K) rfl (pv 15))
                         case zfq => exact (pg_name (i := 16) nd rfl (Or.inl rfl))
                         case zfr =>
                          refine' pss_cons ?zfs ?zft
                          case zfs =>
                           refine' ps_expr ?zfu
                           case zfu =>
                            refine' k_bm (K := K) ?zfv ?zfw ?zfx ?zfy ?zfz ?zga ?zgb
                            case zfv => exact rfl
                            case zfw => exact PySem.F.plainAttrs_list
                            case zfx => exact PySem.F.slot_list_append
                            case zfy => exact PySem.F.type_list_append
                            case zfz => exact mt_append
                            case zga => exact (pe_ix (k_ix (K := K) rfl) (pv 16) pe_int (fun _ _ => rfl))
                            case zgb => exact (pa_consK pe_int pa_nil)
                          case zft => exact (pss_one (ps_asg (pe_un un_neg pe_int) (pg_sub (pv 16) pe_int set_list)))
                        case zfm =>
                         refine' pss_cons ?zgc ?zgd
                         case zgc =>
                          refine' ps_if ?zge ?zgf ?zgg
                          case zge =>
                           refine' pt_cmpR ?zgh ?zgi ?zgj ?zgk
                           case zgh => exact (k_neL (K := K) rfl hu)
                           case zgi =>
                            refine' pe_comp (LN := ["frame"]) (FN := []) (fr := []) ?zgl ?zgm ?zgn ?zgo ?zgp ?zgq
                            case zgl => exact rfl
                            case zgm => exact (bk_of (by rfl))
                            case zgn => exact (k_pi_list (K := K) rfl (pv 15))
                            case zgo =>
                             intro cl C fp pins s H
                             exact (pg_name (i := 0) (show ((["frame"] : List Str) ++ ([] : List Str)).Nodup by decide +kernel) rfl (Or.inl rfl))
                            case zgp =>
                             intro cl C fp pins s H
                             exact pts_nil
                            case zgq =>
                             intro cl C fp pins s H
                             exact (pe_callB (k_len (K := K) rfl) (by rfl) B.b_len bt_len (pa_consS (pe_ix (k_ix (K := K) rfl) (pv 0) pe_int (fun _ _ => rfl)) pa_nil))
                           case zgj =>
                            refine' pe_comp (LN := ["frame"]) (FN := []) (fr := []) ?zgr ?zgs ?zgt ?zgu ?zgv ?zgw
                            case zgr => exact rfl
                            case zgs => exact (bk_of (by rfl))
                            case zgt => exact (k_pi_list (K := K) rfl (pv 14))
                            case zgu =>
                             intro cl C fp pins s H
                             exact (pg_name (i := 0) (show ((["frame"] : List Str) ++ ([] : List Str)).Nodup by decide +kernel) rfl (Or.inl rfl))
                            case zgv =>
                             intro cl C fp pins s H
                             exact pts_nil
                            case zgw =>
                             intro cl C fp pins s H
                             refine' pe_op ?zgx ?zgy ?zgz
                             case zgx => exact op_add
                             case zgy => exact (pe_callB (k_len (K := K) rfl) (by rfl) B.b_len bt_len (pa_consS (pe_ix (k_ix (K := K) rfl) (pv 0) pe_int (fun _ _ => rfl)) pa_nil))
                             case zgz => exact pe_int
                           case zgk => exact (nomark _)
                          case zgf => exact (pss_one (ps_ret pe_bl))
                          case zgg => exact pss_nil
                         case zgd =>
                          refine' pss_one ?zha
                          case zha =>
                           refine' ps_ret ?zhb
                           case zhb =>
                            refine' pe_fn ?zhc ?zhd ?zhe ?zhf
                            case zhc => exact C_law_frames
                            case zhd => exact (hr.mono (by first | decide | omega))
                            case zhe => exact (by rfl)
                            case zhf => exact (pa_consC (pe_fn Cframes_of (hr.mono (by first | decide | omega)) (by rfl) (pa_consN (pv 5) (pa_consN (pv 13) pa_nil))) (pa_consN (pv 14) pa_nil))

end
theorem all_mk {l : PySem.W.OpenLaw} {w : World} {K : PySem.W.Frag} {h : Heap} {mg : Str → Option Value} {fa : Addr} (X : K.In h) (G : h.Ns mainGlobals mg) (hfa : mg "law" = some (.ref fa))
    {f0 : Addr} {od0 an0 : Option Addr} {sl0 : Array (Option Value)} {oc0 kV0 dc0 pm0 cd0 ct0 : Value}
    {f1 : Addr} {od1 an1 : Option Addr} {sl1 : Array (Option Value)} {oc1 kV1 dc1 pm1 cd1 ct1 : Value}
    {f2 : Addr} {od2 an2 : Option Addr} {sl2 : Array (Option Value)} {oc2 kV2 dc2 pm2 cd2 ct2 : Value}
    {f3 : Addr} {od3 an3 : Option Addr} {sl3 : Array (Option Value)} {oc3 kV3 dc3 pm3 cd3 ct3 : Value}
    {f4 : Addr} {od4 an4 : Option Addr} {sl4 : Array (Option Value)} {oc4 kV4 dc4 pm4 cd4 ct4 : Value}
    {f5 : Addr} {od5 an5 : Option Addr} {sl5 : Array (Option Value)} {oc5 kV5 dc5 pm5 cd5 ct5 : Value}
    {f6 : Addr} {od6 an6 : Option Addr} {sl6 : Array (Option Value)} {oc6 kV6 dc6 pm6 cd6 ct6 : Value}
    {f7 : Addr} {od7 an7 : Option Addr} {sl7 : Array (Option Value)} {oc7 kV7 dc7 pm7 cd7 ct7 : Value}
    {f8 : Addr} {od8 an8 : Option Addr} {sl8 : Array (Option Value)} {oc8 kV8 dc8 pm8 cd8 ct8 : Value}
    {f9 : Addr} {od9 an9 : Option Addr} {sl9 : Array (Option Value)} {oc9 kV9 dc9 pm9 cd9 ct9 : Value}
    {f10 : Addr} {od10 an10 : Option Addr} {sl10 : Array (Option Value)} {oc10 kV10 dc10 pm10 cd10 ct10 : Value}
    {f11 : Addr} {od11 an11 : Option Addr} {sl11 : Array (Option Value)} {oc11 kV11 dc11 pm11 cd11 ct11 : Value}
    {f12 : Addr} {od12 an12 : Option Addr} {sl12 : Array (Option Value)} {oc12 kV12 dc12 pm12 cd12 ct12 : Value}
    {f13 : Addr} {od13 an13 : Option Addr} {sl13 : Array (Option Value)} {oc13 kV13 dc13 pm13 cd13 ct13 : Value}
    {f14 : Addr} {od14 an14 : Option Addr} {sl14 : Array (Option Value)} {oc14 kV14 dc14 pm14 cd14 ct14 : Value}
    {f15 : Addr} {od15 an15 : Option Addr} {sl15 : Array (Option Value)} {oc15 kV15 dc15 pm15 cd15 ct15 : Value}
    {f16 : Addr} {od16 an16 : Option Addr} {sl16 : Array (Option Value)} {oc16 kV16 dc16 pm16 cd16 ct16 : Value}
    {f17 : Addr} {od17 an17 : Option Addr} {sl17 : Array (Option Value)} {oc17 kV17 dc17 pm17 cd17 ct17 : Value}
    {f18 : Addr} {od18 an18 : Option Addr} {sl18 : Array (Option Value)} {oc18 kV18 dc18 pm18 cd18 ct18 : Value}
    {f19 : Addr} {od19 an19 : Option Addr} {sl19 : Array (Option Value)} {oc19 kV19 dc19 pm19 cd19 ct19 : Value}
    {f20 : Addr} {od20 an20 : Option Addr} {sl20 : Array (Option Value)} {oc20 kV20 dc20 pm20 cd20 ct20 : Value}
    {f21 : Addr} {od21 an21 : Option Addr} {sl21 : Array (Option Value)} {oc21 kV21 dc21 pm21 cd21 ct21 : Value}
    {f22 : Addr} {od22 an22 : Option Addr} {sl22 : Array (Option Value)} {oc22 kV22 dc22 pm22 cd22 ct22 : Value}
    {f23 : Addr} {od23 an23 : Option Addr} {sl23 : Array (Option Value)} {oc23 kV23 dc23 pm23 cd23 ct23 : Value}
    {f24 : Addr} {od24 an24 : Option Addr} {sl24 : Array (Option Value)} {oc24 kV24 dc24 pm24 cd24 ct24 : Value}
    {f25 : Addr} {od25 an25 : Option Addr} {sl25 : Array (Option Value)} {oc25 kV25 dc25 pm25 cd25 ct25 : Value}
    {f26 : Addr} {od26 an26 : Option Addr} {sl26 : Array (Option Value)} {oc26 kV26 dc26 pm26 cd26 ct26 : Value}
    {f27 : Addr} {od27 an27 : Option Addr} {sl27 : Array (Option Value)} {oc27 kV27 dc27 pm27 cd27 ct27 : Value}
    {f28 : Addr} {od28 an28 : Option Addr} {sl28 : Array (Option Value)} {oc28 kV28 dc28 pm28 cd28 ct28 : Value}
    {f29 : Addr} {od29 an29 : Option Addr} {sl29 : Array (Option Value)} {oc29 kV29 dc29 pm29 cd29 ct29 : Value}
    {C_Hand : Addr}
    {t_MOST_FRAMES : Tok}
    {a_RECKONINGS : Addr} {od_RECKONINGS : Option Addr} {n_RECKONINGS : Nat} {sl_RECKONINGS : Array (Option Value)} {t_RECKONINGS_0 t_RECKONINGS_1 t_RECKONINGS_2 t_RECKONINGS_3 t_RECKONINGS_4 : Tok}
    (a0 : PySem.W.nsIn K mainGlobals "worth" = some (some (.ref f0))) (l0 : K.lookup f0 = some ⟨oc0, od0, .func (PySem.W.fnOf "worth" "worth" (defArgs s_worth) (defBody s_worth) (defScope s_worth) .none kV0 dc0 pm0 an0 cd0 ct0), sl0⟩) (c0 : PySem.W.codeIn K cd0 "worth" = true) (k0 : PySem.W.keepIn K (.ref f0) = true)
    (a1 : PySem.W.nsIn K mainGlobals "row_of" = some (some (.ref f1))) (l1 : K.lookup f1 = some ⟨oc1, od1, .func (PySem.W.fnOf "row_of" "row_of" (defArgs s_row_of) (defBody s_row_of) (defScope s_row_of) .none kV1 dc1 pm1 an1 cd1 ct1), sl1⟩) (c1 : PySem.W.codeIn K cd1 "row_of" = true) (k1 : PySem.W.keepIn K (.ref f1) = true)
    (a2 : PySem.W.nsIn K mainGlobals "goes_to_row" = some (some (.ref f2))) (l2 : K.lookup f2 = some ⟨oc2, od2, .func (PySem.W.fnOf "goes_to_row" "goes_to_row" (defArgs s_goes_to_row) (defBody s_goes_to_row) (defScope s_goes_to_row) .none kV2 dc2 pm2 an2 cd2 ct2), sl2⟩) (c2 : PySem.W.codeIn K cd2 "goes_to_row" = true) (k2 : PySem.W.keepIn K (.ref f2) = true)
    (a3 : PySem.W.nsIn K mainGlobals "new_frame" = some (some (.ref f3))) (l3 : K.lookup f3 = some ⟨oc3, od3, .func (PySem.W.fnOf "new_frame" "new_frame" (defArgs s_new_frame) (defBody s_new_frame) (defScope s_new_frame) .none kV3 dc3 pm3 an3 cd3 ct3), sl3⟩) (c3 : PySem.W.codeIn K cd3 "new_frame" = true) (k3 : PySem.W.keepIn K (.ref f3) = true)
    (a4 : PySem.W.nsIn K mainGlobals "reckoned" = some (some (.ref f4))) (l4 : K.lookup f4 = some ⟨oc4, od4, .func (PySem.W.fnOf "reckoned" "reckoned" (defArgs s_reckoned) (defBody s_reckoned) (defScope s_reckoned) .none kV4 dc4 pm4 an4 cd4 ct4), sl4⟩) (c4 : PySem.W.codeIn K cd4 "reckoned" = true) (k4 : PySem.W.keepIn K (.ref f4) = true)
    (a5 : PySem.W.nsIn K mainGlobals "row_behind" = some (some (.ref f5))) (l5 : K.lookup f5 = some ⟨oc5, od5, .func (PySem.W.fnOf "row_behind" "row_behind" (defArgs s_row_behind) (defBody s_row_behind) (defScope s_row_behind) .none kV5 dc5 pm5 an5 cd5 ct5), sl5⟩) (c5 : PySem.W.codeIn K cd5 "row_behind" = true) (k5 : PySem.W.keepIn K (.ref f5) = true)
    (a6 : PySem.W.nsIn K mainGlobals "words_in" = some (some (.ref f6))) (l6 : K.lookup f6 = some ⟨oc6, od6, .func (PySem.W.fnOf "words_in" "words_in" (defArgs s_words_in) (defBody s_words_in) (defScope s_words_in) .none kV6 dc6 pm6 an6 cd6 ct6), sl6⟩) (c6 : PySem.W.codeIn K cd6 "words_in" = true) (k6 : PySem.W.keepIn K (.ref f6) = true)
    (a7 : PySem.W.nsIn K mainGlobals "frames_of" = some (some (.ref f7))) (l7 : K.lookup f7 = some ⟨oc7, od7, .func (PySem.W.fnOf "frames_of" "frames_of" (defArgs s_frames_of) (defBody s_frames_of) (defScope s_frames_of) .none kV7 dc7 pm7 an7 cd7 ct7), sl7⟩) (c7 : PySem.W.codeIn K cd7 "frames_of" = true) (k7 : PySem.W.keepIn K (.ref f7) = true)
    (a8 : PySem.W.nsIn K mainGlobals "_law_bag" = some (some (.ref f8))) (l8 : K.lookup f8 = some ⟨oc8, od8, .func (PySem.W.fnOf "_law_bag" "_law_bag" (defArgs s__law_bag) (defBody s__law_bag) (defScope s__law_bag) .none kV8 dc8 pm8 an8 cd8 ct8), sl8⟩) (c8 : PySem.W.codeIn K cd8 "_law_bag" = true) (k8 : PySem.W.keepIn K (.ref f8) = true)
    (a9 : PySem.W.nsIn K mainGlobals "_law_draw" = some (some (.ref f9))) (l9 : K.lookup f9 = some ⟨oc9, od9, .func (PySem.W.fnOf "_law_draw" "_law_draw" (defArgs s__law_draw) (defBody s__law_draw) (defScope s__law_draw) .none kV9 dc9 pm9 an9 cd9 ct9), sl9⟩) (c9 : PySem.W.codeIn K cd9 "_law_draw" = true) (k9 : PySem.W.keepIn K (.ref f9) = true)
    (a10 : PySem.W.nsIn K mainGlobals "_law_number" = some (some (.ref f10))) (l10 : K.lookup f10 = some ⟨oc10, od10, .func (PySem.W.fnOf "_law_number" "_law_number" (defArgs s__law_number) (defBody s__law_number) (defScope s__law_number) .none kV10 dc10 pm10 an10 cd10 ct10), sl10⟩) (c10 : PySem.W.codeIn K cd10 "_law_number" = true) (k10 : PySem.W.keepIn K (.ref f10) = true)
    (a11 : PySem.W.nsIn K mainGlobals "_law_row" = some (some (.ref f11))) (l11 : K.lookup f11 = some ⟨oc11, od11, .func (PySem.W.fnOf "_law_row" "_law_row" (defArgs s__law_row) (defBody s__law_row) (defScope s__law_row) .none kV11 dc11 pm11 an11 cd11 ct11), sl11⟩) (c11 : PySem.W.codeIn K cd11 "_law_row" = true) (k11 : PySem.W.keepIn K (.ref f11) = true)
    (a12 : PySem.W.nsIn K mainGlobals "_law_def" = some (some (.ref f12))) (l12 : K.lookup f12 = some ⟨oc12, od12, .func (PySem.W.fnOf "_law_def" "_law_def" (defArgs s__law_def) (defBody s__law_def) (defScope s__law_def) .none kV12 dc12 pm12 an12 cd12 ct12), sl12⟩) (c12 : PySem.W.codeIn K cd12 "_law_def" = true) (k12 : PySem.W.keepIn K (.ref f12) = true)
    (a13 : PySem.W.nsIn K mainGlobals "_law_program" = some (some (.ref f13))) (l13 : K.lookup f13 = some ⟨oc13, od13, .func (PySem.W.fnOf "_law_program" "_law_program" (defArgs s__law_program) (defBody s__law_program) (defScope s__law_program) .none kV13 dc13 pm13 an13 cd13 ct13), sl13⟩) (c13 : PySem.W.codeIn K cd13 "_law_program" = true) (k13 : PySem.W.keepIn K (.ref f13) = true)
    (a14 : PySem.W.nsIn K mainGlobals "_law_numbers" = some (some (.ref f14))) (l14 : K.lookup f14 = some ⟨oc14, od14, .func (PySem.W.fnOf "_law_numbers" "_law_numbers" (defArgs s__law_numbers) (defBody s__law_numbers) (defScope s__law_numbers) .none kV14 dc14 pm14 an14 cd14 ct14), sl14⟩) (c14 : PySem.W.codeIn K cd14 "_law_numbers" = true) (k14 : PySem.W.keepIn K (.ref f14) = true)
    (a15 : PySem.W.nsIn K mainGlobals "_law_whole" = some (some (.ref f15))) (l15 : K.lookup f15 = some ⟨oc15, od15, .func (PySem.W.fnOf "_law_whole" "_law_whole" (defArgs s__law_whole) (defBody s__law_whole) (defScope s__law_whole) .none kV15 dc15 pm15 an15 cd15 ct15), sl15⟩) (c15 : PySem.W.codeIn K cd15 "_law_whole" = true) (k15 : PySem.W.keepIn K (.ref f15) = true)
    (a16 : PySem.W.nsIn K mainGlobals "_law_words" = some (some (.ref f16))) (l16 : K.lookup f16 = some ⟨oc16, od16, .func (PySem.W.fnOf "_law_words" "_law_words" (defArgs s__law_words) (defBody s__law_words) (defScope s__law_words) .none kV16 dc16 pm16 an16 cd16 ct16), sl16⟩) (c16 : PySem.W.codeIn K cd16 "_law_words" = true) (k16 : PySem.W.keepIn K (.ref f16) = true)
    (a17 : PySem.W.nsIn K mainGlobals "_law_frames" = some (some (.ref f17))) (l17 : K.lookup f17 = some ⟨oc17, od17, .func (PySem.W.fnOf "_law_frames" "_law_frames" (defArgs s__law_frames) (defBody s__law_frames) (defScope s__law_frames) .none kV17 dc17 pm17 an17 cd17 ct17), sl17⟩) (c17 : PySem.W.codeIn K cd17 "_law_frames" = true) (k17 : PySem.W.keepIn K (.ref f17) = true)
    (a18 : PySem.W.nsIn K mainGlobals "_law_fields" = some (some (.ref f18))) (l18 : K.lookup f18 = some ⟨oc18, od18, .func (PySem.W.fnOf "_law_fields" "_law_fields" (defArgs s__law_fields) (defBody s__law_fields) (defScope s__law_fields) .none kV18 dc18 pm18 an18 cd18 ct18), sl18⟩) (c18 : PySem.W.codeIn K cd18 "_law_fields" = true) (k18 : PySem.W.keepIn K (.ref f18) = true)
    (a19 : PySem.W.nsIn K mainGlobals "_law_great" = some (some (.ref f19))) (l19 : K.lookup f19 = some ⟨oc19, od19, .func (PySem.W.fnOf "_law_great" "_law_great" (defArgs s__law_great) (defBody s__law_great) (defScope s__law_great) .none kV19 dc19 pm19 an19 cd19 ct19), sl19⟩) (c19 : PySem.W.codeIn K cd19 "_law_great" = true) (k19 : PySem.W.keepIn K (.ref f19) = true)
    (a20 : PySem.W.nsIn K mainGlobals "_law_form" = some (some (.ref f20))) (l20 : K.lookup f20 = some ⟨oc20, od20, .func (PySem.W.fnOf "_law_form" "_law_form" (defArgs s__law_form) (defBody s__law_form) (defScope s__law_form) .none kV20 dc20 pm20 an20 cd20 ct20), sl20⟩) (c20 : PySem.W.codeIn K cd20 "_law_form" = true) (k20 : PySem.W.keepIn K (.ref f20) = true)
    (a21 : PySem.W.nsIn K mainGlobals "_law_paper" = some (some (.ref f21))) (l21 : K.lookup f21 = some ⟨oc21, od21, .func (PySem.W.fnOf "_law_paper" "_law_paper" (defArgs s__law_paper) (defBody s__law_paper) (defScope s__law_paper) .none kV21 dc21 pm21 an21 cd21 ct21), sl21⟩) (c21 : PySem.W.codeIn K cd21 "_law_paper" = true) (k21 : PySem.W.keepIn K (.ref f21) = true)
    (a22 : PySem.W.nsIn K mainGlobals "_law_due" = some (some (.ref f22))) (l22 : K.lookup f22 = some ⟨oc22, od22, .func (PySem.W.fnOf "_law_due" "_law_due" (defArgs s__law_due) (defBody s__law_due) (defScope s__law_due) .none kV22 dc22 pm22 an22 cd22 ct22), sl22⟩) (c22 : PySem.W.codeIn K cd22 "_law_due" = true) (k22 : PySem.W.keepIn K (.ref f22) = true)
    (a23 : PySem.W.nsIn K mainGlobals "law" = some (some (.ref f23))) (l23 : K.lookup f23 = some ⟨oc23, od23, .func (PySem.W.fnOf "law" "law" (defArgs s_law) (defBody s_law) (defScope s_law) .none kV23 dc23 pm23 an23 cd23 ct23), sl23⟩) (c23 : PySem.W.codeIn K cd23 "law" = true) (k23 : PySem.W.keepIn K (.ref f23) = true)
    (a24 : PySem.W.findIn K (.ref C_Hand) "__init__" = some (some (.ref f24))) (i24 : PySem.W.isFn K (.ref f24) = true) (l24 : K.lookup f24 = some ⟨oc24, od24, .func (PySem.W.fnOf "__init__" "Hand.__init__" (defArgs s_Hand___init__) (defBody s_Hand___init__) (defScope s_Hand___init__) .none kV24 dc24 pm24 an24 cd24 ct24), sl24⟩) (c24 : PySem.W.codeIn K cd24 "Hand.__init__" = true) (k24 : PySem.W.keepIn K (.ref f24) = true)
    (a25 : PySem.W.findIn K (.ref C_Hand) "go" = some (some (.ref f25))) (i25 : PySem.W.isFn K (.ref f25) = true) (l25 : K.lookup f25 = some ⟨oc25, od25, .func (PySem.W.fnOf "go" "Hand.go" (defArgs s_Hand_go) (defBody s_Hand_go) (defScope s_Hand_go) .none kV25 dc25 pm25 an25 cd25 ct25), sl25⟩) (c25 : PySem.W.codeIn K cd25 "Hand.go" = true) (k25 : PySem.W.keepIn K (.ref f25) = true)
    (a26 : PySem.W.findIn K (.ref C_Hand) "end_at" = some (some (.ref f26))) (i26 : PySem.W.isFn K (.ref f26) = true) (l26 : K.lookup f26 = some ⟨oc26, od26, .func (PySem.W.fnOf "end_at" "Hand.end_at" (defArgs s_Hand_end_at) (defBody s_Hand_end_at) (defScope s_Hand_end_at) .none kV26 dc26 pm26 an26 cd26 ct26), sl26⟩) (c26 : PySem.W.codeIn K cd26 "Hand.end_at" = true) (k26 : PySem.W.keepIn K (.ref f26) = true)
    (a27 : PySem.W.findIn K (.ref C_Hand) "do_row" = some (some (.ref f27))) (i27 : PySem.W.isFn K (.ref f27) = true) (l27 : K.lookup f27 = some ⟨oc27, od27, .func (PySem.W.fnOf "do_row" "Hand.do_row" (defArgs s_Hand_do_row) (defBody s_Hand_do_row) (defScope s_Hand_do_row) .none kV27 dc27 pm27 an27 cd27 ct27), sl27⟩) (c27 : PySem.W.codeIn K cd27 "Hand.do_row" = true) (k27 : PySem.W.keepIn K (.ref f27) = true)
    (a28 : PySem.W.findIn K (.ref C_Hand) "give_back" = some (some (.ref f28))) (i28 : PySem.W.isFn K (.ref f28) = true) (l28 : K.lookup f28 = some ⟨oc28, od28, .func (PySem.W.fnOf "give_back" "Hand.give_back" (defArgs s_Hand_give_back) (defBody s_Hand_give_back) (defScope s_Hand_give_back) .none kV28 dc28 pm28 an28 cd28 ct28), sl28⟩) (c28 : PySem.W.codeIn K cd28 "Hand.give_back" = true) (k28 : PySem.W.keepIn K (.ref f28) = true)
    (a29 : PySem.W.findIn K (.ref C_Hand) "do_own" = some (some (.ref f29))) (i29 : PySem.W.isFn K (.ref f29) = true) (l29 : K.lookup f29 = some ⟨oc29, od29, .func (PySem.W.fnOf "do_own" "Hand.do_own" (defArgs s_Hand_do_own) (defBody s_Hand_do_own) (defScope s_Hand_do_own) .none kV29 dc29 pm29 an29 cd29 ct29), sl29⟩) (c29 : PySem.W.codeIn K cd29 "Hand.do_own" = true) (k29 : PySem.W.keepIn K (.ref f29) = true)
    (aC_Hand : PySem.W.nsIn K mainGlobals "Hand" = some (some (.ref C_Hand))) (pg_Hand : PySem.W.plainGet K C_Hand Str.empty = true) (hd_Hand : PySem.W.hasDictIn K C_Hand = true) (po_Hand : PySem.W.plainOver K C_Hand = true) (sa_Hand : PySem.W.findIn K (.ref C_Hand) "__setattr__" = some (some (.builtin "object.__setattr__"))) (mk_Hand : PySem.W.makesIn K C_Hand = true) (kc_Hand : PySem.W.keepIn K (.ref C_Hand) = true)
    (n_Hand_program : PySem.W.findIn K (.ref C_Hand) "program" = some none)
    (n_Hand_frames : PySem.W.findIn K (.ref C_Hand) "frames" = some none)
    (n_Hand_news : PySem.W.findIn K (.ref C_Hand) "news" = some none)
    (n_Hand_gone : PySem.W.findIn K (.ref C_Hand) "gone" = some none)
    (n_Hand_left : PySem.W.findIn K (.ref C_Hand) "left" = some none)
    (n_Hand_end : PySem.W.findIn K (.ref C_Hand) "end" = some none)
    (g_MOST_FRAMES : PySem.W.nsIn K mainGlobals "MOST_FRAMES" = some (some (.int 20 t_MOST_FRAMES)))
    (g_RECKONINGS : PySem.W.nsIn K mainGlobals "RECKONINGS" = some (some (.ref a_RECKONINGS))) (h_RECKONINGS : K.lookup a_RECKONINGS = some ⟨.type "tuple", od_RECKONINGS, .seq #[.str "put" t_RECKONINGS_0, .str "copy" t_RECKONINGS_1, .str "plus" t_RECKONINGS_2, .str "less" t_RECKONINGS_3, .str "times" t_RECKONINGS_4] n_RECKONINGS, sl_RECKONINGS⟩)
    (z_abs : PySem.W.nsIn K mainGlobals "abs" = some none)
    (z_bool : PySem.W.nsIn K mainGlobals "bool" = some none)
    (z_int : PySem.W.nsIn K mainGlobals "int" = some none)
    (z_isinstance : PySem.W.nsIn K mainGlobals "isinstance" = some none)
    (z_len : PySem.W.nsIn K mainGlobals "len" = some none)
    (z_list : PySem.W.nsIn K mainGlobals "list" = some none)
    (z_min : PySem.W.nsIn K mainGlobals "min" = some none)
    (z_range : PySem.W.nsIn K mainGlobals "range" = some none)
    (z_sum : PySem.W.nsIn K mainGlobals "sum" = some none)
    (z_tuple : PySem.W.nsIn K mainGlobals "tuple" = some none)
    (z_zip : PySem.W.nsIn K mainGlobals "zip" = some none)
    : ∃ fd : FuncData, (∀ (s : Shared) (v : Value), BindsTo s fd ⟨[v], []⟩ [("script", v)]) ∧ ∀ base : Heap, K.In base → base.Ns mainGlobals mg → FnOk l.prog w K mg base CX0 12 fa fd ["script"] (spLaw K) := by
  have B : Blt mg := ⟨PySem.W.mg_none_of X G z_abs, PySem.W.mg_none_of X G z_bool, PySem.W.mg_none_of X G z_int, PySem.W.mg_none_of X G z_isinstance, PySem.W.mg_none_of X G z_len, PySem.W.mg_none_of X G z_list, PySem.W.mg_none_of X G z_min, PySem.W.mg_none_of X G z_range, PySem.W.mg_none_of X G z_sum, PySem.W.mg_none_of X G z_tuple, PySem.W.mg_none_of X G z_zip⟩
  have GG : Glb K mg := ⟨⟨_, PySem.W.mg_of X G g_MOST_FRAMES⟩, ⟨_, PySem.W.mg_of X G g_RECKONINGS, _, _, _, h_RECKONINGS, rfl, rfl, mk_le rfl, .cons ⟨_, rfl⟩ (.cons ⟨_, rfl⟩ (.cons ⟨_, rfl⟩ (.cons ⟨_, rfl⟩ (.cons ⟨_, rfl⟩ (.nil)))))⟩⟩
  have HHand : CHand K C_Hand := ⟨⟨pg_Hand, hd_Hand, po_Hand, sa_Hand⟩, n_Hand_program, n_Hand_frames, n_Hand_news, n_Hand_gone, n_Hand_left, n_Hand_end⟩
  have F0 := fun_mk (st := s_worth) l0 c0 k0
  have T_worth : TopFn K mg "worth" s_worth ["form", "words"] := ⟨_, _, F0, PySem.W.mg_of X G a0, F0.binds (ps := ["form", "words"]) fun _ _ _ _ _ _ us hl => match us, hl with | [_, _], _ => rfl⟩
  have F1 := fun_mk (st := s_row_of) l1 c1 k1
  have T_row_of : TopFn K mg "row_of" s_row_of ["program", "frame"] := ⟨_, _, F1, PySem.W.mg_of X G a1, F1.binds (ps := ["program", "frame"]) fun _ _ _ _ _ _ us hl => match us, hl with | [_, _], _ => rfl⟩
  have F2 := fun_mk (st := s_goes_to_row) l2 c2 k2
  have T_goes_to_row : TopFn K mg "goes_to_row" s_goes_to_row ["row", "number"] := ⟨_, _, F2, PySem.W.mg_of X G a2, F2.binds (ps := ["row", "number"]) fun _ _ _ _ _ _ us hl => match us, hl with | [_, _], _ => rfl⟩
  have F3 := fun_mk (st := s_new_frame) l3 c3 k3
  have T_new_frame : TopFn K mg "new_frame" s_new_frame ["program", "f", "numbers"] := ⟨_, _, F3, PySem.W.mg_of X G a3, F3.binds (ps := ["program", "f", "numbers"]) fun _ _ _ _ _ _ us hl => match us, hl with | [_, _, _], _ => rfl⟩
  have F4 := fun_mk (st := s_reckoned) l4 c4 k4
  have T_reckoned : TopFn K mg "reckoned" s_reckoned ["row", "boxes"] := ⟨_, _, F4, PySem.W.mg_of X G a4, F4.binds (ps := ["row", "boxes"]) fun _ _ _ _ _ _ us hl => match us, hl with | [_, _], _ => rfl⟩
  have F5 := fun_mk (st := s_row_behind) l5 c5 k5
  have T_row_behind : TopFn K mg "row_behind" s_row_behind ["row", "at", "boxes"] := ⟨_, _, F5, PySem.W.mg_of X G a5, F5.binds (ps := ["row", "at", "boxes"]) fun _ _ _ _ _ _ us hl => match us, hl with | [_, _, _], _ => rfl⟩
  have F6 := fun_mk (st := s_words_in) l6 c6 k6
  have T_words_in : TopFn K mg "words_in" s_words_in ["hand"] := ⟨_, _, F6, PySem.W.mg_of X G a6, F6.binds (ps := ["hand"]) fun _ _ _ _ _ _ us hl => match us, hl with | [_], _ => rfl⟩
  have F7 := fun_mk (st := s_frames_of) l7 c7 k7
  have T_frames_of : TopFn K mg "frames_of" s_frames_of ["paper", "words"] := ⟨_, _, F7, PySem.W.mg_of X G a7, F7.binds (ps := ["paper", "words"]) fun _ _ _ _ _ _ us hl => match us, hl with | [_, _], _ => rfl⟩
  have F8 := fun_mk (st := s__law_bag) l8 c8 k8
  have T__law_bag : TopFn K mg "_law_bag" s__law_bag ["script"] := ⟨_, _, F8, PySem.W.mg_of X G a8, F8.binds (ps := ["script"]) fun _ _ _ _ _ _ us hl => match us, hl with | [_], _ => rfl⟩
  have F9 := fun_mk (st := s__law_draw) l9 c9 k9
  have T__law_draw : TopFn K mg "_law_draw" s__law_draw ["bag", "many"] := ⟨_, _, F9, PySem.W.mg_of X G a9, F9.binds (ps := ["bag", "many"]) fun _ _ _ _ _ _ us hl => match us, hl with | [_, _], _ => rfl⟩
  have F10 := fun_mk (st := s__law_number) l10 c10 k10
  have T__law_number : TopFn K mg "_law_number" s__law_number ["bag"] := ⟨_, _, F10, PySem.W.mg_of X G a10, F10.binds (ps := ["bag"]) fun _ _ _ _ _ _ us hl => match us, hl with | [_], _ => rfl⟩
  have F11 := fun_mk (st := s__law_row) l11 c11 k11
  have T__law_row : TopFn K mg "_law_row" s__law_row ["bag", "boxes", "many", "signs"] := ⟨_, _, F11, PySem.W.mg_of X G a11, F11.binds (ps := ["bag", "boxes", "many", "signs"]) fun _ _ _ _ _ _ us hl => match us, hl with | [_, _, _, _], _ => rfl⟩
  have F12 := fun_mk (st := s__law_def) l12 c12 k12
  have T__law_def : TopFn K mg "_law_def" s__law_def ["bag", "signs", "sign"] := ⟨_, _, F12, PySem.W.mg_of X G a12, F12.binds (ps := ["bag", "signs", "sign"]) fun _ _ _ _ _ _ us hl => match us, hl with | [_, _, _], _ => rfl⟩
  have F13 := fun_mk (st := s__law_program) l13 c13 k13
  have T__law_program : TopFn K mg "_law_program" s__law_program ["bag"] := ⟨_, _, F13, PySem.W.mg_of X G a13, F13.binds (ps := ["bag"]) fun _ _ _ _ _ _ us hl => match us, hl with | [_], _ => rfl⟩
  have F14 := fun_mk (st := s__law_numbers) l14 c14 k14
  have T__law_numbers : TopFn K mg "_law_numbers" s__law_numbers ["bag"] := ⟨_, _, F14, PySem.W.mg_of X G a14, F14.binds (ps := ["bag"]) fun _ _ _ _ _ _ us hl => match us, hl with | [_], _ => rfl⟩
  have F15 := fun_mk (st := s__law_whole) l15 c15 k15
  have T__law_whole : TopFn K mg "_law_whole" s__law_whole ["found"] := ⟨_, _, F15, PySem.W.mg_of X G a15, F15.binds (ps := ["found"]) fun _ _ _ _ _ _ us hl => match us, hl with | [_], _ => rfl⟩
  have F16 := fun_mk (st := s__law_words) l16 c16 k16
  have T__law_words : TopFn K mg "_law_words" s__law_words ["found", "due"] := ⟨_, _, F16, PySem.W.mg_of X G a16, F16.binds (ps := ["found", "due"]) fun _ _ _ _ _ _ us hl => match us, hl with | [_, _], _ => rfl⟩
  have F17 := fun_mk (st := s__law_frames) l17 c17 k17
  have T__law_frames : TopFn K mg "_law_frames" s__law_frames ["found", "due"] := ⟨_, _, F17, PySem.W.mg_of X G a17, F17.binds (ps := ["found", "due"]) fun _ _ _ _ _ _ us hl => match us, hl with | [_, _], _ => rfl⟩
  have F18 := fun_mk (st := s__law_fields) l18 c18 k18
  have T__law_fields : TopFn K mg "_law_fields" s__law_fields ["hand", "state"] := ⟨_, _, F18, PySem.W.mg_of X G a18, F18.binds (ps := ["hand", "state"]) fun _ _ _ _ _ _ us hl => match us, hl with | [_, _], _ => rfl⟩
  have F19 := fun_mk (st := s__law_great) l19 c19 k19
  have T__law_great : TopFn K mg "_law_great" s__law_great ["bag"] := ⟨_, _, F19, PySem.W.mg_of X G a19, F19.binds (ps := ["bag"]) fun _ _ _ _ _ _ us hl => match us, hl with | [_], _ => rfl⟩
  have F20 := fun_mk (st := s__law_form) l20 c20 k20
  have T__law_form : TopFn K mg "_law_form" s__law_form ["bag", "many"] := ⟨_, _, F20, PySem.W.mg_of X G a20, F20.binds (ps := ["bag", "many"]) fun _ _ _ _ _ _ us hl => match us, hl with | [_, _], _ => rfl⟩
  have F21 := fun_mk (st := s__law_paper) l21 c21 k21
  have T__law_paper : TopFn K mg "_law_paper" s__law_paper ["bag", "many"] := ⟨_, _, F21, PySem.W.mg_of X G a21, F21.binds (ps := ["bag", "many"]) fun _ _ _ _ _ _ us hl => match us, hl with | [_, _], _ => rfl⟩
  have F22 := fun_mk (st := s__law_due) l22 c22 k22
  have T__law_due : TopFn K mg "_law_due" s__law_due ["paper", "words"] := ⟨_, _, F22, PySem.W.mg_of X G a22, F22.binds (ps := ["paper", "words"]) fun _ _ _ _ _ _ us hl => match us, hl with | [_, _], _ => rfl⟩
  have F23 := fun_mk (st := s_law) l23 c23 k23
  have F24 := fun_mk (st := s_Hand___init__) l24 c24 k24
  have T_Hand___init__ : TopI K mg C_Hand "Hand" "Hand.__init__" s_Hand___init__ ["self", "program", "inputs"] := ⟨_, _, F24, ⟨mk_Hand, a24, i24, kc_Hand⟩, F24.binds (ps := ["self", "program", "inputs"]) fun _ _ _ _ _ _ us hl => match us, hl with | [_, _, _], _ => rfl, PySem.W.mg_of X G aC_Hand⟩
  have F25 := fun_mk (st := s_Hand_go) l25 c25 k25
  have T_Hand_go : TopM K C_Hand "go" "Hand.go" s_Hand_go ["self"] := ⟨_, _, F25, ⟨a25, i25, k25⟩, F25.binds (ps := ["self"]) fun _ _ _ _ _ _ us hl => match us, hl with | [_], _ => rfl⟩
  have F26 := fun_mk (st := s_Hand_end_at) l26 c26 k26
  have T_Hand_end_at : TopM K C_Hand "end_at" "Hand.end_at" s_Hand_end_at ["self", "row"] := ⟨_, _, F26, ⟨a26, i26, k26⟩, F26.binds (ps := ["self", "row"]) fun _ _ _ _ _ _ us hl => match us, hl with | [_, _], _ => rfl⟩
  have F27 := fun_mk (st := s_Hand_do_row) l27 c27 k27
  have T_Hand_do_row : TopM K C_Hand "do_row" "Hand.do_row" s_Hand_do_row ["self", "row"] := ⟨_, _, F27, ⟨a27, i27, k27⟩, F27.binds (ps := ["self", "row"]) fun _ _ _ _ _ _ us hl => match us, hl with | [_, _], _ => rfl⟩
  have F28 := fun_mk (st := s_Hand_give_back) l28 c28 k28
  have T_Hand_give_back : TopM K C_Hand "give_back" "Hand.give_back" s_Hand_give_back ["self", "number"] := ⟨_, _, F28, ⟨a28, i28, k28⟩, F28.binds (ps := ["self", "number"]) fun _ _ _ _ _ _ us hl => match us, hl with | [_, _], _ => rfl⟩
  have F29 := fun_mk (st := s_Hand_do_own) l29 c29 k29
  have T_Hand_do_own : TopM K C_Hand "do_own" "Hand.do_own" s_Hand_do_own ["self", "row", "boxes"] := ⟨_, _, F29, ⟨a29, i29, k29⟩, F29.binds (ps := ["self", "row", "boxes"]) fun _ _ _ _ _ _ us hl => match us, hl with | [_, _, _], _ => rfl⟩
  have e := hfa.symm.trans (PySem.W.mg_of X G a23)
  cases e
  refine ⟨PySem.W.fnOf "law" "law" (defArgs s_law) (defBody s_law) (defScope s_law) .none kV23 dc23 pm23 an23 cd23 ct23, fun s v => .of_eq rfl, fun base _ _ => ?_⟩
  exact law_fn (B := B) (G := GG) (HHand := HHand) (T_worth := T_worth) (T_row_of := T_row_of) (T_goes_to_row := T_goes_to_row) (T_new_frame := T_new_frame) (T_reckoned := T_reckoned) (T_row_behind := T_row_behind) (T_words_in := T_words_in) (T_frames_of := T_frames_of) (T__law_bag := T__law_bag) (T__law_draw := T__law_draw) (T__law_number := T__law_number) (T__law_row := T__law_row) (T__law_def := T__law_def) (T__law_program := T__law_program) (T__law_numbers := T__law_numbers) (T__law_whole := T__law_whole) (T__law_words := T__law_words) (T__law_frames := T__law_frames) (T__law_fields := T__law_fields) (T__law_great := T__law_great) (T__law_form := T__law_form) (T__law_paper := T__law_paper) (T__law_due := T__law_due) (T_Hand___init__ := T_Hand___init__) (T_Hand_go := T_Hand_go) (T_Hand_end_at := T_Hand_end_at) (T_Hand_do_row := T_Hand_do_row) (T_Hand_give_back := T_Hand_give_back) (T_Hand_do_own := T_Hand_do_own) (T_law := F23)

end My
open PySem PySem.W PyProof.Rows
set_option maxRecDepth 100000 in
set_option maxHeartbeats 0 in
theorem PySem.Challenge.cw_midlanes_k41_words_and_frames_holds : PySem.Challenge.rw_midlanes_k41_words_and_frames.Holds := by
  w_on; o_law; k_head; (case hw => w_witness2)
  k_fill
  refine L2.walk_of (l := PySem.Challenge.rw_midlanes_k41_words_and_frames) (n := 63) (k := 12) (x := "script") (CX := fun _ => L2.CX0) (sp := fun w => L2.spLaw _) rfl (by decide) rfl ⟨rfl, by decide, by decide⟩ (fun w h Y => PySem.W.kIn_of Y) ?F (fun _ _ a ns hl _ hS => L2.spLaw_of hl hS) (fun _ _ _ _ _ z => z)
  case F =>
    intro w mg fa h KX G hmg
    refine' My.all_mk KX G hmg ?a0 ?l0 ?c0 ?k0 ?a1 ?l1 ?c1 ?k1 ?a2 ?l2 ?c2 ?k2 ?a3 ?l3 ?c3 ?k3 ?a4 ?l4 ?c4 ?k4 ?a5 ?l5 ?c5 ?k5 ?a6 ?l6 ?c6 ?k6 ?a7 ?l7 ?c7 ?k7 ?a8 ?l8 ?c8 ?k8 ?a9 ?l9 ?c9 ?k9 ?a10 ?l10 ?c10 ?k10 ?a11 ?l11 ?c11 ?k11 ?a12 ?l12 ?c12 ?k12 ?a13 ?l13 ?c13 ?k13 ?a14 ?l14 ?c14 ?k14 ?a15 ?l15 ?c15 ?k15 ?a16 ?l16 ?c16 ?k16 ?a17 ?l17 ?c17 ?k17 ?a18 ?l18 ?c18 ?k18 ?a19 ?l19 ?c19 ?k19 ?a20 ?l20 ?c20 ?k20 ?a21 ?l21 ?c21 ?k21 ?a22 ?l22 ?c22 ?k22 ?a23 ?l23 ?c23 ?k23 ?a24 ?i24 ?l24 ?c24 ?k24 ?a25 ?i25 ?l25 ?c25 ?k25 ?a26 ?i26 ?l26 ?c26 ?k26 ?a27 ?i27 ?l27 ?c27 ?k27 ?a28 ?i28 ?l28 ?c28 ?k28 ?a29 ?i29 ?l29 ?c29 ?k29 ?aC_Hand ?pg_Hand ?hd_Hand ?po_Hand ?sa_Hand ?mk_Hand ?kc_Hand ?n_Hand_program ?n_Hand_frames ?n_Hand_news ?n_Hand_gone ?n_Hand_left ?n_Hand_end ?g_MOST_FRAMES ?g_RECKONINGS ?h_RECKONINGS ?z_abs ?z_bool ?z_int ?z_isinstance ?z_len ?z_list ?z_min ?z_range ?z_sum ?z_tuple ?z_zip
    (case aC_Hand => k_is)
    (case a0 => k_is)
    (case l0 => k_is)
    (case c0 => k_is)
    (case k0 => k_is)
    (case a1 => k_is)
    (case l1 => k_is)
    (case c1 => k_is)
    (case k1 => k_is)
    (case a2 => k_is)
    (case l2 => k_is)
    (case c2 => k_is)
    (case k2 => k_is)
    (case a3 => k_is)
    (case l3 => k_is)
    (case c3 => k_is)
    (case k3 => k_is)
    (case a4 => k_is)
    (case l4 => k_is)
    (case c4 => k_is)
    (case k4 => k_is)
    (case a5 => k_is)
    (case l5 => k_is)
    (case c5 => k_is)
    (case k5 => k_is)
    (case a6 => k_is)
    (case l6 => k_is)
    (case c6 => k_is)
    (case k6 => k_is)
    (case a7 => k_is)
    (case l7 => k_is)
    (case c7 => k_is)
    (case k7 => k_is)
    (case a8 => k_is)
    (case l8 => k_is)
    (case c8 => k_is)
    (case k8 => k_is)
    (case a9 => k_is)
    (case l9 => k_is)
    (case c9 => k_is)
    (case k9 => k_is)
    (case a10 => k_is)
    (case l10 => k_is)
    (case c10 => k_is)
    (case k10 => k_is)
    (case a11 => k_is)
    (case l11 => k_is)
    (case c11 => k_is)
    (case k11 => k_is)
    (case a12 => k_is)
    (case l12 => k_is)
    (case c12 => k_is)
    (case k12 => k_is)
    (case a13 => k_is)
    (case l13 => k_is)
    (case c13 => k_is)
    (case k13 => k_is)
    (case a14 => k_is)
    (case l14 => k_is)
    (case c14 => k_is)
    (case k14 => k_is)
    (case a15 => k_is)
    (case l15 => k_is)
    (case c15 => k_is)
    (case k15 => k_is)
    (case a16 => k_is)
    (case l16 => k_is)
    (case c16 => k_is)
    (case k16 => k_is)
    (case a17 => k_is)
    (case l17 => k_is)
    (case c17 => k_is)
    (case k17 => k_is)
    (case a18 => k_is)
    (case l18 => k_is)
    (case c18 => k_is)
    (case k18 => k_is)
    (case a19 => k_is)
    (case l19 => k_is)
    (case c19 => k_is)
    (case k19 => k_is)
    (case a20 => k_is)
    (case l20 => k_is)
    (case c20 => k_is)
    (case k20 => k_is)
    (case a21 => k_is)
    (case l21 => k_is)
    (case c21 => k_is)
    (case k21 => k_is)
    (case a22 => k_is)
    (case l22 => k_is)
    (case c22 => k_is)
    (case k22 => k_is)
    (case a23 => k_is)
    (case l23 => k_is)
    (case c23 => k_is)
    (case k23 => k_is)
    (case a24 => k_is)
    (case i24 => k_is)
    (case l24 => k_is)
    (case c24 => k_is)
    (case k24 => k_is)
    (case a25 => k_is)
    (case i25 => k_is)
    (case l25 => k_is)
    (case c25 => k_is)
    (case k25 => k_is)
    (case a26 => k_is)
    (case i26 => k_is)
    (case l26 => k_is)
    (case c26 => k_is)
    (case k26 => k_is)
    (case a27 => k_is)
    (case i27 => k_is)
    (case l27 => k_is)
    (case c27 => k_is)
    (case k27 => k_is)
    (case a28 => k_is)
    (case i28 => k_is)
    (case l28 => k_is)
    (case c28 => k_is)
    (case k28 => k_is)
    (case a29 => k_is)
    (case i29 => k_is)
    (case l29 => k_is)
    (case c29 => k_is)
    (case k29 => k_is)
    (case pg_Hand => k_is)
    (case hd_Hand => k_is)
    (case po_Hand => k_is)
    (case sa_Hand => k_is)
    (case mk_Hand => k_is)
    (case kc_Hand => k_is)
    (case n_Hand_program => k_is)
    (case n_Hand_frames => k_is)
    (case n_Hand_news => k_is)
    (case n_Hand_gone => k_is)
    (case n_Hand_left => k_is)
    (case n_Hand_end => k_is)
    (case g_MOST_FRAMES => k_is)
    (case g_RECKONINGS => k_is)
    (case h_RECKONINGS => k_is)
    (case z_abs => k_is)
    (case z_bool => k_is)
    (case z_int => k_is)
    (case z_isinstance => k_is)
    (case z_len => k_is)
    (case z_list => k_is)
    (case z_min => k_is)
    (case z_range => k_is)
    (case z_sum => k_is)
    (case z_tuple => k_is)
    (case z_zip => k_is)

